import Derived.Test.YtpnkmnmchdabkaaGreatM33
import Derived.Test.YtpnkmnmchdabkaaGreatRefMerge
namespace Go.Proofs.YtpnkmnmchdabkaaGreat

/-- The program's leases and the document's. -/
def leOf (rs : List Rf) (k : Nat) : Le := match rs[k]? with
  | some r => ⟨r.own, r.ctr, r.lep⟩
  | none => ⟨-1, 0, 0⟩
def LsRel (ls : List Le) (rs : List Rf) : Prop := ls.length = 16 ∧ ∀ k, k < 16 → ls[k]? = some (leOf rs k)
theorem leOf_set {rs : List Rf} {k : Nat} {r' : Rf} (hk : k < rs.length) (j : Nat) : leOf (rs.set k r') j = if j = k then ⟨r'.own, r'.ctr, r'.lep⟩ else leOf rs j := by
  unfold leOf
  by_cases e : j = k
  · subst e
    rw [List.getElem?_set_self hk, if_pos rfl]
  · rw [List.getElem?_set_ne (fun q => e q.symm), if_neg e]
theorem LsRel.set {ls : List Le} {rs : List Rf} (h : LsRel ls rs) {k : Nat} (hk : k < rs.length) (hk16 : k < 16) (r' : Rf) (x : Le) (hx : x = ⟨r'.own, r'.ctr, r'.lep⟩) : LsRel (ls.set k x) (rs.set k r') := by
  refine ⟨by simpa using h.1, fun j hj => ?_⟩
  rw [leOf_set hk]
  by_cases e : j = k
  · subst e
    rw [List.getElem?_set_self (by rw [h.1]; exact hj), if_pos rfl, hx]
  · rw [List.getElem?_set_ne (fun q => e q.symm), if_neg e]
    exact h.2 j hj

/-- A worker's place and what the document has of it. -/
def PlRel (p : Pl) (hs : List Hd) (ns : List Nt) (k : Nat) : Prop := firstOf hs k = (if p.held = true then some p.h else none) ∧ noteOf ns k = (if p.made = true then some ⟨k, p.c, p.s⟩ else none)
def WkRel (P : List Pl) (i : Nat) (hs : List Hd) (ns : List Nt) : Prop := ∀ k, k < 16 → ∃ p, P[i * 16 + k]? = some p ∧ PlRel p hs ns k

theorem WkRel.held {P : List Pl} {i : Nat} {hs : List Hd} {ns : List Nt} (h : WkRel P i hs ns) : ∀ n, n ≤ 16 → heldOf P i n = byShard hs n := by
  intro n
  induction n with
  | zero => intro _; simp [heldOf, byShard]
  | succ n ih =>
    intro hn
    obtain ⟨p, hp, h1, _⟩ := h n (by omega)
    rw [heldOf, byShard_succ, ih (by omega), hp, h1]
    cases hh : p.held <;> simp [hh]
/-- A place is laid anew: the worker's holds and notes change there alone. -/
theorem WkRel.set {P : List Pl} {i : Nat} {hs hs' : List Hd} {ns ns' : List Nt} (h : WkRel P i hs ns) (k : Nat) (hk : k < 16) (p' : Pl) (hp : PlRel p' hs' ns' k) (ho : ∀ j : Nat, j < 16 → j ≠ k → firstOf hs' j = firstOf hs j ∧ noteOf ns' j = noteOf ns j) : WkRel (P.set (i * 16 + k) p') i hs' ns' := by
  intro j hj
  by_cases e : j = k
  · subst e
    obtain ⟨p, hq, _⟩ := h j hj
    have := (List.getElem?_eq_some_iff.1 hq).1
    exact ⟨p', List.getElem?_set_self this, hp⟩
  · obtain ⟨p, hq, h1, h2⟩ := h j hj
    obtain ⟨a, b⟩ := ho j hj e
    exact ⟨p, by rw [List.getElem?_set_ne (by omega)]; exact hq, a.trans h1, b.trans h2⟩
theorem WkRel.other {P : List Pl} {i j k : Nat} {hs : List Hd} {ns : List Nt} (h : WkRel P i hs ns) (hij : j ≠ i) (hk : k < 16) (p' : Pl) : WkRel (P.set (j * 16 + k) p') i hs ns := by
  intro q hq
  obtain ⟨p, hp, h1⟩ := h q hq
  exact ⟨p, by rw [List.getElem?_set_ne (by omega)]; exact hp, h1⟩
/-- Places of other workers alone differ. -/
def Oth (i : Nat) (P P' : List Pl) : Prop := P'.length = P.length ∧ ∀ j k, j ≠ i → k < 16 → P'[j * 16 + k]? = P[j * 16 + k]?
theorem Oth.refl (i : Nat) (P : List Pl) : Oth i P P := ⟨rfl, fun _ _ _ _ => rfl⟩
theorem Oth.set {i : Nat} {P P' : List Pl} (h : Oth i P P') (k : Nat) (hk : k < 16) (p : Pl) : Oth i P (P'.set (i * 16 + k) p) :=
  ⟨by rw [List.length_set]; exact h.1, fun j q hj hq => by rw [List.getElem?_set_ne (by omega)]; exact h.2 j q hj hq⟩
theorem Oth.wk {i j : Nat} {P P' : List Pl} (h : Oth i P P') (hj : j ≠ i) {hs : List Hd} {ns : List Nt} (hw : WkRel P j hs ns) : WkRel P' j hs ns := fun k hk => by
  obtain ⟨p, hp, hr⟩ := hw k hk
  exact ⟨p, (h.2 j k hj hk).trans hp, hr⟩

/-- RENEW: one shard. -/
theorem renew_one {f : Nat → Bool} {i k : Nat} {ls : List Le} {P : List Pl} {rs : List Rf} {hs : List Hd} {ns : List Nt} {B : Int} (hB : B ≤ 1000000000000) (hk : k < 16) (hL : LsRel ls rs) (hW : WkRel P i hs ns) (hH : HsOk hs rs.length)
    (hb : ∀ r, rs[k]? = some r → 0 ≤ r.ctr ∧ r.ctr ≤ B) (fb : Bool) (hf : k < rs.length → fb = f k) :
    LsRel (rhLs i k fb ls P) (renewAt f i k (rs, hs)).1 ∧ WkRel (rhP i k fb ls P) i (renewAt f i k (rs, hs)).2 ns ∧ HsOk (renewAt f i k (rs, hs)).2 rs.length ∧ (renewAt f i k (rs, hs)).1.length = rs.length ∧ Oth i P (rhP i k fb ls P) ∧
      (∀ j, j ≠ k → (renewAt f i k (rs, hs)).1[j]? = rs[j]? ∧ firstOf (renewAt f i k (rs, hs)).2 j = firstOf hs j) ∧ (rhKeep i k fb ls P = (firstOf (renewAt f i k (rs, hs)).2 k).isSome) ∧ (∀ r', (renewAt f i k (rs, hs)).1[k]? = some r' → ∃ r, rs[k]? = some r ∧ (r'.ctr = r.ctr ∨ r'.ctr = r.ctr + 1) ∧ r'.lep = r.lep ∧ r'.done = r.done) := by
  obtain ⟨p, hp, h1, h2⟩ := hW k hk
  have hx := hL.2 k hk
  have same : ∀ r', rs[k]? = some r' → ∃ r, rs[k]? = some r ∧ (r'.ctr = r.ctr ∨ r'.ctr = r.ctr + 1) ∧ r'.lep = r.lep ∧ r'.done = r.done := fun r' h => ⟨r', h, Or.inl rfl, rfl, rfl⟩
  cases hh : p.held
  · rw [hh] at h1
    simp only [Bool.false_eq_true, if_false] at h1
    have e0 : renewAt f i k (rs, hs) = (rs, hs) := by unfold renewAt; simp only [h1]
    have e1 : rhLs i k fb ls P = ls := by unfold rhLs; rw [hx, hp]; simp [hh]
    have e2 : rhP i k fb ls P = P := by unfold rhP; rw [hx, hp]; simp [hh]
    have e3 : rhKeep i k fb ls P = false := by unfold rhKeep; rw [hx, hp]; simp [hh]
    rw [e0, e1, e2, e3]
    refine ⟨hL, hW, hH, rfl, Oth.refl i P, fun j _ => ⟨rfl, rfl⟩, ?_, same⟩
    simp only [h1]; rfl
  · rw [hh] at h1
    simp only [if_true] at h1
    obtain ⟨hin, hsh⟩ := firstOf_in h1
    obtain ⟨k', hk', e⟩ := hH.rg _ hin
    have ek : k' = k := by omega
    subst ek
    obtain ⟨r, hr⟩ : ∃ r, rs[k']? = some r := ⟨rs[k'], List.getElem?_eq_getElem hk'⟩
    have hfb := hf hk'
    have hle : leOf rs k' = ⟨r.own, r.ctr, r.lep⟩ := by unfold leOf; rw [hr]
    rw [hle] at hx
    have hbr := hb r hr
    have hinc : inc r.ctr = r.ctr + 1 := inc_is ⟨hbr.1, by omega⟩
    have dr : PlRel (dropped p) (lost hs k') ns k' := by
      refine ⟨?_, ?_⟩
      · rw [firstOf_lost, if_pos rfl]; rfl
      · rw [h2]; rfl
    have lo : ∀ j : Nat, j < 16 → j ≠ k' → firstOf (lost hs k') j = firstOf hs j ∧ noteOf ns j = noteOf ns j := fun j _ hj => ⟨by rw [firstOf_lost, if_neg (by omega)], rfl⟩
    have lo2 : ∀ j : Nat, j ≠ k' → firstOf (lost hs k') j = firstOf hs j := fun j hj => by rw [firstOf_lost, if_neg (by omega)]
    by_cases hm : r.own = i ∧ r.lep = p.h.ep
    · have hm' : ¬ (r.own ≠ i ∨ r.lep ≠ p.h.ep) := by omega
      cases hfk : f k'
      · have e0 : renewAt f i k' (rs, hs) = (rs.set k' { r with own := i, ctr := r.ctr + 1, lep := r.lep }, hs) := by unfold renewAt; simp only [h1, hr]; rw [if_neg hm', if_neg (by simp [hfk])]
        have e1 : rhLs i k' fb ls P = ls.set k' ⟨r.own, r.ctr + 1, r.lep⟩ := by unfold rhLs; rw [hx, hp]; simp only; rw [if_pos ⟨hh, hm.1, hm.2⟩, hfb, hfk, if_neg (by simp), hinc]
        have e2 : rhP i k' fb ls P = P := by unfold rhP; rw [hx, hp]; simp only; rw [if_neg (by rw [hfb, hfk]; simp [hm.1, hm.2])]
        have e3 : rhKeep i k' fb ls P = true := by unfold rhKeep; rw [hx, hp]; simp [hh, hm.1, hm.2, hfb, hfk]
        rw [e0, e1, e2, e3]
        refine ⟨hL.set hk' hk _ _ (by rw [hm.1]), hW, hH, by simp, Oth.refl i P, fun j hj => ⟨by simp only; rw [List.getElem?_set_ne (fun q => hj q.symm)], rfl⟩, by simp only [h1]; rfl, fun r' h => ?_⟩
        simp only at h
        rw [List.getElem?_set_self hk'] at h
        injection h with h
        subst h
        exact ⟨r, hr, Or.inr rfl, rfl, rfl⟩
      · have e0 : renewAt f i k' (rs, hs) = (rs.set k' { r with own := -1, ctr := r.ctr + 1, lep := r.lep }, lost hs k') := by unfold renewAt; simp only [h1, hr]; rw [if_neg hm', if_pos hfk]
        have e1 : rhLs i k' fb ls P = ls.set k' ⟨-1, r.ctr + 1, r.lep⟩ := by unfold rhLs; rw [hx, hp]; simp only; rw [if_pos ⟨hh, hm.1, hm.2⟩, hfb, hfk, if_pos rfl, hinc]
        have e2 : rhP i k' fb ls P = P.set (i * 16 + k') (dropped p) := by unfold rhP; rw [hx, hp]; simp only; rw [if_pos (by rw [hfb, hfk]; simp [hh])]
        have e3 : rhKeep i k' fb ls P = false := by unfold rhKeep; rw [hx, hp]; simp [hfb, hfk]
        rw [e0, e1, e2, e3]
        refine ⟨hL.set hk' hk _ _ rfl, hW.set k' hk _ dr lo, hH.lost _, by simp, (Oth.refl i P).set k' hk _, fun j hj => ⟨by simp only; rw [List.getElem?_set_ne (fun q => hj q.symm)], lo2 j hj⟩, ?_, fun r' h => ?_⟩
        · simp only; rw [firstOf_lost, if_pos rfl]; rfl
        · simp only at h
          rw [List.getElem?_set_self hk'] at h
          injection h with h
          subst h
          exact ⟨r, hr, Or.inr rfl, rfl, rfl⟩
    · have hm' : r.own ≠ i ∨ r.lep ≠ p.h.ep := by omega
      have e0 : renewAt f i k' (rs, hs) = (rs, lost hs k') := by unfold renewAt; simp only [h1, hr]; rw [if_pos hm']
      have e1 : rhLs i k' fb ls P = ls := by unfold rhLs; rw [hx, hp]; simp only; rw [if_neg (fun q => hm q.2)]
      have e2 : rhP i k' fb ls P = P.set (i * 16 + k') (dropped p) := by unfold rhP; rw [hx, hp]; simp only; rw [if_pos ⟨hh, fun q => hm ⟨q.1, q.2.1⟩⟩]
      have e3 : rhKeep i k' fb ls P = false := by unfold rhKeep; rw [hx, hp]; simp only [decide_eq_false_iff_not]; exact fun q => hm ⟨q.2.1, q.2.2.1⟩
      rw [e0, e1, e2, e3]
      refine ⟨hL, hW.set k' hk _ dr lo, hH.lost _, rfl, (Oth.refl i P).set k' hk _, fun j hj => ⟨rfl, lo2 j hj⟩, ?_, same⟩
      simp only; rw [firstOf_lost, if_pos rfl]; rfl

end Go.Proofs.YtpnkmnmchdabkaaGreat
namespace Go.Proofs.YtpnkmnmchdabkaaGreat
open Go.RowKit

/-- RENEW, at the first n shards. -/
structure RnInv (f : Nat → Bool) (i : Nat) (st : List Int) (ls : List Le) (P : List Pl) (rs : List Rf) (hs : List Hd) (ns : List Nt) (n : Nat) : Prop where
  lr : LsRel (rnUp i st n (ls, P)).1 (renewUp f i n (rs, hs)).1
  wk : WkRel (rnUp i st n (ls, P)).2 i (renewUp f i n (rs, hs)).2 ns
  ok : HsOk (renewUp f i n (rs, hs)).2 rs.length
  len : (renewUp f i n (rs, hs)).1.length = rs.length
  oth : Oth i P (rnUp i st n (ls, P)).2
  rest : ∀ j, n ≤ j → (renewUp f i n (rs, hs)).1[j]? = rs[j]?
  cnt : rnCnt i st n (ls, P) = (byShard (renewUp f i n (rs, hs)).2 n).length
  bd : ∀ (j : Nat) r', (renewUp f i n (rs, hs)).1[j]? = some r' → ∃ r, rs[j]? = some r ∧ (r'.ctr = r.ctr ∨ r'.ctr = r.ctr + 1) ∧ r'.lep = r.lep ∧ r'.done = r.done

theorem byShard_same {a b : List Hd} : ∀ n, (∀ j : Nat, j < n → firstOf a j = firstOf b j) → byShard a n = byShard b n := by
  intro n
  induction n with
  | zero => intro _; simp [byShard]
  | succ n ih => intro h; rw [byShard_succ, byShard_succ, ih (fun j hj => h j (by omega)), h n (by omega)]

theorem Oth.trans {i : Nat} {P P1 P2 : List Pl} (h : Oth i P P1) (h' : Oth i P1 P2) : Oth i P P2 := ⟨h'.1.trans h.1, fun j k hj hk => (h'.2 j k hj hk).trans (h.2 j k hj hk)⟩

theorem renew_all {f : Nat → Bool} {i : Nat} {st : List Int} {ls : List Le} {P : List Pl} {rs : List Rf} {hs : List Hd} {ns : List Nt} {B : Int} (hB : B ≤ 1000000000000) (hL : LsRel ls rs) (hW : WkRel P i hs ns) (hH : HsOk hs rs.length)
    (hb : ∀ (k : Nat) r, rs[k]? = some r → 0 ≤ r.ctr ∧ r.ctr ≤ B) (hf : ∀ k, k < rs.length → finS st k = f k) : ∀ n, n ≤ 16 → RnInv f i st ls P rs hs ns n := by
  intro n
  induction n with
  | zero => intro _; exact ⟨hL, hW, hH, rfl, Oth.refl i P, fun _ _ => rfl, by simp [rnCnt, byShard], fun j r h => ⟨r, h, Or.inl rfl, rfl, rfl⟩⟩
  | succ n ih =>
    intro hn
    have I := ih (by omega)
    have hb' : ∀ r, (renewUp f i n (rs, hs)).1[n]? = some r → 0 ≤ r.ctr ∧ r.ctr ≤ B := fun r h => hb n r (by rw [← I.rest n (Nat.le_refl _)]; exact h)
    obtain ⟨a1, a2, a3, a4, a5, a6, a7, a8⟩ := renew_one (f := f) (i := i) (k := n) hB (by omega) I.lr I.wk (by rw [I.len]; exact I.ok) hb' (finS st n) (fun h => hf n (by rw [← I.len]; exact h))
    have eU : renewUp f i (n + 1) (rs, hs) = renewAt f i n ((renewUp f i n (rs, hs)).1, (renewUp f i n (rs, hs)).2) := rfl
    refine ⟨?_, ?_, ?_, ?_, I.oth.trans a5, fun j hj => ?_, ?_, fun j r' h => ?_⟩
    · rw [eU]; exact a1
    · rw [eU]; exact a2
    · rw [eU]; rw [I.len] at a3; exact a3
    · rw [eU, a4, I.len]
    · rw [eU, (a6 j (by omega)).1]; exact I.rest j (by omega)
    · rw [rnCnt, byShard_succ, List.length_append, eU, a7, I.cnt]
      rw [byShard_same n (fun j hj => (a6 j (by omega)).2)]
      cases firstOf (renewAt f i n ((renewUp f i n (rs, hs)).1, (renewUp f i n (rs, hs)).2)).2 n <;> simp
    · rw [eU] at h
      by_cases e : j = n
      · subst e
        obtain ⟨r, h1, h2, h3, h4⟩ := a8 r' h
        rw [I.rest j (Nat.le_refl _)] at h1
        exact ⟨r, h1, h2, h3, h4⟩
      · rw [(a6 j e).1] at h
        exact I.bd j r' h
theorem renewUp_more (f : Nat → Bool) (i : Nat) (rs : List Rf) (hs : List Hd) (hl : ∀ n, (renewUp f i n (rs, hs)).1.length = rs.length) : ∀ n, rs.length ≤ n → renewUp f i n (rs, hs) = renewUp f i rs.length (rs, hs) := by
  intro n hn
  induction n with
  | zero => have : rs.length = 0 := by omega
            rw [this]
  | succ n ih =>
    by_cases e : rs.length = n + 1
    · rw [e]
    · rw [renewUp, ih (by omega)]
      have hnone : (renewUp f i rs.length (rs, hs)).1[n]? = none := List.getElem?_eq_none (by rw [hl]; omega)
      unfold renewAt
      rw [hnone]
      cases firstOf (renewUp f i rs.length (rs, hs)).2 n <;> rfl

/-- THE RELATION of a group of the program's with the document's, where nothing is folded. -/
structure WOk (P : List Pl) (i : Nat) (y : Wk) (n : Nat) (B : Int) : Prop where
  rel : WkRel P i y.hs y.ns
  hs : HsOk y.hs n
  ns : NsOk y.ns n B
structure Rel (C : Cfg) (now : Rest) (time : Int) (rs : List Rf) (wv : Wks) (B : Int) : Prop where
  t : now.t = time
  t0 : 0 ≤ time ∧ time ≤ B
  n : (now.n : Int) = C.a
  nl : now.n = wv.l.length
  n1 : 1 ≤ now.n
  dn : now.dn = List.replicate 32 0
  done : ∀ (k : Nat) r, rs[k]? = some r → r.done = 0
  ls : LsRel now.ls rs
  bd : ∀ (k : Nat) r, rs[k]? = some r → (0 ≤ r.ctr ∧ r.ctr ≤ B) ∧ (0 ≤ r.lep ∧ r.lep ≤ B)
  cl : 1 ≤ C.l ∧ C.l ≤ 10
  mem : ∃ g cap P, now.wv = .slice (some ⟨g, 0, none⟩) now.n cap ∧ now.mem = plsCells P ∧ P.length = now.n * 16 ∧ ∀ (i : Nat) y, wv.l[i]? = some y → WOk P i y rs.length B

theorem WOk.mono {P : List Pl} {i : Nat} {y : Wk} {n m : Nat} {B B' : Int} (h : WOk P i y n B) (hm : n ≤ m) (hB : B ≤ B') : WOk P i y m B' := ⟨h.rel, h.hs.mono hm, h.ns.mono hm hB⟩
theorem Rel.mono {C : Cfg} {now : Rest} {time : Int} {rs : List Rf} {wv : Wks} {B B' : Int} (h : Rel C now time rs wv B) (hB : B ≤ B') : Rel C now time rs wv B' := by
  obtain ⟨g, cap, P, a, b, c, d⟩ := h.mem
  exact ⟨h.t, by have := h.t0; omega, h.n, h.nl, h.n1, h.dn, h.done, h.ls, fun k r hr => by have := h.bd k r hr; omega, h.cl, g, cap, P, a, b, c, fun i y hy => (d i y hy).mono (Nat.le_refl _) hB⟩
theorem Rel.tick {C : Cfg} {now : Rest} {time : Int} {rs : List Rf} {wv : Wks} {B : Int} (h : Rel C now time rs wv B) (hB : B ≤ 1000000000000) : Rel C { now with t := wrap64 (now.t + 1) } (wrap64 (time + 1)) rs wv (B + 1) := by
  have h' := h.mono (show B ≤ B + 1 by omega)
  have ht := h.t0
  have e : wrap64 (time + 1) = time + 1 := by unfold wrap64; omega
  exact ⟨by rw [h.t], by rw [e]; omega, h'.n, h'.nl, h'.n1, h'.dn, h'.done, h'.ls, h'.bd, h'.cl, h'.mem⟩
theorem Rel.more {C : Cfg} {now : Rest} {time : Int} {rs rs' : List Rf} {wv : Wks} {B : Int} (h : Rel C now time rs wv B) (hm : More rs rs') (hB : 0 ≤ B) : Rel C now time rs' wv B := by
  obtain ⟨g, cap, P, a, b, c, d⟩ := h.mem
  obtain ⟨m1, m2, m3⟩ := hm
  have old : ∀ (k : Nat) r', rs'[k]? = some r' → (∃ r, rs[k]? = some r ∧ SameL r r') ∨ Fresh r' := fun k r' hr' => by
    by_cases hk : k < rs.length
    · obtain ⟨r2, h1, h2⟩ := m2 k rs[k] (List.getElem?_eq_getElem hk)
      rw [hr'] at h1
      injection h1 with h1
      subst h1
      exact Or.inl ⟨_, List.getElem?_eq_getElem hk, h2⟩
    · exact Or.inr (m3 k r' (by omega) hr')
  refine ⟨h.t, h.t0, h.n, h.nl, h.n1, h.dn, fun k r' hr' => ?_, ⟨h.ls.1, fun k hk => ?_⟩, fun k r' hr' => ?_, h.cl, g, cap, P, a, b, c, fun i y hy => (d i y hy).mono m1 (Int.le_refl _)⟩
  · rcases old k r' hr' with ⟨r, h1, h2⟩ | h2
    · rw [h2.2.2.2.1]; exact h.done k r h1
    · exact h2.2.2.2.1
  · rw [h.ls.2 k hk]
    congr 1
    unfold leOf
    cases hr' : rs'[k]? with
    | none =>
      have : rs[k]? = none := List.getElem?_eq_none (by have := List.getElem?_eq_none_iff.1 hr'; omega)
      rw [this]
    | some r' =>
      rcases old k r' hr' with ⟨r, h1, h2⟩ | h2
      · rw [h1]
        simp only
        rw [h2.1, h2.2.1, h2.2.2.1]
      · by_cases hk2 : k < rs.length
        · obtain ⟨r2, h1, h3⟩ := m2 k rs[k] (List.getElem?_eq_getElem hk2)
          rw [hr'] at h1
          injection h1 with h1
          subst h1
          rw [List.getElem?_eq_getElem hk2]
          simp only
          rw [h3.1, h3.2.1, h3.2.2.1]
        · rw [List.getElem?_eq_none (by omega)]
          simp only
          rw [h2.1, h2.2.1, h2.2.2.1]
  · rcases old k r' hr' with ⟨r, h1, h2⟩ | h2
    · have := h.bd k r h1
      rw [h2.2.1, h2.2.2.1]; exact this
    · rw [h2.2.1, h2.2.2.1]; omega

end Go.Proofs.YtpnkmnmchdabkaaGreat
namespace Go.Proofs.YtpnkmnmchdabkaaGreat
open Go.RowKit

theorem dnP_zero : dnP (List.replicate 32 0) = fun _ => 0 := by
  funext k
  unfold dnP
  by_cases h : k * 2 < 32
  · rw [List.getElem?_replicate, if_pos h]; rfl
  · rw [List.getElem?_eq_none (by simp; omega)]; rfl
theorem dnR_zero {rs : List Rf} (h : ∀ (k : Nat) r, rs[k]? = some r → r.done = 0) : dnR rs = fun _ => 0 := by
  funext k
  unfold dnR
  cases hr : rs[k]? with
  | none => rfl
  | some r => have := h k r hr; simp [this]

/-- The stages that the program finds are the document's. -/
theorem Rel.stage {C : Cfg} {now : Rest} {time : Int} {rs : List Rf} {wv : Wks} {B : Int} (h : Rel C now time rs wv B) {l : List Sh} {Pt : List Pt} (hl : absR rs Pt = l) (hI : Inv l) :
    dnP now.dn = dnR rs ∧ (∀ k, k < rs.length → (stgUp l (dnP now.dn) l.length)[k]? = some (stg l (dnR rs) k)) ∧ (∀ k, rs.length ≤ k → k < 16 → (stgUp l (dnP now.dn) l.length)[k]? = some 0) := by
  have e1 : dnP now.dn = dnR rs := by rw [h.dn, dnP_zero, dnR_zero h.done]
  have hn : l.length = rs.length := by rw [← hl, absR_len]
  have hs := stgUp_is hI (dnR rs) (fun k s _ => by rw [dnR_zero h.done]; simp) l.length (Nat.le_refl _)
  rw [e1]
  exact ⟨rfl, fun k hk => hs.1 k (by omega), fun k hk hk2 => hs.2 k (by omega) hk2⟩
theorem Rel.fin {C : Cfg} {now : Rest} {time : Int} {rs : List Rf} {wv : Wks} {B : Int} (h : Rel C now time rs wv B) {l : List Sh} {Pt : List Pt} (hl : absR rs Pt = l) (hI : Inv l) : ∀ k, k < rs.length → finS (stgUp l (dnP now.dn) l.length) k = fin l (dnR rs) k := by
  intro k hk
  have hn : l.length = rs.length := by rw [← hl, absR_len]
  unfold finS
  rw [(h.stage hl hI).2.1 k hk]
  have hs : l[k]? = some l[k] := List.getElem?_eq_getElem (by omega)
  have := stg_two hI (dn := dnR rs) hs
  by_cases hf : Go.Proofs.YtpnkmnmchdabkaaGreat.fin l (dnR rs) k = true
  · rw [hf, this.2 hf]; rfl
  · have h2 : ¬ stg l (dnR rs) k = 2 := fun e => hf (this.1 e)
    simp [hf, h2]

/-- The group's rest, laid anew. -/
theorem Rel.up {C : Cfg} {now : Rest} {time : Int} {rs : List Rf} {wv : Wks} {B : Int} (h : Rel C now time rs wv B) {ls' : List Le} {P' : List Pl} {rs' : List Rf} {wv' : Wks} {B' : Int} {g cap : Nat} (hw : now.wv = .slice (some ⟨g, 0, none⟩) now.n cap) (hlen : P'.length = now.n * 16) (hls : LsRel ls' rs') (hd : ∀ (k : Nat) r, rs'[k]? = some r → r.done = 0) (hb : ∀ (k : Nat) r, rs'[k]? = some r → (0 ≤ r.ctr ∧ r.ctr ≤ B') ∧ (0 ≤ r.lep ∧ r.lep ≤ B')) (hwl : wv'.l.length = wv.l.length) (hB : B ≤ B')
    (hW : ∀ (i : Nat) y, wv'.l[i]? = some y → WOk P' i y rs'.length B') : Rel C (now.up ls' P') time rs' wv' B' :=
  ⟨h.t, by have := h.t0; omega, h.n, by rw [hwl]; exact h.nl, h.n1, h.dn, hd, hls, hb, h.cl, g, cap, P', hw, rfl, hlen, hW⟩

theorem wk_set {l : List Wk} {i j : Nat} {y z : Wk} (h : (l.set i y)[j]? = some z) : (j = i ∧ z = y) ∨ (j ≠ i ∧ l[j]? = some z) := set_cases h

set_option maxHeartbeats 1000000 in
/-- RENEW keeps the relation. -/
theorem Rel.renew {C : Cfg} {now : Rest} {time : Int} {rs : List Rf} {wv : Wks} {B : Int} (h : Rel C now time rs wv B) (hB : B ≤ 1000000000000) {l : List Sh} {Pt : List Pt} (hl : absR rs Pt = l) (hI : Inv l) {g cap : Nat} {P : List Pl} (hw : now.wv = .slice (some ⟨g, 0, none⟩) now.n cap) (hlen : P.length = now.n * 16) (hW : ∀ (i : Nat) y, wv.l[i]? = some y → WOk P i y rs.length B) {i : Nat} {y : Wk} (hy : wv.l[i]? = some y) (hv' : Value) :
    Rel C (now.up (rnUp i (stgUp l (dnP now.dn) l.length) 16 (now.ls, P)).1 (rnUp i (stgUp l (dnP now.dn) l.length) 16 (now.ls, P)).2) time (renewUp (Go.Proofs.YtpnkmnmchdabkaaGreat.fin l (dnR rs)) i rs.length (rs, y.hs)).1 (wv.setH i y (renewUp (Go.Proofs.YtpnkmnmchdabkaaGreat.fin l (dnR rs)) i rs.length (rs, y.hs)).2 hv') (B + 1) ∧
      rnCnt i (stgUp l (dnP now.dn) l.length) 16 (now.ls, P) = (renewUp (Go.Proofs.YtpnkmnmchdabkaaGreat.fin l (dnR rs)) i rs.length (rs, y.hs)).2.length ∧ absR (renewUp (Go.Proofs.YtpnkmnmchdabkaaGreat.fin l (dnR rs)) i rs.length (rs, y.hs)).1 Pt = l ∧ (renewUp (Go.Proofs.YtpnkmnmchdabkaaGreat.fin l (dnR rs)) i rs.length (rs, y.hs)).1.length = rs.length := by
  have hn : rs.length = l.length := by rw [← hl, absR_len]
  have h16 : rs.length ≤ 16 := by have := hI.len; omega
  have hWi := hW i y hy
  have A := fun n hn' => renew_all (f := Go.Proofs.YtpnkmnmchdabkaaGreat.fin l (dnR rs)) (i := i) (st := stgUp l (dnP now.dn) l.length) hB h.ls hWi.rel hWi.hs (fun k r hr => (h.bd k r hr).1) (h.fin hl hI) n hn'
  have I := A 16 (Nat.le_refl _)
  have lens : ∀ n, (renewUp (Go.Proofs.YtpnkmnmchdabkaaGreat.fin l (dnR rs)) i n (rs, y.hs)).1.length = rs.length := by
    intro n
    induction n with
    | zero => rfl
    | succ n ih =>
      rw [renewUp]
      unfold renewAt
      split
      · split
        · exact ih
        · split
          · simp only [List.length_set]; exact ih
          · simp only [List.length_set]; exact ih
      · exact ih
  have e := renewUp_more (Go.Proofs.YtpnkmnmchdabkaaGreat.fin l (dnR rs)) i rs y.hs lens 16 h16
  rw [← e]
  have hab : ∀ n, absR (renewUp (Go.Proofs.YtpnkmnmchdabkaaGreat.fin l (dnR rs)) i n (rs, y.hs)).1 Pt = absR rs Pt := by
    intro n
    induction n with
    | zero => rfl
    | succ n ih =>
      rw [renewUp]
      unfold renewAt
      split
      · rename_i x r hx hr
        split
        · exact ih
        · split
          · exact (absR_lease hr _ _ _).1.trans ih
          · exact (absR_lease hr _ _ _).1.trans ih
      · exact ih
  obtain ⟨i1, i2, i3, i4, i5, i6, i7, i8⟩ := I
  have hab16 := hab 16
  have i9 : (byShard (renewUp (Go.Proofs.YtpnkmnmchdabkaaGreat.fin l (dnR rs)) i 16 (rs, y.hs)).2 16).length = (renewUp (Go.Proofs.YtpnkmnmchdabkaaGreat.fin l (dnR rs)) i 16 (rs, y.hs)).2.length := by rw [byShard_more i3 16 h16, byShard_len i3]
  rw [i9] at i7
  clear A lens e hab i9 i6
  generalize renewUp (Go.Proofs.YtpnkmnmchdabkaaGreat.fin l (dnR rs)) i 16 (rs, y.hs) = R at *
  generalize rnUp i (stgUp l (dnP now.dn) l.length) 16 (now.ls, P) = U at *
  generalize rnCnt i (stgUp l (dnP now.dn) l.length) 16 (now.ls, P) = cn at *
  refine ⟨h.up hw (by rw [i5.1]; exact hlen) i1 (fun k r hr => ?_) (fun k r hr => ?_) (by unfold Wks.setH; simp) (by omega) (fun j z hz => ?_), i7, hab16.trans hl, i4⟩
  · obtain ⟨r0, h1, _, _, h4⟩ := i8 k r hr
    rw [h4]; exact h.done k r0 h1
  · obtain ⟨r0, h1, h2, h3, _⟩ := i8 k r hr
    have := h.bd k r0 h1
    rw [h3]
    rcases h2 with h2 | h2 <;> rw [h2] <;> omega
  · rw [i4]
    unfold Wks.setH at hz
    rcases wk_set hz with ⟨rfl, rfl⟩ | ⟨hj, hz⟩
    · exact ⟨i2, i3, hWi.ns.mono (Nat.le_refl _) (by omega)⟩
    · have := hW j z hz
      exact ⟨i5.wk hj this.rel, this.hs, this.ns.mono (Nat.le_refl _) (by omega)⟩

/-- CRASH. -/
theorem forgetP_at (P : List Pl) (i : Nat) : ∀ n, n ≤ 16 → Oth i P (forgetP P i n) ∧ ∀ k, k < n → i * 16 + k < P.length → (forgetP P i n)[i * 16 + k]? = some pl0 := by
  intro n
  induction n with
  | zero => intro _; exact ⟨Oth.refl i P, fun k hk => by omega⟩
  | succ n ih =>
    intro hn
    obtain ⟨a, b⟩ := ih (by omega)
    refine ⟨a.set n (by omega) pl0, fun k hk hl => ?_⟩
    rw [forgetP]
    by_cases e : k = n
    · subst e
      rw [List.getElem?_set_self (by rw [a.1]; exact hl)]
    · rw [List.getElem?_set_ne (by omega)]
      exact b k (by omega) hl
theorem Rel.crash {C : Cfg} {now : Rest} {time : Int} {rs : List Rf} {wv : Wks} {B : Int} (h : Rel C now time rs wv B) {g cap : Nat} {P : List Pl} (hw : now.wv = .slice (some ⟨g, 0, none⟩) now.n cap) (hlen : P.length = now.n * 16) (hW : ∀ (i : Nat) y, wv.l[i]? = some y → WOk P i y rs.length B) {i : Nat} (hi : i < now.n) :
    Rel C (now.up now.ls (forgetP P i 16)) time rs { wv with l := wv.l.set i ⟨[], .slice none 0 0, [], .slice none 0 0⟩ } (B + 1) := by
  obtain ⟨a, b⟩ := forgetP_at P i 16 (Nat.le_refl _)
  refine h.up hw (by rw [a.1]; exact hlen) h.ls h.done (fun k r hr => by have := h.bd k r hr; omega) (by simp) (by omega) (fun j z hz => ?_)
  rcases wk_set hz with ⟨rfl, rfl⟩ | ⟨hj, hz⟩
  · refine ⟨fun k hk => ⟨pl0, b k hk (by omega), rfl, rfl⟩, ⟨by simp, fun x hx => by simp at hx⟩, ⟨by simp, fun x hx => by simp at hx, fun x hx => by simp at hx⟩⟩
  · have := hW j z hz
    exact ⟨a.wk hj this.rel, this.hs, this.ns.mono (Nat.le_refl _) (by omega)⟩

/-- A worker takes a shard. -/
theorem give_rel {i k : Nat} {ls : List Le} {P : List Pl} {rs : List Rf} {hs : List Hd} {ns : List Nt} {r : Rf} {d B : Int} (hB : B ≤ 1000000000000) (hk : k < 16) (hL : LsRel ls rs) (hW : WkRel P i hs ns) (hH : HsOk hs rs.length) (hr : rs[k]? = some r) (hb : (0 ≤ r.ctr ∧ r.ctr ≤ B) ∧ (0 ≤ r.lep ∧ r.lep ≤ B)) (hno : firstOf hs k = none) :
    LsRel (giveLs i k ls) (rs.set k { r with own := i, ctr := r.ctr + 1, lep := r.lep + 1 }) ∧ WkRel (giveP d i k ls P) i (hs ++ [⟨k, r.lep + 1, d, 0⟩]) ns ∧ HsOk (hs ++ [⟨k, r.lep + 1, d, 0⟩]) rs.length ∧ Oth i P (giveP d i k ls P) := by
  obtain ⟨p, hp, h1, h2⟩ := hW k hk
  have hlt := (List.getElem?_eq_some_iff.1 hr).1
  have hx := hL.2 k hk
  have hle : leOf rs k = ⟨r.own, r.ctr, r.lep⟩ := by unfold leOf; rw [hr]
  rw [hle] at hx
  have i1 : inc r.ctr = r.ctr + 1 := inc_is (by omega)
  have i2 : inc r.lep = r.lep + 1 := inc_is (by omega)
  have e1 : giveLs i k ls = ls.set k ⟨i, r.ctr + 1, r.lep + 1⟩ := by unfold giveLs; rw [hx]; simp only; rw [i1, i2]
  have e2 : giveP d i k ls P = P.set (i * 16 + k) { p with held := true, h := ⟨k, r.lep + 1, d, 0⟩ } := by unfold giveP; rw [hx, hp]; simp only; rw [i2]
  rw [e1, e2]
  refine ⟨hL.set hlt hk _ _ rfl, hW.set k hk _ ⟨?_, ?_⟩ (fun j _ hj => ⟨?_, rfl⟩), hH.add _ k hlt rfl hno, (Oth.refl i P).set k hk _⟩
  · rw [firstOf_append, hno]; simp
  · rw [h2]
  · rw [firstOf_append]
    cases firstOf hs j with
    | some z => rfl
    | none => exact if_neg (fun e => hj (by have e' : (k : Int) = j := e; omega))

end Go.Proofs.YtpnkmnmchdabkaaGreat
namespace Go.Proofs.YtpnkmnmchdabkaaGreat
open Go.RowKit

/-- The document's notes behind Take. -/
theorem takeDown_note (l : List Sh) (rs : List Rf) (hs : List Hd) (t L : Int) : ∀ (n : Nat) (ns : List Nt) (b : Int) (k : Nat), noteOf (takeDown l rs hs t L n ns b).1 k = if k < n then some ⟨k, ctrR rs k, sinceV ns k (ctrR rs k) t⟩ else noteOf ns k := by
  intro n
  induction n with
  | zero => intro ns b k; simp [takeDown]
  | succ n ih =>
    intro ns b k
    rw [takeDown, ih]
    by_cases hk : k < n
    · rw [if_pos hk, if_pos (by omega)]
      have : sinceV (sinceN ns n (ctrR rs n) t).1 k (ctrR rs k) t = sinceV ns k (ctrR rs k) t := by
        unfold sinceV
        rw [sinceN_note, if_neg (by omega)]
      rw [this]
    · rw [if_neg hk, sinceN_note]
      by_cases e : k = n
      · subst e
        rw [if_pos rfl, if_pos (by omega)]
      · rw [if_neg (by omega), if_neg (by omega)]
theorem takeDown_ok {rs : List Rf} (l : List Sh) (hs : List Hd) (t L B : Int) (ht : 0 ≤ t ∧ t ≤ B) (m : Nat) : ∀ (n : Nat) (ns : List Nt) (b : Int), n ≤ m → NsOk ns m B → NsOk (takeDown l rs hs t L n ns b).1 m B := by
  intro n
  induction n with
  | zero => intro ns b _ h; exact h
  | succ n ih =>
    intro ns b hn h
    rw [takeDown]
    exact ih _ _ (by omega) (sinceN_ok h n (by omega) _ _ ht).1
/-- May it be taken, by the notes at first? -/
def mayD (l : List Sh) (rs : List Rf) (hs : List Hd) (ns : List Nt) (t L : Int) (k : Nat) : Bool := mayB l rs hs t L k (sinceV ns k (ctrR rs k) t)
theorem takeDown_is (l : List Sh) (rs : List Rf) (hs : List Hd) (t L : Int) : ∀ (n : Nat) (ns : List Nt) (b : Int), (∃ k : Nat, k < n ∧ mayD l rs hs ns t L k = true ∧ (∀ j, j < k → mayD l rs hs ns t L j = false) ∧ (takeDown l rs hs t L n ns b).2 = k) ∨ ((∀ j, j < n → mayD l rs hs ns t L j = false) ∧ (takeDown l rs hs t L n ns b).2 = b) := by
  intro n
  induction n with
  | zero => intro ns b; exact Or.inr ⟨fun j hj => by omega, rfl⟩
  | succ n ih =>
    intro ns b
    have same : ∀ k, k < n → mayD l rs hs (sinceN ns n (ctrR rs n) t).1 t L k = mayD l rs hs ns t L k := fun k hk => by
      unfold mayD sinceV
      rw [sinceN_note, if_neg (by omega)]
    have hv : mayB l rs hs t L n (sinceN ns n (ctrR rs n) t).2 = mayD l rs hs ns t L n := by unfold mayD; rw [sinceN_val]
    rw [takeDown]
    rcases ih (sinceN ns n (ctrR rs n) t).1 (if mayB l rs hs t L n (sinceN ns n (ctrR rs n) t).2 = true then n else b) with ⟨k, hk, h1, h2, h3⟩ | ⟨h1, h2⟩
    · exact Or.inl ⟨k, by omega, by rw [← same k hk]; exact h1, fun j hj => by rw [← same j (by omega)]; exact h2 j hj, h3⟩
    · rw [h2, hv]
      by_cases hm : mayD l rs hs ns t L n = true
      · rw [if_pos hm]
        exact Or.inl ⟨n, by omega, hm, fun j hj => by rw [← same j hj]; exact h1 j hj, rfl⟩
      · rw [if_neg hm]
        refine Or.inr ⟨fun j hj => ?_, rfl⟩
        by_cases e : j = n
        · subst e; simpa using hm
        · rw [← same j (by omega)]; exact h1 j (by omega)

/-- The program's notes. -/
theorem notesP_at {ls : List Le} {rs : List Rf} (hL : LsRel ls rs) (t : Int) (i : Nat) (P : List Pl) (hP : ∀ k, k < 16 → ∃ p, P[i * 16 + k]? = some p) : ∀ n, n ≤ 16 → Oth i P (notesP ls t i n P) ∧ ∀ k p, k < 16 → P[i * 16 + k]? = some p → (notesP ls t i n P)[i * 16 + k]? = some (if k < n then noted p (leOf rs k).c t else p) := by
  intro n
  induction n with
  | zero => intro _; exact ⟨Oth.refl i P, fun k p _ hp => by simpa [notesP] using hp⟩
  | succ n ih =>
    intro hn
    obtain ⟨a, b⟩ := ih (by omega)
    obtain ⟨p0, hp0⟩ := hP n (by omega)
    have hb := b n p0 (by omega) hp0
    rw [if_neg (by omega)] at hb
    have e : notesP ls t i (n + 1) P = (notesP ls t i n P).set (i * 16 + n) (noted p0 (leOf rs n).c t) := by
      rw [notesP, hL.2 n (by omega), hb]
    rw [e]
    refine ⟨a.set n (by omega) _, fun k p hk hp => ?_⟩
    by_cases ek : k = n
    · subst ek
      rw [hp0] at hp
      injection hp with hp
      subst hp
      rw [List.getElem?_set_self (List.getElem?_eq_some_iff.1 hb).1, if_pos (by omega)]
    · rw [List.getElem?_set_ne (by omega), b k p hk hp]
      by_cases hkn : k < n
      · rw [if_pos hkn, if_pos (by omega)]
      · rw [if_neg hkn, if_neg (by omega)]
theorem noted_is {p : Pl} {hs : List Hd} {ns : List Nt} {k : Nat} (h : PlRel p hs ns k) (c t : Int) : (noted p c t).held = p.held ∧ (noted p c t).h = p.h ∧ (noted p c t).made = true ∧ (noted p c t).c = c ∧ (noted p c t).s = sinceV ns k c t := by
  have h2 := h.2
  unfold noted sinceV
  rw [h2]
  cases hm : p.made
  · rw [if_neg (by simp)]
    simp
  · by_cases hc : p.c = c
    · rw [if_pos ⟨rfl, hc⟩]
      simp [hm, hc]
    · rw [if_neg (fun e => hc e.2)]
      simp [hc]

theorem ctrR_is {rs : List Rf} {k : Nat} {r : Rf} (hr : rs[k]? = some r) : ctrR rs k = r.ctr ∧ ownR rs k = r.own := by
  unfold ctrR ownR
  rw [hr]
  exact ⟨rfl, rfl⟩

/-- TAKE keeps the relation, and answers alike. -/
structure TkRel (C : Cfg) (now : Rest) (time : Int) (rs : List Rf) (wv : Wks) (B : Int) (l : List Sh) (Pt : List Pt) (P : List Pl) (i : Nat) (y : Wk) (r : Option Nat) : Prop where
  none_ : r = none → (takeDown l rs y.hs time C.l rs.length y.ns (-1)).2 < 0 ∧ ∀ nv', Rel C (now.up (takeLs i now.ls r) (takeP (dnP now.dn) i now.ls (notesP now.ls now.t i l.length P) r)) time rs (wv.setN i y (takeDown l rs y.hs time C.l rs.length y.ns (-1)).1 nv') (B + 1)
  some_ : ∀ k, r = some k → (takeDown l rs y.hs time C.l rs.length y.ns (-1)).2 = k ∧ ∃ x, rs[k]? = some x ∧ ∀ nv' hv', Rel C (now.up (takeLs i now.ls r) (takeP (dnP now.dn) i now.ls (notesP now.ls now.t i l.length P) r)) time (rs.set k { x with own := i, ctr := x.ctr + 1, lep := x.lep + 1 }) ((wv.setN i y (takeDown l rs y.hs time C.l rs.length y.ns (-1)).1 nv').setH i { y with ns := (takeDown l rs y.hs time C.l rs.length y.ns (-1)).1, nv := nv' } (y.hs ++ [⟨k, x.lep + 1, x.done, 0⟩]) hv') (B + 1)

set_option maxHeartbeats 1000000 in
theorem Rel.take {C : Cfg} {now : Rest} {time : Int} {rs : List Rf} {wv : Wks} {B : Int} (h : Rel C now time rs wv B) (hB : B ≤ 1000000000000) {l : List Sh} {Pt : List Pt} (hl : absR rs Pt = l) (hI : Inv l) {g cap : Nat} {P : List Pl} (hw : now.wv = .slice (some ⟨g, 0, none⟩) now.n cap) (hlen : P.length = now.n * 16) (hW : ∀ (i : Nat) y, wv.l[i]? = some y → WOk P i y rs.length B) {i : Nat} {y : Wk} (hy : wv.l[i]? = some y) (r : Option Nat)
    (hr : TakeIs (mayP (stgUp l (dnP now.dn) l.length) now.ls (notesP now.ls now.t i l.length P) now.t C.l i) r) : TkRel C now time rs wv B l Pt P i y r := by
  have hn : l.length = rs.length := by rw [← hl, absR_len]
  have h16 : rs.length ≤ 16 := by have := hI.len; omega
  have hWi := hW i y hy
  obtain ⟨st1, st2, st3⟩ := h.stage hl hI
  have ht := h.t
  obtain ⟨o1, o2⟩ := notesP_at h.ls now.t i P (fun k hk => by obtain ⟨p, hp, _⟩ := hWi.rel k hk; exact ⟨p, hp⟩) l.length (by omega)
  have note := takeDown_note l rs y.hs time C.l rs.length y.ns (-1)
  have nsok : NsOk (takeDown l rs y.hs time C.l rs.length y.ns (-1)).1 rs.length B := takeDown_ok l y.hs time C.l B h.t0 rs.length rs.length y.ns (-1) (Nat.le_refl _) hWi.ns
  have tis := takeDown_is l rs y.hs time C.l rs.length y.ns (-1)
  have plc : ∀ k, k < rs.length → ∃ p x, P[i * 16 + k]? = some p ∧ PlRel p y.hs y.ns k ∧ rs[k]? = some x ∧ (notesP now.ls now.t i l.length P)[i * 16 + k]? = some (noted p x.ctr time) := fun k hk => by
    obtain ⟨p, hp, hpr⟩ := hWi.rel k (by omega)
    refine ⟨p, rs[k], hp, hpr, List.getElem?_eq_getElem hk, ?_⟩
    rw [o2 k p (by omega) hp, if_pos (by omega), ht]
    unfold leOf
    rw [List.getElem?_eq_getElem hk]
  have wk1 : WkRel (notesP now.ls now.t i l.length P) i y.hs (takeDown l rs y.hs time C.l rs.length y.ns (-1)).1 := fun k hk => by
    by_cases hk2 : k < rs.length
    · obtain ⟨p, x, hp, hpr, hx, hN⟩ := plc k hk2
      obtain ⟨n1, n2, n3, n4, n5⟩ := noted_is hpr x.ctr time
      refine ⟨_, hN, ?_, ?_⟩
      · rw [n1, n2]; exact hpr.1
      · rw [note k, if_pos hk2, n3, n4, n5, (ctrR_is hx).1]; rfl
    · obtain ⟨p, hp, hpr⟩ := hWi.rel k hk
      refine ⟨p, ?_, hpr.1, ?_⟩
      · rw [o2 k p hk hp, if_neg (by omega)]
      · rw [note k, if_neg hk2]; exact hpr.2
  have may : ∀ k, k < rs.length → mayP (stgUp l (dnP now.dn) l.length) now.ls (notesP now.ls now.t i l.length P) now.t C.l i k = mayD l rs y.hs y.ns time C.l k := fun k hk => by
    obtain ⟨p, x, hp, hpr, hx, hN⟩ := plc k hk
    obtain ⟨n1, n2, n3, n4, n5⟩ := noted_is hpr x.ctr time
    have hls := h.ls.2 k (by omega)
    have hle : leOf rs k = ⟨x.own, x.ctr, x.lep⟩ := by unfold leOf; rw [hx]
    rw [hle] at hls
    have hsb : 0 ≤ sinceV y.ns k x.ctr time ∧ sinceV y.ns k x.ctr time ≤ B := by
      unfold sinceV
      cases hno : noteOf y.ns k with
      | none => exact h.t0
      | some z =>
        simp only
        split
        · exact hWi.ns.bd z (noteOf_some hno).1
        · exact h.t0
    have ht0 := h.t0
    have hdif : dif now.t (sinceV y.ns k x.ctr time) = time - sinceV y.ns k x.ctr time := by rw [ht]; exact dif_is (by omega) (by omega)
    have hfree : freeP now.ls (notesP now.ls now.t i l.length P) now.t C.l i k = (decide (x.own = -1) || decide (sinceV y.ns k x.ctr time + C.l ≤ time)) := by
      unfold freeP
      rw [hls, hN]
      simp only
      rw [n3, n4, n5, hdif]
      congr 1
      simp only [Bool.true_and, decide_true]
      by_cases e : C.l ≤ time - sinceV y.ns k x.ctr time
      · rw [decide_eq_true e, decide_eq_true (by omega)]
      · rw [decide_eq_false e, decide_eq_false (by omega)]
    unfold mayP
    rw [hN]
    simp only
    rw [hfree, st2 k hk, n1]
    unfold mayD mayB
    rw [(ctrR_is hx).1, (ctrR_is hx).2]
    have hf : (firstOf y.hs k).isNone = !p.held := by rw [hpr.1]; cases p.held <;> rfl
    rw [hf]
    have hst : decide (some (stg l (dnR rs) k) = some 1) = (rdy l (dnR rs) k && !Go.Proofs.YtpnkmnmchdabkaaGreat.fin l (dnR rs) k) := by
      unfold stg
      cases rdy l (dnR rs) k <;> cases Go.Proofs.YtpnkmnmchdabkaaGreat.fin l (dnR rs) k <;> rfl
    rw [hst, Bool.and_assoc, Bool.and_assoc]
  have may2 : ∀ k, rs.length ≤ k → k < 16 → mayP (stgUp l (dnP now.dn) l.length) now.ls (notesP now.ls now.t i l.length P) now.t C.l i k = false := fun k hk hk2 => by
    unfold mayP
    split
    · rw [st3 k hk hk2]; simp
    · rfl
  have hlenN : (notesP now.ls now.t i l.length P).length = now.n * 16 := by rw [o1.1]; exact hlen
  have dn0 : ∀ k, dnP now.dn k = 0 := fun k => by rw [h.dn, dnP_zero]
  have bd1 : ∀ (k : Nat) x, rs[k]? = some x → (0 ≤ x.ctr ∧ x.ctr ≤ B + 1) ∧ (0 ≤ x.lep ∧ x.lep ≤ B + 1) := fun k x hx => by have := h.bd k x hx; omega
  refine ⟨fun e => ?_, fun k e => ?_⟩
  · subst e
    have hno : ∀ k, k < rs.length → mayD l rs y.hs y.ns time C.l k = false := fun k hk => by rw [← may k hk]; exact hr k (by omega)
    rcases tis with ⟨k, hk, h1, _⟩ | ⟨_, h2⟩
    · rw [hno k hk] at h1; cases h1
    · refine ⟨by rw [h2]; omega, fun nv' => ?_⟩
      refine h.up (P' := notesP now.ls now.t i l.length P) hw hlenN h.ls h.done bd1 (by unfold Wks.setN; simp) (by omega) (fun j z hz => ?_)
      unfold Wks.setN at hz
      rcases wk_set hz with ⟨rfl, rfl⟩ | ⟨hj, hz⟩
      · exact ⟨wk1, hWi.hs, nsok.mono (Nat.le_refl _) (by omega)⟩
      · have := hW j z hz
        exact ⟨o1.wk hj this.rel, this.hs, this.ns.mono (Nat.le_refl _) (by omega)⟩
  · subst e
    obtain ⟨hk16, hmay, hleast⟩ := hr
    have hk : k < rs.length := by
      by_cases hk : k < rs.length
      · exact hk
      · rw [may2 k (by omega) hk16] at hmay; cases hmay
    rw [may k hk] at hmay
    have h2 : (takeDown l rs y.hs time C.l rs.length y.ns (-1)).2 = k := by
      rcases tis with ⟨j, hj, h1, h3, h4⟩ | ⟨h1, _⟩
      · have : j = k := by
          by_cases e1 : j < k
          · have := hleast j e1; rw [may j hj, h1] at this; cases this
          · by_cases e2 : k < j
            · have := h3 k e2; rw [hmay] at this; cases this
            · omega
        rw [h4, this]
      · rw [h1 k hk] at hmay; cases hmay
    obtain ⟨p, x, hp, hpr, hx, hN⟩ := plc k hk
    have hno : firstOf y.hs k = none := by
      unfold mayD mayB at hmay
      simp only [Bool.and_eq_true] at hmay
      have := hmay.2.2.1
      simpa using this
    obtain ⟨g1, g2, g3, g4⟩ := give_rel (i := i) (d := dnP now.dn k) hB hk16 h.ls wk1 hWi.hs hx (h.bd k x hx) hno
    have hd0 : x.done = dnP now.dn k := by rw [h.done k x hx, dn0]
    have e3 : (⟨k, x.lep + 1, x.done, 0⟩ : Hd) = ⟨k, x.lep + 1, dnP now.dn k, 0⟩ := by rw [hd0]
    refine ⟨h2, x, hx, fun nv' hv' => ?_⟩
    rw [e3]
    refine h.up (P' := giveP (dnP now.dn k) i k now.ls (notesP now.ls now.t i l.length P)) hw (by rw [g4.1]; exact hlenN) g1 (fun j z hz => ?_) (fun j z hz => ?_) (by unfold Wks.setN Wks.setH; simp) (by omega) (fun j z hz => ?_)
    · by_cases e : j = k
      · subst e
        rw [List.getElem?_set_self hk] at hz
        injection hz with hz
        subst hz
        exact h.done j x hx
      · rw [List.getElem?_set_ne (fun q => e q.symm)] at hz
        exact h.done j z hz
    · by_cases e : j = k
      · subst e
        rw [List.getElem?_set_self hk] at hz
        injection hz with hz
        subst hz
        have := h.bd j x hx
        simp only
        omega
      · rw [List.getElem?_set_ne (fun q => e q.symm)] at hz
        exact bd1 j z hz
    · rw [List.length_set]
      unfold Wks.setN Wks.setH at hz
      simp only [List.set_set] at hz
      rcases wk_set hz with ⟨rfl, rfl⟩ | ⟨hj, hz⟩
      · exact ⟨g2, g3, nsok.mono (Nat.le_refl _) (by omega)⟩
      · have := hW j z hz
        exact ⟨g4.wk hj (o1.wk hj this.rel), this.hs, this.ns.mono (Nat.le_refl _) (by omega)⟩

/-- STEAL. -/
theorem Rel.steal {C : Cfg} {now : Rest} {time : Int} {rs : List Rf} {wv : Wks} {B : Int} (h : Rel C now time rs wv B) (hB : B ≤ 1000000000000) {l : List Sh} {Pt : List Pt} (hl : absR rs Pt = l) (hI : Inv l) {g cap : Nat} {P : List Pl} (hw : now.wv = .slice (some ⟨g, 0, none⟩) now.n cap) (hlen : P.length = now.n * 16) (hW : ∀ (i : Nat) y, wv.l[i]? = some y → WOk P i y rs.length B) {i : Nat} {y : Wk} (hy : wv.l[i]? = some y) {k : Nat} {x : Rf} (hx : rs[k]? = some x) {p : Pl} (hp : P[i * 16 + k]? = some p) {v : Int} (hv : (stgUp l (dnP now.dn) l.length)[k]? = some v) :
    (p.held = (firstOf y.hs k).isSome) ∧ ((v = 1) ↔ (rdy l (dnR rs) k && !Go.Proofs.YtpnkmnmchdabkaaGreat.fin l (dnR rs) k) = true) ∧
    (p.held = false → ∀ hv', Rel C (now.up (giveLs i k now.ls) (giveP (dnP now.dn k) i k now.ls P)) time (rs.set k { x with own := i, ctr := x.ctr + 1, lep := x.lep + 1 }) (wv.setH i y (y.hs ++ [⟨k, x.lep + 1, x.done, 0⟩]) hv') (B + 1)) := by
  have hn : l.length = rs.length := by rw [← hl, absR_len]
  have h16 : rs.length ≤ 16 := by have := hI.len; omega
  have hk := (List.getElem?_eq_some_iff.1 hx).1
  have hWi := hW i y hy
  obtain ⟨p', hp', hpr⟩ := hWi.rel k (by omega)
  rw [hp] at hp'
  injection hp' with hp'
  subst hp'
  obtain ⟨st1, st2, st3⟩ := h.stage hl hI
  rw [st2 k hk] at hv
  injection hv with hv
  refine ⟨by rw [hpr.1]; cases p.held <;> rfl, ?_, fun hh hv' => ?_⟩
  · rw [← hv]
    unfold stg
    cases rdy l (dnR rs) k <;> cases Go.Proofs.YtpnkmnmchdabkaaGreat.fin l (dnR rs) k <;> simp
  · have hno : firstOf y.hs k = none := by rw [hpr.1, hh]; rfl
    obtain ⟨g1, g2, g3, g4⟩ := give_rel (i := i) (d := dnP now.dn k) hB (show k < 16 by omega) h.ls hWi.rel hWi.hs hx (h.bd k x hx) hno
    have hd0 : x.done = dnP now.dn k := by rw [h.done k x hx, h.dn, dnP_zero]
    have e3 : (⟨k, x.lep + 1, x.done, 0⟩ : Hd) = ⟨k, x.lep + 1, dnP now.dn k, 0⟩ := by rw [hd0]
    rw [e3]
    refine h.up hw (by rw [g4.1]; exact hlen) g1 (fun j z hz => ?_) (fun j z hz => ?_) (by unfold Wks.setH; simp) (by omega) (fun j z hz => ?_)
    · by_cases e : j = k
      · subst e
        rw [List.getElem?_set_self hk] at hz
        injection hz with hz
        subst hz
        exact h.done j x hx
      · rw [List.getElem?_set_ne (fun q => e q.symm)] at hz
        exact h.done j z hz
    · by_cases e : j = k
      · subst e
        rw [List.getElem?_set_self hk] at hz
        injection hz with hz
        subst hz
        have := h.bd j x hx
        simp only
        omega
      · rw [List.getElem?_set_ne (fun q => e q.symm)] at hz
        have := h.bd j z hz
        omega
    · rw [List.length_set]
      unfold Wks.setH at hz
      rcases wk_set hz with ⟨rfl, rfl⟩ | ⟨hj, hz⟩
      · exact ⟨g2, g3, hWi.ns.mono (Nat.le_refl _) (by omega)⟩
      · have := hW j z hz
        exact ⟨g4.wk hj this.rel, this.hs, this.ns.mono (Nat.le_refl _) (by omega)⟩

end Go.Proofs.YtpnkmnmchdabkaaGreat
