import Derived.Test.YtpnkmnmchdabkaaM25
import Derived.Test.YtpnkmnmchdabkaaM21
import Derived.Test.YtpnkmnmchdabkaaCrew
namespace Go.Proofs.Ytpnkmnmchdabkaa
open Go.RowKit

def leD (ls : List Le) (k : Nat) : Le := (ls[k]?).getD ⟨-1, 0, 0⟩
def plD (P : List Pl) (a k : Nat) : Pl := (P[a * 16 + k]?).getD pl0
def fsOf (t : Int) (dn : List Int) (ls : List Le) (P : List Pl) : Fs := ⟨t, dnP dn, leD ls, plD P⟩
theorem leD_is {ls : List Le} {k : Nat} {x : Le} (h : ls[k]? = some x) : leD ls k = x := by unfold leD; rw [h]; rfl
theorem plD_is {P : List Pl} {a k : Nat} {p : Pl} (h : P[a * 16 + k]? = some p) : plD P a k = p := by unfold plD; rw [h]; rfl
theorem leD_at {ls : List Le} {k : Nat} (hl : ls.length = 16) (hk : k < 16) : ls[k]? = some (leD ls k) := by
  unfold leD
  rw [List.getElem?_eq_getElem (by omega)]
  rfl
theorem plD_at {P : List Pl} {n a k : Nat} (hl : P.length = n * 16) (ha : a < n) (hk : k < 16) : P[a * 16 + k]? = some (plD P a k) := by
  unfold plD
  rw [List.getElem?_eq_getElem (by omega)]
  rfl
theorem leD_set {ls : List Le} {k m : Nat} {x : Le} (hl : ls.length = 16) (hk : k < 16) : leD (ls.set k x) m = if m = k then x else leD ls m := by
  unfold leD
  by_cases e : m = k
  · subst e
    rw [List.getElem?_set_self (by omega), if_pos rfl]
    rfl
  · rw [List.getElem?_set_ne (fun h => e h.symm), if_neg e]
theorem plD_set {P : List Pl} {n i k a m : Nat} {p : Pl} (hl : P.length = n * 16) (hi : i < n) (hk : k < 16) (hm : m < 16) : plD (P.set (i * 16 + k) p) a m = if a = i ∧ m = k then p else plD P a m := by
  unfold plD
  by_cases e : a = i ∧ m = k
  · obtain ⟨rfl, rfl⟩ := e
    rw [List.getElem?_set_self (by omega), if_pos ⟨rfl, rfl⟩]
    rfl
  · rw [List.getElem?_set_ne (by omega), if_neg e]

theorem gd_of {B n : Nat} {Cb t : Int} {l : List Sh} {dn : List Int} {ls : List Le} {P : List Pl} (o : Ow B n Cb l dn ls P) (q : Nt B n t ls P) : Gd n l (fsOf t dn ls P) := by
  refine ⟨fun k hk => ⟨(o.mr k hk).1, (o.mr k hk).2.1⟩, fun a k ha hk hh => ?_, fun a k ha hk hm => ?_⟩
  · have := o.hd a k _ _ ha hk (plD_at o.pL ha hk) hh (leD_at o.lsL hk)
    exact ⟨this.lt, this.a0, this.a1⟩
  · have := q.nt a k _ _ ha hk (plD_at o.pL ha hk) hm (leD_at o.lsL hk)
    exact ⟨this.2.1, this.2.2.2⟩
theorem finS_is {B n : Nat} {Cb : Int} {l : List Sh} {dn : List Int} {ls : List Le} {P : List Pl} (o : Ow B n Cb l dn ls P) (hI : Inv l) (k : Nat) (hk : k < 16) : finS (stgUp l (dnP dn) l.length) k = fin l (dnP dn) k := by
  obtain ⟨h1, h2⟩ := o.stg hI
  unfold finS
  by_cases hlt : k < l.length
  · rw [h1 k hlt]
    have := stg_two hI (dn := dnP dn) (List.getElem?_eq_getElem hlt)
    rw [Bool.eq_iff_iff, decide_eq_true_eq]
    constructor
    · intro e
      injection e with e
      exact this.1 e
    · intro e
      rw [this.2 e]
  · rw [h2 k (by omega) hk]
    have : fin l (dnP dn) k = false := by
      unfold fin finB
      rw [List.getElem?_eq_none (by omega)]
    rw [this]
    simp

/-- Renew, shard by shard. -/
def rnl (i : Nat) (f : Bool) (x : Le) (p : Pl) : Le := if p.held = true ∧ x.o = i ∧ x.e = p.h.ep then (if f = true then ⟨-1, inc x.c, x.e⟩ else { x with c := inc x.c }) else x
def rnp (i : Nat) (f : Bool) (x : Le) (p : Pl) : Pl := if p.held = true ∧ ¬ (x.o = i ∧ x.e = p.h.ep ∧ f = false) then dropped p else p
theorem set_self {α : Type} {l : List α} {k : Nat} {x : α} (h : l[k]? = some x) : l.set k x = l := by
  obtain ⟨h1, rfl⟩ := List.getElem?_eq_some_iff.1 h
  exact List.set_getElem_self h1
theorem rhLs_is {i k : Nat} {f : Bool} {ls : List Le} {P : List Pl} {n : Nat} (hl : ls.length = 16) (hP : P.length = n * 16) (hi : i < n) (hk : k < 16) : rhLs i k f ls P = ls.set k (rnl i f (leD ls k) (plD P i k)) := by
  unfold rhLs rnl
  rw [leD_at hl hk, plD_at hP hi hk]
  simp only
  split
  · split <;> rfl
  · exact (set_self (leD_at hl hk)).symm
theorem rhP_is {i k : Nat} {f : Bool} {ls : List Le} {P : List Pl} {n : Nat} (hl : ls.length = 16) (hP : P.length = n * 16) (hi : i < n) (hk : k < 16) : rhP i k f ls P = P.set (i * 16 + k) (rnp i f (leD ls k) (plD P i k)) := by
  unfold rhP rnp
  rw [leD_at hl hk, plD_at hP hi hk]
  simp only
  split
  · rfl
  · exact (set_self (plD_at hP hi hk)).symm
theorem rnUp_is {i : Nat} {st : List Int} {ls : List Le} {P : List Pl} {n : Nat} (hl : ls.length = 16) (hP : P.length = n * 16) (hi : i < n) : ∀ m, m ≤ 16 →
    (rnUp i st m (ls, P)).1.length = 16 ∧ (rnUp i st m (ls, P)).2.length = n * 16 ∧
    (∀ k, leD (rnUp i st m (ls, P)).1 k = if k < m then rnl i (finS st k) (leD ls k) (plD P i k) else leD ls k) ∧
    (∀ a k, k < 16 → plD (rnUp i st m (ls, P)).2 a k = if a = i ∧ k < m then rnp i (finS st k) (leD ls k) (plD P i k) else plD P a k)
  | 0, _ => ⟨hl, hP, fun k => by simp [rnUp], fun a k _ => by simp [rnUp]⟩
  | m + 1, hm => by
    obtain ⟨h1, h2, h3, h4⟩ := rnUp_is (st := st) hl hP hi m (by omega)
    have e1 : leD (rnUp i st m (ls, P)).1 m = leD ls m := by rw [h3 m, if_neg (by omega)]
    have e2 : plD (rnUp i st m (ls, P)).2 i m = plD P i m := by rw [h4 i m (by omega), if_neg (by omega)]
    have e3 : (rnUp i st (m + 1) (ls, P)).1 = (rnUp i st m (ls, P)).1.set m (rnl i (finS st m) (leD ls m) (plD P i m)) := by
      rw [rnUp]
      show rhLs i m (finS st m) _ _ = _
      rw [rhLs_is h1 h2 hi (by omega), e1, e2]
    have e4 : (rnUp i st (m + 1) (ls, P)).2 = (rnUp i st m (ls, P)).2.set (i * 16 + m) (rnp i (finS st m) (leD ls m) (plD P i m)) := by
      rw [rnUp]
      show rhP i m (finS st m) _ _ = _
      rw [rhP_is h1 h2 hi (by omega), e1, e2]
    refine ⟨by rw [e3, List.length_set]; exact h1, by rw [e4, List.length_set]; exact h2, fun k => ?_, fun a k hk => ?_⟩
    · rw [e3, leD_set h1 (by omega)]
      by_cases e : k = m
      · subst e; rw [if_pos rfl, if_pos (by omega)]
      · rw [if_neg e, h3 k]
        by_cases e5 : k < m
        · rw [if_pos e5, if_pos (by omega)]
        · rw [if_neg e5, if_neg (by omega)]
    · rw [e4, plD_set h2 hi (by omega) hk]
      by_cases e : a = i ∧ k = m
      · obtain ⟨rfl, rfl⟩ := e
        rw [if_pos ⟨rfl, rfl⟩, if_pos ⟨rfl, by omega⟩]
      · rw [if_neg e, h4 a k hk]
        by_cases e5 : a = i ∧ k < m
        · rw [if_pos e5, if_pos ⟨e5.1, by omega⟩]
        · rw [if_neg e5, if_neg (by omega)]
theorem rn_of {B n : Nat} {Cb t : Int} {l : List Sh} {dn : List Int} {ls : List Le} {P : List Pl} (hI : Inv l) (o : Ow B n Cb l dn ls P) (q : Nt B n t ls P) (hB : B ≤ 1000000000000000) (i : Nat) (hi : i < n) :
    Rn i (fun k => fin l (dnP dn) k) (fsOf t dn ls P) (fsOf t dn (rnUp i (stgUp l (dnP dn) l.length) 16 (ls, P)).1 (rnUp i (stgUp l (dnP dn) l.length) 16 (ls, P)).2) := by
  obtain ⟨_, _, h3, h4⟩ := rnUp_is (st := stgUp l (dnP dn) l.length) o.lsL o.pL hi 16 (Nat.le_refl _)
  generalize rnUp i (stgUp l (dnP dn) l.length) 16 (ls, P) = z at *
  have hinc : ∀ k, k < 16 → inc (leD ls k).c = (leD ls k).c + 1 := fun k hk => by
    have := q.c0 k _ (leD_at o.lsL hk)
    exact inc_big ⟨this.1, by omega⟩
  have hf : ∀ k, k < 16 → finS (stgUp l (dnP dn) l.length) k = fin l (dnP dn) k := fun k hk => finS_is o hI k hk
  refine ⟨rfl, rfl, fun k hk hm => ?_, fun k hk hm => ?_, fun a k hk ha => ?_, fun k hk => ?_, fun k hk hm hfi => ?_, fun k hk hm => ?_⟩
  · have hm' : (plD P i k).held = true ∧ (leD ls k).o = i ∧ (leD ls k).e = (plD P i k).h.ep := hm
    show leD z.1 k = _
    rw [h3 k, if_pos hk, rnl, if_pos hm', hf k hk, hinc k hk]
    rfl
  · have hm' : ¬ ((plD P i k).held = true ∧ (leD ls k).o = i ∧ (leD ls k).e = (plD P i k).h.ep) := hm
    show leD z.1 k = leD ls k
    rw [h3 k, if_pos hk, rnl, if_neg hm']
  · show plD _ a k = plD P a k
    rw [h4 a k hk, if_neg (fun e => ha e.1)]
  · show (plD z.2 i k).made = (plD P i k).made ∧ (plD z.2 i k).c = (plD P i k).c ∧ (plD z.2 i k).s = (plD P i k).s
    rw [h4 i k hk, if_pos ⟨rfl, hk⟩]
    unfold rnp
    split <;> exact ⟨rfl, rfl, rfl⟩
  · show (plD _ i k).held = true ∧ (plD _ i k).h = (plD P i k).h
    rw [h4 i k hk, if_pos ⟨rfl, hk⟩, rnp, if_neg (fun e => e.2 ⟨hm.2.1, hm.2.2, by rw [hf k hk]; exact hfi⟩)]
    exact ⟨hm.1, rfl⟩
  · show (plD _ i k).held = false
    rw [h4 i k hk, if_pos ⟨rfl, hk⟩, rnp]
    by_cases hh : (plD P i k).held = true
    · rw [if_pos ⟨hh, fun e => hm ⟨⟨hh, e.1, e.2.1⟩, by rw [← hf k hk]; exact e.2.2⟩⟩]
      rfl
    · rw [if_neg (fun e => hh e.1)]
      simpa using hh

/-- The notes, shard by shard. -/
theorem notesP_is {ls : List Le} {t : Int} {i : Nat} {P : List Pl} {n : Nat} (hl : ls.length = 16) (hP : P.length = n * 16) (hi : i < n) : ∀ m, m ≤ 16 →
    (notesP ls t i m P).length = n * 16 ∧ ∀ a k, k < 16 → plD (notesP ls t i m P) a k = if a = i ∧ k < m then noted (plD P i k) (leD ls k).c t else plD P a k
  | 0, _ => ⟨hP, fun a k _ => by simp [notesP]⟩
  | m + 1, hm => by
    obtain ⟨h1, h2⟩ := notesP_is (t := t) hl hP hi m (by omega)
    have e2 : plD (notesP ls t i m P) i m = plD P i m := by rw [h2 i m (by omega), if_neg (by omega)]
    have e3 : notesP ls t i (m + 1) P = (notesP ls t i m P).set (i * 16 + m) (noted (plD P i m) (leD ls m).c t) := by
      rw [notesP, leD_at hl (show m < 16 by omega), plD_at h1 hi (show m < 16 by omega), e2]
    refine ⟨by rw [e3, List.length_set]; exact h1, fun a k hk => ?_⟩
    rw [e3, plD_set h1 hi (by omega) hk]
    by_cases e : a = i ∧ k = m
    · obtain ⟨rfl, rfl⟩ := e
      rw [if_pos ⟨rfl, rfl⟩, if_pos ⟨rfl, by omega⟩]
    · rw [if_neg e, h2 a k hk]
      by_cases e5 : a = i ∧ k < m
      · rw [if_pos e5, if_pos ⟨e5.1, by omega⟩]
      · rw [if_neg e5, if_neg (by omega)]
theorem noted_is (p : Pl) (c t : Int) : (noted p c t).made = true ∧ (noted p c t).c = c ∧ (noted p c t).s = (if p.made = true ∧ p.c = c then p.s else t) ∧ (noted p c t).held = p.held ∧ (noted p c t).h = p.h := by
  unfold noted
  split
  · rename_i h
    exact ⟨h.1, h.2, rfl, rfl, rfl⟩
  · exact ⟨rfl, rfl, rfl, rfl, rfl⟩
theorem tk_of {B n : Nat} {Cb t L : Int} {l : List Sh} {dn : List Int} {ls : List Le} {P : List Pl} {r : Option Nat} (hI : Inv l) (o : Ow B n Cb l dn ls P) (q : Nt B n t ls P) (hB : B ≤ 1000000000000000) (i : Nat) (hi : i < n)
    (hr : TakeIs (mayP (stgUp l (dnP dn) l.length) ls (notesP ls t i l.length P) t L i) r) :
    Tk i l.length (fsOf t dn ls P) (fsOf t dn (takeLs i ls r) (takeP (dnP dn) i ls (notesP ls t i l.length P) r)) r ∧ TkI i L l (fsOf t dn ls P) r := by
  have h16 := hI.len
  obtain ⟨h1, h2⟩ := notesP_is (t := t) o.lsL o.pL hi l.length h16
  have hinc : ∀ k, k < 16 → inc (leD ls k).c = (leD ls k).c + 1 ∧ inc (leD ls k).e = (leD ls k).e + 1 := fun k hk => by
    have a := q.c0 k _ (leD_at o.lsL hk)
    have b := o.le k _ (leD_at o.lsL hk)
    exact ⟨inc_big ⟨a.1, by omega⟩, inc_big ⟨b.1, by omega⟩⟩
  have hdif : ∀ k, k < 16 → ∀ s : Int, 0 ≤ s → s ≤ t → dif t s = t - s := fun k hk s a b => by
    have := q.t0
    unfold dif
    rw [IntKind.wrap_i64]
    omega
  have eN : ∀ k, k < l.length → plD (notesP ls t i l.length P) i k = noted (plD P i k) (leD ls k).c t := fun k hk => by rw [h2 i k (by omega), if_pos ⟨rfl, hk⟩]
  have hsr : ∀ k, k < l.length → 0 ≤ (noted (plD P i k) (leD ls k).c t).s ∧ (noted (plD P i k) (leD ls k).c t).s ≤ t := fun k hk => by
    rw [(noted_is _ _ _).2.2.1]
    have ht := q.t0
    split
    · rename_i hc
      have := q.nt i k _ _ hi (by omega) (plD_at o.pL hi (by omega)) hc.1 (leD_at o.lsL (by omega))
      omega
    · omega
  have hfree : ∀ k, k < l.length → (mayP (stgUp l (dnP dn) l.length) ls (notesP ls t i l.length P) t L i k = true ↔ ((stgUp l (dnP dn) l.length)[k]? = some 1 ∧ (plD P i k).held = false ∧ ((leD ls k).o = -1 ∨ L ≤ t - (if (plD P i k).made = true ∧ (plD P i k).c = (leD ls k).c then (plD P i k).s else t)))) := fun k hk => by
    unfold mayP freeP
    rw [plD_at h1 hi (show k < 16 by omega), leD_at o.lsL (show k < 16 by omega), eN k hk]
    obtain ⟨n1, n2, n3, n4, n5⟩ := noted_is (plD P i k) (leD ls k).c t
    obtain ⟨m1, m2⟩ := hsr k hk
    simp only [n1, n2, n4, Bool.true_and, decide_true, Bool.and_eq_true, Bool.or_eq_true, decide_eq_true_eq, Bool.not_eq_true']
    rw [hdif k (by omega) _ m1 m2, n3]
    constructor
    · rintro ⟨⟨a, b⟩, c⟩; exact ⟨a, b, c⟩
    · rintro ⟨a, b, c⟩; exact ⟨⟨a, b⟩, c⟩
  cases r with
  | none =>
    refine ⟨⟨rfl, rfl, fun k hk => by simp; rfl, fun a k hk ha => ?_, fun k hk => ?_, fun k hk1 hk2 => ?_, fun k hk _ => ?_, fun k hk e => by cases e⟩, ?_⟩
    · show plD (notesP ls t i l.length P) a k = plD P a k
      rw [h2 a k hk, if_neg (fun e => ha e.1)]
    · show (plD (notesP ls t i l.length P) i k).made = true ∧ (plD (notesP ls t i l.length P) i k).c = _ ∧ (plD (notesP ls t i l.length P) i k).s = _
      rw [eN k hk]
      obtain ⟨n1, n2, n3, _⟩ := noted_is (plD P i k) (leD ls k).c t
      exact ⟨n1, n2, n3⟩
    · show plD (notesP ls t i l.length P) i k = plD P i k
      rw [h2 i k hk2, if_neg (by omega)]
    · show (plD (notesP ls t i l.length P) i k).held = _ ∧ (plD (notesP ls t i l.length P) i k).h = _
      by_cases e : k < l.length
      · rw [eN k e]
        obtain ⟨_, _, _, n4, n5⟩ := noted_is (plD P i k) (leD ls k).c t
        exact ⟨n4, n5⟩
      · rw [h2 i k hk, if_neg (by omega)]
        exact ⟨rfl, rfl⟩
    · intro k hk hrd hfn hh
      have h9 := hr k (by omega)
      have hst : (stgUp l (dnP dn) l.length)[k]? = some 1 := by
        rw [(o.stg hI).1 k hk]
        unfold stg
        have e1 : rdy l (dnP dn) k = true := hrd
        have e2 : fin l (dnP dn) k = false := hfn
        rw [e1, e2]
        rfl
      have hno : ¬ mayP (stgUp l (dnP dn) l.length) ls (notesP ls t i l.length P) t L i k = true := by rw [h9]; simp
      rw [hfree k hk] at hno
      refine ⟨fun e => hno ⟨hst, hh, Or.inl e⟩, fun e => hno ⟨hst, hh, Or.inr e⟩⟩
  | some m =>
    obtain ⟨hm16, hmay, _⟩ := hr
    obtain ⟨p9, hp9, _, hst⟩ := may_is hmay
    obtain ⟨hml, hrd, hfn⟩ := o.one hI m hm16 hst
    have hf := (hfree m hml).1 hmay
    have eg : takeLs i ls (some m) = ls.set m ⟨i, (leD ls m).c + 1, (leD ls m).e + 1⟩ := by
      unfold takeLs giveLs
      simp only
      rw [leD_at o.lsL hm16]
      show ls.set m ⟨i, inc (leD ls m).c, inc (leD ls m).e⟩ = _
      rw [(hinc m hm16).1, (hinc m hm16).2]
    have ep : takeP (dnP dn) i ls (notesP ls t i l.length P) (some m) = (notesP ls t i l.length P).set (i * 16 + m) { noted (plD P i m) (leD ls m).c t with held := true, h := ⟨m, (leD ls m).e + 1, dnP dn m, 0⟩ } := by
      unfold takeP giveP
      simp only
      rw [leD_at o.lsL hm16, plD_at h1 hi hm16, eN m hml]
      show (notesP ls t i l.length P).set (i * 16 + m) { noted (plD P i m) (leD ls m).c t with held := true, h := ⟨m, inc (leD ls m).e, dnP dn m, 0⟩ } = _
      rw [(hinc m hm16).2]
    rw [eg, ep]
    have ef : ∀ a k, k < 16 → plD ((notesP ls t i l.length P).set (i * 16 + m) { noted (plD P i m) (leD ls m).c t with held := true, h := ⟨m, (leD ls m).e + 1, dnP dn m, 0⟩ }) a k = if a = i ∧ k = m then { noted (plD P i m) (leD ls m).c t with held := true, h := ⟨m, (leD ls m).e + 1, dnP dn m, 0⟩ } else plD (notesP ls t i l.length P) a k := fun a k hk => plD_set h1 hi hm16 hk
    refine ⟨⟨rfl, rfl, fun k hk => ?_, fun a k hk ha => ?_, fun k hk => ?_, fun k hk1 hk2 => ?_, fun k hk hne => ?_, fun k hk e => ?_⟩, hml, hfn, hf.2.1, hf.2.2⟩
    · show leD (ls.set m _) k = _
      rw [leD_set o.lsL hm16]
      by_cases e : k = m
      · subst e; rw [if_pos rfl, if_pos rfl]; rfl
      · rw [if_neg e, if_neg (fun e2 => e (by injection e2 with e2; exact e2.symm))]; rfl
    · show plD _ a k = plD P a k
      rw [ef a k hk, if_neg (fun e => ha e.1), h2 a k hk, if_neg (fun e => ha e.1)]
    · obtain ⟨n1, n2, n3, _⟩ := noted_is (plD P i k) (leD ls k).c t
      show (plD _ i k).made = true ∧ (plD _ i k).c = _ ∧ (plD _ i k).s = _
      rw [ef i k (by omega)]
      by_cases e : k = m
      · subst e
        rw [if_pos ⟨rfl, rfl⟩]
        exact ⟨n1, n2, n3⟩
      · rw [if_neg (fun e2 => e e2.2), eN k hk]
        exact ⟨n1, n2, n3⟩
    · show plD _ i k = plD P i k
      rw [ef i k hk2, if_neg (by omega), h2 i k hk2, if_neg (by omega)]
    · show (plD _ i k).held = _ ∧ (plD _ i k).h = _
      rw [ef i k hk, if_neg (fun e2 => hne (by rw [e2.2]))]
      by_cases e : k < l.length
      · rw [eN k e]
        obtain ⟨_, _, _, n4, n5⟩ := noted_is (plD P i k) (leD ls k).c t
        exact ⟨n4, n5⟩
      · rw [h2 i k hk, if_neg (by omega)]
        exact ⟨rfl, rfl⟩
    · injection e with e
      subst e
      show (plD _ i m).held = true ∧ (plD _ i m).h.ep = _ ∧ (plD _ i m).h.at_ = _
      rw [ef i m hm16, if_pos ⟨rfl, rfl⟩]
      exact ⟨rfl, rfl, rfl⟩

end Go.Proofs.Ytpnkmnmchdabkaa
namespace Go.Proofs.Ytpnkmnmchdabkaa
open Go.RowKit
attribute [local go_sem ↓] Go.wp_at_zero Go.wp_at_succ

/-- A call on the group that leaves its log: the crew stands. -/
theorem Crew.lease {t t' : Bool} {B B' : Bd} {N : Nat} {w w' : World} {ρ : Nat → Nat} {cb gb : Nat} {C : Cfg} {now : Rest} {l : List Sh} {E : List En} {n : Nat} (h : Crew t B N w ρ cb gb C now l E n) (hN : N ≤ w.heap.size) (hp : LeaseP t' B' w ρ gb C l w') (hX : B'.X = B.X := by rfl) :
    ∃ now', Crew t' B' N w' ρ cb gb C now' l E n ∧ Below N w w' ∧ Keeps (mine ρ) w w' := by
  obtain ⟨now', hw, hG, hk, hf⟩ := hp
  obtain ⟨ev, h1, h2, h3⟩ := h.ent
  refine ⟨now', ⟨⟨ev, ?_, ?_, h3⟩, h.tag, hG, h.inv, hf, by rw [hX]; exact h.low.still hk (fun k _ hm => by unfold mine at hm; omega), h.cnt, h.tot, h.rng, h.val, hw⟩, hk.below hN (fun k _ hm => h.low.1 k (by unfold mine at hm; omega)), hk⟩
  · rw [hk.block cb (lt_of_heap h1) (fun hm => by unfold mine at hm; rw [h.tag] at hm; omega)]; exact h1
  · exact ownsRow_keeps h2 hk (fun k hkk hm => by unfold mine at hm; rw [h3 k hkk] at hm; omega)

/-- What works leaves. -/
def WorksPost (B : Bd) (N : Nat) (w : World) (cb gb : Nat) (C : Cfg) (l : List Sh) (E : List En) (n : Nat) (ρ : Nat → Nat) (e : Ending) (w' : World) : Prop :=
  e = .returned (.tuple #[]) ∧ ∃ now', Crew false B N w' ρ cb gb C now' l E n ∧ Below N w w'

/-- What works' loop holds. -/
def WInv (B : Bd) (N : Nat) (w : World) (cb gb : Nat) (C : Cfg) (l : List Sh) (E : List En) (n : Nat) (ρ : Nat → Nat) (va : Option Addr) (vc : Nat) (hs : List Hd) (wr : World) : Prop :=
  ∃ now', Crew false B N wr ρ cb gb C now' l E n ∧ Below N w wr ∧ w.heap.size ≤ wr.heap.size ∧ wr.ownsRow w.heap.size 75 4 (.slice va hs.length vc) hs.length (rowHd hs)

set_option maxRecDepth 100000 in
set_option maxHeartbeats 2000000 in
theorem works_any {t : Bool} {B : Bd} {N : Nat} {w : World} {ρ : Nat → Nat} {cb gb : Nat} {C : Cfg} {now : Rest} {l : List Sh} {E : List En} {n : Nat} (h : Crew t B N w ρ cb gb C now l E n) (hN : N ≤ w.heap.size) (i : Nat) (hi : (i : Int) < C.a) :
    Calls Try.prog 32 #[.pointer (some ⟨cb, 0, none⟩), .int .i64 i] w (WorksPost B N w cb gb C l E n ρ) := by
  have H1 := hide (kHolds h.grp h.fits h.inv h.wok i hi)
  have H2 : Hid (∀ W now' (k : Nat), k < l.length → Crew false B N W ρ cb gb C now' l E n → Calls Try.prog 30 #[.pointer (some ⟨gb, 0, none⟩), .int .i64 i, .int .i64 k] W fun e w' => (∃ a b : Int, e = .returned (.tuple #[.int .i64 a, .int .i64 b])) ∧ LeaseP false B W ρ gb C l w') := fun W now' k hk hW => kFetchL hW.grp hW.fits hW.inv hW.wok i hi k hk
  have H3 : Hid (∀ W now' (k : Nat), k < l.length → Crew false B N W ρ cb gb C now' l E n → Calls Try.prog 31 #[.pointer (some ⟨gb, 0, none⟩), .int .i64 i, .int .i64 k, .bool false] W fun e w' => (∃ a : Int, e = .returned (.int .i64 a)) ∧ LeaseP false B W ρ gb C l w') := fun W now' k hk hW => kCommitL hW.grp hW.fits hW.inv hW.wok i hi k hk false
  have H4 : Hid (∀ W now', Crew false B N W ρ cb gb C now' l E n → W.cell? ⟨cb, 6, none⟩ = some (.pointer (some ⟨gb, 0, none⟩)) ∧ cb < W.heap.size) := fun W now' hW => by
    obtain ⟨ea, ecap, _, c6, _, _, _, hcb, _⟩ := crew_cells hW.ent2
    exact ⟨c6, hcb⟩
  have hFit := hide h.fits
  have hTag := hide h.tag
  obtain ⟨c6, _⟩ := unhide H4 _ _ h.loose
  have HC := hide h.loose
  clear h
  go_enter Try.func32, Try.ntmps32
  go_wp2_with fail
  refine (unhide H1).mono ?_
  intro e w1 hq
  obtain ⟨v, hs, rfl, hl16, hin, hrow, hb⟩ := hq
  obtain ⟨va, vc, rfl⟩ := ownsRow_len hrow
  have HCr := hide ((unhide HC).below hb)
  have HB := hide (hb.mono hN)
  have hsz := hb.size
  have HR := hide hrow
  have HIn := hide hin
  clear hb hrow hin c6
  go_wp2
  go_loopw [6] (fun q wr => ∃ j : Nat, j ≤ hs.length ∧ q = .int .i64 j ∧ WInv B N w cb gb C l E n ρ va vc hs wr) (fun q _ => hs.length - (intOf q).toNat)
  case atStart => exact ⟨0, Nat.zero_le _, rfl, now, unhide HCr, unhide HB, hsz, unhide HR⟩
  case round =>
    obtain ⟨j, hj, rfl, now1, hC1, hB1, hz1, hrow⟩ := hrel
    by_cases hlt : j < hs.length
    · obtain ⟨vb, vcap, vcur, hv, hvw, hvb, _⟩ := ownsRow_shape hrow (by omega)
      injection hv with e1 _ e3
      subst e1
      subst e3
      have hx : hs[j]? = some hs[j] := List.getElem?_eq_getElem hlt
      obtain ⟨k, hk, hxk⟩ := unhide HIn hs[j] (List.getElem_mem hlt)
      have cj : wr.cell? ⟨vb, j * 4, none⟩ = some (.int .i64 k) := by
        have := World.ownsRow.cellAt hrow (j * 4 + 0) (by omega)
        rw [rowHd_get hs j 0 (by omega) _ hx] at this
        rw [Nat.add_zero] at this
        rw [this, ← hxk]
        rfl
      obtain ⟨c6, hcb⟩ := unhide H4 _ _ hC1
      have hvl := lt_of_heap hvb
      have hz : Hid (¬ mine ρ vb ∧ ¬ mine ρ cb) := ⟨fun hm => by unfold mine at hm; have := unhide hFit vb hvw; omega, fun hm => by unfold mine at hm; have := unhide hTag; omega⟩
      have R1 := hide (hC1.below (Below.refl _ wr).drew)
      have HCf := hide (unhide H2 wr.drew now1 k hk (unhide R1))
      have HB1 := hide hB1.drew
      have hNr : N ≤ wr.heap.size := by omega
      have HROW := hide hrow
      have hzz := hide hz1
      clear hC1 hB1 hrow hvb hx hxk
      go_wp2_with fail
      go_region_held3 (fun w' => w'.cell? ⟨cb, 6, none⟩ = some (.pointer (some ⟨gb, 0, none⟩)) ∧ w'.cell? ⟨vb, j * 4, none⟩ = some (.int .i64 k)) (first | go_keep | trivial) ((go_at_call 30; refine (unhide HCf).mono ?_; rintro e w3 ⟨⟨a, b, rfl⟩, hp⟩; have hpk := hp.choose_spec.2.2.1; have d6 := (hpk.cell (p := ⟨cb, 6, none⟩) hcb (unhide hz).2).trans c6; have dj := (hpk.cell (p := ⟨vb, j * 4, none⟩) hvl (unhide hz).1).trans cj))
      obtain ⟨now2, hC2, hB2, hK2⟩ := (unhide R1).lease hNr hp
      have hrow2 := ownsRow_keeps (ownsRow_keeps (unhide HROW) (Keeps.drew (Keeps.refl (mine ρ) wr)) (fun q hq hm => by
        have e : vb = q := by simpa [Value.ownBlock] using hq
        subst e
        exact (unhide hz).1 hm)) hK2 (fun q hq hm => by
        have e : vb = q := by simpa [Value.ownBlock] using hq
        subst e
        exact (unhide hz).1 hm)
      have HROW2 := hide hrow2
      have HC2 := hide hC2
      have HB2 := hide ((unhide HB1).trans hB2)
      have hs2 : Hid (w.heap.size ≤ w3.heap.size) := by have := hK2.size; have := unhide hzz; unfold Hid; have h8 : wr.drew.heap.size = wr.heap.size := rfl; omega
      have hcb2 := (unhide H4 _ _ hC2).2
      have hvl2 : vb < w3.heap.size := (hrow2.lt vb rfl).2
      have hN2 : N ≤ w3.heap.size := by have := unhide hs2; omega
      clear hC2 hB2 hK2 hrow2 hp HROW HB1 R1 HCf c6 cj
      by_cases hgo : b = 0 ∧ 0 < a
      · obtain ⟨rfl, ha⟩ := hgo
        have R3 := hide ((unhide HC2).below (Below.refl _ w3).drew)
        have HCc := hide (unhide H3 w3.drew now2 k hk (unhide R3))
        go_wp2_with fail
        go_region_held3 (fun w' => w'.cell? ⟨cb, 6, none⟩ = some (.pointer (some ⟨gb, 0, none⟩)) ∧ w'.cell? ⟨vb, j * 4, none⟩ = some (.int .i64 k)) (first | go_keep | trivial) ((go_at_call 31; refine (unhide HCc).mono ?_; rintro e w4 ⟨⟨c, rfl⟩, hp4⟩; have hpk4 := hp4.choose_spec.2.2.1; have d64 := (hpk4.cell (p := ⟨cb, 6, none⟩) hcb2 (unhide hz).2).trans d6; have dj4 := (hpk4.cell (p := ⟨vb, j * 4, none⟩) hvl2 (unhide hz).1).trans dj))
        obtain ⟨now4, hC4, hB4, hK4⟩ := (unhide R3).lease hN2 hp4
        have hrow4 := hide (ownsRow_keeps (ownsRow_keeps (unhide HROW2) (Keeps.drew (Keeps.refl (mine ρ) w3)) (fun q hq hm => by
          have e : vb = q := by simpa [Value.ownBlock] using hq
          subst e
          exact (unhide hz).1 hm)) hK4 (fun q hq hm => by
          have e : vb = q := by simpa [Value.ownBlock] using hq
          subst e
          exact (unhide hz).1 hm))
        have HC4 := hide hC4
        have HB4 := hide (((unhide HB2).drew).trans hB4)
        have hs4 : Hid (w.heap.size ≤ w4.heap.size) := by have := hK4.size; have := unhide hs2; unfold Hid; have h8 : w3.drew.heap.size = w3.heap.size := rfl; omega
        clear hC4 hB4 hK4 hp4 hpk4 d64 dj4 d6 dj
        go_wp2
        go_roundw
        case rel => exact ⟨j + 1, by omega, by go_num, now4, unhide HC4, unhide HB4, unhide hs4, unhide hrow4⟩
        case measure => simp [intOf]; omega
      · clear d6 dj
        by_cases hb0 : b = 0
        · have ha : ¬ 0 < a := fun ha => hgo ⟨hb0, ha⟩
          subst hb0
          go_wp2
          go_roundw
          case rel => exact ⟨j + 1, by omega, by go_num, now2, unhide HC2, unhide HB2, unhide hs2, unhide HROW2⟩
          case measure => simp [intOf]; omega
        · go_wp2
          go_roundw
          case rel => exact ⟨j + 1, by omega, by go_num, now2, unhide HC2, unhide HB2, unhide hs2, unhide HROW2⟩
          case measure => simp [intOf]; omega
    · have e : j = hs.length := by omega
      subst e
      have HC1 := hide hC1
      have HB1 := hide hB1
      clear hC1 hB1 hrow
      go_wp2
      go_end0
      exact ⟨rfl, now1, unhide HC1, unhide HB1⟩

end Go.Proofs.Ytpnkmnmchdabkaa
