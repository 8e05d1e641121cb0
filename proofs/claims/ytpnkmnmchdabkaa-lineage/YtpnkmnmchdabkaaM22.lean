import Derived.Test.YtpnkmnmchdabkaaOwn
import Derived.Test.YtpnkmnmchdabkaaM10
import Derived.Test.YtpnkmnmchdabkaaM13
namespace Go.Proofs.Ytpnkmnmchdabkaa
open Go.RowKit

/-- A hold is written anew, of the same epoch. -/
theorem Ow.rehold {B n : Nat} {Cb : Int} {l : List Sh} {dn : List Int} {ls : List Le} {P : List Pl} (h : Ow B n Cb l dn ls P) (i k : Nat) (hi : i < n) (hk : k < 16) (p : Pl) (hp : P[i * 16 + k]? = some p) (hh : p.held = true) (p' : Pl)
    (e0 : p'.h.sh = k) (e1 : p'.h.ep = p.h.ep) (a0 : 0 ≤ p'.h.at_) (a1 : p'.h.at_ ≤ dnP dn k) (b0 : 0 ≤ p'.h.bf) (b1 : p'.h.bf ≤ Cb) (ab : p'.h.at_ + p'.h.bf ≤ cn l k) : Ow B n Cb l dn ls (P.set (i * 16 + k) p') := by
  refine ⟨h.dnL, h.lsL, by rw [List.length_set]; exact h.pL, h.mr, h.le, fun j m q x hj hm hq hqh hx => ?_, fun i' j m q r hi' hj hm hq hr hqh hrh hne => ?_⟩
  · rcases plAt_set hk hm hq with ⟨rfl, rfl, rfl⟩ | ⟨_, h2⟩
    · obtain ⟨a, b, c, d, e, _, _, _, _, _, t⟩ := h.hd j m p x hi hk hp hh hx
      exact ⟨e0, b, by rw [e1]; exact c, by rw [e1]; exact d, by rw [e1]; exact e, a0, a1, b0, b1, ab, t⟩
    · exact h.hd j m q x hj hm h2 hqh hx
  · rcases plAt_set hk hm hq with ⟨rfl, rfl, rfl⟩ | ⟨_, h2⟩
    · rcases plAt_set hk hm hr with ⟨rfl, _, _⟩ | ⟨_, h3⟩
      · exact absurd rfl hne
      · rw [e1]; exact h.df i' j m p r hi' hj hm hp h3 hh hrh hne
    · rcases plAt_set hk hm hr with ⟨rfl, rfl, rfl⟩ | ⟨_, h3⟩
      · rw [e1]; exact h.df i' j m q p hi' hj hm h2 hp hqh hh hne
      · exact h.df i' j m q r hi' hj hm h2 h3 hqh hrh hne

theorem dif_small {a b : Int} (ha : 0 ≤ a ∧ a ≤ 1000) (hb : 0 ≤ b ∧ b ≤ 1000) : dif a b = a - b := dif_is ⟨ha.1, by omega⟩ ⟨hb.1, by omega⟩
theorem plus_small {a b : Int} (ha : 0 ≤ a ∧ a ≤ 1000) (hb : 0 ≤ b ∧ b ≤ 1000) : plus a b = a + b := by unfold plus; rw [IntKind.wrap_i64]; omega

/-- Fetch. -/
theorem Ow.fetch {B n : Nat} {Cb : Int} {l : List Sh} {dn : List Int} {ls : List Le} {P : List Pl} (h : Ow B n Cb l dn ls P) (hI : Inv l) (hC : 0 ≤ Cb) (i k : Nat) (hi : i < n) (hk : k < 16) (p : Pl) (hp : P[i * 16 + k]? = some p) (hh : p.held = true) :
    Ow B n Cb l dn ls (P.set (i * 16 + k) { p with held := true, h := ⟨k, p.h.ep, p.h.at_, bufV (cn l k) p.h.at_ Cb⟩ }) := by
  obtain ⟨x0, hx⟩ : ∃ x, ls[k]? = some x := ⟨ls[k]'(by rw [h.lsL]; exact hk), List.getElem?_eq_getElem _⟩
  have H := h.hd i k p _ hi hk hp hh hx
  have h32 := cn_le hI k
  have h1 := H.a0
  have h2 := H.ab
  have h3 := H.b0
  have e : dif (cn l k) p.h.at_ = (cn l k : Int) - p.h.at_ := dif_small (by omega) (by omega)
  refine h.rehold i k hi hk p hp hh _ rfl rfl H.a0 H.a1 ?_ ?_ ?_
  · show 0 ≤ bufV (cn l k) p.h.at_ Cb
    unfold bufV; rw [e]; split <;> omega
  · show bufV (cn l k) p.h.at_ Cb ≤ Cb
    unfold bufV; rw [e]; split <;> omega
  · show p.h.at_ + bufV (cn l k) p.h.at_ Cb ≤ cn l k
    unfold bufV; rw [e]; split <;> omega

theorem dnP_set {dn : List Int} (hl : dn.length = 32) {k m : Nat} (hk : k < 16) (d e : Int) : dnP (dnSet dn k d e) m = if m = k then d else dnP dn m := by
  unfold dnP dnSet
  rw [List.getElem?_set_ne (by omega)]
  by_cases h : m = k
  · subst h; rw [List.getElem?_set_self (by omega), if_pos rfl]; rfl
  · rw [List.getElem?_set_ne (by omega), if_neg h]
theorem epP_set {dn : List Int} (hl : dn.length = 32) {k m : Nat} (hk : k < 16) (d e : Int) : epP (dnSet dn k d e) m = if m = k then e else epP dn m := by
  unfold epP dnSet
  by_cases h : m = k
  · subst h; rw [List.getElem?_set_self (by rw [List.length_set]; omega), if_pos rfl]; rfl
  · rw [List.getElem?_set_ne (by omega), List.getElem?_set_ne (by omega), if_neg h]
theorem dnSet_len (dn : List Int) (k : Nat) (d e : Int) : (dnSet dn k d e).length = dn.length := by unfold dnSet; simp

/-- The sink folds what a hold has. -/
theorem Ow.fold {B n : Nat} {Cb : Int} {l : List Sh} {dn : List Int} {ls : List Le} {P : List Pl} (h : Ow B n Cb l dn ls P) (hI : Inv l) (i k : Nat) (hi : i < n) (hk : k < 16) (p : Pl) (hp : P[i * 16 + k]? = some p) (hh : p.held = true) (hb : ¬ p.h.bf = 0) (ha : p.h.at_ = dnP dn k) (he : epP dn k ≤ p.h.ep) :
    Ow B n Cb l (dnSet dn k (plus (dnP dn k) p.h.bf) p.h.ep) ls P ∧ plus (dnP dn k) p.h.bf = dnP dn k + p.h.bf := by
  obtain ⟨x0, hx⟩ : ∃ x, ls[k]? = some x := ⟨ls[k]'(by rw [h.lsL]; exact hk), List.getElem?_eq_getElem _⟩
  have H := h.hd i k p _ hi hk hp hh hx
  have h32 := cn_le hI k
  have h1 := H.a0
  have h2 := H.ab
  have h3 := H.b0
  have hE := H.e1
  have e : plus (dnP dn k) p.h.bf = dnP dn k + p.h.bf := plus_small (by omega) (by omega)
  rw [e]
  refine ⟨?_, rfl⟩
  generalize hdd : dnSet dn k (dnP dn k + p.h.bf) p.h.ep = dd
  have D : ∀ m, dnP dd m = if m = k then dnP dn k + p.h.bf else dnP dn m := fun m => by rw [← hdd]; exact dnP_set h.dnL hk _ _
  have E : ∀ m, epP dd m = if m = k then p.h.ep else epP dn m := fun m => by rw [← hdd]; exact epP_set h.dnL hk _ _
  have hfix : ∀ (m : Nat) (s : Sh), l[m]? = some s → dnP dn m = s.cnt → dnP dd m = dnP dn m := by
    intro m s hm hc
    rw [D]
    split
    · rename_i e9
      subst e9
      have := cn_is hm
      omega
    · rfl
  have hge : ∀ m, dnP dn m ≤ dnP dd m := by
    intro m
    rw [D]
    split
    · rename_i e9; subst e9; omega
    · omega
  have hrd : ∀ m, m < l.length → rdy l (dnP dn) m = true → rdy l (dnP dd) m = true := fun m hm => rdy_adv hI hI (Adv.refl l) hfix hm
  refine ⟨by rw [← hdd, dnSet_len]; exact h.dnL, h.lsL, h.pL, fun m hm => ?_, fun m x hx1 => ?_, fun j m q x hj hm hq hqh hx => ?_, h.df⟩
  · obtain ⟨a, b, c, d, f⟩ := h.mr m hm
    by_cases e9 : m = k
    · subst e9
      rw [D, E, if_pos rfl, if_pos rfl]
      exact ⟨by omega, by omega, by omega, by omega, fun _ => hrd m H.lt H.rd⟩
    · rw [D, E, if_neg e9, if_neg e9]
      refine ⟨a, b, c, d, fun h0 => hrd m ?_ (f h0)⟩
      by_cases hlt : m < l.length
      · exact hlt
      · have : cn l m = 0 := by unfold cn; rw [List.getElem?_eq_none (by omega)]
        omega
  · obtain ⟨a, b, c, d, f, g, o⟩ := h.le m x hx1
    refine ⟨a, b, ?_, d, f, g, fun h1 h2 => fin_adv hI hI (Adv.refl l) hfix m (o h1 h2)⟩
    rw [E]
    split
    · rename_i e9
      subst e9
      exact (h.hd i m p x hi hk hp hh hx1).e2
    · exact c
  · obtain ⟨a, b, c, d, f, g, o, q1, q2, r, t⟩ := h.hd j m q x hj hm hq hqh hx
    exact ⟨a, b, c, d, f, g, by have := hge m; omega, q1, q2, r, hrd m b t⟩

theorem Gro.fold {dn0 dn : List Int} {l0 l : List Sh} {B n : Nat} {Cb : Int} {ls : List Le} {P : List Pl} (hg : Gro dn0 l0 dn l) (h : Ow B n Cb l dn ls P) (hI : Inv l) (i k : Nat) (hi : i < n) (hk : k < 16) (p : Pl) (hp : P[i * 16 + k]? = some p) (hh : p.held = true) (hb : ¬ p.h.bf = 0) (ha : p.h.at_ = dnP dn k) (he : epP dn k ≤ p.h.ep) :
    Gro dn0 l0 (dnSet dn k (plus (dnP dn k) p.h.bf) p.h.ep) l := by
  obtain ⟨x0, hx⟩ : ∃ x, ls[k]? = some x := ⟨ls[k]'(by rw [h.lsL]; exact hk), List.getElem?_eq_getElem _⟩
  have H := h.hd i k p _ hi hk hp hh hx
  have h3 := H.b0
  rw [(h.fold hI i k hi hk p hp hh hb ha he).2]
  refine ⟨hg.1, fun m => ?_⟩
  obtain ⟨a, b⟩ := hg.2 m
  rw [dnP_set h.dnL hk, epP_set h.dnL hk]
  by_cases e : m = k
  · subst e; rw [if_pos rfl, if_pos rfl]; omega
  · rw [if_neg e, if_neg e]; exact ⟨a, b⟩

/-- Commit: what the sink and the worker's memory are then. -/
theorem Ow.commit {B n : Nat} {Cb : Int} {l : List Sh} {now : Rest} {ls : List Le} {P : List Pl} (h : Ow B n Cb l now.dn ls P) (hI : Inv l) (hC : 0 ≤ Cb) (i k : Nat) (hi : i < n) (hk : k < 16) (p : Pl) (hp : P[i * 16 + k]? = some p) (hh : p.held = true) (hb : ¬ p.h.bf = 0) (lost : Bool) :
    Ow B n Cb l (now.fold k p.h.ep p.h.at_ p.h.bf).dn ls (if lost = true then P else heardP (folds now.dn k p.h.ep p.h.at_) i k p P) := by
  obtain ⟨x0, hx⟩ : ∃ x, ls[k]? = some x := ⟨ls[k]'(by rw [h.lsL]; exact hk), List.getElem?_eq_getElem _⟩
  have H := h.hd i k p _ hi hk hp hh hx
  have h32 := cn_le hI k
  have h1 := H.a0
  have h2 := H.ab
  have h3 := H.b0
  unfold Rest.fold heardP
  by_cases hf : folds now.dn k p.h.ep p.h.at_ = true
  · have hf' := hf
    unfold folds at hf'
    simp only [decide_eq_true_eq] at hf'
    obtain ⟨f1, f2⟩ := hf'
    obtain ⟨q, e⟩ := h.fold hI i k hi hk p hp hh hb f2 f1
    rw [if_pos hf, if_pos hf]
    cases lost with
    | true => rw [if_pos rfl]; exact q
    | false =>
      rw [if_neg (by simp)]
      have e2 : plus p.h.at_ p.h.bf = p.h.at_ + p.h.bf := plus_small (by omega) (by omega)
      refine q.rehold i k hi hk p hp hh _ rfl rfl ?_ ?_ (Int.le_refl _) hC ?_
      · show 0 ≤ plus p.h.at_ p.h.bf
        omega
      · show plus p.h.at_ p.h.bf ≤ _
        rw [dnP_set h.dnL hk, if_pos rfl, f2]
        exact Int.le_refl _
      · show plus p.h.at_ p.h.bf + 0 ≤ _
        omega
  · rw [if_neg hf, if_neg hf]
    cases lost with
    | true => rw [if_pos rfl]; exact h
    | false => rw [if_neg (by simp)]; exact h.drop i k hk _ rfl

theorem Gro.commit {dn0 : List Int} {l0 l : List Sh} {now : Rest} {B n : Nat} {Cb : Int} {ls : List Le} {P : List Pl} (hg : Gro dn0 l0 now.dn l) (h : Ow B n Cb l now.dn ls P) (hI : Inv l) (i k : Nat) (hi : i < n) (hk : k < 16) (p : Pl) (hp : P[i * 16 + k]? = some p) (hh : p.held = true) (hb : ¬ p.h.bf = 0) :
    Gro dn0 l0 (now.fold k p.h.ep p.h.at_ p.h.bf).dn l := by
  unfold Rest.fold
  by_cases hf : folds now.dn k p.h.ep p.h.at_ = true
  · rw [if_pos hf]
    unfold folds at hf
    simp only [decide_eq_true_eq] at hf
    exact hg.fold h hI i k hi hk p hp hh hb hf.2 hf.1
  · rw [if_neg hf]; exact hg

theorem inc_big {x : Int} (h : 0 ≤ x ∧ x < 9223372036854775807) : inc x = x + 1 := by unfold inc; rw [IntKind.wrap_i64]; omega

/-- A worker takes a shard. -/
theorem Ow.give {B n : Nat} {Cb : Int} {l : List Sh} {dn : List Int} {ls : List Le} {P : List Pl} (h : Ow B n Cb l dn ls P) (ht : Tight B n ls P) (hn : n ≤ 4) (hB : B ≤ 9223372036854775807) (hC : 0 ≤ Cb) (i k : Nat) (hi : i < n) (hk : k < l.length) (hk16 : k < 16) (p : Pl) (hp : P[i * 16 + k]? = some p) (hh : p.held = false) (hr : rdy l (dnP dn) k = true) :
    Ow (B + 1) n Cb l dn (giveLs i k ls) (giveP (dnP dn k) i k ls P) ∧ Tight (B + 1) n (giveLs i k ls) (giveP (dnP dn k) i k ls P) ∧ ∃ x, ls[k]? = some x ∧ inc x.e = x.e + 1 := by
  have hkl : k < ls.length := by rw [h.lsL]; exact hk16
  obtain ⟨x, hx⟩ : ∃ x, ls[k]? = some x := ⟨ls[k], List.getElem?_eq_getElem hkl⟩
  obtain ⟨a, b, c, d, f, g, o⟩ := h.le k x hx
  have hcl := hc_le P k n
  have ein : inc x.e = x.e + 1 := by
    refine inc_big ⟨a, ?_⟩
    by_cases e : x.e = B
    · have := ht k x hx e; omega
    · omega
  have el : giveLs i k ls = ls.set k ⟨i, inc x.c, x.e + 1⟩ := by unfold giveLs; rw [hx]; simp only [ein]
  have ep : giveP (dnP dn k) i k ls P = P.set (i * 16 + k) { p with held := true, h := ⟨k, x.e + 1, dnP dn k, 0⟩ } := by unfold giveP; rw [hx, hp]; simp only [ein]
  rw [el, ep]
  have ls_at : ∀ {y : Le} {m : Nat} {x' : Le}, (ls.set k y)[m]? = some x' → (m = k ∧ x' = y) ∨ (m ≠ k ∧ ls[m]? = some x') := by
    intro y m x' hm
    by_cases e : k = m
    · subst e; rw [List.getElem?_set_self hkl] at hm; injection hm with hm; exact Or.inl ⟨rfl, hm.symm⟩
    · rw [List.getElem?_set_ne e] at hm; exact Or.inr ⟨fun e9 => e e9.symm, hm⟩
  obtain ⟨m1, m2, m3, m4, m5⟩ := h.mr k hk16
  refine ⟨⟨h.dnL, by rw [List.length_set]; exact h.lsL, by rw [List.length_set]; exact h.pL, h.mr, fun m x' hm => ?_, fun j m q x' hj hm hq hqh hx' => ?_, fun i' j m q r hi' hj hm hq hr' hqh hrh hne => ?_⟩, fun m x' hm e => ?_, x, hx, ein⟩
  · rcases ls_at hm with ⟨rfl, rfl⟩ | ⟨_, hm⟩
    · exact ⟨by show 0 ≤ x.e + 1; omega, by show x.e + 1 ≤ _; omega, by show _ ≤ x.e + 1; omega, by show -1 ≤ (i : Int); omega, by show (i : Int) < n; omega, fun h9 => by omega, fun h9 => by exfalso; have : (i : Int) = -1 := h9; omega⟩
    · obtain ⟨a, b, c⟩ := h.le m x' hm
      exact ⟨a, by omega, c⟩
  · rcases plAt_set hk16 hm hq with ⟨rfl, rfl, rfl⟩ | ⟨hne, h2⟩
    · rcases ls_at hx' with ⟨_, rfl⟩ | ⟨h9, _⟩
      · exact ⟨rfl, hk, by show 1 ≤ x.e + 1; omega, Int.le_refl _, fun _ => rfl, m1, Int.le_refl _, Int.le_refl _, hC, by show dnP dn m + 0 ≤ _; omega, hr⟩
      · exact absurd rfl h9
    · rcases ls_at hx' with ⟨rfl, rfl⟩ | ⟨_, h9⟩
      · obtain ⟨a, b, c, d, f, g, o, q1, q2, r, t⟩ := h.hd j m q x hj hm h2 hqh hx
        exact ⟨a, b, c, by show q.h.ep ≤ x.e + 1; omega, fun e9 => by have : q.h.ep = x.e + 1 := e9; omega, g, o, q1, q2, r, t⟩
      · exact h.hd j m q x' hj hm h2 hqh h9
  · have bound : ∀ j q, j < n → P[j * 16 + k]? = some q → q.held = true → q.h.ep ≤ x.e := fun j q hj hq hqh => (h.hd j k q x hj hk16 hq hqh hx).e2
    rcases plAt_set hk16 hm hq with ⟨rfl, rfl, rfl⟩ | ⟨_, h2⟩
    · rcases plAt_set hk16 hm hr' with ⟨rfl, _, _⟩ | ⟨_, h3⟩
      · exact absurd rfl hne
      · have := bound j r hj h3 hrh
        show x.e + 1 ≠ r.h.ep
        omega
    · rcases plAt_set hk16 hm hr' with ⟨rfl, rfl, rfl⟩ | ⟨_, h3⟩
      · have := bound i' q hi' h2 hqh
        show q.h.ep ≠ x.e + 1
        omega
      · exact h.df i' j m q r hi' hj hm h2 h3 hqh hrh hne
  · rcases ls_at hm with ⟨rfl, rfl⟩ | ⟨_, hm⟩
    · have e' : x.e + 1 = (B : Int) + 1 := by simpa using e
      have hb := ht m x hx (by omega)
      have hlt : i * 16 + m < P.length := (List.getElem?_eq_some_iff.1 hp).1
      have := hc_give (P := P) (Q := P.set (i * 16 + m) { p with held := true, h := ⟨m, x.e + 1, dnP dn m, 0⟩ }) (k := m) (n := n) (i := i) hi (fun j hj hne => by
        unfold hol
        rw [List.getElem?_set_ne (by omega)]) (by unfold hol; rw [hp]; exact hh) (by unfold hol; rw [List.getElem?_set_self hlt])
      rw [this, hb]
    · obtain ⟨a, b, c⟩ := h.le m x' hm
      exfalso
      have e' : x'.e = (B : Int) + 1 := by simpa using e
      omega

end Go.Proofs.Ytpnkmnmchdabkaa
namespace Go.Proofs.Ytpnkmnmchdabkaa
open Go.RowKit

theorem mem_0 : memN 0 = plsCells (List.replicate (0 * 16) pl0) := by kernel_rfl
theorem mem_1 : memN 1 = plsCells (List.replicate (1 * 16) pl0) := by kernel_rfl
theorem mem_2 : memN 2 = plsCells (List.replicate (2 * 16) pl0) := by kernel_rfl
theorem mem_3 : memN 3 = plsCells (List.replicate (3 * 16) pl0) := by kernel_rfl
theorem mem_4 : memN 4 = plsCells (List.replicate (4 * 16) pl0) := by kernel_rfl
theorem plsCells_rep (n : Nat) (hn : n ≤ 4) : memN n = plsCells (List.replicate (n * 16) pl0) := by
  match n, hn with
  | 0, _ => exact mem_0
  | 1, _ => exact mem_1
  | 2, _ => exact mem_2
  | 3, _ => exact mem_3
  | 4, _ => exact mem_4

end Go.Proofs.Ytpnkmnmchdabkaa
