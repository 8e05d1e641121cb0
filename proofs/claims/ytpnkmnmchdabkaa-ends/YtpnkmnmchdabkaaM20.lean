import Derived.Test.YtpnkmnmchdabkaaM19
import Derived.Test.YtpnkmnmchdabkaaM10
import Derived.Test.YtpnkmnmchdabkaaM12
namespace Go.Proofs.Ytpnkmnmchdabkaa
open Go.RowKit

/-- THE TIME, THE COUNTERS AND THE NOTES ARE IN ORDER: B: none is greater. -/
structure Nt (B n : Nat) (t : Int) (ls : List Le) (P : List Pl) : Prop where
  t0 : 0 ≤ t ∧ t ≤ B
  c0 : ∀ (k : Nat) (x : Le), ls[k]? = some x → 0 ≤ x.c ∧ x.c ≤ B
  nt : ∀ (i k : Nat) (p : Pl) (x : Le), i < n → k < 16 → P[i * 16 + k]? = some p → p.made = true → ls[k]? = some x → 0 ≤ p.c ∧ p.c ≤ x.c ∧ 0 ≤ p.s ∧ p.s ≤ t
theorem Nt.up {B n : Nat} {t : Int} {ls : List Le} {P : List Pl} (h : Nt B n t ls P) : Nt (B + 1) n t ls P :=
  ⟨⟨h.t0.1, by have := h.t0.2; omega⟩, fun k x hx => ⟨(h.c0 k x hx).1, by have := (h.c0 k x hx).2; omega⟩, h.nt⟩
theorem Nt.tick {B n : Nat} {t : Int} {ls : List Le} {P : List Pl} (h : Nt B n t ls P) (hB : B ≤ 1000000000000000) : Nt (B + 1) n (wrap64 (t + 1)) ls P := by
  have e : wrap64 (t + 1) = t + 1 := by
    have := h.t0
    unfold wrap64
    omega
  rw [e]
  refine ⟨by have := h.t0; omega, fun k x hx => ⟨(h.c0 k x hx).1, by have := (h.c0 k x hx).2; omega⟩, fun i k p x hi hk hp hm hx => ?_⟩
  have := h.nt i k p x hi hk hp hm hx
  omega
/-- A place is turned, but not its note; or it has none then. -/
theorem Nt.set {B n : Nat} {t : Int} {ls : List Le} {P : List Pl} (h : Nt B n t ls P) (i k : Nat) (hk : k < 16) (p p' : Pl) (hp : P[i * 16 + k]? = some p) (he : p'.made = true → p.made = true ∧ p'.c = p.c ∧ p'.s = p.s) : Nt B n t ls (P.set (i * 16 + k) p') := by
  refine ⟨h.t0, h.c0, fun j m q x hj hm hq hqm hx => ?_⟩
  rcases plAt_set hk hm hq with ⟨rfl, rfl, rfl⟩ | ⟨_, h2⟩
  · obtain ⟨a, b, c⟩ := he hqm
    rw [b, c]
    exact h.nt j m p x hj hm hp a hx
  · exact h.nt j m q x hj hm h2 hqm hx
theorem Nt.none {B n : Nat} {t : Int} {ls : List Le} {P : List Pl} (h : Nt B n t ls P) (i k : Nat) (hk : k < 16) (p' : Pl) (he : p'.made = false) : Nt B n t ls (P.set (i * 16 + k) p') := by
  refine ⟨h.t0, h.c0, fun j m q x hj hm hq hqm hx => ?_⟩
  rcases plAt_set hk hm hq with ⟨rfl, rfl, rfl⟩ | ⟨_, h2⟩
  · rw [he] at hqm; cases hqm
  · exact h.nt j m q x hj hm h2 hqm hx
/-- A counter goes on. -/
theorem Nt.lease {B n : Nat} {t : Int} {ls : List Le} {P : List Pl} (h : Nt B n t ls P) (k : Nat) (x y : Le) (hx : ls[k]? = some x) (hc : x.c ≤ y.c ∧ y.c ≤ B) : Nt B n t (ls.set k y) P := by
  have hkl : k < ls.length := (List.getElem?_eq_some_iff.1 hx).1
  have ls_at : ∀ {m : Nat} {x' : Le}, (ls.set k y)[m]? = some x' → (m = k ∧ x' = y) ∨ ls[m]? = some x' := by
    intro m x' hm
    by_cases e : k = m
    · subst e; rw [List.getElem?_set_self hkl] at hm; injection hm with hm; exact Or.inl ⟨rfl, hm.symm⟩
    · rw [List.getElem?_set_ne e] at hm; exact Or.inr hm
  refine ⟨h.t0, fun m x' hm => ?_, fun i m p x' hi hm hp hpm hx' => ?_⟩
  · rcases ls_at hm with ⟨rfl, rfl⟩ | hm
    · have := h.c0 m x hx; omega
    · exact h.c0 m x' hm
  · rcases ls_at hx' with ⟨rfl, rfl⟩ | hx'
    · have := h.nt i m p x hi hm hp hpm hx; omega
    · exact h.nt i m p x' hi hm hp hpm hx'
theorem Nt.forget {B n : Nat} {t : Int} {ls : List Le} {P : List Pl} (h : Nt B n t ls P) (i : Nat) : ∀ k, k ≤ 16 → Nt B n t ls (forgetP P i k)
  | 0, _ => h
  | k + 1, hk => (Nt.forget h i k (by omega)).none i k (by omega) pl0 rfl
theorem Nt.notes {B n : Nat} {t : Int} {ls : List Le} {P : List Pl} (h : Nt B n t ls P) (i : Nat) : ∀ k, k ≤ 16 → Nt B n t ls (notesP ls t i k P)
  | 0, _ => h
  | k + 1, hk => by
    have ih := Nt.notes h i k (by omega)
    unfold notesP
    split
    · rename_i x p hx hp
      refine ⟨ih.t0, ih.c0, fun j m q x' hj hm hq hqm hx' => ?_⟩
      rcases plAt_set (show k < 16 by omega) hm hq with ⟨rfl, rfl, rfl⟩ | ⟨_, h2⟩
      · rw [hx] at hx'
        injection hx' with hx'
        subst hx'
        unfold noted at hqm ⊢
        split
        · rename_i hc
          rw [if_pos hc] at hqm
          exact ih.nt j m p x hj hm hp hqm hx
        · have := ih.c0 m x hx
          have := ih.t0
          show 0 ≤ x.c ∧ x.c ≤ x.c ∧ 0 ≤ t ∧ t ≤ t
          omega
      · exact ih.nt j m q x' hj hm h2 hqm hx'
    · exact ih
/-- renewHold; the counters behind are as they were. -/
theorem Nt.rh {B n : Nat} {t : Int} {ls : List Le} {P : List Pl} (h : Nt B n t ls P) (i k : Nat) (hk : k < 16) (f : Bool) (hB : B ≤ 1000000000000000) (hc : ∀ x, ls[k]? = some x → x.c < B) : Nt B n t (rhLs i k f ls P) (rhP i k f ls P) := by
  unfold rhLs rhP
  cases hx : ls[k]? with
  | none => exact h
  | some x =>
    cases hp : P[i * 16 + k]? with
    | none => exact h
    | some p =>
      simp only
      have hxc := hc x hx
      have hx0 := (h.c0 k x hx).1
      have e : inc x.c = x.c + 1 := inc_big ⟨hx0, by omega⟩
      have hd : Nt B n t ls (P.set (i * 16 + k) (dropped p)) := h.set i k hk p _ hp (fun hm => ⟨hm, rfl, rfl⟩)
      have h1 : ∀ Q, Nt B n t ls Q → Nt B n t (if p.held = true ∧ x.o = i ∧ x.e = p.h.ep then (if f = true then ls.set k ⟨-1, inc x.c, x.e⟩ else ls.set k { x with c := inc x.c }) else ls) Q := by
        intro Q hQ
        split
        · split
          · exact hQ.lease k x _ hx (by show x.c ≤ inc x.c ∧ inc x.c ≤ B; omega)
          · exact hQ.lease k x _ hx (by show x.c ≤ inc x.c ∧ inc x.c ≤ B; omega)
        · exact hQ
      refine h1 _ ?_
      split
      · exact hd
      · exact h
theorem rhLs_far {i k f} {ls : List Le} {P : List Pl} {m : Nat} (hm : m ≠ k) : (rhLs i k f ls P)[m]? = ls[m]? := by
  unfold rhLs
  split
  · split
    · split
      · exact List.getElem?_set_ne (fun e => hm e.symm)
      · exact List.getElem?_set_ne (fun e => hm e.symm)
    · rfl
  · rfl
theorem rnLs_far {i : Nat} {st : List Int} {q : List Le × List Pl} {m : Nat} : ∀ {k : Nat}, k ≤ m → (rnUp i st k q).1[m]? = q.1[m]?
  | 0, _ => rfl
  | k + 1, h => by
    rw [rnUp]
    show (rhLs i k (finS st k) (rnUp i st k q).1 (rnUp i st k q).2)[m]? = _
    rw [rhLs_far (by omega)]
    exact rnLs_far (by omega)
theorem Nt.rn {B n : Nat} {t : Int} {ls : List Le} {P : List Pl} (h : Nt B n t ls P) (i : Nat) (st : List Int) (hB : B + 1 ≤ 1000000000000000) : ∀ k, k ≤ 16 → Nt (B + 1) n t (rnUp i st k (ls, P)).1 (rnUp i st k (ls, P)).2
  | 0, _ => h.up
  | k + 1, hk => by
    have ih := Nt.rn h i st hB k (by omega)
    refine ih.rh i k (by omega) _ hB fun x hx => ?_
    rw [rnLs_far (Nat.le_refl _)] at hx
    have := (h.c0 k x hx).2
    omega
theorem Nt.give {B n : Nat} {t : Int} {ls : List Le} {P : List Pl} (h : Nt B n t ls P) (d : Int) (i k : Nat) (hk : k < 16) (hB : B + 1 ≤ 1000000000000000) : Nt (B + 1) n t (giveLs i k ls) (giveP d i k ls P) := by
  unfold giveLs giveP
  cases hx : ls[k]? with
  | none => exact h.up
  | some x =>
    have hx0 := h.c0 k x hx
    have e : inc x.c = x.c + 1 := inc_big ⟨hx0.1, by omega⟩
    cases hp : P[i * 16 + k]? with
    | none => exact h.up.lease k x ⟨i, inc x.c, inc x.e⟩ hx (by show x.c ≤ inc x.c ∧ inc x.c ≤ ((B + 1 : Nat) : Int); omega)
    | some p => exact (h.up.set i k hk p { p with held := true, h := ⟨k, inc x.e, d, 0⟩ } hp (fun hm => ⟨hm, rfl, rfl⟩)).lease k x ⟨i, inc x.c, inc x.e⟩ hx (by show x.c ≤ inc x.c ∧ inc x.c ≤ ((B + 1 : Nat) : Int); omega)

end Go.Proofs.Ytpnkmnmchdabkaa
namespace Go.Proofs.Ytpnkmnmchdabkaa
open Go.RowKit

theorem mem_0 : memN 0 = plsCells (List.replicate (0 * 16) pl0) := by kernel_rfl
theorem mem_1 : memN 1 = plsCells (List.replicate (1 * 16) pl0) := by kernel_rfl
theorem mem_2 : memN 2 = plsCells (List.replicate (2 * 16) pl0) := by kernel_rfl
theorem mem_3 : memN 3 = plsCells (List.replicate (3 * 16) pl0) := by kernel_rfl
theorem mem_4 : memN 4 = plsCells (List.replicate (4 * 16) pl0) := by kernel_rfl
theorem plsCells_rep (n : Nat) (hn : n ≤ 4) : memN n = plsCells (List.replicate (n * 16) pl0) := by
  match n, hn with
  | 0, _ => exact mem_0
  | 1, _ => exact mem_1
  | 2, _ => exact mem_2
  | 3, _ => exact mem_3
  | 4, _ => exact mem_4

end Go.Proofs.Ytpnkmnmchdabkaa
