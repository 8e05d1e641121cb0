import Derived.Test.YtpnkmnmchdabkaaFin
import Derived.Test.YtpnkmnmchdabkaaProgSi
namespace Go.Proofs.Ytpnkmnmchdabkaa

/-- The mark of a shard, by the sink's cells. -/
def dnP (dn : List Int) (k : Nat) : Int := (dn[k * 2]?).getD 0
theorem dnP_get {dn : List Int} (h : dn.length = 32) {k : Nat} (hk : k < 16) : dn[k * 2]? = some (dnP dn k) := by
  unfold dnP
  rw [List.getElem?_eq_getElem (by omega)]
  rfl
/-- The stage that the program gives a shard, and all of them. -/
def stgV (st : List Int) (d : Int) (s : Sh) : Int := if allTwo st s.par = true then (if (!s.op && decide ((s.cnt : Int) ≤ d)) = true then 2 else 1) else 0
def stgUp (l : List Sh) (dn : Nat → Int) : Nat → List Int
  | 0 => List.replicate 16 0
  | k + 1 => match l[k]? with
    | some s => (stgUp l dn k).set k (stgV (stgUp l dn k) (dn k) s)
    | none => stgUp l dn k
theorem stgUp_len (l : List Sh) (dn : Nat → Int) (k : Nat) : (stgUp l dn k).length = 16 := by
  induction k with
  | zero => simp [stgUp]
  | succ k ih => unfold stgUp; cases l[k]? <;> simp [ih]
theorem stgUp_succ {l : List Sh} {dn : Nat → Int} {k : Nat} {s : Sh} (h : l[k]? = some s) : stgUp l dn (k + 1) = (stgUp l dn k).set k (stgV (stgUp l dn k) (dn k) s) := by
  rw [stgUp, h]
theorem stgUp_zero (l : List Sh) (dn : Nat → Int) : ∀ k j, k ≤ j → j < 16 → (stgUp l dn k)[j]? = some 0 := by
  intro k
  induction k with
  | zero => intro j _ hj; rw [stgUp, List.getElem?_replicate, if_pos hj]
  | succ k ih =>
    intro j hkj hj
    unfold stgUp
    cases l[k]? with
    | none => exact ih j (by omega) hj
    | some s => rw [List.getElem?_set_ne (by omega)]; exact ih j (by omega) hj
/-- The stage by the document. -/
def stg (l : List Sh) (dn : Nat → Int) (k : Nat) : Int := if rdy l dn k = true then (if fin l dn k = true then 2 else 1) else 0
theorem stg_two {l : List Sh} (hI : Inv l) {dn : Nat → Int} {k : Nat} {s : Sh} (hk : l[k]? = some s) : stg l dn k = 2 ↔ fin l dn k = true := by
  have := fin_is hI dn hk
  unfold stg
  by_cases hr : rdy l dn k = true
  · rw [if_pos hr]
    by_cases hf : fin l dn k = true
    · simp [hf]
    · simp [hf]
  · rw [if_neg hr]
    have hf : fin l dn k = false := by rw [this]; simp [hr]
    simp [hf]

theorem stgUp_is {l : List Sh} (hI : Inv l) (dn : Nat → Int) (hd : ∀ k s, l[k]? = some s → dn k ≤ s.cnt) : ∀ n, n ≤ l.length → (∀ k, k < n → (stgUp l dn n)[k]? = some (stg l dn k)) ∧ (∀ k, n ≤ k → k < 16 → (stgUp l dn n)[k]? = some 0) := by
  have h16 := hI.len
  intro n
  induction n with
  | zero =>
    intro _
    refine ⟨fun k hk => by omega, fun k _ hk => ?_⟩
    rw [stgUp, List.getElem?_replicate, if_pos hk]
  | succ n ih =>
    intro hn
    obtain ⟨ih1, ih2⟩ := ih (by omega)
    have hs : l[n]? = some l[n] := List.getElem?_eq_getElem (by omega)
    generalize l[n] = s at hs
    have hlen := stgUp_len l dn n
    rw [stgUp_succ hs]
    refine ⟨fun k hk => ?_, fun k hk1 hk2 => ?_⟩
    · by_cases he : k = n
      · subst he
        rw [List.getElem?_set_self (by omega)]
        congr 1
        have hall : allTwo (stgUp l dn k) s.par = rdy l dn k := by
          rw [rdy_is dn hs]
          unfold allTwo
          refine all_same fun p hp => ?_
          obtain ⟨q, t, rfl, hq, hqt⟩ := hI.parR k s hs p hp
          have ht : l[q]? = some l[q] := List.getElem?_eq_getElem (by omega)
          rw [show ((q : Int)).toNat = q by omega, ih1 q hq]
          have := stg_two hI (dn := dn) ht
          by_cases hf : fin l dn q = true
          · simp [this.2 hf, hf]
          · have h2 : stg l dn q ≠ 2 := fun e => hf (this.1 e)
            simp [h2, hf]
        have hfin := fin_is hI dn hs
        have hle := hd k s hs
        unfold stgV stg
        rw [hall, hfin]
        by_cases hr : rdy l dn k = true
        · rw [if_pos hr, if_pos hr, hr, Bool.true_and]
          have : decide ((s.cnt : Int) ≤ dn k) = decide (dn k = s.cnt) := by
            by_cases he : dn k = s.cnt
            · simp [he]
            · have : ¬ ((s.cnt : Int) ≤ dn k) := by omega
              simp [he, this]
          rw [this]
        · rw [if_neg hr, if_neg hr]
      · rw [List.getElem?_set_ne (by omega)]
        exact ih1 k (by omega)
    · rw [List.getElem?_set_ne (by omega)]
      exact ih2 k (by omega) hk2

end Go.Proofs.Ytpnkmnmchdabkaa
