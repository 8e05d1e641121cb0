import Derived.Test.YtpnkmnmchdabkaaInv
namespace Go.Proofs.Ytpnkmnmchdabkaa

/-- Finished, with so much fuel; all its parents are. -/
def finB (l : List Sh) (dn : Nat → Int) : Nat → Nat → Bool
  | 0, _ => false
  | f + 1, k => match l[k]? with
    | none => false
    | some s => s.par.all (fun p => finB l dn f p.toNat) && (!s.op && decide (dn k = s.cnt))
/-- Finished; ready. -/
def fin (l : List Sh) (dn : Nat → Int) (k : Nat) : Bool := finB l dn (k + 1) k
def rdy (l : List Sh) (dn : Nat → Int) (k : Nat) : Bool := match l[k]? with
  | none => true
  | some s => s.par.all (fun p => fin l dn p.toNat)

theorem all_same {l : List Int} {f g : Int → Bool} (h : ∀ p ∈ l, f p = g p) : l.all f = l.all g := by
  induction l with
  | nil => rfl
  | cons p r ih =>
    simp only [List.all_cons]
    rw [h p (by simp), ih (fun q hq => h q (by simp [hq]))]

theorem finB_fuel {l : List Sh} (hI : Inv l) (dn : Nat → Int) : ∀ (k f : Nat), k < f → finB l dn f k = finB l dn (k + 1) k := by
  intro k
  induction k using Nat.strongRecOn with
  | ind k ih =>
    intro f hf
    cases f with
    | zero => omega
    | succ f =>
      cases hk : l[k]? with
      | none => simp only [finB, hk]
      | some s =>
        simp only [finB, hk]
        congr 1
        have : ∀ p ∈ s.par, finB l dn f p.toNat = finB l dn k p.toNat := by
          intro p hp
          obtain ⟨q, t, rfl, hq, _⟩ := hI.parR k s hk p hp
          rw [show ((q : Int)).toNat = q by omega, ih q hq f (by omega), ih q hq k hq]
        exact all_same this

theorem fin_is {l : List Sh} (hI : Inv l) (dn : Nat → Int) {k : Nat} {s : Sh} (hk : l[k]? = some s) : fin l dn k = (rdy l dn k && (!s.op && decide (dn k = s.cnt))) := by
  unfold fin rdy
  simp only [finB, hk]
  congr 1
  have : ∀ p ∈ s.par, finB l dn k p.toNat = fin l dn p.toNat := by
    intro p hp
    obtain ⟨q, t, rfl, hq, _⟩ := hI.parR k s hk p hp
    rw [show ((q : Int)).toNat = q by omega]
    exact finB_fuel hI dn q k hq
  exact all_same this

theorem rdy_is {l : List Sh} (dn : Nat → Int) {k : Nat} {s : Sh} (hk : l[k]? = some s) : rdy l dn k = s.par.all (fun p => fin l dn p.toNat) := by
  unfold rdy; simp only [hk]

end Go.Proofs.Ytpnkmnmchdabkaa
