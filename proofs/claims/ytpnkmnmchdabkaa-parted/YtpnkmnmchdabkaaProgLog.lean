import Derived.Test.YtpnkmnmchdabkaaLeafA
import Derived.Test.YtpnkmnmchdabkaaCopy
namespace Go.Proofs.Ytpnkmnmchdabkaa
open Go.RowKit
attribute [local go_sem ↓] Go.wp_at_zero Go.wp_at_succ

set_option maxHeartbeats 400000 in
theorem logLen_any (b off n cap : Nat) (sa : Option Addr) (w : World) (c0 : w.cell? ⟨b, off, none⟩ = some (.slice sa n cap)) :
    Calls Try.prog 79 #[.pointer (some ⟨b, off, none⟩)] w fun e w' => e = .returned (.int .i64 n) ∧ w = w' := by
  go_enter Try.func79, Try.ntmps79
  go_wp2
  go_ret
  exact ⟨rfl, rfl⟩

theorem has_yes {k n : Nat} (h : k < n) : decide (0 ≤ (k : Int) ∧ (k : Int) < (n : Int)) = true := by simp; omega

set_option maxHeartbeats 1000000 in
theorem logClosed_any (b off n cap bs k : Nat) (op : Bool) (w : World) (hk : k < n) (c0 : w.cell? ⟨b, off, none⟩ = some (.slice (some ⟨bs, 0, none⟩) n cap)) (c1 : w.cell? ⟨bs, k * 5 + 2, none⟩ = some (.bool op)) :
    Calls Try.prog 107 #[.pointer (some ⟨b, off, none⟩), .int .i64 k] w fun e w' => e = .returned (.bool (!op)) ∧ w = w' := by
  go_enter Try.func107, Try.ntmps107
  go_wp2
  go_ret
  exact ⟨rfl, rfl⟩

set_option maxHeartbeats 1000000 in
theorem logCount_any (b off n cap bs k cnt rcap : Nat) (ra : Option Addr) (w : World) (hk : k < n) (c0 : w.cell? ⟨b, off, none⟩ = some (.slice (some ⟨bs, 0, none⟩) n cap)) (c1 : w.cell? ⟨bs, k * 5 + 4, none⟩ = some (.slice ra cnt rcap)) :
    Calls Try.prog 59 #[.pointer (some ⟨b, off, none⟩), .int .i64 k] w fun e w' => e = .returned (.int .i64 cnt) ∧ w = w' := by
  have HH := fun w h => hide (has_any b off n cap (some ⟨bs, 0, none⟩) k w h)
  rw [has_yes hk] at HH
  go_enter Try.func59, Try.ntmps59
  go_wp2_with (go_at_call 54; refine (unhide (HH _ ‹_›)).mono ?_; rintro e w1 ⟨rfl, rfl⟩)
  go_ret
  exact ⟨rfl, rfl⟩

set_option maxHeartbeats 1000000 in
theorem logParents_any (b off n cap bs k : Nat) (par : List Int) (pcap : Nat) (pa : Option Addr) (w : World) (hk : k < n) (hp : par.length ≤ 2) (hb : bs < w.heap.size) (c0 : w.cell? ⟨b, off, none⟩ = some (.slice (some ⟨bs, 0, none⟩) n cap)) (c1 : w.cell? ⟨bs, k * 5 + 3, none⟩ = some (.slice pa par.length pcap))
    (hpar : ∀ j (hj : j < par.length), ∃ pb, pa = some ⟨pb, 0, none⟩ ∧ pb < w.heap.size ∧ w.cell? ⟨pb, j, none⟩ = some (.int .i64 par[j])) :
    Calls Try.prog 80 #[.pointer (some ⟨b, off, none⟩), .int .i64 k] w (CopyPost w par) := by
  have HH := fun w h => hide (has_any b off n cap (some ⟨bs, 0, none⟩) k w h)
  rw [has_yes hk] at HH
  have HC := hide (copyParents_any bs (k * 5) par pcap pa w hp hb c1 hpar)
  clear hpar
  go_enter Try.func80, Try.ntmps80
  go_wp2_with (go_at_call 54; refine (unhide (HH _ ‹_›)).mono ?_; rintro e w1 ⟨rfl, rfl⟩)
  go_at_call 106
  refine (unhide HC).mono ?_
  intro e w1 hq
  obtain ⟨g, gc, rfl, q1, q2⟩ := hq
  have Q1 := hide q1
  have Q2 := hide q2
  clear q1 q2
  go_wp2
  go_ret
  exact ⟨g, gc, rfl, unhide Q1, unhide Q2⟩

end Go.Proofs.Ytpnkmnmchdabkaa
