import Derived.Test.YtpnkmnmchdabkaaCopy
namespace Go.Proofs.Ytpnkmnmchdabkaa
open Go.RowKit
attribute [local go_sem ↓] Go.wp_at_zero Go.wp_at_succ

/-- What tell leaves: a list of its own with the parents. -/
def ToldPost (w : World) (lo hi : Int) (op : Bool) (par : List Int) (cnt : Nat) (e : Ending) (w' : World) : Prop :=
  ∃ g cap, e = .returned (.agg #[.int .i64 lo, .int .i64 hi, .bool op, .slice (some ⟨g, 0, none⟩) par.length cap, .int .i64 cnt]) ∧ w'.ownsRow w.heap.size 3 1 (.slice (some ⟨g, 0, none⟩) par.length cap) par.length (par.map (Value.int .i64)) ∧ Below w.heap.size w w'

set_option maxRecDepth 100000 in
set_option maxHeartbeats 2000000 in
theorem tell_any (b o : Nat) (lo hi : Int) (op : Bool) (par : List Int) (cnt rcap pcap : Nat) (pa ra : Option Addr) (w : World) (hp : par.length ≤ 2) (hb : b < w.heap.size)
    (c0 : w.cell? ⟨b, o, none⟩ = some (.int .i64 lo)) (c1 : w.cell? ⟨b, o + 1, none⟩ = some (.int .i64 hi)) (c2 : w.cell? ⟨b, o + 2, none⟩ = some (.bool op)) (c3 : w.cell? ⟨b, o + 3, none⟩ = some (.slice pa par.length pcap)) (c4 : w.cell? ⟨b, o + 4, none⟩ = some (.slice ra cnt rcap))
    (hpar : ∀ j (hj : j < par.length), ∃ pb, pa = some ⟨pb, 0, none⟩ ∧ pb < w.heap.size ∧ w.cell? ⟨pb, j, none⟩ = some (.int .i64 par[j])) :
    Calls Try.prog 92 #[.pointer (some ⟨b, o, none⟩)] w (ToldPost w lo hi op par cnt) := by
  have HC : Hid (∀ W, Below w.heap.size w W → Calls Try.prog 106 #[.pointer (some ⟨b, o, none⟩)] W (CopyPost W par)) := fun W hB =>
    copyParents_any b o par pcap pa W hp (Nat.lt_of_lt_of_le hb hB.size) ((hB.cell (p := ⟨b, o + 3, none⟩) hb).trans c3) (fun j hj => by
      obtain ⟨pb, e1, e2, e3⟩ := hpar j hj
      exact ⟨pb, e1, Nat.lt_of_lt_of_le e2 hB.size, (hB.cell (p := ⟨pb, j, none⟩) e2).trans e3⟩)
  clear hpar c3
  go_enter Try.func92, Try.ntmps92
  go_wp2_with (go_at_call 106; refine (unhide HC _ ((Below.refl _ w).alloc (Nat.le_refl _) _)).mono ?_; rintro e wr ⟨g, cap, rfl, hown, hBr⟩)
  have hB : Below w.heap.size w wr := ((Below.refl _ w).alloc (Nat.le_refl _) _).trans (hBr.mono (by simp))
  have hR : wr.heap[w.heap.size]? = some (.cells #[.int .i64 0, .int .i64 0, .bool false, .slice none 0 0, .int .i64 0] 65 (0, 0)) := by
    rw [hBr.block _ (by simp)]; exact heap_alloc_new w _
  have hown : wr.ownsRow (w.heap.size + 1) 3 1 (.slice (some ⟨g, 0, none⟩) par.length cap) par.length (par.map (Value.int .i64)) := by simpa using hown
  have k0 := (hB.cell (p := ⟨b, o, none⟩) hb).trans c0
  have k1 := (hB.cell (p := ⟨b, o + 1, none⟩) hb).trans c1
  have k2 := (hB.cell (p := ⟨b, o + 2, none⟩) hb).trans c2
  have k4 := (hB.cell (p := ⟨b, o + 4, none⟩) hb).trans c4
  have hfr := fun i => frozen_of hR i
  have r0 := cell_of hR 0
  have r1 := cell_of hR 1
  have r2 := cell_of hR 2
  have r3 := cell_of hR 3
  have r4 := cell_of hR 4
  have hne : b ≠ w.heap.size := by omega
  have hne2 : ¬ w.heap.size = b := by omega
  have HOw := hide hown
  have HBw := hide hB
  have HRw := hide hR
  clear hown hB hR c0 c1 c2 c4 HC hBr
  go_wp2
  go_region_held3 (fun w' => w'.cell? ⟨b, o, none⟩ = some (.int .i64 lo) ∧ w'.cell? ⟨b, o + 1, none⟩ = some (.int .i64 hi) ∧ w'.cell? ⟨b, o + 2, none⟩ = some (.bool op) ∧ w'.cell? ⟨b, o + 4, none⟩ = some (.slice ra cnt rcap)) (go_keep) (fail)
  go_wp2
  have hN := set5_heap (w := wr) (unhide HRw) (.int .i64 lo) (.int .i64 hi) (.bool op) (.slice (some ⟨g, 0, none⟩) par.length cap) (.int .i64 cnt)
  have hBB := set5_below (unhide HBw) (Nat.le_refl _) (.int .i64 lo) (.int .i64 hi) (.bool op) (.slice (some ⟨g, 0, none⟩) par.length cap) (.int .i64 cnt)
  have hOO : (set5 wr w.heap.size (.int .i64 lo) (.int .i64 hi) (.bool op) (.slice (some ⟨g, 0, none⟩) par.length cap) (.int .i64 cnt)).ownsRow w.heap.size 3 1 (.slice (some ⟨g, 0, none⟩) par.length cap) par.length (par.map (Value.int .i64)) := by
    refine ownsRow_base (ownsRow_of_block (unhide HOw) fun q hq => set5_other ?_ _ _ _ _ _) (by omega)
    have := ((unhide HOw).lt q hq).1
    omega
  unfold set5 at hN hBB hOO
  generalize World.setCell _ _ _ = W8 at *
  obtain ⟨m0, m1, m2, m3, m4⟩ := load5 hN
  refine bodyPost_ret (v := .agg #[.int .i64 lo, .int .i64 hi, .bool op, .slice (some ⟨g, 0, none⟩) par.length cap, .int .i64 cnt]) (by simp [results, Try.results92, go_sem, m0, m1, m2, m3, m4]) rfl ?_
  exact ⟨g, cap, rfl, hOO.drew, hBB.drew⟩

end Go.Proofs.Ytpnkmnmchdabkaa
