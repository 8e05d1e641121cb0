import Derived.Test.YtodfgofcbefmlaaGrow
import Derived.Test.YtodfgofcbefmlaaConf
import Derived.Deep.DeepMust
import Derived.Deep.DrawnRows
import Derived.Test.YtodfgofcbefmlaaMake
namespace Go.Proofs.Ytodfgofcbefmlaa
open Go.RowKit
attribute [local go_sem ↓] Go.wp_at_zero Go.wp_at_succ

set_option maxRecDepth 100000 in
set_option maxHeartbeats 1000000 in
theorem shardsNew_any (w : World) :
    Calls Try.prog 41 #[] w fun e w' => ∃ g, e = .returned (.agg #[.slice (some ⟨g, 0, none⟩) 1 1]) ∧ w.heap.size ≤ g ∧ w'.heap[g]? = some (.cells #[.int .i64 0, .int .i64 256, .bool true, .slice none 0 0, .slice none 0 0] 138 (0, 0)) ∧ Below w.heap.size w w' := by
  go_enter Try.func41, Try.ntmps41
  go_wp2
  refine bodyPost_ret (v := .agg #[.slice (some ⟨w.heap.size + 1, 0, none⟩) 1 1]) (by simp [results, Try.results41, go_sem]) rfl ⟨w.heap.size + 1, rfl, by omega, ?_, ?_⟩
  · have := heap_alloc_new (w.alloc (.cells #[.slice (some ⟨w.heap.size + 1, 0, none⟩) 1 1] 91)) (.cells #[.int .i64 0, .int .i64 256, .bool true, .slice none 0 0, .slice none 0 0] 138)
    rw [show (w.alloc (.cells #[.slice (some ⟨w.heap.size + 1, 0, none⟩) 1 1] 91)).heap.size = w.heap.size + 1 by simp] at this
    exact this
  · exact ((Below.refl _ w).alloc (Nat.le_refl _) _).alloc (by simp) _

set_option maxRecDepth 100000 in
set_option maxHeartbeats 1000000 in
theorem new_bad (C : Cfg) (w : World) (hv : validB C.a C.l C.b C.n C.s C.t = false) :
    Calls Try.prog 14 #[.agg C.arr] w fun e w' => e = .returned (.tuple #[.pointer none, .int .i64 1]) ∧ Below w.heap.size w w' := by
  unfold Cfg.arr
  have HV := fun w => hide (valid_any C.a C.l C.b C.n C.s C.t w)
  rw [hv] at HV
  go_enter Try.func14, Try.ntmps14
  go_wp2_with (go_at_call 40; refine (unhide (HV _)).mono ?_; rintro e w1 ⟨rfl, hb⟩)
  go_ret2
  exact ⟨rfl, ((Below.refl _ w).alloc (Nat.le_refl _) _).trans (hb.mono (by simp))⟩

/-- A group of one shard. -/
def first : Sh := ⟨0, 256, true, [], 0⟩

set_option maxRecDepth 100000 in
set_option maxHeartbeats 1000000 in
theorem new_good (C : Cfg) (w : World) (hv : validB C.a C.l C.b C.n C.s C.t = true) :
    Calls Try.prog 14 #[.agg C.arr] w fun e w' => ∃ gb g, e = .returned (.tuple #[.pointer (some ⟨gb, 0, none⟩), .int .i64 0]) ∧ w.heap.size ≤ gb ∧ w.heap.size ≤ g ∧ g ≠ gb ∧
      w'.heap[gb]? = some (.cells (grpArr C (.slice (some ⟨g, 0, none⟩) 1 1) 0) 94 (0, 0)) ∧ w'.heap[g]? = some (.cells #[.int .i64 0, .int .i64 256, .bool true, .slice none 0 0, .slice none 0 0] 138 (0, 0)) ∧ Below w.heap.size w w' := by
  unfold Cfg.arr
  have HV := fun w => hide (valid_any C.a C.l C.b C.n C.s C.t w)
  rw [hv] at HV
  have HN := fun w => hide (shardsNew_any w)
  clear hv
  go_enter Try.func14, Try.ntmps14
  go_wp2_with (go_at_call 40; refine (unhide (HV _)).mono ?_; rintro e w1 ⟨rfl, hb⟩)
  obtain ⟨h1, hB1, hsz⟩ := below_new hb
  clear hb
  have k0 := cell_of h1 0
  have k1 := cell_of h1 1
  have k2 := cell_of h1 2
  have k3 := cell_of h1 3
  have k4 := cell_of h1 4
  have k5 := cell_of h1 5
  simp at k0 k1 k2 k3 k4 k5
  clear h1
  go_region_held3 (fun w' => w'.cell? ⟨w.heap.size, 0, none⟩ = some (.int .i64 C.a) ∧ w'.cell? ⟨w.heap.size, 1, none⟩ = some (.int .i64 C.l) ∧ w'.cell? ⟨w.heap.size, 2, none⟩ = some (.int .i64 C.b) ∧ w'.cell? ⟨w.heap.size, 3, none⟩ = some (.int .i64 C.n) ∧ w'.cell? ⟨w.heap.size, 4, none⟩ = some (.int .i64 C.s) ∧ w'.cell? ⟨w.heap.size, 5, none⟩ = some (.int .i64 C.t))
    (first | go_keep | (go_split_ands; refine ⟨?_, ?_, ?_, ?_, ?_, ?_⟩ <;> (rw [hb2.cell (by simp; omega)]; assumption)))
    ((go_at_call 41; refine (unhide (HN _)).mono ?_; rintro e w2 ⟨g, rfl, hg, hgb, hb2⟩))
  have hbb : Below w.heap.size w w2 := hB1.drew.trans (hb2.mono (show w.heap.size ≤ w1.heap.size by omega))
  have hg2 := lt_of_heap hgb
  have hs1 : w1.heap.size ≤ g := hg
  go_wp2
  go_ret2
  refine ⟨w2.heap.size, g, rfl, hbb.size, by omega, by omega, heap_alloc_new w2 _, ?_, hbb.alloc hbb.size _⟩
  rw [Below.heap_alloc _ _ _ hg2]; exact hgb

end Go.Proofs.Ytodfgofcbefmlaa
