import Derived.Test.YtpnkmnmchdabkaaGrow
import Derived.Test.YtpnkmnmchdabkaaConf
import Derived.Test.YtpnkmnmchdabkaaMake
import Derived.Test.YtpnkmnmchdabkaaLeaseNew
namespace Go.Proofs.Ytpnkmnmchdabkaa
open Go.RowKit
attribute [local go_sem ↓] Go.wp_at_zero Go.wp_at_succ

/-- A worker's memory with nothing in it; and those of n workers. -/
def memZ : List Value := (List.replicate 16 [.bool false, .int .i64 0, .int .i64 0, .int .i64 0, .int .i64 0, .bool false, .int .i64 0, .int .i64 0]).flatten
def memN (n : Nat) : List Value := (madeCells memZ.toArray (n * 128)).toList
/-- A group's rest at first. -/
def rest0 (wv : Value) (n : Nat) (mem : List Value) : Rest := ⟨0, List.replicate 32 0, noneL 16, wv, n, mem⟩

/-- The building of a group, kept shut for the walk. -/
def bdG (parts : Array (Nat × Value)) : Sem Value := Instr.build 94 parts
theorem bdG_shut (parts : Array (Nat × Value)) : Instr.build 94 parts = bdG parts := rfl
theorem bdG_is (C : Cfg) (sv : Value) (wa : Option Addr) (k c n : Nat) (mem : List Value) (w : World) :
    (bdG #[(0, .agg C.arr), (2, .agg #[sv]), (4, .agg (leA (noneL 16))), (5, .slice wa k c)]).run Try.prog w = .ok (.agg (grpArr C sv (rest0 (.slice wa k c) n mem))) w := by
  obtain ⟨a, l, b, c, s, t⟩ := C
  kernel_rfl

theorem infoMem : (Try.prog.info? 105).map (fun i => (i.zero, i.size, i.bytes)) = some (some (.agg (memZ).toArray), 128, 1024) := by kernel_rfl

set_option maxRecDepth 100000 in
set_option maxHeartbeats 1000000 in
theorem shardsNew_any (w : World) :
    Calls Try.prog 42 #[] w fun e w' => ∃ g, e = .returned (.agg #[.slice (some ⟨g, 0, none⟩) 1 1]) ∧ w.heap.size ≤ g ∧ w'.heap[g]? = some (.cells #[.int .i64 0, .int .i64 256, .bool true, .slice none 0 0, .slice none 0 0] 141 (0, 0)) ∧ Below w.heap.size w w' := by
  go_enter Try.func42, Try.ntmps42
  go_wp2
  refine bodyPost_ret (v := .agg #[.slice (some ⟨w.heap.size + 1, 0, none⟩) 1 1]) (by simp [results, Try.results42, go_sem]) rfl ⟨w.heap.size + 1, rfl, by omega, ?_, ?_⟩
  · have := heap_alloc_new (w.alloc (.cells #[.slice (some ⟨w.heap.size + 1, 0, none⟩) 1 1] 81)) (.cells #[.int .i64 0, .int .i64 256, .bool true, .slice none 0 0, .slice none 0 0] 141)
    rw [show (w.alloc (.cells #[.slice (some ⟨w.heap.size + 1, 0, none⟩) 1 1] 81)).heap.size = w.heap.size + 1 by simp] at this
    exact this
  · exact ((Below.refl _ w).alloc (Nat.le_refl _) _).alloc (by simp) _

set_option maxRecDepth 100000 in
set_option maxHeartbeats 1000000 in
theorem new_bad (C : Cfg) (w : World) (hv : validB C.a C.l C.b C.n C.s C.t = false) :
    Calls Try.prog 20 #[.agg C.arr] w fun e w' => e = .returned (.tuple #[.pointer none, .int .i64 1]) ∧ Below w.heap.size w w' := by
  unfold Cfg.arr
  have HV := fun w => hide (valid_any C.a C.l C.b C.n C.s C.t w)
  rw [hv] at HV
  go_enter Try.func20, Try.ntmps20
  go_wp2_with (go_at_call 41; refine (unhide (HV _)).mono ?_; rintro e w1 ⟨rfl, hb⟩)
  go_ret2
  exact ⟨rfl, ((Below.refl _ w).alloc (Nat.le_refl _) _).trans (hb.mono (by simp))⟩

/-- A group of one shard. -/
def first : Sh := ⟨0, 256, true, [], 0⟩

attribute [local go_sem ↓] zvTab ldT_shut stT_shut bdG_shut
attribute [local go_sem] stT_new

/-- What New leaves. -/
def NewGood (C : Cfg) (w : World) (e : Ending) (w' : World) : Prop := ∃ gb g wb kn : Nat, e = .returned (.tuple #[.pointer (some ⟨gb, 0, none⟩), .int .i64 0]) ∧ w.heap.size ≤ gb ∧ w.heap.size ≤ g ∧ w.heap.size ≤ wb ∧ g ≠ gb ∧ wb ≠ gb ∧ wb ≠ g ∧ (kn : Int) = C.a ∧
      w'.heap[gb]? = some (.cells (grpArr C (.slice (some ⟨g, 0, none⟩) 1 1) (rest0 (.slice (some ⟨wb, 0, none⟩) kn kn) kn (memN kn))) 94 (0, 0)) ∧ w'.heap[g]? = some (.cells #[.int .i64 0, .int .i64 256, .bool true, .slice none 0 0, .slice none 0 0] 141 (0, 0)) ∧
      w'.ownsRow w.heap.size 105 128 (.slice (some ⟨wb, 0, none⟩) kn kn) kn (memN kn) ∧ Below w.heap.size w w'

set_option maxRecDepth 100000 in
set_option maxHeartbeats 4000000 in
theorem new_good (C : Cfg) (w : World) (hv : validB C.a C.l C.b C.n C.s C.t = true) :
    Calls Try.prog 20 #[.agg C.arr] w (NewGood C w) := by
  obtain ⟨hw1, hw2⟩ := ((validB_iff _ _ _ _ _ _).1 hv).1
  obtain ⟨wn, hwn⟩ : ∃ wn : Nat, C.a = wn := ⟨C.a.toNat, by omega⟩
  have HW := hide hwn
  clear hwn
  have HV := fun w => hide (valid_any C.a C.l C.b C.n C.s C.t w)
  rw [hv] at HV
  have HN := fun w => hide (shardsNew_any w)
  have HL := fun w => hide (leasesNew_any w)
  have z16 := noneL_len (k := 16) (by omega)
  have z0 := noneL_len (k := 0) (by omega)
  unfold Cfg.arr
  clear hv
  go_enter Try.func20, Try.ntmps20
  go_wp2_with (go_at_call 41; refine (unhide (HV _)).mono ?_; rintro e w1 ⟨rfl, hb⟩)
  obtain ⟨h1, hB1, hsz⟩ := below_new hb
  clear hb
  have H1 := hide h1
  have HB1 := hide hB1
  clear h1 hB1
  go_wp2_with (go_at_call 42; refine (unhide (HN _)).mono ?_; rintro e w2 ⟨g, rfl, hg, hgb, hb2⟩)
  refine (unhide (HL _)).mono ?_
  rintro e w3 ⟨rfl, hb3⟩
  have hs2 := hb2.size
  have hs3 := hb3.size
  rw [World.size_alloc] at hs3
  have hgl := lt_of_heap hgb
  have P3 : w3.heap[w.heap.size]? = some (.cells #[.int .i64 C.a, .int .i64 C.l, .int .i64 C.b, .int .i64 C.n, .int .i64 C.s, .int .i64 C.t] 23 (0, 0)) := by
    have := lt_of_heap (unhide H1)
    rw [hb3.block _ (by simp; omega), Below.heap_alloc _ _ _ (by omega), hb2.block _ (by omega)]
    exact unhide H1
  have L3 : w3.heap[w2.heap.size]? = some (.cells #[.slice (some ⟨g, 0, none⟩) 1 1] 81 (0, 0)) := by
    rw [hb3.block _ (by simp)]; exact heap_alloc_new w2 _
  have G3 : w3.heap[g]? = some (.cells #[.int .i64 0, .int .i64 256, .bool true, .slice none 0 0, .slice none 0 0] 141 (0, 0)) := by
    rw [hb3.block _ (by simp; omega), Below.heap_alloc _ _ _ hgl]; exact hgb
  have hwl := lt_of_heap P3
  have BB : Below w.heap.size w w3 := (unhide HB1).trans ((hb2.mono (by omega)).trans (((Below.refl _ w2).alloc (by omega) _).trans (hb3.mono (by simp; omega))))
  clear hb2 hb3 hgb H1 HB1
  have c0 : (w3.alloc (.cells (leA (noneL 16)) 85)).cell? ⟨w.heap.size, 0, none⟩ = some (.int .i64 C.a) := (World.cell?_of_block (w := w3) (Below.heap_alloc _ _ _ hwl)).trans (cell_of P3 0)
  obtain ⟨i0, hi0, hz0, hz1, hz2⟩ := info_parts infoMem
  have HG := hide G3
  have HP := hide P3
  have HL3 := hide L3
  have HBB := hide BB
  clear G3 P3 L3 BB
  go_wp2_with (at_make; go_must (refine wpList_make_full _ rfl _ _ 87 rfl w.heap.size 105 i0 _ 128 Try.underlying87 hi0 hz0 hz1 _ _ _ _ wn rfl rfl (unhide HW) (unhide HW) ?bytes ?ml ?base ?mk))
  case bytes => rw [hz2]; have := unhide HW; omega
  case ml => have := unhide HW; unfold maxLen; omega
  case base => simp; omega
  case mk =>
    intro w4 hown hgrow
    have hs4 := hgrow.size
    rw [World.size_alloc] at hs4
    have old : ∀ k, k < w3.heap.size → w4.heap[k]? = w3.heap[k]? := fun k hk => (hgrow.block k (by simp; omega) (by simp)).trans (Below.heap_alloc _ _ _ hk)
    have P4 := (old _ hwl).trans (unhide HP)
    have L4 := (old _ (lt_of_heap (unhide HL3))).trans (unhide HL3)
    have G4 := hide ((old _ (lt_of_heap (unhide HG))).trans (unhide HG))
    have T4 : w4.heap[w3.heap.size]? = some (.cells (leA (noneL 16)) 85 (0, 0)) := (hgrow.block _ (by simp) (by simp)).trans (heap_alloc_new w3 _)
    have B4 : Hid (Below w.heap.size w w4) := ((unhide HBB).alloc (by omega) _).grown hgrow (by simp; omega) (fun k h => by cases h)
    have k0 := cell_of P4 0
    have k1 := cell_of P4 1
    have k2 := cell_of P4 2
    have k3 := cell_of P4 3
    have k4 := cell_of P4 4
    have k5 := cell_of P4 5
    have q0 := cell_of L4 0
    simp at k0 k1 k2 k3 k4 k5 q0
    have hld := ldT_is T4 z16
    have hbd := bdG_is C (.slice (some ⟨g, 0, none⟩) 1 1) (some ⟨w3.heap.size + 1, 0, none⟩) wn wn wn (memN wn) w4
    unfold Cfg.arr at hbd
    have HO := hide hown
    have hwne := (hown.lt _ rfl).2
    clear hown hgrow old P4 L4 T4 c0
    go_wp2
    go_ret2
    have hO := unhide HO
    refine ⟨w4.heap.size, g, w3.heap.size + 1, wn, rfl, by omega, by omega, by omega, by omega, by omega, by omega, (unhide HW).symm, heap_alloc_new w4 _, ?_, ?_, (unhide B4).alloc (by omega) _⟩
    · rw [Below.heap_alloc _ _ _ (by omega)]; exact unhide G4
    · have := hO.alloc (.cells (grpArr C (.slice (some ⟨g, 0, none⟩) 1 1) (rest0 (.slice (some ⟨w3.heap.size + 1, 0, none⟩) wn wn) wn (memN wn))) 94)
      simpa [memN] using this

end Go.Proofs.Ytpnkmnmchdabkaa
