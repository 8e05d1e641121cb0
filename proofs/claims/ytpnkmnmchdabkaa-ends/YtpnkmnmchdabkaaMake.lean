import Derived.Test.YtpnkmnmchdabkaaM04
import Derived.Test.YtpnkmnmchdabkaaM00
namespace Go.Proofs.Ytpnkmnmchdabkaa
open Go.RowKit

/-- A row of ten cells, all of them written. -/
def set10 (w : World) (b : Nat) (v0 v1 v2 v3 v4 v5 v6 v7 v8 v9 : Value) : World :=
  ((((((((((w).setCell ⟨b, 0, none⟩ v0).setCell ⟨b, 1, none⟩ v1).setCell ⟨b, 2, none⟩ v2).setCell ⟨b, 3, none⟩ v3).setCell ⟨b, 4, none⟩ v4).setCell ⟨b, 5, none⟩ v5).setCell ⟨b, 6, none⟩ v6).setCell ⟨b, 7, none⟩ v7).setCell ⟨b, 8, none⟩ v8).setCell ⟨b, 9, none⟩ v9
theorem set10_heap {w : World} {b : Nat} {u0 u1 u2 u3 u4 u5 u6 u7 u8 u9 : Value} {e : TypeId} (h : w.heap[b]? = some (.cells #[u0, u1, u2, u3, u4, u5, u6, u7, u8, u9] e (0, 0))) (v0 v1 v2 v3 v4 v5 v6 v7 v8 v9 : Value) :
    (set10 w b v0 v1 v2 v3 v4 v5 v6 v7 v8 v9).heap[b]? = some (.cells #[v0, v1, v2, v3, v4, v5, v6, v7, v8, v9] e (0, 0)) := by
  unfold set10
  have h := heap_setCell_same (i := 0) h v0
  have h := heap_setCell_same (i := 1) h v1
  have h := heap_setCell_same (i := 2) h v2
  have h := heap_setCell_same (i := 3) h v3
  have h := heap_setCell_same (i := 4) h v4
  have h := heap_setCell_same (i := 5) h v5
  have h := heap_setCell_same (i := 6) h v6
  have h := heap_setCell_same (i := 7) h v7
  have h := heap_setCell_same (i := 8) h v8
  have h := heap_setCell_same (i := 9) h v9
  rw [h]
  simp
theorem set10_size (w : World) (b : Nat) (v0 v1 v2 v3 v4 v5 v6 v7 v8 v9 : Value) : (set10 w b v0 v1 v2 v3 v4 v5 v6 v7 v8 v9).heap.size = w.heap.size := by simp [set10, World.setCell]
theorem set10_below {B : Nat} {a w : World} {b : Nat} (h : Below B a w) (hb : B ≤ b) (v0 v1 v2 v3 v4 v5 v6 v7 v8 v9 : Value) : Below B a (set10 w b v0 v1 v2 v3 v4 v5 v6 v7 v8 v9) :=
  ((((((((((h.setCell (p := ⟨b, 0, none⟩) hb _).setCell (p := ⟨b, 1, none⟩) hb _).setCell (p := ⟨b, 2, none⟩) hb _).setCell (p := ⟨b, 3, none⟩) hb _).setCell (p := ⟨b, 4, none⟩) hb _).setCell (p := ⟨b, 5, none⟩) hb _).setCell (p := ⟨b, 6, none⟩) hb _).setCell (p := ⟨b, 7, none⟩) hb _).setCell (p := ⟨b, 8, none⟩) hb _).setCell (p := ⟨b, 9, none⟩) hb _)
theorem load10 {w : World} {b : Nat} {v0 v1 v2 v3 v4 v5 v6 v7 v8 v9 : Value} {e : TypeId} {f : Nat × Nat} (h : w.heap[b]? = some (.cells #[v0, v1, v2, v3, v4, v5, v6, v7, v8, v9] e f)) :
    w.cell? ⟨b, 0, none⟩ = some v0 ∧ w.cell? ⟨b, 1, none⟩ = some v1 ∧ w.cell? ⟨b, 2, none⟩ = some v2 ∧ w.cell? ⟨b, 3, none⟩ = some v3 ∧ w.cell? ⟨b, 4, none⟩ = some v4 ∧ w.cell? ⟨b, 5, none⟩ = some v5 ∧ w.cell? ⟨b, 6, none⟩ = some v6 ∧ w.cell? ⟨b, 7, none⟩ = some v7 ∧ w.cell? ⟨b, 8, none⟩ = some v8 ∧ w.cell? ⟨b, 9, none⟩ = some v9 :=
  ⟨cell_of h 0, cell_of h 1, cell_of h 2, cell_of h 3, cell_of h 4, cell_of h 5, cell_of h 6, cell_of h 7, cell_of h 8, cell_of h 9⟩

theorem below_new {w w1 : World} {o : Obj} (hb : Below (w.alloc o).heap.size (w.alloc o) w1) : w1.heap[w.heap.size]? = some o ∧ Below w.heap.size w w1 ∧ w.heap.size < w1.heap.size := by
  refine ⟨?_, ?_, ?_⟩
  · rw [hb.block _ (by simp)]; exact heap_alloc_new w o
  · exact ((Below.refl _ w).alloc (Nat.le_refl _) o).trans (hb.mono (by simp))
  · have := hb.size; simp at this; omega

/-- The first errors of Put: no key, a value, a time. -/
def makeR (s : ByteArray) (v t : Int) : Int :=
  if keyB s = false then 2 else if 1000000 < v ∨ v < -1000000 then 3 else if t < 0 ∨ 1000000 < t then 4 else 0
def madeR (s : ByteArray) (v t : Int) : Value :=
  if makeR s v t = 0 then .tuple #[.agg (recArr s.data.toList v t), .int .i64 0] else .tuple #[.agg (recArr [] 0 0), .int .i64 (makeR s v t)]
theorem madeR_no {s : ByteArray} {v t : Int} {c : Int} (h : makeR s v t = c) (hc : c ≠ 0) : madeR s v t = .tuple #[.agg (recArr [] 0 0), .int .i64 c] := by simp [madeR, h, hc]
theorem madeR_yes {s : ByteArray} {v t : Int} (h : makeR s v t = 0) : madeR s v t = .tuple #[.agg (recArr s.data.toList v t), .int .i64 0] := by simp [madeR, h]

set_option maxRecDepth 100000 in
set_option maxHeartbeats 1000000 in
theorem make_nokey (s : ByteArray) (v t : Int) (w : World) (hs : s.size ≤ maxLen) (hk : keyB s = false) :
    Calls Try.prog 75 #[.string s, .int .i64 v, .int .i64 t] w fun e w' => e = .returned (madeR s v t) ∧ Below w.heap.size w w' := by
  have HP := fun w => hide (parse_any s w hs)
  rw [parsed_no hk] at HP
  have HM := hide (madeR_no (s := s) (v := v) (t := t) (c := 2) (by simp [makeR, hk]) (by omega))
  unfold keyArr at HP
  clear hk
  go_enter Try.func75, Try.ntmps75
  go_wp2_with fail
  refine (unhide (HP _)).mono ?_
  rintro e w1 ⟨rfl, hb⟩
  obtain ⟨h1, hB1, hsz⟩ := below_new hb
  clear hb
  have f1 := fun i => frozen_of h1 i
  obtain ⟨k0, k1, k2, k3, k4, k5, k6, k7, k8, k9⟩ := load10 h1
  go_wp2
  have hN := set10_heap h1 (.int .u8 0) (.int .u8 0) (.int .u8 0) (.int .u8 0) (.int .u8 0) (.int .u8 0) (.int .u8 0) (.int .u8 0) (.int .i64 0) (.int .i64 0)
  have hB := set10_below hB1 (Nat.le_refl _) (.int .u8 0) (.int .u8 0) (.int .u8 0) (.int .u8 0) (.int .u8 0) (.int .u8 0) (.int .u8 0) (.int .u8 0) (.int .i64 0) (.int .i64 0)
  have hZ := set10_size w1 w.heap.size (.int .u8 0) (.int .u8 0) (.int .u8 0) (.int .u8 0) (.int .u8 0) (.int .u8 0) (.int .u8 0) (.int .u8 0) (.int .i64 0) (.int .i64 0)
  unfold set10 at hN hB hZ
  generalize World.setCell _ _ _ = W8 at *
  rw [← hZ] at hsz
  obtain ⟨m0, m1, m2, m3, m4, m5, m6, m7, m8, m9⟩ := load10 hN
  refine bodyPost_ret (v := .tuple #[.agg (recArr [] 0 0), .int .i64 2]) (by simp [results, Try.results75, go_sem, hsz, m0, m1, m2, m3, m4, m5, m6, m7, m8, m9]; rfl) rfl ⟨by rw [unhide HM], ?_⟩
  exact hB.alloc (by omega) _

set_option maxRecDepth 100000 in
set_option maxHeartbeats 1000000 in
theorem make_noval (s : ByteArray) (v t : Int) (w : World) (hs : s.size ≤ maxLen) (hk : keyB s = true) (hv : 1000000 < v ∨ v < -1000000) :
    Calls Try.prog 75 #[.string s, .int .i64 v, .int .i64 t] w fun e w' => e = .returned (madeR s v t) ∧ Below w.heap.size w w' := by
  have HP := fun w => hide (parse_any s w hs)
  rw [parsed_yes hk] at HP
  have HM := hide (madeR_no (s := s) (v := v) (t := t) (c := 3) (by simp only [makeR, hk]; rw [if_neg (by simp), if_pos hv]) (by omega))
  unfold keyArr at HP
  clear hk
  rcases hv with hv | hv
  · go_enter Try.func75, Try.ntmps75
    go_wp2_with fail
    refine (unhide (HP _)).mono ?_
    rintro e w1 ⟨rfl, hb⟩
    obtain ⟨h1, hB1, hsz⟩ := below_new hb
    clear hb
    have f1 := fun i => frozen_of h1 i
    obtain ⟨k0, k1, k2, k3, k4, k5, k6, k7, k8, k9⟩ := load10 h1
    go_wp2
    have hN := set10_heap h1 (.int .u8 0) (.int .u8 0) (.int .u8 0) (.int .u8 0) (.int .u8 0) (.int .u8 0) (.int .u8 0) (.int .u8 0) (.int .i64 0) (.int .i64 0)
    have hB := set10_below hB1 (Nat.le_refl _) (.int .u8 0) (.int .u8 0) (.int .u8 0) (.int .u8 0) (.int .u8 0) (.int .u8 0) (.int .u8 0) (.int .u8 0) (.int .i64 0) (.int .i64 0)
    have hZ := set10_size w1 w.heap.size (.int .u8 0) (.int .u8 0) (.int .u8 0) (.int .u8 0) (.int .u8 0) (.int .u8 0) (.int .u8 0) (.int .u8 0) (.int .i64 0) (.int .i64 0)
    unfold set10 at hN hB hZ
    generalize World.setCell _ _ _ = W8 at *
    rw [← hZ] at hsz
    obtain ⟨m0, m1, m2, m3, m4, m5, m6, m7, m8, m9⟩ := load10 hN
    refine bodyPost_ret (v := .tuple #[.agg (recArr [] 0 0), .int .i64 3]) (by simp [results, Try.results75, go_sem, hsz, m0, m1, m2, m3, m4, m5, m6, m7, m8, m9]; rfl) rfl ⟨by rw [unhide HM], ?_⟩
    exact hB.alloc (by omega) _
  · have hv2 : ¬ 1000000 < v := by omega
    go_enter Try.func75, Try.ntmps75
    go_wp2_with fail
    refine (unhide (HP _)).mono ?_
    rintro e w1 ⟨rfl, hb⟩
    obtain ⟨h1, hB1, hsz⟩ := below_new hb
    clear hb
    have f1 := fun i => frozen_of h1 i
    obtain ⟨k0, k1, k2, k3, k4, k5, k6, k7, k8, k9⟩ := load10 h1
    go_wp2
    have hN := set10_heap h1 (.int .u8 0) (.int .u8 0) (.int .u8 0) (.int .u8 0) (.int .u8 0) (.int .u8 0) (.int .u8 0) (.int .u8 0) (.int .i64 0) (.int .i64 0)
    have hB := set10_below hB1 (Nat.le_refl _) (.int .u8 0) (.int .u8 0) (.int .u8 0) (.int .u8 0) (.int .u8 0) (.int .u8 0) (.int .u8 0) (.int .u8 0) (.int .i64 0) (.int .i64 0)
    have hZ := set10_size w1 w.heap.size (.int .u8 0) (.int .u8 0) (.int .u8 0) (.int .u8 0) (.int .u8 0) (.int .u8 0) (.int .u8 0) (.int .u8 0) (.int .i64 0) (.int .i64 0)
    unfold set10 at hN hB hZ
    generalize World.setCell _ _ _ = W8 at *
    rw [← hZ] at hsz
    obtain ⟨m0, m1, m2, m3, m4, m5, m6, m7, m8, m9⟩ := load10 hN
    refine bodyPost_ret (v := .tuple #[.agg (recArr [] 0 0), .int .i64 3]) (by simp [results, Try.results75, go_sem, hsz, m0, m1, m2, m3, m4, m5, m6, m7, m8, m9]; rfl) rfl ⟨by rw [unhide HM], ?_⟩
    exact hB.alloc (by omega) _

set_option maxRecDepth 100000 in
set_option maxHeartbeats 1000000 in
theorem make_notime (s : ByteArray) (v t : Int) (w : World) (hs : s.size ≤ maxLen) (hk : keyB s = true) (hv : ¬ 1000000 < v) (hv2 : ¬ v < -1000000) (ht : t < 0 ∨ 1000000 < t) :
    Calls Try.prog 75 #[.string s, .int .i64 v, .int .i64 t] w fun e w' => e = .returned (madeR s v t) ∧ Below w.heap.size w w' := by
  have HP := fun w => hide (parse_any s w hs)
  rw [parsed_yes hk] at HP
  have HM := hide (madeR_no (s := s) (v := v) (t := t) (c := 4) (by simp only [makeR, hk]; rw [if_neg (by simp), if_neg (by omega), if_pos ht]) (by omega))
  unfold keyArr at HP
  clear hk
  rcases ht with ht | ht
  · go_enter Try.func75, Try.ntmps75
    go_wp2_with fail
    refine (unhide (HP _)).mono ?_
    rintro e w1 ⟨rfl, hb⟩
    obtain ⟨h1, hB1, hsz⟩ := below_new hb
    clear hb
    have f1 := fun i => frozen_of h1 i
    obtain ⟨k0, k1, k2, k3, k4, k5, k6, k7, k8, k9⟩ := load10 h1
    go_wp2
    have hN := set10_heap h1 (.int .u8 0) (.int .u8 0) (.int .u8 0) (.int .u8 0) (.int .u8 0) (.int .u8 0) (.int .u8 0) (.int .u8 0) (.int .i64 0) (.int .i64 0)
    have hB := set10_below hB1 (Nat.le_refl _) (.int .u8 0) (.int .u8 0) (.int .u8 0) (.int .u8 0) (.int .u8 0) (.int .u8 0) (.int .u8 0) (.int .u8 0) (.int .i64 0) (.int .i64 0)
    have hZ := set10_size w1 w.heap.size (.int .u8 0) (.int .u8 0) (.int .u8 0) (.int .u8 0) (.int .u8 0) (.int .u8 0) (.int .u8 0) (.int .u8 0) (.int .i64 0) (.int .i64 0)
    unfold set10 at hN hB hZ
    generalize World.setCell _ _ _ = W8 at *
    rw [← hZ] at hsz
    obtain ⟨m0, m1, m2, m3, m4, m5, m6, m7, m8, m9⟩ := load10 hN
    refine bodyPost_ret (v := .tuple #[.agg (recArr [] 0 0), .int .i64 4]) (by simp [results, Try.results75, go_sem, hsz, m0, m1, m2, m3, m4, m5, m6, m7, m8, m9]; rfl) rfl ⟨by rw [unhide HM], ?_⟩
    exact hB.alloc (by omega) _
  · have ht2 : ¬ t < 0 := by omega
    go_enter Try.func75, Try.ntmps75
    go_wp2_with fail
    refine (unhide (HP _)).mono ?_
    rintro e w1 ⟨rfl, hb⟩
    obtain ⟨h1, hB1, hsz⟩ := below_new hb
    clear hb
    have f1 := fun i => frozen_of h1 i
    obtain ⟨k0, k1, k2, k3, k4, k5, k6, k7, k8, k9⟩ := load10 h1
    go_wp2
    have hN := set10_heap h1 (.int .u8 0) (.int .u8 0) (.int .u8 0) (.int .u8 0) (.int .u8 0) (.int .u8 0) (.int .u8 0) (.int .u8 0) (.int .i64 0) (.int .i64 0)
    have hB := set10_below hB1 (Nat.le_refl _) (.int .u8 0) (.int .u8 0) (.int .u8 0) (.int .u8 0) (.int .u8 0) (.int .u8 0) (.int .u8 0) (.int .u8 0) (.int .i64 0) (.int .i64 0)
    have hZ := set10_size w1 w.heap.size (.int .u8 0) (.int .u8 0) (.int .u8 0) (.int .u8 0) (.int .u8 0) (.int .u8 0) (.int .u8 0) (.int .u8 0) (.int .i64 0) (.int .i64 0)
    unfold set10 at hN hB hZ
    generalize World.setCell _ _ _ = W8 at *
    rw [← hZ] at hsz
    obtain ⟨m0, m1, m2, m3, m4, m5, m6, m7, m8, m9⟩ := load10 hN
    refine bodyPost_ret (v := .tuple #[.agg (recArr [] 0 0), .int .i64 4]) (by simp [results, Try.results75, go_sem, hsz, m0, m1, m2, m3, m4, m5, m6, m7, m8, m9]; rfl) rfl ⟨by rw [unhide HM], ?_⟩
    exact hB.alloc (by omega) _

set_option maxRecDepth 100000 in
set_option maxHeartbeats 1000000 in
theorem make_yes (s : ByteArray) (v t : Int) (w : World) (hs : s.size ≤ maxLen) (hk : keyB s = true) (hv : ¬ 1000000 < v) (hv2 : ¬ v < -1000000) (ht : ¬ t < 0) (ht2 : ¬ 1000000 < t) :
    Calls Try.prog 75 #[.string s, .int .i64 v, .int .i64 t] w fun e w' => e = .returned (madeR s v t) ∧ Below w.heap.size w w' := by
  have HP := fun w => hide (parse_any s w hs)
  rw [parsed_yes hk] at HP
  have HM := hide (madeR_yes (s := s) (v := v) (t := t) (by simp only [makeR, hk]; rw [if_neg (by simp), if_neg (by omega), if_neg (by omega)]))
  unfold keyArr at HP
  clear hk
  go_enter Try.func75, Try.ntmps75
  go_wp2_with fail
  refine (unhide (HP _)).mono ?_
  rintro e w1 ⟨rfl, hb⟩
  obtain ⟨h1, hB1, hsz⟩ := below_new hb
  clear hb
  have f1 := fun i => frozen_of h1 i
  obtain ⟨k0, k1, k2, k3, k4, k5, k6, k7, k8, k9⟩ := load10 h1
  go_wp2
  have hN := set10_heap h1 (.int .u8 (byteAt s.data.toList 0)) (.int .u8 (byteAt s.data.toList 1)) (.int .u8 (byteAt s.data.toList 2)) (.int .u8 (byteAt s.data.toList 3)) (.int .u8 (byteAt s.data.toList 4)) (.int .u8 (byteAt s.data.toList 5)) (.int .u8 (byteAt s.data.toList 6)) (.int .u8 (byteAt s.data.toList 7)) (.int .i64 v) (.int .i64 t)
  have hB := set10_below hB1 (Nat.le_refl _) (.int .u8 (byteAt s.data.toList 0)) (.int .u8 (byteAt s.data.toList 1)) (.int .u8 (byteAt s.data.toList 2)) (.int .u8 (byteAt s.data.toList 3)) (.int .u8 (byteAt s.data.toList 4)) (.int .u8 (byteAt s.data.toList 5)) (.int .u8 (byteAt s.data.toList 6)) (.int .u8 (byteAt s.data.toList 7)) (.int .i64 v) (.int .i64 t)
  have hZ := set10_size w1 w.heap.size (.int .u8 (byteAt s.data.toList 0)) (.int .u8 (byteAt s.data.toList 1)) (.int .u8 (byteAt s.data.toList 2)) (.int .u8 (byteAt s.data.toList 3)) (.int .u8 (byteAt s.data.toList 4)) (.int .u8 (byteAt s.data.toList 5)) (.int .u8 (byteAt s.data.toList 6)) (.int .u8 (byteAt s.data.toList 7)) (.int .i64 v) (.int .i64 t)
  unfold set10 at hN hB hZ
  generalize World.setCell _ _ _ = W8 at *
  rw [← hZ] at hsz
  obtain ⟨m0, m1, m2, m3, m4, m5, m6, m7, m8, m9⟩ := load10 hN
  refine bodyPost_ret (v := .tuple #[.agg (recArr s.data.toList v t), .int .i64 0]) (by simp [results, Try.results75, go_sem, hsz, m0, m1, m2, m3, m4, m5, m6, m7, m8, m9]; rfl) rfl ⟨by rw [unhide HM], ?_⟩
  exact hB.alloc (by omega) _

theorem make_any (s : ByteArray) (v t : Int) (w : World) (hs : s.size ≤ maxLen) :
    Calls Try.prog 75 #[.string s, .int .i64 v, .int .i64 t] w fun e w' => e = .returned (madeR s v t) ∧ Below w.heap.size w w' := by
  cases hk : keyB s
  · exact make_nokey s v t w hs hk
  · by_cases hv : 1000000 < v ∨ v < -1000000
    · exact make_noval s v t w hs hk hv
    · by_cases ht : t < 0 ∨ 1000000 < t
      · exact make_notime s v t w hs hk (by omega) (by omega) ht
      · exact make_yes s v t w hs hk (by omega) (by omega) (by omega) (by omega)

end Go.Proofs.Ytpnkmnmchdabkaa
