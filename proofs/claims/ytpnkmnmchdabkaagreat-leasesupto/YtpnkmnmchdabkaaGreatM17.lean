import Derived.Test.YtpnkmnmchdabkaaGreatRefMerge
import Derived.Test.YtpnkmnmchdabkaaGreatM03
namespace Go.Proofs.YtpnkmnmchdabkaaGreat
open Go.RowKit
attribute [local go_sem ↓] Go.wp_at_zero Go.wp_at_succ

theorem info109 : (Tryz.prog.info? 84).map (fun i => (i.zero, i.size, i.bytes)) = some (some (.agg #[.slice none 0 0, .slice none 0 0]), 2, 48) := by kernel_rfl

set_option maxRecDepth 100000 in
set_option maxHeartbeats 1000000 in
theorem refNew_bad (C : Cfg) (w : World) (hv : validB C.a C.l C.b C.n C.s C.t = false) :
    Calls Tryz.prog 9 #[.agg C.arr] w fun e w' => e = .returned (.tuple #[.pointer none, .int .i64 1]) ∧ Below w.heap.size w w' := by
  have HV := fun w => hide (refProper_any C w)
  rw [hv] at HV
  unfold Cfg.arr at *
  go_enter Tryz.func9, Tryz.ntmps9
  go_wp2_with (go_at_call 18; refine (unhide (HV _)).mono ?_; rintro e w1 ⟨rfl, hb⟩)
  go_ret2
  exact ⟨rfl, ((Below.refl _ w).alloc (Nat.le_refl _) _).trans (hb.mono (by simp))⟩

/-- The document's first shard. -/
def rfirst : Rf := ⟨0, 256, true, [], .slice none 0 0, -1, 0, 0, 0, 0⟩

/-- n workers that hold nothing and have noted nothing. -/
def rowWk : Nat → List Value
  | 0 => []
  | n + 1 => rowWk n ++ [.slice none 0 0, .slice none 0 0]

/-- The document's group, with the workers that it has so far. -/
structure NewAt (w : World) (C : Cfg) (yb g : Nat) (n : Nat) (wv : Value) (w' : World) : Prop where
  blk : w'.heap[yb]? = some (.cells (refArr C 0 (.slice (some ⟨g, 0, none⟩) 1 1) wv (.slice none 0 0) (.slice none 0 0)) 80 (0, 0))
  row : w'.heap[g]? = some (.cells (rfCells rfirst).toArray 73 (0, 0))
  wk : w'.ownsRow (yb + 1) 84 2 wv n (rowWk n)
  below : Below w.heap.size w w'
  conf : w'.cell? ⟨w.heap.size, 0, none⟩ = some (.int .i64 C.a)
  g1 : w.heap.size < g
  g2 : g < yb

set_option maxRecDepth 100000 in
set_option maxHeartbeats 2000000 in
theorem refNew_good (C : Cfg) (w : World) (hv : validB C.a C.l C.b C.n C.s C.t = true) (hC : 1 ≤ C.a ∧ C.a ≤ 4) :
    Calls Tryz.prog 9 #[.agg C.arr] w fun e w' => ∃ yb g wv, e = .returned (.tuple #[.pointer (some ⟨yb, 0, none⟩), .int .i64 0]) ∧ NewAt w C yb g C.a.toNat wv w' := by
  have HV := fun w => hide (refProper_any C w)
  rw [hv] at HV
  unfold Cfg.arr at *
  clear hv
  obtain ⟨i0, hi0, hz0, hz1, hz2⟩ := info_parts info109
  go_enter Tryz.func9, Tryz.ntmps9
  go_wp2_with (go_at_call 18; refine (unhide (HV _)).mono ?_; rintro e w1 ⟨rfl, hb⟩)
  obtain ⟨h1, hB1, hsz⟩ := below_new hb
  clear hb HV
  have k0 := cell_of h1 0
  have k1 := cell_of h1 1
  have k2 := cell_of h1 2
  have k3 := cell_of h1 3
  have k4 := cell_of h1 4
  have k5 := cell_of h1 5
  simp at k0 k1 k2 k3 k4 k5
  clear h1
  go_region_held3 (fun w' => w'.cell? ⟨w.heap.size, 0, none⟩ = some (.int .i64 C.a) ∧ w'.cell? ⟨w.heap.size, 1, none⟩ = some (.int .i64 C.l) ∧ w'.cell? ⟨w.heap.size, 2, none⟩ = some (.int .i64 C.b) ∧ w'.cell? ⟨w.heap.size, 3, none⟩ = some (.int .i64 C.n) ∧ w'.cell? ⟨w.heap.size, 4, none⟩ = some (.int .i64 C.s) ∧ w'.cell? ⟨w.heap.size, 5, none⟩ = some (.int .i64 C.t))
    (first | go_keep | (go_split_ands; refine ⟨?_, ?_, ?_, ?_, ?_, ?_⟩ <;> (rw [hb2.cell (by simp; omega)]; assumption)))
    ((go_at_call 19; refine (refFresh_any _ _ _ _ _ _).mono ?_; rintro e w2 ⟨rfl, hb2⟩))
  have hs2 := hb2.size
  have hbb : Below w.heap.size w w2 := hB1.drew.trans (hb2.mono (show w.heap.size ≤ w1.heap.size by omega))
  have kk : w2.cell? ⟨w.heap.size, 0, none⟩ = some (.int .i64 C.a) := (hb2.cell (p := ⟨w.heap.size, 0, none⟩) (by show w.heap.size < w1.heap.size; omega)).trans k0
  have hlt2 : w.heap.size < w2.heap.size := by simp at hs2; omega
  have HN0 : Hid (NewAt w C (w2.heap.size + 1) w2.heap.size 0 (.slice none 0 0) ((w2.alloc (.cells #[.int .i64 0, .int .i64 256, .bool true, .slice none 0 0, .int .i64 (-1), .int .i64 0, .int .i64 0, .int .i64 0, .int .i64 0] 73)).alloc (.cells #[.int .i64 C.a, .int .i64 C.l, .int .i64 C.b, .int .i64 C.n, .int .i64 C.s, .int .i64 C.t, .int .i64 0, .slice (some ⟨w2.heap.size, 0, none⟩) 1 1, .slice none 0 0, .slice none 0 0, .slice none 0 0] 80))) := by
    refine ⟨?_, ?_, World.ownsRow_nil _ _ _ _, (hbb.alloc hbb.size _).alloc (by simp; omega) _, ?_, hlt2, by omega⟩
    · have := heap_alloc_new (w2.alloc (.cells #[.int .i64 0, .int .i64 256, .bool true, .slice none 0 0, .int .i64 (-1), .int .i64 0, .int .i64 0, .int .i64 0, .int .i64 0] 73)) (.cells #[.int .i64 C.a, .int .i64 C.l, .int .i64 C.b, .int .i64 C.n, .int .i64 C.s, .int .i64 C.t, .int .i64 0, .slice (some ⟨w2.heap.size, 0, none⟩) 1 1, .slice none 0 0, .slice none 0 0, .slice none 0 0] 80)
      rw [show (w2.alloc (.cells #[.int .i64 0, .int .i64 256, .bool true, .slice none 0 0, .int .i64 (-1), .int .i64 0, .int .i64 0, .int .i64 0, .int .i64 0] 73)).heap.size = w2.heap.size + 1 by simp] at this
      exact this
    · rw [Below.heap_alloc _ _ _ (by simp)]; exact heap_alloc_new w2 _
    · rw [World.cell?_of_block (w := w2) ((Below.heap_alloc _ _ _ (by simp; omega)).trans (Below.heap_alloc _ _ _ (by simpa using hlt2)))]; exact kk
  generalize (w2.alloc (.cells #[.int .i64 0, .int .i64 256, .bool true, .slice none 0 0, .int .i64 (-1), .int .i64 0, .int .i64 0, .int .i64 0, .int .i64 0] 73)).alloc (.cells #[.int .i64 C.a, .int .i64 C.l, .int .i64 C.b, .int .i64 C.n, .int .i64 C.s, .int .i64 C.t, .int .i64 0, .slice (some ⟨w2.heap.size, 0, none⟩) 1 1, .slice none 0 0, .slice none 0 0, .slice none 0 0] 80) = V at *
  generalize w2.heap.size + 1 = yb at *
  clear k0 k1 k2 k3 k4 k5 hb2 hbb hs2 hB1 hsz kk hlt2
  go_wp2
  go_loopw [6] (fun i wr => ∃ (j : Nat) (wv : Value), (j : Int) ≤ C.a ∧ i = .int .i64 j ∧ NewAt w C yb w2.heap.size j wv wr) (fun i _ => C.a.toNat - (intOf i).toNat)
  case atStart => exact ⟨0, _, by omega, rfl, unhide HN0⟩
  case round =>
    obtain ⟨j, wv, hj, rfl, hN⟩ := hrel
    have c0 := hN.conf
    obtain ⟨pa, pc, rfl⟩ := ownsRow_len hN.wk
    have c8 : wr.cell? ⟨yb, 8, none⟩ = some (.slice pa j pc) := cell_of hN.blk 8
    have f8 := frozen_of hN.blk 8
    have hyb := lt_of_heap hN.blk
    have hgl := lt_of_heap hN.row
    have hwl := hN.below.size
    have HN := hide hN
    clear hN HN0
    by_cases hlt : (j : Int) < C.a
    · have HGL := hide (fun q hq => (unhide HN).wk.lt q hq)
      go_wp2_with (at_builtin; go_must (refine wpList_append_lies _ rfl _ _ _ rfl (yb + 1) 84 i0 _ 2 48 Tryz.underlying76 hi0 hz0 hz1 hz2 rfl (by omega) _ j (rowWk j) rfl ?own ⟨wr.heap.size, 0, none⟩ 1 1 [.slice none 0 0, .slice none 0 0] rfl rfl ?news ?one (by omega) ?h63 ?bytes ?base (wr.heap.size + 1) ?hH ?next))
      case own => exact (unhide HN).wk.alloc _
      case news => exact World.news_of_block (cs := #[.slice none 0 0, .slice none 0 0]) (heap_alloc_new wr _)
      case one => simp [Value.oneCell']
      case h63 => unfold maxLen; omega
      case bytes => omega
      case base => simp; omega
      case hH => simp
      case next =>
        intro g3 cap3 w3 hown3 hgrow3 hat3 hlt3
        have nb : ∀ q, q ≤ yb → some q ≠ (Value.slice pa j pc).ownBlock := fun q hq e => by have := (unhide HGL q e.symm).1; omega
        have z8 : w3.cell? ⟨yb, 8, none⟩ = some (.slice pa j pc) := (hgrow3.cell_far _ (by simp; omega) (nb yb (Nat.le_refl _))).trans ((World.cell?_of_block (w := wr) (Below.heap_alloc _ _ _ hyb)).trans c8)
        have zf : w3.frozen? ⟨yb, 8, none⟩ = false := (hgrow3.frozen_far _ (by simp; omega) (nb yb (Nat.le_refl _))).trans ((World.frozen?_of_block (w := wr) (Below.heap_alloc _ _ _ hyb)).trans f8)
        have hg3 : yb + 1 ≤ g3 := (hown3.lt g3 rfl).1
        have HNew : Hid (NewAt w C yb w2.heap.size (j + 1) (.slice (some ⟨g3, 0, none⟩) (j + 1) cap3) (w3.setCell ⟨yb, 8, none⟩ (.slice (some ⟨g3, 0, none⟩) (j + 1) cap3))) := by
          have hg := (unhide HN).g2
          have hg1 := (unhide HN).g1
          have blkO : ∀ q, q ≤ yb → q < wr.heap.size → w3.heap[q]? = wr.heap[q]? := fun q hq hl => (hgrow3.block q (by simp; omega) (nb q hq)).trans (Below.heap_alloc _ _ _ hl)
          refine ⟨?_, ?_, ?_, ?_, ?_, hg1, hg⟩
          · have hb : w3.heap[yb]? = _ := (blkO yb (Nat.le_refl _) hyb).trans (unhide HN).blk
            rw [heap_setCell_same hb]; rfl
          · rw [Below.heap_setCell _ _ _ _ (by show w2.heap.size ≠ yb; omega), blkO _ (by omega) hgl]; exact (unhide HN).row
          · refine ownsRow_of_block hown3 fun q hq => Below.heap_setCell _ _ _ _ ?_
            simp [Value.ownBlock] at hq
            show q ≠ yb
            omega
          · refine ⟨?_, ?_, ?_, ?_, ?_⟩
            · show w3.os = w.os; rw [hgrow3.os]; exact (unhide HN).below.os
            · show w3.tape = w.tape; rw [hgrow3.tape]; exact (unhide HN).below.tape
            · show w3.output = w.output; rw [hgrow3.output]; exact (unhide HN).below.output
            · have := hgrow3.size; simp [World.setCell] at this ⊢; omega
            · intro q hq
              rw [Below.heap_setCell _ _ _ _ (by show q ≠ yb; omega), blkO q (by omega) (by omega)]
              exact (unhide HN).below.block q hq
          · rw [World.cell?_of_block (w := wr) (a := ⟨w.heap.size, 0, none⟩) ((Below.heap_setCell _ _ _ _ (by show w.heap.size ≠ yb; omega)).trans (blkO w.heap.size (by omega) (by omega)))]
            exact c0
        clear hown3 hgrow3 hat3 nb hg3
        go_wp2
        go_roundw
        case rel => exact ⟨j + 1, _, by omega, by go_num, unhide HNew⟩
        case measure => simp [intOf]; omega
    · have hja : Hid (j = C.a.toNat) := by (unfold Hid; omega)
      go_wp2
      go_ret2
      have hq := unhide HN
      rw [unhide hja] at hq
      exact ⟨yb, by rfl, w2.heap.size, _, hq⟩

end Go.Proofs.YtpnkmnmchdabkaaGreat
namespace Go.Proofs.YtpnkmnmchdabkaaGreat
open Go.RowKit
attribute [local go_sem ↓] Go.wp_at_zero Go.wp_at_succ

set_option maxRecDepth 100000 in
set_option maxHeartbeats 1000000 in
/-- mark: another one. -/
theorem mark_any (w : World) (wb : Nat) (last : Int) (c7 : w.cell? ⟨wb, 7, none⟩ = some (.int .i64 last)) (f7 : w.frozen? ⟨wb, 7, none⟩ = false) (h1 : -9000000000000000000 ≤ last) (h2 : last ≤ 0) :
    Calls Tryz.prog 71 #[.pointer (some ⟨wb, 0, none⟩)] w fun e w' => e = .returned (.int .i64 (last - 1)) ∧ w.setCell ⟨wb, 7, none⟩ (.int .i64 (last - 1)) = w' := by
  go_enter Tryz.func71, Tryz.ntmps71
  go_wp2
  go_ret
  exact ⟨rfl, rfl⟩

set_option maxRecDepth 100000 in
set_option maxHeartbeats 1000000 in
/-- Two lists of ints. -/
theorem sameInts_any (w : World) (va vb : Value) (xs ys : List Int) (ha : w.ownsRow 0 3 1 va xs.length (xs.map (Value.int .i64))) (hb : w.ownsRow 0 3 1 vb ys.length (ys.map (Value.int .i64))) (hx : xs.length ≤ 1000000) :
    Calls Tryz.prog 33 #[va, vb] w fun e w' => e = .returned (.bool (decide (xs = ys))) ∧ Below w.heap.size w w' := by
  obtain ⟨pa, ca, rfl⟩ := ownsRow_len ha
  obtain ⟨pb, cb, rfl⟩ := ownsRow_len hb
  by_cases hl : xs.length = ys.length
  · have HA : Hid (∀ i x, xs[i]? = some x → ∃ g, pa = some ⟨g, 0, none⟩ ∧ g < w.heap.size ∧ w.cell? ⟨g, i, none⟩ = some (.int .i64 x)) := by
      intro i x hi
      have hlt := (List.getElem?_eq_some_iff.1 hi).1
      obtain ⟨g, cap, cur, hv, _, hg, _, _, _, ht⟩ := ownsRow_shape ha (by omega)
      injection hv with e1
      refine ⟨g, e1, lt_of_heap hg, ?_⟩
      have := ha.cells (g := g) (by rw [e1]; rfl) i (.int .i64 x) (by simp [hi])
      rwa [show (⟨g, 0, none⟩ : Addr).add i = ⟨g, i, none⟩ by unfold Addr.add; split <;> simp_all] at this
    have HB : Hid (∀ i x, ys[i]? = some x → ∃ g, pb = some ⟨g, 0, none⟩ ∧ g < w.heap.size ∧ w.cell? ⟨g, i, none⟩ = some (.int .i64 x)) := by
      intro i x hi
      have hlt := (List.getElem?_eq_some_iff.1 hi).1
      obtain ⟨g, cap, cur, hv, _, hg, _, _, _, ht⟩ := ownsRow_shape hb (by omega)
      injection hv with e1
      refine ⟨g, e1, lt_of_heap hg, ?_⟩
      have := hb.cells (g := g) (by rw [e1]; rfl) i (.int .i64 x) (by simp [hi])
      rwa [show (⟨g, 0, none⟩ : Addr).add i = ⟨g, i, none⟩ by unfold Addr.add; split <;> simp_all] at this
    have HL := hide hl
    rw [← hl]
    clear ha hb hl
    go_enter Tryz.func33, Tryz.ntmps33
    go_wp2
    go_loopw [5] (fun i wr => ∃ j : Nat, j ≤ xs.length ∧ i = .int .i64 j ∧ xs.take j = ys.take j ∧ Below w.heap.size w wr) (fun i _ => xs.length - (intOf i).toNat)
    case atStart => exact ⟨0, Nat.zero_le _, rfl, by simp, Below.refl _ _⟩
    case round =>
      obtain ⟨j, hj, rfl, heq, hB⟩ := hrel
      have HE := hide heq
      have HW := hide hB
      clear heq hB
      by_cases hlt : j < xs.length
      · obtain ⟨x, hx1⟩ : ∃ x, xs[j]? = some x := ⟨xs[j], List.getElem?_eq_getElem hlt⟩
        obtain ⟨y, hy1⟩ : ∃ y, ys[j]? = some y := ⟨ys[j]'(by have := unhide HL; omega), List.getElem?_eq_getElem _⟩
        obtain ⟨g, rfl, hg, hc⟩ := unhide HA j x hx1
        obtain ⟨g', rfl, hg', hc'⟩ := unhide HB j y hy1
        have k1 := ((unhide HW).cell (p := ⟨g, j, none⟩) hg).trans hc
        have k2 := ((unhide HW).cell (p := ⟨g', j, none⟩) hg').trans hc'
        have HX := hide hx1
        have HY := hide hy1
        clear hc hc' hx1 hy1 HA HB
        by_cases hxy : x = y
        · have hne : (x != y) = false := by rw [hxy]; simp
          have HQ := hide hxy
          clear hxy
          go_wp2
          go_quiet (fail)
          go_wp2
          go_roundw
          case rel =>
            refine ⟨j + 1, by omega, by go_num, ?_, ?_⟩
            · have e1 := (List.getElem?_eq_some_iff.1 (unhide HX))
              have e2 := (List.getElem?_eq_some_iff.1 (unhide HY))
              rw [List.take_succ_eq_append_getElem e1.1, List.take_succ_eq_append_getElem e2.1, unhide HE, e1.2, e2.2, unhide HQ]
            · exact (unhide HW).trans ⟨rfl, rfl, rfl, Nat.le_refl _, fun _ _ => rfl⟩
          case measure => simp [intOf]; omega
        · have hne : (x != y) = true := by rw [bne_iff_ne]; exact hxy
          have HQ : Hid (decide (xs = ys) = false) := by
            refine hide ?_
            rw [decide_eq_false_iff_not]
            rintro rfl
            have h1 := unhide HX
            rw [unhide HY] at h1
            injection h1 with h1
            exact hxy h1.symm
          clear hxy
          go_wp2
          go_quiet (fail)
          go_wp2
          go_ret
          exact ⟨ret_bool (by rw [unhide HQ]), (unhide HW).trans ⟨rfl, rfl, rfl, Nat.le_refl _, fun _ _ => rfl⟩⟩
      · have HQ : Hid (decide (xs = ys) = true) := by
          refine hide ?_
          rw [decide_eq_true_eq]
          have h1 := unhide HE
          rwa [List.take_of_length_le (by omega), List.take_of_length_le (by have := unhide HL; omega)] at h1
        go_wp2
        go_ret
        exact ⟨ret_bool (by rw [unhide HQ]), unhide HW⟩
  · have hne : ((xs.length : Int) != (ys.length : Int)) = true := by rw [bne_iff_ne]; omega
    have HQ : Hid (decide (xs = ys) = false) := by
      refine hide ?_
      rw [decide_eq_false_iff_not]
      rintro rfl
      exact hl rfl
    clear ha hb hl
    go_enter Tryz.func33, Tryz.ntmps33
    go_wp2
    go_ret
    exact ⟨ret_bool (by rw [unhide HQ]), Below.refl _ _⟩

end Go.Proofs.YtpnkmnmchdabkaaGreat
