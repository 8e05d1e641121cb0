import Derived.Test.YtpnkmnmchdabkaaGreatRefNew
namespace Go.Proofs.YtpnkmnmchdabkaaGreat
open Go.RowKit
attribute [local go_sem ↓] Go.wp_at_zero Go.wp_at_succ

set_option maxRecDepth 100000 in
set_option maxHeartbeats 1000000 in
/-- mark: another one. -/
theorem mark_any (w : World) (wb : Nat) (last : Int) (c7 : w.cell? ⟨wb, 7, none⟩ = some (.int .i64 last)) (f7 : w.frozen? ⟨wb, 7, none⟩ = false) (h1 : -9000000000000000000 ≤ last) (h2 : last ≤ 0) :
    Calls Tryz.prog 71 #[.pointer (some ⟨wb, 0, none⟩)] w fun e w' => e = .returned (.int .i64 (last - 1)) ∧ w.setCell ⟨wb, 7, none⟩ (.int .i64 (last - 1)) = w' := by
  go_enter Tryz.func71, Tryz.ntmps71
  go_wp2
  go_ret
  exact ⟨rfl, rfl⟩

set_option maxRecDepth 100000 in
set_option maxHeartbeats 1000000 in
/-- Two lists of ints. -/
theorem sameInts_any (w : World) (va vb : Value) (xs ys : List Int) (ha : w.ownsRow 0 3 1 va xs.length (xs.map (Value.int .i64))) (hb : w.ownsRow 0 3 1 vb ys.length (ys.map (Value.int .i64))) (hx : xs.length ≤ 1000000) :
    Calls Tryz.prog 33 #[va, vb] w fun e w' => e = .returned (.bool (decide (xs = ys))) ∧ Below w.heap.size w w' := by
  obtain ⟨pa, ca, rfl⟩ := ownsRow_len ha
  obtain ⟨pb, cb, rfl⟩ := ownsRow_len hb
  by_cases hl : xs.length = ys.length
  · have HA : Hid (∀ i x, xs[i]? = some x → ∃ g, pa = some ⟨g, 0, none⟩ ∧ g < w.heap.size ∧ w.cell? ⟨g, i, none⟩ = some (.int .i64 x)) := by
      intro i x hi
      have hlt := (List.getElem?_eq_some_iff.1 hi).1
      obtain ⟨g, cap, cur, hv, _, hg, _, _, _, ht⟩ := ownsRow_shape ha (by omega)
      injection hv with e1
      refine ⟨g, e1, lt_of_heap hg, ?_⟩
      have := ha.cells (g := g) (by rw [e1]; rfl) i (.int .i64 x) (by simp [hi])
      rwa [show (⟨g, 0, none⟩ : Addr).add i = ⟨g, i, none⟩ by unfold Addr.add; split <;> simp_all] at this
    have HB : Hid (∀ i x, ys[i]? = some x → ∃ g, pb = some ⟨g, 0, none⟩ ∧ g < w.heap.size ∧ w.cell? ⟨g, i, none⟩ = some (.int .i64 x)) := by
      intro i x hi
      have hlt := (List.getElem?_eq_some_iff.1 hi).1
      obtain ⟨g, cap, cur, hv, _, hg, _, _, _, ht⟩ := ownsRow_shape hb (by omega)
      injection hv with e1
      refine ⟨g, e1, lt_of_heap hg, ?_⟩
      have := hb.cells (g := g) (by rw [e1]; rfl) i (.int .i64 x) (by simp [hi])
      rwa [show (⟨g, 0, none⟩ : Addr).add i = ⟨g, i, none⟩ by unfold Addr.add; split <;> simp_all] at this
    have HL := hide hl
    rw [← hl]
    clear ha hb hl
    go_enter Tryz.func33, Tryz.ntmps33
    go_wp2
    go_loopw [5] (fun i wr => ∃ j : Nat, j ≤ xs.length ∧ i = .int .i64 j ∧ xs.take j = ys.take j ∧ Below w.heap.size w wr) (fun i _ => xs.length - (intOf i).toNat)
    case atStart => exact ⟨0, Nat.zero_le _, rfl, by simp, Below.refl _ _⟩
    case round =>
      obtain ⟨j, hj, rfl, heq, hB⟩ := hrel
      have HE := hide heq
      have HW := hide hB
      clear heq hB
      by_cases hlt : j < xs.length
      · obtain ⟨x, hx1⟩ : ∃ x, xs[j]? = some x := ⟨xs[j], List.getElem?_eq_getElem hlt⟩
        obtain ⟨y, hy1⟩ : ∃ y, ys[j]? = some y := ⟨ys[j]'(by have := unhide HL; omega), List.getElem?_eq_getElem _⟩
        obtain ⟨g, rfl, hg, hc⟩ := unhide HA j x hx1
        obtain ⟨g', rfl, hg', hc'⟩ := unhide HB j y hy1
        have k1 := ((unhide HW).cell (p := ⟨g, j, none⟩) hg).trans hc
        have k2 := ((unhide HW).cell (p := ⟨g', j, none⟩) hg').trans hc'
        have HX := hide hx1
        have HY := hide hy1
        clear hc hc' hx1 hy1 HA HB
        by_cases hxy : x = y
        · have hne : (x != y) = false := by rw [hxy]; simp
          have HQ := hide hxy
          clear hxy
          go_wp2
          go_quiet (fail)
          go_wp2
          go_roundw
          case rel =>
            refine ⟨j + 1, by omega, by go_num, ?_, ?_⟩
            · have e1 := (List.getElem?_eq_some_iff.1 (unhide HX))
              have e2 := (List.getElem?_eq_some_iff.1 (unhide HY))
              rw [List.take_succ_eq_append_getElem e1.1, List.take_succ_eq_append_getElem e2.1, unhide HE, e1.2, e2.2, unhide HQ]
            · exact (unhide HW).trans ⟨rfl, rfl, rfl, Nat.le_refl _, fun _ _ => rfl⟩
          case measure => simp [intOf]; omega
        · have hne : (x != y) = true := by rw [bne_iff_ne]; exact hxy
          have HQ : Hid (decide (xs = ys) = false) := by
            refine hide ?_
            rw [decide_eq_false_iff_not]
            rintro rfl
            have h1 := unhide HX
            rw [unhide HY] at h1
            injection h1 with h1
            exact hxy h1.symm
          clear hxy
          go_wp2
          go_quiet (fail)
          go_wp2
          go_ret
          exact ⟨ret_bool (by rw [unhide HQ]), (unhide HW).trans ⟨rfl, rfl, rfl, Nat.le_refl _, fun _ _ => rfl⟩⟩
      · have HQ : Hid (decide (xs = ys) = true) := by
          refine hide ?_
          rw [decide_eq_true_eq]
          have h1 := unhide HE
          rwa [List.take_of_length_le (by omega), List.take_of_length_le (by have := unhide HL; omega)] at h1
        go_wp2
        go_ret
        exact ⟨ret_bool (by rw [unhide HQ]), unhide HW⟩
  · have hne : ((xs.length : Int) != (ys.length : Int)) = true := by rw [bne_iff_ne]; omega
    have HQ : Hid (decide (xs = ys) = false) := by
      refine hide ?_
      rw [decide_eq_false_iff_not]
      rintro rfl
      exact hl rfl
    clear ha hb hl
    go_enter Tryz.func33, Tryz.ntmps33
    go_wp2
    go_ret
    exact ⟨ret_bool (by rw [unhide HQ]), Below.refl _ _⟩

end Go.Proofs.YtpnkmnmchdabkaaGreat
