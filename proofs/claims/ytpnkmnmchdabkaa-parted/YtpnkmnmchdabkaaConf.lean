import Derived.Test.YtpnkmnmchdabkaaBase
namespace Go.Proofs.Ytpnkmnmchdabkaa
open Go.RowKit

set_option maxHeartbeats 400000 in
theorem within_any (n a b : Int) (w : World) :
    Calls Try.prog 73 #[.int .i64 n, .int .i64 a, .int .i64 b] w fun e w' => e = .returned (.bool (withinB n a b)) ∧ w = w' := by
  by_cases h1 : a ≤ n
  · by_cases h2 : n ≤ b
    all_goals
      go_enter Try.func73, Try.ntmps73
      go_wp2
      go_ret
      exact ⟨by simp [withinB, h1, h2], rfl⟩
  · go_enter Try.func73, Try.ntmps73
    go_wp2
    go_ret
    exact ⟨by simp [withinB]; omega, rfl⟩

set_option maxHeartbeats 400000 in
theorem validWindows_any (n s : Int) (w : World) :
    Calls Try.prog 74 #[.int .i64 n, .int .i64 s] w fun e w' => e = .returned (.bool (winB n s)) ∧ w = w' := by
  cases h1 : withinB n 1 100
  · have H1 := hide h1
    clear h1
    go_enter Try.func74, Try.ntmps74
    go_wp2_with fail
    refine (within_any _ _ _ _).mono ?_; rintro e w' ⟨rfl, rfl⟩
    rw [unhide H1]
    go_wp2_with fail
    refine (within_any _ _ _ _).mono ?_; rintro e w' ⟨rfl, rfl⟩
    go_wp2
    go_ret
    exact ⟨ret_bool (by have := unhide H1; simp [winB, withinB] at *; omega), rfl⟩
  · cases h2 : withinB s 1 n
    · have H1 := hide h1
      have H2 := hide h2
      clear h1 h2
      go_enter Try.func74, Try.ntmps74
      go_wp2_with fail
      refine (within_any _ _ _ _).mono ?_; rintro e w' ⟨rfl, rfl⟩
      rw [unhide H1]
      go_wp2_with fail
      refine (within_any _ _ _ _).mono ?_; rintro e w' ⟨rfl, rfl⟩
      rw [unhide H2]
      go_wp2
      go_ret
      exact ⟨ret_bool (by have := unhide H1; have := unhide H2; simp [winB, withinB] at *; omega), rfl⟩
    · have H1 := hide h1
      have H2 := hide h2
      have b1 : 1 ≤ n ∧ n ≤ 100 := by simpa [withinB] using h1
      have b2 : 1 ≤ s ∧ s ≤ n := by simpa [withinB] using h2
      obtain ⟨b11, b12⟩ := b1
      obtain ⟨b21, b22⟩ := b2
      clear h1 h2
      go_enter Try.func74, Try.ntmps74
      go_wp2_with fail
      refine (within_any _ _ _ _).mono ?_; rintro e w' ⟨rfl, rfl⟩
      rw [unhide H1]
      go_wp2_with fail
      refine (within_any _ _ _ _).mono ?_; rintro e w' ⟨rfl, rfl⟩
      rw [unhide H2]
      go_wp2
      go_ret
      exact ⟨ret_bool (by rw [Bool.eq_iff_iff]; simp [winB]; omega), rfl⟩

set_option maxHeartbeats 1000000 in
theorem valid_any (a l b n s t : Int) (w : World) :
    Calls Try.prog 41 #[.agg #[.int .i64 a, .int .i64 l, .int .i64 b, .int .i64 n, .int .i64 s, .int .i64 t]] w fun e w' => e = .returned (.bool (validB a l b n s t)) ∧ Below w.heap.size w w' := by
  have hv : validB a l b n s t = (withinB a 1 4 && withinB l 1 10 && withinB b 1 8 && withinB t 0 100 && winB n s) := by
    rw [Bool.eq_iff_iff]; simp [validB, withinB, winB, and_assoc]
  rw [hv]; clear hv
  go_enter Try.func41, Try.ntmps41
  go_wp2_with fail
  refine (within_any _ _ _ _).mono ?_; rintro e w' ⟨rfl, rfl⟩
  generalize hq1 : withinB a 1 4 = q1
  have H1 := hide hq1
  clear hq1
  go_wp2_with fail
  refine (within_any _ _ _ _).mono ?_; rintro e w' ⟨rfl, rfl⟩
  generalize hq2 : withinB l 1 10 = q2
  have H2 := hide hq2
  clear hq2
  go_wp2_with fail
  refine (within_any _ _ _ _).mono ?_; rintro e w' ⟨rfl, rfl⟩
  generalize hq3 : withinB b 1 8 = q3
  have H3 := hide hq3
  clear hq3
  go_wp2_with fail
  refine (within_any _ _ _ _).mono ?_; rintro e w' ⟨rfl, rfl⟩
  generalize hq4 : withinB t 0 100 = q4
  have H4 := hide hq4
  clear hq4
  go_wp2_with fail
  refine (validWindows_any _ _ _).mono ?_; rintro e w' ⟨rfl, rfl⟩
  generalize hq5 : winB n s = q5
  have H5 := hide hq5
  clear hq5
  cases q1 <;> cases q2 <;> cases q3 <;> cases q4
  all_goals
    go_wp2
    go_ret
    exact ⟨ret_bool (by rw [unhide H1, unhide H2, unhide H3, unhide H4, unhide H5]; simp), (Below.refl _ _).alloc (Nat.le_refl _) _⟩

end Go.Proofs.Ytpnkmnmchdabkaa
