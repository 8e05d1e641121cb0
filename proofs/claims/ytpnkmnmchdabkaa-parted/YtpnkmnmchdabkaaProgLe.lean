import Derived.Test.YtpnkmnmchdabkaaLeaseNew
namespace Go.Proofs.Ytpnkmnmchdabkaa
open Go.RowKit
attribute [local go_sem ↓] Go.wp_at_zero Go.wp_at_succ

/-- One more, as a machine counts. -/
def inc (x : Int) : Int := IntKind.i64.wrap (x + 1)
theorem inc_is {x : Int} (h : 0 ≤ x ∧ x ≤ 1000000000000) : inc x = x + 1 := by unfold inc; rw [IntKind.wrap_i64]; omega
/-- So much later, as a machine counts. -/
def dif (s p : Int) : Int := IntKind.i64.wrap (s - p)
theorem dif_is {s p : Int} (h : 0 ≤ s ∧ s ≤ 1000000000000) (h' : 0 ≤ p ∧ p ≤ 1000000000000) : dif s p = s - p := by unfold dif; rw [IntKind.wrap_i64]; omega

set_option maxHeartbeats 400000 in
theorem leHas_any (b o : Nat) (n : Int) (w : World) :
    Calls Try.prog 93 #[.pointer (some ⟨b, o, none⟩), .int .i64 n] w fun e w' => e = .returned (.bool (decide (0 ≤ n ∧ n < 16))) ∧ w = w' := by
  by_cases h1 : 0 ≤ n
  · by_cases h2 : n < 16
    all_goals
      go_enter Try.func93, Try.ntmps93
      go_wp2
      go_ret
      exact ⟨by simp [h1, h2], rfl⟩
  · go_enter Try.func93, Try.ntmps93
    go_wp2
    go_ret
    exact ⟨by simp; omega, rfl⟩

theorem has16 {n : Nat} (h : n < 16) : decide (0 ≤ (n : Int) ∧ (n : Int) < 16) = true := by simp; omega

set_option maxRecDepth 100000 in
set_option maxHeartbeats 1000000 in
theorem leOf_any (b o n : Nat) (hn : n < 16) (x : Le) (w : World) (hb : b < w.heap.size) (c0 : w.cell? ⟨b, o + n * 3, none⟩ = some (.int .i64 x.o)) (c1 : w.cell? ⟨b, o + n * 3 + 1, none⟩ = some (.int .i64 x.c)) (c2 : w.cell? ⟨b, o + n * 3 + 2, none⟩ = some (.int .i64 x.e)) :
    Calls Try.prog 65 #[.pointer (some ⟨b, o, none⟩), .int .i64 n] w fun e w' => e = .returned (.agg #[.int .i64 x.o, .int .i64 x.c, .int .i64 x.e]) ∧ Below w.heap.size w w' := by
  have HH := fun w => hide (leHas_any b o n w)
  rw [has16 hn] at HH
  go_enter Try.func65, Try.ntmps65
  go_wp2_with (go_at_call 93; refine (unhide (HH _)).mono ?_; rintro e w1 ⟨rfl, rfl⟩)
  refine bodyPost_ret (v := .agg #[.int .i64 x.o, .int .i64 x.c, .int .i64 x.e]) ?_ rfl ⟨rfl, (Below.refl _ w).alloc (Nat.le_refl _) _⟩
  simp [results, Try.results65, go_sem]

set_option maxRecDepth 100000 in
set_option maxHeartbeats 1000000 in
theorem leGive_any (b o n : Nat) (hn : n < 16) (x : Le) (wk : Int) (w : World) (c0 : w.cell? ⟨b, o + n * 3, none⟩ = some (.int .i64 x.o)) (c1 : w.cell? ⟨b, o + n * 3 + 1, none⟩ = some (.int .i64 x.c)) (c2 : w.cell? ⟨b, o + n * 3 + 2, none⟩ = some (.int .i64 x.e)) (f : ∀ q, w.frozen? ⟨b, q, none⟩ = false) :
    Calls Try.prog 88 #[.pointer (some ⟨b, o, none⟩), .int .i64 n, .int .i64 wk] w fun e w' => e = .returned (.int .i64 (inc x.e)) ∧ Below w.heap.size (((w.setCell ⟨b, o + n * 3, none⟩ (.int .i64 wk)).setCell ⟨b, o + n * 3 + 1, none⟩ (.int .i64 (inc x.c))).setCell ⟨b, o + n * 3 + 2, none⟩ (.int .i64 (inc x.e))) w' := by
  have we : IntKind.i64.wrap (x.e + 1) = inc x.e := rfl
  have wc : IntKind.i64.wrap (x.c + 1) = inc x.c := rfl
  have f0 : w.frozen? ⟨b, o + n * 3, none⟩ = false := f _
  have f1 : w.frozen? ⟨b, o + n * 3 + 1, none⟩ = false := f _
  have f2 : w.frozen? ⟨b, o + n * 3 + 2, none⟩ = false := f _
  have HH := fun w => hide (leHas_any b o n w)
  rw [has16 hn] at HH
  go_enter Try.func88, Try.ntmps88
  go_wp2_with (go_at_call 93; refine (unhide (HH _)).mono ?_; rintro e w1 ⟨rfl, rfl⟩)
  go_region
  go_wp2
  go_region
  go_wp2
  go_ret
  exact ⟨rfl, (Below.refl _ _).drew.drew⟩

set_option maxRecDepth 100000 in
set_option maxHeartbeats 1000000 in
theorem leRenew_any (b o n : Nat) (hn : n < 16) (x : Le) (w : World) (c1 : w.cell? ⟨b, o + n * 3 + 1, none⟩ = some (.int .i64 x.c)) (f : ∀ q, w.frozen? ⟨b, q, none⟩ = false) :
    Calls Try.prog 85 #[.pointer (some ⟨b, o, none⟩), .int .i64 n] w fun e w' => e = .returned (.tuple #[]) ∧ Below w.heap.size (w.setCell ⟨b, o + n * 3 + 1, none⟩ (.int .i64 (inc x.c))) w' := by
  have wc : IntKind.i64.wrap (x.c + 1) = inc x.c := rfl
  have f0 : w.frozen? ⟨b, o + n * 3, none⟩ = false := f _
  have f1 : w.frozen? ⟨b, o + n * 3 + 1, none⟩ = false := f _
  have f2 : w.frozen? ⟨b, o + n * 3 + 2, none⟩ = false := f _
  have HH := fun w => hide (leHas_any b o n w)
  rw [has16 hn] at HH
  go_enter Try.func85, Try.ntmps85
  go_wp2_with (go_at_call 93; refine (unhide (HH _)).mono ?_; rintro e w1 ⟨rfl, rfl⟩)
  go_region
  all_goals (try go_wp2)
  go_end0
  exact ⟨rfl, (Below.refl _ _).drew⟩

set_option maxRecDepth 100000 in
set_option maxHeartbeats 1000000 in
theorem leFree_any (b o n : Nat) (hn : n < 16) (x : Le) (w : World) (c0 : w.cell? ⟨b, o + n * 3, none⟩ = some (.int .i64 x.o)) (c1 : w.cell? ⟨b, o + n * 3 + 1, none⟩ = some (.int .i64 x.c)) (f : ∀ q, w.frozen? ⟨b, q, none⟩ = false) :
    Calls Try.prog 84 #[.pointer (some ⟨b, o, none⟩), .int .i64 n] w fun e w' => e = .returned (.tuple #[]) ∧ Below w.heap.size ((w.setCell ⟨b, o + n * 3, none⟩ (.int .i64 (-1))).setCell ⟨b, o + n * 3 + 1, none⟩ (.int .i64 (inc x.c))) w' := by
  have wc : IntKind.i64.wrap (x.c + 1) = inc x.c := rfl
  have f0 : w.frozen? ⟨b, o + n * 3, none⟩ = false := f _
  have f1 : w.frozen? ⟨b, o + n * 3 + 1, none⟩ = false := f _
  have f2 : w.frozen? ⟨b, o + n * 3 + 2, none⟩ = false := f _
  have HH := fun w => hide (leHas_any b o n w)
  rw [has16 hn] at HH
  go_enter Try.func84, Try.ntmps84
  go_wp2_with (go_at_call 93; refine (unhide (HH _)).mono ?_; rintro e w1 ⟨rfl, rfl⟩)
  go_region
  all_goals (try go_wp2)
  go_end0
  exact ⟨rfl, (Below.refl _ _).drew⟩

end Go.Proofs.Ytpnkmnmchdabkaa
