import Derived.Test.YtpnkmnmchdabkaaBase
namespace Go.Proofs.Ytpnkmnmchdabkaa
open Go.RowKit

set_option maxHeartbeats 400000 in
theorem accepts_any (b off : Nat) (lo hi h : Int) (o : Bool) (w : World)
    (c0 : w.cell? ⟨b, off, none⟩ = some (.int .i64 lo)) (c1 : w.cell? ⟨b, off + 1, none⟩ = some (.int .i64 hi)) (c2 : w.cell? ⟨b, off + 2, none⟩ = some (.bool o)) :
    Calls Try.prog 114 #[.pointer (some ⟨b, off, none⟩), .int .i64 h] w fun e w' => e = .returned (.bool (accB o lo hi h)) ∧ w = w' := by
  cases o
  · go_enter Try.func114, Try.ntmps114
    go_wp2
    go_ret
    exact ⟨by simp [accB], rfl⟩
  · by_cases h1 : lo ≤ h
    · by_cases h2 : h < hi
      all_goals
        go_enter Try.func114, Try.ntmps114
        go_wp2
        go_ret
        exact ⟨by simp [accB, h1, h2], rfl⟩
    · go_enter Try.func114, Try.ntmps114
      go_wp2
      go_ret
      exact ⟨by simp [accB]; omega, rfl⟩

set_option maxHeartbeats 400000 in
theorem has_any (b off n cap : Nat) (sa : Option Addr) (k : Int) (w : World)
    (c0 : w.cell? ⟨b, off, none⟩ = some (.slice sa n cap)) :
    Calls Try.prog 54 #[.pointer (some ⟨b, off, none⟩), .int .i64 k] w fun e w' => e = .returned (.bool (decide (0 ≤ k ∧ k < n))) ∧ w = w' := by
  by_cases h1 : 0 ≤ k
  · by_cases h2 : k < n
    all_goals
      go_enter Try.func54, Try.ntmps54
      go_wp2
      go_ret
      exact ⟨by simp [h1, h2], rfl⟩
  · go_enter Try.func54, Try.ntmps54
    go_wp2
    go_ret
    exact ⟨by simp; omega, rfl⟩

set_option maxHeartbeats 400000 in
theorem hasRoom_any (b off n cap : Nat) (sa : Option Addr) (k : Int) (w : World) (hn : n ≤ 100) (hk : 0 ≤ k) (hk2 : k ≤ 100)
    (c0 : w.cell? ⟨b, off, none⟩ = some (.slice sa n cap)) :
    Calls Try.prog 105 #[.pointer (some ⟨b, off, none⟩), .int .i64 k] w fun e w' => e = .returned (.bool (decide ((n : Int) + k ≤ 16))) ∧ w = w' := by
  go_enter Try.func105, Try.ntmps105
  go_wp2
  go_ret
  exact ⟨by simp, rfl⟩

end Go.Proofs.Ytpnkmnmchdabkaa
