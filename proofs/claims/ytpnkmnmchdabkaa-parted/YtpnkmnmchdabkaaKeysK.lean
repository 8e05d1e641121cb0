import Derived.Test.YtpnkmnmchdabkaaKeys
namespace Go.Proofs.Ytpnkmnmchdabkaa
open Go.RowKit

set_option maxHeartbeats 400000 in
theorem lawHash_any (s : ByteArray) (w : World) (hs : s.size ≤ maxLen) :
    Calls Try.prog 34 #[.string s] w fun e w' => e = .returned (.int .i64 (hashL s.data.toList)) ∧ w = w' := by
  unfold maxLen at hs
  go_enter Try.func34, Try.ntmps34
  go_wp2
  go_loop [3, 4] (fun n i => ∃ k : Nat, k ≤ s.size ∧ i = .int .i64 k ∧ n = .int .i64 (hashL (s.data.toList.take k))) (fun _ i => s.size - (intOf i).toNat)
  case atStart => exact ⟨0, Nat.zero_le _, rfl, rfl⟩
  case round =>
    obtain ⟨k, hk, rfl, rfl⟩ := hrel
    obtain ⟨hd1, hd2⟩ := hashL_bd (s.data.toList.take k)
    by_cases hlt : k < s.size
    · have HS := hide ((congrArg hashL (take_snoc s k hlt)).trans (hashL_snoc _ _))
      have hb : (s[k].toNat : Int) < 256 := by have := s[k].toNat_lt; omega
      go_wp2
      go_round
      case rel => exact ⟨k + 1, by omega, by go_num, by rw [unhide HS]⟩
      case measure => simp [intOf]; omega
    · go_wp2
      go_ret
      exact ⟨ret_int (by rw [List.take_of_length_le (by simp; omega)]), rfl⟩

set_option maxHeartbeats 400000 in
theorem isKey_any (s : ByteArray) (w : World) (hs : s.size ≤ maxLen) :
    Calls Try.prog 45 #[.string s] w fun e w' => e = .returned (.bool (keyB s)) ∧ w = w' := by
  unfold maxLen at hs
  go_enter Try.func45, Try.ntmps45
  go_wp2
  go_loop [3] (fun i => ∃ k : Nat, k ≤ s.size ∧ i = .int .i64 k ∧ (s.data.toList.take k).all letter = true) (fun i => s.size - (intOf i).toNat)
  case atStart => exact ⟨0, Nat.zero_le _, rfl, by simp⟩
  case round =>
    obtain ⟨k, hk, rfl, ha⟩ := hrel
    have HA := hide ha
    clear ha
    by_cases hlt : k < s.size
    · have HS := hide (all_take_succ s k hlt)
      have HF := hide (all_false s k hlt)
      by_cases h1 : s[k].toNat < 97
      · have hb : (s[k].toNat : Int) < 97 := by omega
        go_wp2
        go_ret
        exact ⟨ret_bool (by have := unhide HF (by simp [letter]; omega); simp [keyB, this]), rfl⟩
      · by_cases h2 : s[k].toNat ≤ 122
        · have hb : ¬ (s[k].toNat : Int) < 97 := by omega
          have hb2 : ¬ (122 < (s[k].toNat : Int)) := by omega
          go_wp2
          go_round
          case rel => exact ⟨k + 1, by omega, by go_num, by rw [unhide HS, unhide HA]; simp [letter]; omega⟩
          case measure => simp [intOf]; omega
        · have hb : ¬ (s[k].toNat : Int) < 97 := by omega
          have hb2 : (122 < (s[k].toNat : Int)) := by omega
          go_wp2
          go_ret
          exact ⟨ret_bool (by have := unhide HF (by simp [letter]; omega); simp [keyB, this]), rfl⟩
    · have HE : Hid (s.data.toList.all letter = true) := by
        have := unhide HA
        rw [List.take_of_length_le (by simp; omega)] at this
        exact this
      by_cases h1 : 1 ≤ s.size
      · by_cases h2 : s.size ≤ 8
        all_goals
          go_wp2
          go_ret
          exact ⟨ret_bool (by simp only [keyB, unhide HE]; rw [Bool.eq_iff_iff]; simp; omega), rfl⟩
      · go_wp2
        go_ret
        exact ⟨ret_bool (by simp only [keyB, unhide HE]; simp; omega), rfl⟩

end Go.Proofs.Ytpnkmnmchdabkaa
