import Derived.Test.YtodfgofcbefmlaaBase
namespace Go.Proofs.Ytodfgofcbefmlaa
open Go.RowKit

/-- The hash of the bytes of a text. -/
def hashL (l : List UInt8) : Int := l.foldl (fun h b => (31 * h + (b.toNat : Int)) % 256) 0
def letter (b : UInt8) : Bool := decide (97 ≤ b.toNat ∧ b.toNat ≤ 122)
def keyB (s : ByteArray) : Bool := decide (1 ≤ s.size ∧ s.size ≤ 8) && s.data.toList.all letter

theorem hashL_bd (l : List UInt8) : 0 ≤ hashL l ∧ hashL l < 256 := by
  have : ∀ (l : List UInt8) (h : Int), 0 ≤ h → h < 256 → 0 ≤ l.foldl (fun h b => (31 * h + (b.toNat : Int)) % 256) h ∧ l.foldl (fun h b => (31 * h + (b.toNat : Int)) % 256) h < 256 := by
    intro l
    induction l with
    | nil => intro h a b; exact ⟨a, b⟩
    | cons x r ih => intro h a b; exact ih _ (by show 0 ≤ (31 * h + (x.toNat : Int)) % 256; omega) (by show (31 * h + (x.toNat : Int)) % 256 < 256; omega)
  exact this l 0 (by omega) (by omega)
theorem hashL_snoc (l : List UInt8) (c : UInt8) : hashL (l ++ [c]) = (31 * hashL l + (c.toNat : Int)) % 256 := by simp [hashL]
theorem take_snoc (s : ByteArray) (k : Nat) (h : k < s.size) : s.data.toList.take (k + 1) = s.data.toList.take k ++ [s[k]] := by
  rw [List.take_succ_eq_append_getElem (by simpa using h)]; rfl

set_option maxHeartbeats 400000 in
theorem lawHash_any (s : ByteArray) (w : World) (hs : s.size ≤ maxLen) :
    Calls Try.prog 35 #[.string s] w fun e w' => e = .returned (.int .i64 (hashL s.data.toList)) ∧ w = w' := by
  unfold maxLen at hs
  go_enter Try.func35, Try.ntmps35
  go_wp2
  go_loop [3, 4] (fun n i => ∃ k : Nat, k ≤ s.size ∧ i = .int .i64 k ∧ n = .int .i64 (hashL (s.data.toList.take k))) (fun _ i => s.size - (intOf i).toNat)
  case atStart => exact ⟨0, Nat.zero_le _, rfl, rfl⟩
  case round =>
    obtain ⟨k, hk, rfl, rfl⟩ := hrel
    obtain ⟨hd1, hd2⟩ := hashL_bd (s.data.toList.take k)
    by_cases hlt : k < s.size
    · have HS := hide ((congrArg hashL (take_snoc s k hlt)).trans (hashL_snoc _ _))
      have hb : (s[k].toNat : Int) < 256 := by have := s[k].toNat_lt; omega
      go_wp2
      go_round
      case rel => exact ⟨k + 1, by omega, by go_num, by rw [unhide HS]⟩
      case measure => simp [intOf]; omega
    · go_wp2
      go_ret
      exact ⟨ret_int (by rw [List.take_of_length_le (by simp; omega)]), rfl⟩

theorem all_take_succ (s : ByteArray) (k : Nat) (h : k < s.size) : (s.data.toList.take (k + 1)).all letter = ((s.data.toList.take k).all letter && letter s[k]) := by
  rw [take_snoc s k h, List.all_append]; simp
theorem all_false (s : ByteArray) (k : Nat) (h : k < s.size) (hl : letter s[k] = false) : s.data.toList.all letter = false := by
  rw [List.all_eq_false]
  refine ⟨s[k], ?_, by simp [hl]⟩
  have : s[k] = s.data.toList[k]'(by simpa using h) := rfl
  rw [this]; exact List.getElem_mem _

set_option maxHeartbeats 400000 in
theorem isKey_any (s : ByteArray) (w : World) (hs : s.size ≤ maxLen) :
    Calls Try.prog 59 #[.string s] w fun e w' => e = .returned (.bool (keyB s)) ∧ w = w' := by
  unfold maxLen at hs
  go_enter Try.func59, Try.ntmps59
  go_wp2
  go_loop [3] (fun i => ∃ k : Nat, k ≤ s.size ∧ i = .int .i64 k ∧ (s.data.toList.take k).all letter = true) (fun i => s.size - (intOf i).toNat)
  case atStart => exact ⟨0, Nat.zero_le _, rfl, by simp⟩
  case round =>
    obtain ⟨k, hk, rfl, ha⟩ := hrel
    have HA := hide ha
    clear ha
    by_cases hlt : k < s.size
    · have HS := hide (all_take_succ s k hlt)
      have HF := hide (all_false s k hlt)
      by_cases h1 : s[k].toNat < 97
      · have hb : (s[k].toNat : Int) < 97 := by omega
        go_wp2
        go_ret
        exact ⟨ret_bool (by have := unhide HF (by simp [letter]; omega); simp [keyB, this]), rfl⟩
      · by_cases h2 : s[k].toNat ≤ 122
        · have hb : ¬ (s[k].toNat : Int) < 97 := by omega
          have hb2 : ¬ (122 < (s[k].toNat : Int)) := by omega
          go_wp2
          go_round
          case rel => exact ⟨k + 1, by omega, by go_num, by rw [unhide HS, unhide HA]; simp [letter]; omega⟩
          case measure => simp [intOf]; omega
        · have hb : ¬ (s[k].toNat : Int) < 97 := by omega
          have hb2 : (122 < (s[k].toNat : Int)) := by omega
          go_wp2
          go_ret
          exact ⟨ret_bool (by have := unhide HF (by simp [letter]; omega); simp [keyB, this]), rfl⟩
    · have HE : Hid (s.data.toList.all letter = true) := by
        have := unhide HA
        rw [List.take_of_length_le (by simp; omega)] at this
        exact this
      by_cases h1 : 1 ≤ s.size
      · by_cases h2 : s.size ≤ 8
        all_goals
          go_wp2
          go_ret
          exact ⟨ret_bool (by simp only [keyB, unhide HE]; rw [Bool.eq_iff_iff]; simp; omega), rfl⟩
      · go_wp2
        go_ret
        exact ⟨ret_bool (by simp only [keyB, unhide HE]; simp; omega), rfl⟩

end Go.Proofs.Ytodfgofcbefmlaa
