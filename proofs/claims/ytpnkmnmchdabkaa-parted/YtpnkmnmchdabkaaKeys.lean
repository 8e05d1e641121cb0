import Derived.Test.YtpnkmnmchdabkaaBase
namespace Go.Proofs.Ytpnkmnmchdabkaa
open Go.RowKit

/-- The hash of the bytes of a text. -/
def hashL (l : List UInt8) : Int := l.foldl (fun h b => (31 * h + (b.toNat : Int)) % 256) 0
def letter (b : UInt8) : Bool := decide (97 ≤ b.toNat ∧ b.toNat ≤ 122)
def keyB (s : ByteArray) : Bool := decide (1 ≤ s.size ∧ s.size ≤ 8) && s.data.toList.all letter

theorem hashL_bd (l : List UInt8) : 0 ≤ hashL l ∧ hashL l < 256 := by
  have : ∀ (l : List UInt8) (h : Int), 0 ≤ h → h < 256 → 0 ≤ l.foldl (fun h b => (31 * h + (b.toNat : Int)) % 256) h ∧ l.foldl (fun h b => (31 * h + (b.toNat : Int)) % 256) h < 256 := by
    intro l
    induction l with
    | nil => intro h a b; exact ⟨a, b⟩
    | cons x r ih => intro h a b; exact ih _ (by show 0 ≤ (31 * h + (x.toNat : Int)) % 256; omega) (by show (31 * h + (x.toNat : Int)) % 256 < 256; omega)
  exact this l 0 (by omega) (by omega)
theorem hashL_snoc (l : List UInt8) (c : UInt8) : hashL (l ++ [c]) = (31 * hashL l + (c.toNat : Int)) % 256 := by simp [hashL]
theorem take_snoc (s : ByteArray) (k : Nat) (h : k < s.size) : s.data.toList.take (k + 1) = s.data.toList.take k ++ [s[k]] := by
  rw [List.take_succ_eq_append_getElem (by simpa using h)]; rfl

theorem all_take_succ (s : ByteArray) (k : Nat) (h : k < s.size) : (s.data.toList.take (k + 1)).all letter = ((s.data.toList.take k).all letter && letter s[k]) := by
  rw [take_snoc s k h, List.all_append]; simp
theorem all_false (s : ByteArray) (k : Nat) (h : k < s.size) (hl : letter s[k] = false) : s.data.toList.all letter = false := by
  rw [List.all_eq_false]
  refine ⟨s[k], ?_, by simp [hl]⟩
  have : s[k] = s.data.toList[k]'(by simpa using h) := rfl
  rw [this]; exact List.getElem_mem _

end Go.Proofs.Ytpnkmnmchdabkaa
