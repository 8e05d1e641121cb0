import Derived.Test.YtpnkmnmchdabkaaBase
namespace Go.Proofs.Ytpnkmnmchdabkaa
open Go.RowKit

/-- A hold. -/
structure Hd where
  sh : Int
  ep : Int
  at_ : Int
  bf : Int
def hdCells (x : Hd) : List Value := [.int .i64 x.sh, .int .i64 x.ep, .int .i64 x.at_, .int .i64 x.bf]
def rowHd : List Hd → List Value
  | [] => []
  | s :: r => hdCells s ++ rowHd r
theorem rowHd_get (l : List Hd) (i j : Nat) (hj : j < 4) (s : Hd) (h : l[i]? = some s) : (rowHd l)[i * 4 + j]? = (hdCells s)[j]? := by
  induction l generalizing i with
  | nil => simp at h
  | cons x r ih =>
    cases i with
    | zero =>
      simp at h; subst h
      simp only [rowHd, Nat.zero_mul, Nat.zero_add]
      rw [List.getElem?_append_left (by simpa [hdCells] using hj)]
    | succ i =>
      simp at h
      simp only [rowHd]
      rw [List.getElem?_append_right (by simp only [hdCells, List.length_cons, List.length_nil]; omega), ← ih i h]
      congr 1
      simp only [hdCells, List.length_cons, List.length_nil]; omega
theorem rowHd_append (l k : List Hd) : rowHd (l ++ k) = rowHd l ++ rowHd k := by
  induction l with
  | nil => rfl
  | cons s r ih => simp [rowHd, ih]
theorem infoHold : (Try.prog.info? 75).map (fun i => (i.zero, i.size, i.bytes)) = some (some (.agg #[.int .i64 0, .int .i64 0, .int .i64 0, .int .i64 0]), 4, 32) := by kernel_rfl
end Go.Proofs.Ytpnkmnmchdabkaa
