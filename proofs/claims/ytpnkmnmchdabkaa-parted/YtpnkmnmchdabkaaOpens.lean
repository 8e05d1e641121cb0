import Derived.Test.YtpnkmnmchdabkaaPartedW
import Derived.ProofKit
import Derived.OpenShut
import Derived.ShutString
import Derived.ChangeOld
import Derived.Below
import Derived.Lib.SmallJoins
import Derived.Deep.Slices
namespace Go.Proofs.Ytpnkmnmchdabkaa
open Go.ChangeShapes Go.WideShapes Go.ChangeAt Go.RowKit Go.Joins Go.Deep

theorem cellsOf23 : Try.prog.cellsOf 23 = 6 := by kernel_rfl
theorem cellsOf38 : Try.prog.cellsOf 34 = 6 := by kernel_rfl
theorem cellsOf3 : Try.prog.cellsOf 3 = 1 := by kernel_rfl
theorem cellsOf4 : Try.prog.cellsOf 4 = 1 := by kernel_rfl
theorem cellsOf9 : Try.prog.cellsOf 9 = 1 := by kernel_rfl

theorem list6 {α : Type} {l : List α} (h : l.length = 6) : ∃ a b c d e f, l = [a, b, c, d, e, f] := by
  match l, h with
  | [a, b, c, d, e, f], _ => exact ⟨a, b, c, d, e, f, rfl⟩

section
variable {H : Type} {enc : TypeId × Value → H} {w : World} {base : Nat} {spare : Nat → Bool} {held : Bool} {fuel : Nat} {x : DataW H × List MemPlace}

theorem in64_of {n : Int} (h : (Lit.int .i64 n).wf = true) : in64 n := by
  simpa [Lit.wf, IntKind.min, IntKind.max, IntKind.signed, IntKind.bits, in64] using h

theorem cfg_open {cs : List Value} (h : DataW.trod enc Try.prog w base spare held fuel 23 cs = some x) : ∃ C : Cfg, cs = C.arr.toList := by
  obtain ⟨xs, n, _, _, hl, hlen, hf⟩ := DataW.trod_struct Try.underlying23 h
  rw [cellsOf23] at hl
  obtain ⟨c0, c1, c2, c3, c4, c5, rfl⟩ := list6 hl
  obtain ⟨y0, y1, y2, y3, y4, y5, rfl⟩ := list6 hlen
  have g0 : DataW.trod enc Try.prog w base spare held n 3 [c0] = some y0 := by
    have h1 : DataW.trod enc Try.prog w base spare held n 3 ((([c0, c1, c2, c3, c4, c5] : List Value).drop 0).take (Try.prog.cellsOf 3)) = some y0 := hf 0 _ rfl
    rw [cellsOf3] at h1
    exact h1
  have g1 : DataW.trod enc Try.prog w base spare held n 3 [c1] = some y1 := by
    have h1 : DataW.trod enc Try.prog w base spare held n 3 ((([c0, c1, c2, c3, c4, c5] : List Value).drop 1).take (Try.prog.cellsOf 3)) = some y1 := hf 1 _ rfl
    rw [cellsOf3] at h1
    exact h1
  have g2 : DataW.trod enc Try.prog w base spare held n 3 [c2] = some y2 := by
    have h1 : DataW.trod enc Try.prog w base spare held n 3 ((([c0, c1, c2, c3, c4, c5] : List Value).drop 2).take (Try.prog.cellsOf 3)) = some y2 := hf 2 _ rfl
    rw [cellsOf3] at h1
    exact h1
  have g3 : DataW.trod enc Try.prog w base spare held n 3 [c3] = some y3 := by
    have h1 : DataW.trod enc Try.prog w base spare held n 3 ((([c0, c1, c2, c3, c4, c5] : List Value).drop 3).take (Try.prog.cellsOf 3)) = some y3 := hf 3 _ rfl
    rw [cellsOf3] at h1
    exact h1
  have g4 : DataW.trod enc Try.prog w base spare held n 3 [c4] = some y4 := by
    have h1 : DataW.trod enc Try.prog w base spare held n 3 ((([c0, c1, c2, c3, c4, c5] : List Value).drop 4).take (Try.prog.cellsOf 3)) = some y4 := hf 4 _ rfl
    rw [cellsOf3] at h1
    exact h1
  have g5 : DataW.trod enc Try.prog w base spare held n 3 [c5] = some y5 := by
    have h1 : DataW.trod enc Try.prog w base spare held n 3 ((([c0, c1, c2, c3, c4, c5] : List Value).drop 5).take (Try.prog.cellsOf 3)) = some y5 := hf 5 _ rfl
    rw [cellsOf3] at h1
    exact h1
  obtain ⟨n0, e0, _⟩ := DataW.trod_int Try.underlying3 g0
  obtain ⟨n1, e1, _⟩ := DataW.trod_int Try.underlying3 g1
  obtain ⟨n2, e2, _⟩ := DataW.trod_int Try.underlying3 g2
  obtain ⟨n3, e3, _⟩ := DataW.trod_int Try.underlying3 g3
  obtain ⟨n4, e4, _⟩ := DataW.trod_int Try.underlying3 g4
  obtain ⟨n5, e5, _⟩ := DataW.trod_int Try.underlying3 g5
  injection e0 with e0 _
  injection e1 with e1 _
  injection e2 with e2 _
  injection e3 with e3 _
  injection e4 with e4 _
  injection e5 with e5 _
  subst e0 e1 e2 e3 e4 e5
  exact ⟨⟨n0, n1, n2, n3, n4, n5⟩, rfl⟩

theorem st_open {cs : List Value} (h : DataW.trod enc Try.prog w base spare held fuel 34 cs = some x) : ∃ o : St, cs = o.arr.toList ∧ o.ok := by
  obtain ⟨xs, n, _, _, hl, hlen, hf⟩ := DataW.trod_struct Try.underlying34 h
  rw [cellsOf38] at hl
  obtain ⟨c0, c1, c2, c3, c4, c5, rfl⟩ := list6 hl
  obtain ⟨y0, y1, y2, y3, y4, y5, rfl⟩ := list6 hlen
  have g0 : DataW.trod enc Try.prog w base spare held n 3 [c0] = some y0 := by
    have h1 : DataW.trod enc Try.prog w base spare held n 3 ((([c0, c1, c2, c3, c4, c5] : List Value).drop 0).take (Try.prog.cellsOf 3)) = some y0 := hf 0 _ rfl
    rw [cellsOf3] at h1
    exact h1
  have g1 : DataW.trod enc Try.prog w base spare held n 3 [c1] = some y1 := by
    have h1 : DataW.trod enc Try.prog w base spare held n 3 ((([c0, c1, c2, c3, c4, c5] : List Value).drop 1).take (Try.prog.cellsOf 3)) = some y1 := hf 1 _ rfl
    rw [cellsOf3] at h1
    exact h1
  have g2 : DataW.trod enc Try.prog w base spare held n 3 [c2] = some y2 := by
    have h1 : DataW.trod enc Try.prog w base spare held n 3 ((([c0, c1, c2, c3, c4, c5] : List Value).drop 2).take (Try.prog.cellsOf 3)) = some y2 := hf 2 _ rfl
    rw [cellsOf3] at h1
    exact h1
  have g3 : DataW.trod enc Try.prog w base spare held n 3 [c3] = some y3 := by
    have h1 : DataW.trod enc Try.prog w base spare held n 3 ((([c0, c1, c2, c3, c4, c5] : List Value).drop 3).take (Try.prog.cellsOf 3)) = some y3 := hf 3 _ rfl
    rw [cellsOf3] at h1
    exact h1
  have g4 : DataW.trod enc Try.prog w base spare held n 9 [c4] = some y4 := by
    have h1 : DataW.trod enc Try.prog w base spare held n 9 ((([c0, c1, c2, c3, c4, c5] : List Value).drop 4).take (Try.prog.cellsOf 9)) = some y4 := hf 4 _ rfl
    rw [cellsOf9] at h1
    exact h1
  have g5 : DataW.trod enc Try.prog w base spare held n 4 [c5] = some y5 := by
    have h1 : DataW.trod enc Try.prog w base spare held n 4 ((([c0, c1, c2, c3, c4, c5] : List Value).drop 5).take (Try.prog.cellsOf 4)) = some y5 := hf 5 _ rfl
    rw [cellsOf4] at h1
    exact h1
  obtain ⟨n0, e0, _, w0⟩ := DataW.trod_int Try.underlying3 g0
  obtain ⟨n1, e1, _, w1⟩ := DataW.trod_int Try.underlying3 g1
  obtain ⟨n2, e2, _, w2⟩ := DataW.trod_int Try.underlying3 g2
  obtain ⟨n3, e3, _, w3⟩ := DataW.trod_int Try.underlying3 g3
  obtain ⟨n4, e4, _, w4⟩ := DataW.trod_string Try.underlying9 g4
  obtain ⟨n5, e5, _⟩ := DataW.trod_bool Try.underlying4 g5
  injection e0 with e0 _
  injection e1 with e1 _
  injection e2 with e2 _
  injection e3 with e3 _
  injection e4 with e4 _
  injection e5 with e5 _
  subst e0 e1 e2 e3 e4 e5
  exact ⟨⟨n0, n1, n2, n3, n4, n5⟩, rfl, ⟨in64_of w0, in64_of w1, in64_of w2, in64_of w3, w4⟩⟩

theorem addK (ab ao k : Nat) : (⟨ab, ao, none⟩ : Addr).add k = ⟨ab, ao + k, none⟩ := by unfold Addr.add; split <;> simp_all

theorem spot_none {a : Addr} {cs : List Value} (h : w.cells? base (a.add (0 * 6)) 6 = some cs) : a.spot = none := by
  obtain ⟨_, hl, hc⟩ := World.cells?_some h
  have h0 : w.cell? a = cs[0]? := hc 0 (by omega)
  cases hs : a.spot with
  | none => rfl
  | some s =>
    exfalso
    have : w.cell? a = none := by
      unfold World.cell?
      split
      · simp [hs]
      · rfl
    rw [this] at h0
    have := (List.getElem?_eq_none_iff.1 h0.symm)
    omega

/-- Six cells in a row, each by itself. -/
theorem cells6 {ab ao i : Nat} {cs : List Value} (h : w.cells? base ((⟨ab, ao, none⟩ : Addr).add (i * 6)) 6 = some cs) : ab < w.heap.size ∧ ∀ j, j < 6 → w.cell? ⟨ab, ao + i * 6 + j, none⟩ = cs[j]? := by
  have hb := World.cells?_block h (by omega)
  obtain ⟨_, _, hc⟩ := World.cells?_some h
  rw [addK] at hb hc
  refine ⟨hb, fun j hj => ?_⟩
  have := hc j hj
  rw [addK] at this
  exact this

/-- The script, read. -/
theorem script_open {a0 : Option Addr} {len cap : Nat} (h : DataW.trod enc Try.prog w base (fun _ => true) held fuel 24 [.slice a0 len cap] = some x) : len ≤ maxLen ∧ ∃ os : List St, IsScript w a0 len os := by
  rcases open_slice Try.underlying24 h with ⟨hcs, _⟩ | ⟨a, len', cap', m, n, D, Pl, hcs, _, hl, hm, hmm, _, hel⟩
  · injection hcs with hcs _
    injection hcs with e1 e2 e3
    subst e1 e2 e3
    exact ⟨by unfold maxLen; omega, [], rfl, fun i o hi => by simp at hi⟩
  · injection hcs with hcs _
    injection hcs with e1 e2 e3
    subst e1 e2 e3
    simp only [if_true] at hmm
    subst hmm
    refine ⟨by omega, ?_⟩
    rw [cellsOf38] at hel
    have ex : ∀ i, i < len → ∃ o : St, o.ok ∧ w.cells? base (a.add (i * 6)) 6 = some o.arr.toList := by
      intro i hi
      obtain ⟨cs, h1, h2⟩ := hel i (by omega)
      obtain ⟨o, rfl, ho⟩ := st_open h2
      exact ⟨o, ho, h1⟩
    have : ∃ f : Nat → St, ∀ i, i < len → (f i).ok ∧ w.cells? base (a.add (i * 6)) 6 = some (f i).arr.toList := by
      classical
      refine ⟨fun i => if hi : i < len then Classical.choose (ex i hi) else ⟨0, 0, 0, 0, ByteArray.empty, false⟩, fun i hi => ?_⟩
      simp only [dif_pos hi]
      exact Classical.choose_spec (ex i hi)
    obtain ⟨f, hf⟩ := this
    refine ⟨(List.range len).map f, by simp, fun i o hi => ?_⟩
    have hil : i < len := by
      have := (List.getElem?_eq_some_iff.1 hi).1
      simpa using this
    have hoi : o = f i := by
      have : ((List.range len).map f)[i]? = some (f i) := by simp [hil]
      rw [this] at hi
      cases hi; rfl
    subst hoi
    obtain ⟨hok, hc⟩ := hf i hil
    have hsp := spot_none (hf 0 (by omega)).2
    obtain ⟨ab, ao, asp⟩ := a
    simp at hsp
    subst hsp
    obtain ⟨hb, hcell⟩ := cells6 hc
    exact ⟨hok, ab, ao, rfl, hb, hcell 0 (by omega), hcell 1 (by omega), hcell 2 (by omega), hcell 3 (by omega), hcell 4 (by omega), hcell 5 (by omega)⟩
end

end Go.Proofs.Ytpnkmnmchdabkaa
