import Derived.Test.YtpnkmnmchdabkaaM23
import Derived.ProofKit
import Derived.OpenShut
import Derived.ShutString
import Derived.ChangeOld
import Derived.Below
import Derived.Lib.SmallJoins
import Derived.Deep.Slices
import Derived.Test.YtpnkmnmchdabkaaM19
namespace Go.Proofs.Ytpnkmnmchdabkaa
open Go.ChangeShapes Go.WideShapes Go.ChangeAt Go.RowKit Go.Joins Go.Deep

theorem cellsOf23 : Try.prog.cellsOf 23 = 6 := by kernel_rfl
theorem cellsOf38 : Try.prog.cellsOf 34 = 6 := by kernel_rfl
theorem cellsOf3 : Try.prog.cellsOf 3 = 1 := by kernel_rfl
theorem cellsOf4 : Try.prog.cellsOf 4 = 1 := by kernel_rfl
theorem cellsOf9 : Try.prog.cellsOf 9 = 1 := by kernel_rfl

theorem list6 {α : Type} {l : List α} (h : l.length = 6) : ∃ a b c d e f, l = [a, b, c, d, e, f] := by
  match l, h with
  | [a, b, c, d, e, f], _ => exact ⟨a, b, c, d, e, f, rfl⟩

section
variable {H : Type} {enc : TypeId × Value → H} {w : World} {base : Nat} {spare : Nat → Bool} {held : Bool} {fuel : Nat} {x : DataW H × List MemPlace}

theorem in64_of {n : Int} (h : (Lit.int .i64 n).wf = true) : in64 n := by
  simpa [Lit.wf, IntKind.min, IntKind.max, IntKind.signed, IntKind.bits, in64] using h

theorem cfg_open {cs : List Value} (h : DataW.trod enc Try.prog w base spare held fuel 23 cs = some x) : ∃ C : Cfg, cs = C.arr.toList := by
  obtain ⟨xs, n, _, _, hl, hlen, hf⟩ := DataW.trod_struct Try.underlying23 h
  rw [cellsOf23] at hl
  obtain ⟨c0, c1, c2, c3, c4, c5, rfl⟩ := list6 hl
  obtain ⟨y0, y1, y2, y3, y4, y5, rfl⟩ := list6 hlen
  have g0 : DataW.trod enc Try.prog w base spare held n 3 [c0] = some y0 := by
    have h1 : DataW.trod enc Try.prog w base spare held n 3 ((([c0, c1, c2, c3, c4, c5] : List Value).drop 0).take (Try.prog.cellsOf 3)) = some y0 := hf 0 _ rfl
    rw [cellsOf3] at h1
    exact h1
  have g1 : DataW.trod enc Try.prog w base spare held n 3 [c1] = some y1 := by
    have h1 : DataW.trod enc Try.prog w base spare held n 3 ((([c0, c1, c2, c3, c4, c5] : List Value).drop 1).take (Try.prog.cellsOf 3)) = some y1 := hf 1 _ rfl
    rw [cellsOf3] at h1
    exact h1
  have g2 : DataW.trod enc Try.prog w base spare held n 3 [c2] = some y2 := by
    have h1 : DataW.trod enc Try.prog w base spare held n 3 ((([c0, c1, c2, c3, c4, c5] : List Value).drop 2).take (Try.prog.cellsOf 3)) = some y2 := hf 2 _ rfl
    rw [cellsOf3] at h1
    exact h1
  have g3 : DataW.trod enc Try.prog w base spare held n 3 [c3] = some y3 := by
    have h1 : DataW.trod enc Try.prog w base spare held n 3 ((([c0, c1, c2, c3, c4, c5] : List Value).drop 3).take (Try.prog.cellsOf 3)) = some y3 := hf 3 _ rfl
    rw [cellsOf3] at h1
    exact h1
  have g4 : DataW.trod enc Try.prog w base spare held n 3 [c4] = some y4 := by
    have h1 : DataW.trod enc Try.prog w base spare held n 3 ((([c0, c1, c2, c3, c4, c5] : List Value).drop 4).take (Try.prog.cellsOf 3)) = some y4 := hf 4 _ rfl
    rw [cellsOf3] at h1
    exact h1
  have g5 : DataW.trod enc Try.prog w base spare held n 3 [c5] = some y5 := by
    have h1 : DataW.trod enc Try.prog w base spare held n 3 ((([c0, c1, c2, c3, c4, c5] : List Value).drop 5).take (Try.prog.cellsOf 3)) = some y5 := hf 5 _ rfl
    rw [cellsOf3] at h1
    exact h1
  obtain ⟨n0, e0, _⟩ := DataW.trod_int Try.underlying3 g0
  obtain ⟨n1, e1, _⟩ := DataW.trod_int Try.underlying3 g1
  obtain ⟨n2, e2, _⟩ := DataW.trod_int Try.underlying3 g2
  obtain ⟨n3, e3, _⟩ := DataW.trod_int Try.underlying3 g3
  obtain ⟨n4, e4, _⟩ := DataW.trod_int Try.underlying3 g4
  obtain ⟨n5, e5, _⟩ := DataW.trod_int Try.underlying3 g5
  injection e0 with e0 _
  injection e1 with e1 _
  injection e2 with e2 _
  injection e3 with e3 _
  injection e4 with e4 _
  injection e5 with e5 _
  subst e0 e1 e2 e3 e4 e5
  exact ⟨⟨n0, n1, n2, n3, n4, n5⟩, rfl⟩

theorem st_open {cs : List Value} (h : DataW.trod enc Try.prog w base spare held fuel 34 cs = some x) : ∃ o : St, cs = o.arr.toList ∧ o.ok := by
  obtain ⟨xs, n, _, _, hl, hlen, hf⟩ := DataW.trod_struct Try.underlying34 h
  rw [cellsOf38] at hl
  obtain ⟨c0, c1, c2, c3, c4, c5, rfl⟩ := list6 hl
  obtain ⟨y0, y1, y2, y3, y4, y5, rfl⟩ := list6 hlen
  have g0 : DataW.trod enc Try.prog w base spare held n 3 [c0] = some y0 := by
    have h1 : DataW.trod enc Try.prog w base spare held n 3 ((([c0, c1, c2, c3, c4, c5] : List Value).drop 0).take (Try.prog.cellsOf 3)) = some y0 := hf 0 _ rfl
    rw [cellsOf3] at h1
    exact h1
  have g1 : DataW.trod enc Try.prog w base spare held n 3 [c1] = some y1 := by
    have h1 : DataW.trod enc Try.prog w base spare held n 3 ((([c0, c1, c2, c3, c4, c5] : List Value).drop 1).take (Try.prog.cellsOf 3)) = some y1 := hf 1 _ rfl
    rw [cellsOf3] at h1
    exact h1
  have g2 : DataW.trod enc Try.prog w base spare held n 3 [c2] = some y2 := by
    have h1 : DataW.trod enc Try.prog w base spare held n 3 ((([c0, c1, c2, c3, c4, c5] : List Value).drop 2).take (Try.prog.cellsOf 3)) = some y2 := hf 2 _ rfl
    rw [cellsOf3] at h1
    exact h1
  have g3 : DataW.trod enc Try.prog w base spare held n 3 [c3] = some y3 := by
    have h1 : DataW.trod enc Try.prog w base spare held n 3 ((([c0, c1, c2, c3, c4, c5] : List Value).drop 3).take (Try.prog.cellsOf 3)) = some y3 := hf 3 _ rfl
    rw [cellsOf3] at h1
    exact h1
  have g4 : DataW.trod enc Try.prog w base spare held n 9 [c4] = some y4 := by
    have h1 : DataW.trod enc Try.prog w base spare held n 9 ((([c0, c1, c2, c3, c4, c5] : List Value).drop 4).take (Try.prog.cellsOf 9)) = some y4 := hf 4 _ rfl
    rw [cellsOf9] at h1
    exact h1
  have g5 : DataW.trod enc Try.prog w base spare held n 4 [c5] = some y5 := by
    have h1 : DataW.trod enc Try.prog w base spare held n 4 ((([c0, c1, c2, c3, c4, c5] : List Value).drop 5).take (Try.prog.cellsOf 4)) = some y5 := hf 5 _ rfl
    rw [cellsOf4] at h1
    exact h1
  obtain ⟨n0, e0, _, w0⟩ := DataW.trod_int Try.underlying3 g0
  obtain ⟨n1, e1, _, w1⟩ := DataW.trod_int Try.underlying3 g1
  obtain ⟨n2, e2, _, w2⟩ := DataW.trod_int Try.underlying3 g2
  obtain ⟨n3, e3, _, w3⟩ := DataW.trod_int Try.underlying3 g3
  obtain ⟨n4, e4, _, w4⟩ := DataW.trod_string Try.underlying9 g4
  obtain ⟨n5, e5, _⟩ := DataW.trod_bool Try.underlying4 g5
  injection e0 with e0 _
  injection e1 with e1 _
  injection e2 with e2 _
  injection e3 with e3 _
  injection e4 with e4 _
  injection e5 with e5 _
  subst e0 e1 e2 e3 e4 e5
  exact ⟨⟨n0, n1, n2, n3, n4, n5⟩, rfl, ⟨in64_of w0, in64_of w1, in64_of w2, in64_of w3, w4⟩⟩

theorem addK (ab ao k : Nat) : (⟨ab, ao, none⟩ : Addr).add k = ⟨ab, ao + k, none⟩ := by unfold Addr.add; split <;> simp_all

theorem spot_none {a : Addr} {cs : List Value} (h : w.cells? base (a.add (0 * 6)) 6 = some cs) : a.spot = none := by
  obtain ⟨_, hl, hc⟩ := World.cells?_some h
  have h0 : w.cell? a = cs[0]? := hc 0 (by omega)
  cases hs : a.spot with
  | none => rfl
  | some s =>
    exfalso
    have : w.cell? a = none := by
      unfold World.cell?
      split
      · simp [hs]
      · rfl
    rw [this] at h0
    have := (List.getElem?_eq_none_iff.1 h0.symm)
    omega

/-- Six cells in a row, each by itself. -/
theorem cells6 {ab ao i : Nat} {cs : List Value} (h : w.cells? base ((⟨ab, ao, none⟩ : Addr).add (i * 6)) 6 = some cs) : ab < w.heap.size ∧ ∀ j, j < 6 → w.cell? ⟨ab, ao + i * 6 + j, none⟩ = cs[j]? := by
  have hb := World.cells?_block h (by omega)
  obtain ⟨_, _, hc⟩ := World.cells?_some h
  rw [addK] at hb hc
  refine ⟨hb, fun j hj => ?_⟩
  have := hc j hj
  rw [addK] at this
  exact this

/-- The script, read. -/
theorem script_open {a0 : Option Addr} {len cap : Nat} (h : DataW.trod enc Try.prog w base (fun _ => true) held fuel 24 [.slice a0 len cap] = some x) : len ≤ maxLen ∧ ∃ os : List St, IsScript w a0 len os := by
  rcases open_slice Try.underlying24 h with ⟨hcs, _⟩ | ⟨a, len', cap', m, n, D, Pl, hcs, _, hl, hm, hmm, _, hel⟩
  · injection hcs with hcs _
    injection hcs with e1 e2 e3
    subst e1 e2 e3
    exact ⟨by unfold maxLen; omega, [], rfl, fun i o hi => by simp at hi⟩
  · injection hcs with hcs _
    injection hcs with e1 e2 e3
    subst e1 e2 e3
    simp only [if_true] at hmm
    subst hmm
    refine ⟨by omega, ?_⟩
    rw [cellsOf38] at hel
    have ex : ∀ i, i < len → ∃ o : St, o.ok ∧ w.cells? base (a.add (i * 6)) 6 = some o.arr.toList := by
      intro i hi
      obtain ⟨cs, h1, h2⟩ := hel i (by omega)
      obtain ⟨o, rfl, ho⟩ := st_open h2
      exact ⟨o, ho, h1⟩
    have : ∃ f : Nat → St, ∀ i, i < len → (f i).ok ∧ w.cells? base (a.add (i * 6)) 6 = some (f i).arr.toList := by
      classical
      refine ⟨fun i => if hi : i < len then Classical.choose (ex i hi) else ⟨0, 0, 0, 0, ByteArray.empty, false⟩, fun i hi => ?_⟩
      simp only [dif_pos hi]
      exact Classical.choose_spec (ex i hi)
    obtain ⟨f, hf⟩ := this
    refine ⟨(List.range len).map f, by simp, fun i o hi => ?_⟩
    have hil : i < len := by
      have := (List.getElem?_eq_some_iff.1 hi).1
      simpa using this
    have hoi : o = f i := by
      have : ((List.range len).map f)[i]? = some (f i) := by simp [hil]
      rw [this] at hi
      cases hi; rfl
    subst hoi
    obtain ⟨hok, hc⟩ := hf i hil
    have hsp := spot_none (hf 0 (by omega)).2
    obtain ⟨ab, ao, asp⟩ := a
    simp at hsp
    subst hsp
    obtain ⟨hb, hcell⟩ := cells6 hc
    exact ⟨hok, ab, ao, rfl, hb, hcell 0 (by omega), hcell 1 (by omega), hcell 2 (by omega), hcell 3 (by omega), hcell 4 (by omega), hcell 5 (by omega)⟩
end

end Go.Proofs.Ytpnkmnmchdabkaa
namespace Go.Proofs.Ytpnkmnmchdabkaa

/-- THE STATE OF A GROUP, AS FUNCTIONS: the time, the marks, the leases, the places. -/
structure Fs where
  t : Int
  d : Nat → Int
  g : Nat → Le
  f : Nat → Nat → Pl
/-- Worker a holds shard k, and the lease is its own. -/
def mt (s : Fs) (a k : Nat) : Prop := (s.f a k).held = true ∧ (s.g k).o = a ∧ (s.g k).e = (s.f a k).h.ep
def ch (A : Nat → Prop) (n : Nat) (s : Fs) (k : Nat) : Prop := ∃ a, a < n ∧ A a ∧ mt s a k
def AtOk (M : Nat → Prop) (n : Nat) (s : Fs) : Prop := ∀ a k, a < n → M a → k < 16 → mt s a k → (s.f a k).h.at_ = s.d k
def Nw (M : Nat → Prop) (n a0 : Nat) (s : Fs) : Prop := ∀ a k, a < n → M a → a ≠ a0 → k < 16 → mt s a k → (s.f a0 k).made = true → (s.f a0 k).c < (s.g k).c
def Bk (A : Nat → Prop) (n a0 : Nat) (τ : Int) (l : List Sh) (s : Fs) : Prop := ∀ k, k < l.length → ch A n s k ∨ fin l s.d k = true ∨ ((s.f a0 k).made = true ∧ (s.f a0 k).c = (s.g k).c ∧ (s.f a0 k).s ≤ τ)
/-- What is so of a state. -/
structure Gd (n : Nat) (l : List Sh) (s : Fs) : Prop where
  dd : ∀ k, k < 16 → 0 ≤ s.d k ∧ s.d k ≤ cn l k
  hd : ∀ a k, a < n → k < 16 → (s.f a k).held = true → k < l.length ∧ 0 ≤ (s.f a k).h.at_ ∧ (s.f a k).h.at_ ≤ s.d k
  nt : ∀ a k, a < n → k < 16 → (s.f a k).made = true → (s.f a k).c ≤ (s.g k).c ∧ (s.f a k).s ≤ s.t

/-- Renew, by worker i. -/
structure Rn (i : Nat) (fi : Nat → Bool) (s s' : Fs) : Prop where
  t : s'.t = s.t
  d : s'.d = s.d
  g : ∀ k, k < 16 → mt s i k → s'.g k = if fi k = true then ⟨-1, (s.g k).c + 1, (s.g k).e⟩ else { s.g k with c := (s.g k).c + 1 }
  g' : ∀ k, k < 16 → ¬ mt s i k → s'.g k = s.g k
  f : ∀ a k, k < 16 → a ≠ i → s'.f a k = s.f a k
  fn : ∀ k, k < 16 → (s'.f i k).made = (s.f i k).made ∧ (s'.f i k).c = (s.f i k).c ∧ (s'.f i k).s = (s.f i k).s
  fk : ∀ k, k < 16 → mt s i k → fi k = false → (s'.f i k).held = true ∧ (s'.f i k).h = (s.f i k).h
  fl : ∀ k, k < 16 → ¬ (mt s i k ∧ fi k = false) → (s'.f i k).held = false
theorem Rn.mine {i : Nat} {fi : Nat → Bool} {s s' : Fs} (h : Rn i fi s s') {k : Nat} (hk : k < 16) : mt s' i k ↔ (mt s i k ∧ fi k = false) := by
  constructor
  · intro hm
    by_cases hc : mt s i k ∧ fi k = false
    · exact hc
    · have := h.fl k hk hc
      rw [hm.1] at this
      cases this
  · rintro ⟨h1, h2⟩
    obtain ⟨a, b⟩ := h.fk k hk h1 h2
    have hg := h.g k hk h1
    rw [h2] at hg
    simp only [Bool.false_eq_true, if_false] at hg
    refine ⟨a, ?_, ?_⟩
    · rw [hg]; exact h1.2.1
    · rw [hg, b]; exact h1.2.2
theorem Rn.other {i : Nat} {fi : Nat → Bool} {s s' : Fs} (h : Rn i fi s s') {a k : Nat} (hk : k < 16) (ha : a ≠ i) : mt s' a k ↔ mt s a k := by
  have hf := h.f a k hk ha
  by_cases hm : mt s i k
  · have hg := h.g k hk hm
    constructor
    · intro hx
      exfalso
      have := hx.2.1
      rw [hg] at this
      by_cases hfi : fi k = true
      · rw [if_pos hfi] at this
        have h9 : (-1 : Int) = (a : Int) := this
        omega
      · rw [if_neg hfi] at this
        have h9 : (s.g k).o = (a : Int) := this
        have := hm.2.1
        omega
    · intro hx
      have h1 := hm.2.1
      have h2 := hx.2.1
      omega
  · unfold mt
    rw [hf, h.g' k hk hm]
theorem Rn.held {i : Nat} {fi : Nat → Bool} {s s' : Fs} (h : Rn i fi s s') {k : Nat} (hk : k < 16) (hh : (s'.f i k).held = true) : mt s' i k := by
  by_cases hc : mt s i k ∧ fi k = false
  · exact (h.mine hk).2 hc
  · rw [h.fl k hk hc] at hh
    cases hh
theorem Rn.at {i : Nat} {fi : Nat → Bool} {s s' : Fs} (h : Rn i fi s s') {M : Nat → Prop} {n : Nat} (ho : AtOk M n s) : AtOk M n s' := by
  intro a k ha hM hk hm
  rw [h.d]
  by_cases e : a = i
  · subst e
    have h1 := (h.mine hk).1 hm
    rw [(h.fk k hk h1.1 h1.2).2]
    exact ho a k ha hM hk h1.1
  · rw [h.f a k hk e]
    exact ho a k ha hM hk ((h.other hk e).1 hm)
theorem Rn.nw {i : Nat} {fi : Nat → Bool} {s s' : Fs} (h : Rn i fi s s') {M : Nat → Prop} {n a0 : Nat} {l : List Sh} (hG : Gd n l s) (h0 : a0 < n) (ho : Nw M n a0 s) : Nw (fun a => M a ∨ a = i) n a0 s' := by
  intro a k ha hM ha0 hk hm hmd
  have hnote : (s'.f a0 k).made = (s.f a0 k).made ∧ (s'.f a0 k).c = (s.f a0 k).c := by
    by_cases e : a0 = i
    · subst e; have := h.fn k hk; exact ⟨this.1, this.2.1⟩
    · rw [h.f a0 k hk e]; exact ⟨rfl, rfl⟩
  rw [hnote.1] at hmd
  rw [hnote.2]
  by_cases e : a = i
  · subst e
    have h1 := (h.mine hk).1 hm
    have hg := h.g k hk h1.1
    rw [h1.2] at hg
    simp only [Bool.false_eq_true, if_false] at hg
    have := (hG.nt a0 k h0 hk hmd).1
    rw [hg]
    show (s.f a0 k).c < (s.g k).c + 1
    omega
  · have h1 := (h.other hk e).1 hm
    have hne : ¬ mt s i k := fun h2 => by
      have := h1.2.1
      have := h2.2.1
      omega
    rw [h.g' k hk hne]
    rcases hM with hM | hM
    · exact ho a k ha hM ha0 hk h1 hmd
    · exact absurd hM e
theorem Rn.ch {i : Nat} {fi : Nat → Bool} {s s' : Fs} (h : Rn i fi s s') {A : Nat → Prop} {n : Nat} {k : Nat} (hk : k < 16) (hc : ch A n s k) : ch A n s' k ∨ fi k = true := by
  obtain ⟨a, ha, hA, hm⟩ := hc
  by_cases e : a = i
  · subst e
    by_cases hf : fi k = true
    · exact Or.inr hf
    · exact Or.inl ⟨a, ha, hA, (h.mine hk).2 ⟨hm, by simpa using hf⟩⟩
  · exact Or.inl ⟨a, ha, hA, (h.other hk e).2 hm⟩
theorem Rn.bk {i : Nat} {fi : Nat → Bool} {s s' : Fs} (h : Rn i fi s s') {A : Nat → Prop} {n a0 : Nat} {τ : Int} {l : List Sh} (hi : i < n) (hA : A i) (h16 : l.length ≤ 16) (hfi : ∀ k, fi k = true → fin l s.d k = true) (hb : Bk A n a0 τ l s) : Bk A n a0 τ l s' := by
  intro k hk
  have hk16 : k < 16 := by omega
  rw [h.d]
  rcases hb k hk with hc | hc | hc
  · rcases h.ch hk16 hc with h1 | h1
    · exact Or.inl h1
    · exact Or.inr (Or.inl (hfi k h1))
  · exact Or.inr (Or.inl hc)
  · by_cases hm : mt s i k
    · rcases h.ch hk16 ⟨i, hi, hA, hm⟩ with h1 | h1
      · exact Or.inl h1
      · exact Or.inr (Or.inl (hfi k h1))
    · refine Or.inr (Or.inr ?_)
      rw [h.g' k hk16 hm]
      by_cases e : a0 = i
      · subst e
        obtain ⟨b1, b2, b3⟩ := h.fn k hk16
        rw [b1, b2, b3]; exact hc
      · rw [h.f a0 k hk16 e]; exact hc

/-- Take, by worker i: the notes; and what it took. -/
structure Tk (i : Nat) (len : Nat) (s s' : Fs) (r : Option Nat) : Prop where
  t : s'.t = s.t
  d : s'.d = s.d
  g : ∀ k, k < 16 → s'.g k = if r = some k then ⟨i, (s.g k).c + 1, (s.g k).e + 1⟩ else s.g k
  f : ∀ a k, k < 16 → a ≠ i → s'.f a k = s.f a k
  fn : ∀ k, k < len → (s'.f i k).made = true ∧ (s'.f i k).c = (s.g k).c ∧ (s'.f i k).s = if (s.f i k).made = true ∧ (s.f i k).c = (s.g k).c then (s.f i k).s else s.t
  ff : ∀ k, len ≤ k → k < 16 → s'.f i k = s.f i k
  fh : ∀ k, k < 16 → r ≠ some k → (s'.f i k).held = (s.f i k).held ∧ (s'.f i k).h = (s.f i k).h
  fr : ∀ k, k < 16 → r = some k → (s'.f i k).held = true ∧ (s'.f i k).h.ep = (s.g k).e + 1 ∧ (s'.f i k).h.at_ = s.d k
theorem Tk.far {i len : Nat} {s s' : Fs} {r : Option Nat} (h : Tk i len s s' r) {a k : Nat} (hk : k < 16) (hr : r ≠ some k) : mt s' a k ↔ mt s a k := by
  unfold mt
  rw [h.g k hk, if_neg hr]
  by_cases e : a = i
  · subst e
    obtain ⟨b1, b2⟩ := h.fh k hk hr
    rw [b1, b2]
  · rw [h.f a k hk e]
theorem Tk.near {i len : Nat} {s s' : Fs} {r : Option Nat} (h : Tk i len s s' r) {a k : Nat} (hk : k < 16) (hr : r = some k) : mt s' a k ↔ a = i := by
  have hg := h.g k hk
  rw [if_pos hr] at hg
  constructor
  · intro hm
    have := hm.2.1
    rw [hg] at this
    have h9 : (i : Int) = (a : Int) := this
    omega
  · rintro rfl
    obtain ⟨b1, b2, b3⟩ := h.fr k hk hr
    refine ⟨b1, by rw [hg], by rw [hg, b2]⟩
theorem Tk.at {i len : Nat} {s s' : Fs} {r : Option Nat} (h : Tk i len s s' r) {M : Nat → Prop} {n : Nat} (ho : AtOk M n s) : AtOk M n s' := by
  intro a k ha hM hk hm
  rw [h.d]
  by_cases hr : r = some k
  · have e := (h.near hk hr).1 hm
    subst e
    exact (h.fr k hk hr).2.2
  · have h1 := (h.far hk hr).1 hm
    by_cases e : a = i
    · subst e
      rw [(h.fh k hk hr).2]
      exact ho a k ha hM hk h1
    · rw [h.f a k hk e]
      exact ho a k ha hM hk h1
theorem Tk.nw {i len : Nat} {s s' : Fs} {r : Option Nat} (h : Tk i len s s' r) {M : Nat → Prop} {n a0 : Nat} {l : List Sh} (hG : Gd n l s) (h0 : a0 < n) (hi : i ≠ a0) (ho : Nw M n a0 s) : Nw M n a0 s' := by
  intro a k ha hM ha0 hk hm hmd
  rw [h.f a0 k hk (fun e => hi e.symm)] at hmd ⊢
  by_cases hr : r = some k
  · rw [h.g k hk, if_pos hr]
    have := (hG.nt a0 k h0 hk hmd).1
    show (s.f a0 k).c < (s.g k).c + 1
    omega
  · rw [h.g k hk, if_neg hr]
    exact ho a k ha hM ha0 hk ((h.far hk hr).1 hm) hmd
theorem Tk.ch {i len : Nat} {s s' : Fs} {r : Option Nat} (h : Tk i len s s' r) {A : Nat → Prop} {n : Nat} (hi : i < n) (hA : A i) {k : Nat} (hk : k < 16) (hc : ch A n s k) : ch A n s' k := by
  by_cases hr : r = some k
  · exact ⟨i, hi, hA, (h.near hk hr).2 rfl⟩
  · obtain ⟨a, ha, hAa, hm⟩ := hc
    exact ⟨a, ha, hAa, (h.far hk hr).2 hm⟩
theorem Tk.bk {i len : Nat} {s s' : Fs} {r : Option Nat} (h : Tk i len s s' r) {A : Nat → Prop} {n a0 : Nat} {τ : Int} {l : List Sh} (hi : i < n) (hA : A i) (h16 : l.length ≤ 16) (hl : len = l.length) (hb : Bk A n a0 τ l s) : Bk A n a0 τ l s' := by
  intro k hk
  have hk16 : k < 16 := by omega
  by_cases hr : r = some k
  · exact Or.inl ⟨i, hi, hA, (h.near hk16 hr).2 rfl⟩
  · rw [h.d]
    rcases hb k hk with hc | hc | hc
    · exact Or.inl (h.ch hi hA hk16 hc)
    · exact Or.inr (Or.inl hc)
    · refine Or.inr (Or.inr ?_)
      rw [h.g k hk16, if_neg hr]
      by_cases e : a0 = i
      · subst e
        obtain ⟨b1, b2, b3⟩ := h.fn k (by omega)
        rw [if_pos ⟨hc.1, hc.2.1⟩] at b3
        exact ⟨b1, b2, by rw [b3]; exact hc.2.2⟩
      · rw [h.f a0 k hk16 e]; exact hc
/-- Behind a Take all that is not the crew's is noted. -/
theorem Tk.first {i len : Nat} {s s' : Fs} {r : Option Nat} (h : Tk i len s s' r) {A : Nat → Prop} {n : Nat} {l : List Sh} (hG : Gd n l s) (hi : i < n) (hA : A i) (h16 : l.length ≤ 16) (hl : len = l.length) : Bk A n i s.t l s' := by
  intro k hk
  have hk16 : k < 16 := by omega
  by_cases hr : r = some k
  · exact Or.inl ⟨i, hi, hA, (h.near hk16 hr).2 rfl⟩
  · refine Or.inr (Or.inr ?_)
    obtain ⟨b1, b2, b3⟩ := h.fn k (by omega)
    refine ⟨b1, by rw [b2, h.g k hk16, if_neg hr], ?_⟩
    rw [b3]
    split
    · rename_i hc
      exact (hG.nt i k hi hk16 hc.1).2
    · exact Int.le_refl _

/-- Fetch and Commit of all its holds, by worker i. -/
structure Wk (i : Nat) (l : List Sh) (b : Int) (s s' : Fs) : Prop where
  t : s'.t = s.t
  g : s'.g = s.g
  f : ∀ a k, k < 16 → a ≠ i → s'.f a k = s.f a k
  fn : ∀ k, k < 16 → (s'.f i k).made = (s.f i k).made ∧ (s'.f i k).c = (s.f i k).c ∧ (s'.f i k).s = (s.f i k).s
  no : ∀ k, k < 16 → (s.f i k).held = false → (s'.f i k).held = false ∧ s'.d k = s.d k
  yes : ∀ k, k < 16 → (s.f i k).held = true → (s.f i k).h.at_ = s.d k → (s'.f i k).held = true ∧ (s'.f i k).h.ep = (s.f i k).h.ep ∧ (s'.f i k).h.at_ = s'.d k ∧ s.d k ≤ s'.d k ∧ s'.d k ≤ cn l k ∧ (s.d k < cn l k → s.d k < s'.d k)
  out : ∀ k, k < 16 → (s.f i k).held = true → (s.f i k).h.at_ ≠ s.d k → (s'.f i k).held = false ∧ s'.d k = s.d k
theorem Wk.other {i : Nat} {l : List Sh} {b : Int} {s s' : Fs} (h : Wk i l b s s') {a k : Nat} (hk : k < 16) (ha : a ≠ i) : mt s' a k ↔ mt s a k := by
  unfold mt
  rw [h.g, h.f a k hk ha]
theorem Wk.mine {i : Nat} {l : List Sh} {b : Int} {s s' : Fs} (h : Wk i l b s s') {k : Nat} (hk : k < 16) : mt s' i k ↔ (mt s i k ∧ (s.f i k).h.at_ = s.d k) := by
  unfold mt
  rw [h.g]
  cases hh : (s.f i k).held
  · have := (h.no k hk hh).1
    rw [this]
    simp
  · by_cases ha : (s.f i k).h.at_ = s.d k
    · obtain ⟨a, b, _⟩ := h.yes k hk hh ha
      rw [a, b]
      simp [ha]
    · rw [(h.out k hk hh ha).1]
      simp [ha]
theorem Wk.at {i : Nat} {l : List Sh} {b : Int} {s s' : Fs} (h : Wk i l b s s') {M : Nat → Prop} {n : Nat} (hm : ∀ k, k < 16 → (s.f i k).held = true → mt s i k) (ho : AtOk M n s) : AtOk (fun a => M a ∨ a = i) n s' := by
  intro a k ha hM hk hx
  by_cases e : a = i
  · subst e
    have h1 := (h.mine hk).1 hx
    exact (h.yes k hk h1.1.1 h1.2).2.2.1
  · have h1 := (h.other hk e).1 hx
    rw [h.f a k hk e]
    have hd : s'.d k = s.d k := by
      cases hh : (s.f i k).held
      · exact (h.no k hk hh).2
      · exfalso
        have h2 := (hm k hk hh).2.1
        have h3 := h1.2.1
        omega
    rw [hd]
    rcases hM with hM | hM
    · exact ho a k ha hM hk h1
    · exact absurd hM e
theorem Wk.nw {i : Nat} {l : List Sh} {b : Int} {s s' : Fs} (h : Wk i l b s s') {M : Nat → Prop} {n a0 : Nat} (ho : Nw M n a0 s) : Nw M n a0 s' := by
  intro a k ha hM ha0 hk hx hmd
  have hn : (s'.f a0 k).made = (s.f a0 k).made ∧ (s'.f a0 k).c = (s.f a0 k).c := by
    by_cases e : a0 = i
    · subst e; have := h.fn k hk; exact ⟨this.1, this.2.1⟩
    · rw [h.f a0 k hk e]; exact ⟨rfl, rfl⟩
  rw [hn.1] at hmd
  rw [hn.2, h.g]
  refine ho a k ha hM ha0 hk ?_ hmd
  by_cases e : a = i
  · subst e; exact ((h.mine hk).1 hx).1
  · exact (h.other hk e).1 hx
theorem Wk.ch {i : Nat} {l : List Sh} {b : Int} {s s' : Fs} (h : Wk i l b s s') {A : Nat → Prop} {n : Nat} (hi : i < n) (ho : AtOk (fun a => a = i) n s) {k : Nat} (hk : k < 16) (hc : ch A n s k) : ch A n s' k := by
  obtain ⟨a, ha, hAa, hm⟩ := hc
  refine ⟨a, ha, hAa, ?_⟩
  by_cases e : a = i
  · subst e; exact (h.mine hk).2 ⟨hm, ho a k hi rfl hk hm⟩
  · exact (h.other hk e).2 hm
theorem Wk.le {i : Nat} {l : List Sh} {b : Int} {s s' : Fs} (h : Wk i l b s s') {k : Nat} (hk : k < 16) : s.d k ≤ s'.d k := by
  cases hh : (s.f i k).held
  · rw [(h.no k hk hh).2]; exact Int.le_refl _
  · by_cases ha : (s.f i k).h.at_ = s.d k
    · exact (h.yes k hk hh ha).2.2.2.1
    · rw [(h.out k hk hh ha).2]; exact Int.le_refl _

end Go.Proofs.Ytpnkmnmchdabkaa
