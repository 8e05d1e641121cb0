import Derived.Test.YtpnkmnmchdabkaaM22
import Derived.ProofKit
import Derived.OpenShut
import Derived.ShutString
import Derived.ChangeOld
import Derived.Below
import Derived.Lib.SmallJoins
import Derived.Deep.Slices
import Derived.Test.YtpnkmnmchdabkaaCrew
namespace Go.Proofs.Ytpnkmnmchdabkaa
open Go.ChangeShapes Go.WideShapes Go.ChangeAt Go.RowKit Go.Joins Go.Deep

theorem cellsOf23 : Try.prog.cellsOf 23 = 6 := by kernel_rfl
theorem cellsOf38 : Try.prog.cellsOf 34 = 6 := by kernel_rfl
theorem cellsOf3 : Try.prog.cellsOf 3 = 1 := by kernel_rfl
theorem cellsOf4 : Try.prog.cellsOf 4 = 1 := by kernel_rfl
theorem cellsOf9 : Try.prog.cellsOf 9 = 1 := by kernel_rfl

theorem list6 {α : Type} {l : List α} (h : l.length = 6) : ∃ a b c d e f, l = [a, b, c, d, e, f] := by
  match l, h with
  | [a, b, c, d, e, f], _ => exact ⟨a, b, c, d, e, f, rfl⟩

section
variable {H : Type} {enc : TypeId × Value → H} {w : World} {base : Nat} {spare : Nat → Bool} {held : Bool} {fuel : Nat} {x : DataW H × List MemPlace}

theorem in64_of {n : Int} (h : (Lit.int .i64 n).wf = true) : in64 n := by
  simpa [Lit.wf, IntKind.min, IntKind.max, IntKind.signed, IntKind.bits, in64] using h

theorem cfg_open {cs : List Value} (h : DataW.trod enc Try.prog w base spare held fuel 23 cs = some x) : ∃ C : Cfg, cs = C.arr.toList := by
  obtain ⟨xs, n, _, _, hl, hlen, hf⟩ := DataW.trod_struct Try.underlying23 h
  rw [cellsOf23] at hl
  obtain ⟨c0, c1, c2, c3, c4, c5, rfl⟩ := list6 hl
  obtain ⟨y0, y1, y2, y3, y4, y5, rfl⟩ := list6 hlen
  have g0 : DataW.trod enc Try.prog w base spare held n 3 [c0] = some y0 := by
    have h1 : DataW.trod enc Try.prog w base spare held n 3 ((([c0, c1, c2, c3, c4, c5] : List Value).drop 0).take (Try.prog.cellsOf 3)) = some y0 := hf 0 _ rfl
    rw [cellsOf3] at h1
    exact h1
  have g1 : DataW.trod enc Try.prog w base spare held n 3 [c1] = some y1 := by
    have h1 : DataW.trod enc Try.prog w base spare held n 3 ((([c0, c1, c2, c3, c4, c5] : List Value).drop 1).take (Try.prog.cellsOf 3)) = some y1 := hf 1 _ rfl
    rw [cellsOf3] at h1
    exact h1
  have g2 : DataW.trod enc Try.prog w base spare held n 3 [c2] = some y2 := by
    have h1 : DataW.trod enc Try.prog w base spare held n 3 ((([c0, c1, c2, c3, c4, c5] : List Value).drop 2).take (Try.prog.cellsOf 3)) = some y2 := hf 2 _ rfl
    rw [cellsOf3] at h1
    exact h1
  have g3 : DataW.trod enc Try.prog w base spare held n 3 [c3] = some y3 := by
    have h1 : DataW.trod enc Try.prog w base spare held n 3 ((([c0, c1, c2, c3, c4, c5] : List Value).drop 3).take (Try.prog.cellsOf 3)) = some y3 := hf 3 _ rfl
    rw [cellsOf3] at h1
    exact h1
  have g4 : DataW.trod enc Try.prog w base spare held n 3 [c4] = some y4 := by
    have h1 : DataW.trod enc Try.prog w base spare held n 3 ((([c0, c1, c2, c3, c4, c5] : List Value).drop 4).take (Try.prog.cellsOf 3)) = some y4 := hf 4 _ rfl
    rw [cellsOf3] at h1
    exact h1
  have g5 : DataW.trod enc Try.prog w base spare held n 3 [c5] = some y5 := by
    have h1 : DataW.trod enc Try.prog w base spare held n 3 ((([c0, c1, c2, c3, c4, c5] : List Value).drop 5).take (Try.prog.cellsOf 3)) = some y5 := hf 5 _ rfl
    rw [cellsOf3] at h1
    exact h1
  obtain ⟨n0, e0, _⟩ := DataW.trod_int Try.underlying3 g0
  obtain ⟨n1, e1, _⟩ := DataW.trod_int Try.underlying3 g1
  obtain ⟨n2, e2, _⟩ := DataW.trod_int Try.underlying3 g2
  obtain ⟨n3, e3, _⟩ := DataW.trod_int Try.underlying3 g3
  obtain ⟨n4, e4, _⟩ := DataW.trod_int Try.underlying3 g4
  obtain ⟨n5, e5, _⟩ := DataW.trod_int Try.underlying3 g5
  injection e0 with e0 _
  injection e1 with e1 _
  injection e2 with e2 _
  injection e3 with e3 _
  injection e4 with e4 _
  injection e5 with e5 _
  subst e0 e1 e2 e3 e4 e5
  exact ⟨⟨n0, n1, n2, n3, n4, n5⟩, rfl⟩

theorem st_open {cs : List Value} (h : DataW.trod enc Try.prog w base spare held fuel 34 cs = some x) : ∃ o : St, cs = o.arr.toList ∧ o.ok := by
  obtain ⟨xs, n, _, _, hl, hlen, hf⟩ := DataW.trod_struct Try.underlying34 h
  rw [cellsOf38] at hl
  obtain ⟨c0, c1, c2, c3, c4, c5, rfl⟩ := list6 hl
  obtain ⟨y0, y1, y2, y3, y4, y5, rfl⟩ := list6 hlen
  have g0 : DataW.trod enc Try.prog w base spare held n 3 [c0] = some y0 := by
    have h1 : DataW.trod enc Try.prog w base spare held n 3 ((([c0, c1, c2, c3, c4, c5] : List Value).drop 0).take (Try.prog.cellsOf 3)) = some y0 := hf 0 _ rfl
    rw [cellsOf3] at h1
    exact h1
  have g1 : DataW.trod enc Try.prog w base spare held n 3 [c1] = some y1 := by
    have h1 : DataW.trod enc Try.prog w base spare held n 3 ((([c0, c1, c2, c3, c4, c5] : List Value).drop 1).take (Try.prog.cellsOf 3)) = some y1 := hf 1 _ rfl
    rw [cellsOf3] at h1
    exact h1
  have g2 : DataW.trod enc Try.prog w base spare held n 3 [c2] = some y2 := by
    have h1 : DataW.trod enc Try.prog w base spare held n 3 ((([c0, c1, c2, c3, c4, c5] : List Value).drop 2).take (Try.prog.cellsOf 3)) = some y2 := hf 2 _ rfl
    rw [cellsOf3] at h1
    exact h1
  have g3 : DataW.trod enc Try.prog w base spare held n 3 [c3] = some y3 := by
    have h1 : DataW.trod enc Try.prog w base spare held n 3 ((([c0, c1, c2, c3, c4, c5] : List Value).drop 3).take (Try.prog.cellsOf 3)) = some y3 := hf 3 _ rfl
    rw [cellsOf3] at h1
    exact h1
  have g4 : DataW.trod enc Try.prog w base spare held n 9 [c4] = some y4 := by
    have h1 : DataW.trod enc Try.prog w base spare held n 9 ((([c0, c1, c2, c3, c4, c5] : List Value).drop 4).take (Try.prog.cellsOf 9)) = some y4 := hf 4 _ rfl
    rw [cellsOf9] at h1
    exact h1
  have g5 : DataW.trod enc Try.prog w base spare held n 4 [c5] = some y5 := by
    have h1 : DataW.trod enc Try.prog w base spare held n 4 ((([c0, c1, c2, c3, c4, c5] : List Value).drop 5).take (Try.prog.cellsOf 4)) = some y5 := hf 5 _ rfl
    rw [cellsOf4] at h1
    exact h1
  obtain ⟨n0, e0, _, w0⟩ := DataW.trod_int Try.underlying3 g0
  obtain ⟨n1, e1, _, w1⟩ := DataW.trod_int Try.underlying3 g1
  obtain ⟨n2, e2, _, w2⟩ := DataW.trod_int Try.underlying3 g2
  obtain ⟨n3, e3, _, w3⟩ := DataW.trod_int Try.underlying3 g3
  obtain ⟨n4, e4, _, w4⟩ := DataW.trod_string Try.underlying9 g4
  obtain ⟨n5, e5, _⟩ := DataW.trod_bool Try.underlying4 g5
  injection e0 with e0 _
  injection e1 with e1 _
  injection e2 with e2 _
  injection e3 with e3 _
  injection e4 with e4 _
  injection e5 with e5 _
  subst e0 e1 e2 e3 e4 e5
  exact ⟨⟨n0, n1, n2, n3, n4, n5⟩, rfl, ⟨in64_of w0, in64_of w1, in64_of w2, in64_of w3, w4⟩⟩

theorem addK (ab ao k : Nat) : (⟨ab, ao, none⟩ : Addr).add k = ⟨ab, ao + k, none⟩ := by unfold Addr.add; split <;> simp_all

theorem spot_none {a : Addr} {cs : List Value} (h : w.cells? base (a.add (0 * 6)) 6 = some cs) : a.spot = none := by
  obtain ⟨_, hl, hc⟩ := World.cells?_some h
  have h0 : w.cell? a = cs[0]? := hc 0 (by omega)
  cases hs : a.spot with
  | none => rfl
  | some s =>
    exfalso
    have : w.cell? a = none := by
      unfold World.cell?
      split
      · simp [hs]
      · rfl
    rw [this] at h0
    have := (List.getElem?_eq_none_iff.1 h0.symm)
    omega

/-- Six cells in a row, each by itself. -/
theorem cells6 {ab ao i : Nat} {cs : List Value} (h : w.cells? base ((⟨ab, ao, none⟩ : Addr).add (i * 6)) 6 = some cs) : ab < w.heap.size ∧ ∀ j, j < 6 → w.cell? ⟨ab, ao + i * 6 + j, none⟩ = cs[j]? := by
  have hb := World.cells?_block h (by omega)
  obtain ⟨_, _, hc⟩ := World.cells?_some h
  rw [addK] at hb hc
  refine ⟨hb, fun j hj => ?_⟩
  have := hc j hj
  rw [addK] at this
  exact this

/-- The script, read. -/
theorem script_open {a0 : Option Addr} {len cap : Nat} (h : DataW.trod enc Try.prog w base (fun _ => true) held fuel 24 [.slice a0 len cap] = some x) : len ≤ maxLen ∧ ∃ os : List St, IsScript w a0 len os := by
  rcases open_slice Try.underlying24 h with ⟨hcs, _⟩ | ⟨a, len', cap', m, n, D, Pl, hcs, _, hl, hm, hmm, _, hel⟩
  · injection hcs with hcs _
    injection hcs with e1 e2 e3
    subst e1 e2 e3
    exact ⟨by unfold maxLen; omega, [], rfl, fun i o hi => by simp at hi⟩
  · injection hcs with hcs _
    injection hcs with e1 e2 e3
    subst e1 e2 e3
    simp only [if_true] at hmm
    subst hmm
    refine ⟨by omega, ?_⟩
    rw [cellsOf38] at hel
    have ex : ∀ i, i < len → ∃ o : St, o.ok ∧ w.cells? base (a.add (i * 6)) 6 = some o.arr.toList := by
      intro i hi
      obtain ⟨cs, h1, h2⟩ := hel i (by omega)
      obtain ⟨o, rfl, ho⟩ := st_open h2
      exact ⟨o, ho, h1⟩
    have : ∃ f : Nat → St, ∀ i, i < len → (f i).ok ∧ w.cells? base (a.add (i * 6)) 6 = some (f i).arr.toList := by
      classical
      refine ⟨fun i => if hi : i < len then Classical.choose (ex i hi) else ⟨0, 0, 0, 0, ByteArray.empty, false⟩, fun i hi => ?_⟩
      simp only [dif_pos hi]
      exact Classical.choose_spec (ex i hi)
    obtain ⟨f, hf⟩ := this
    refine ⟨(List.range len).map f, by simp, fun i o hi => ?_⟩
    have hil : i < len := by
      have := (List.getElem?_eq_some_iff.1 hi).1
      simpa using this
    have hoi : o = f i := by
      have : ((List.range len).map f)[i]? = some (f i) := by simp [hil]
      rw [this] at hi
      cases hi; rfl
    subst hoi
    obtain ⟨hok, hc⟩ := hf i hil
    have hsp := spot_none (hf 0 (by omega)).2
    obtain ⟨ab, ao, asp⟩ := a
    simp at hsp
    subst hsp
    obtain ⟨hb, hcell⟩ := cells6 hc
    exact ⟨hok, ab, ao, rfl, hb, hcell 0 (by omega), hcell 1 (by omega), hcell 2 (by omega), hcell 3 (by omega), hcell 4 (by omega), hcell 5 (by omega)⟩
end

end Go.Proofs.Ytpnkmnmchdabkaa
namespace Go.Proofs.Ytpnkmnmchdabkaa
open Go.RowKit
attribute [local go_sem ↓] Go.wp_at_zero Go.wp_at_succ

/-- A call on the group that leaves its log: the crew stands. -/
theorem Crew.lease {t t' : Bool} {B B' : Bd} {N : Nat} {w w' : World} {ρ : Nat → Nat} {cb gb : Nat} {C : Cfg} {now : Rest} {l : List Sh} {E : List En} {n : Nat} (h : Crew t B N w ρ cb gb C now l E n) (hN : N ≤ w.heap.size) (hp : LeaseP t' B' w ρ gb C l w') (hX : B'.X = B.X := by rfl) :
    ∃ now', Crew t' B' N w' ρ cb gb C now' l E n ∧ Below N w w' ∧ Keeps (mine ρ) w w' := by
  obtain ⟨now', hw, hG, hk, hf⟩ := hp
  obtain ⟨ev, h1, h2, h3⟩ := h.ent
  refine ⟨now', ⟨⟨ev, ?_, ?_, h3⟩, h.tag, hG, h.inv, hf, by rw [hX]; exact h.low.still hk (fun k _ hm => by unfold mine at hm; omega), h.cnt, h.tot, h.rng, h.val, hw⟩, hk.below hN (fun k _ hm => h.low.1 k (by unfold mine at hm; omega)), hk⟩
  · rw [hk.block cb (lt_of_heap h1) (fun hm => by unfold mine at hm; rw [h.tag] at hm; omega)]; exact h1
  · exact ownsRow_keeps h2 hk (fun k hkk hm => by unfold mine at hm; rw [h3 k hkk] at hm; omega)

/-- What works leaves. -/
def WorksPost (B : Bd) (N : Nat) (w : World) (cb gb : Nat) (C : Cfg) (l : List Sh) (E : List En) (n : Nat) (ρ : Nat → Nat) (e : Ending) (w' : World) : Prop :=
  e = .returned (.tuple #[]) ∧ ∃ now', Crew false B N w' ρ cb gb C now' l E n ∧ Below N w w'

/-- What works' loop holds. -/
def WInv (B : Bd) (N : Nat) (w : World) (cb gb : Nat) (C : Cfg) (l : List Sh) (E : List En) (n : Nat) (ρ : Nat → Nat) (va : Option Addr) (vc : Nat) (hs : List Hd) (wr : World) : Prop :=
  ∃ now', Crew false B N wr ρ cb gb C now' l E n ∧ Below N w wr ∧ w.heap.size ≤ wr.heap.size ∧ wr.ownsRow w.heap.size 75 4 (.slice va hs.length vc) hs.length (rowHd hs)

set_option maxRecDepth 100000 in
set_option maxHeartbeats 2000000 in
theorem works_any {t : Bool} {B : Bd} {N : Nat} {w : World} {ρ : Nat → Nat} {cb gb : Nat} {C : Cfg} {now : Rest} {l : List Sh} {E : List En} {n : Nat} (h : Crew t B N w ρ cb gb C now l E n) (hN : N ≤ w.heap.size) (i : Nat) (hi : (i : Int) < C.a) :
    Calls Try.prog 32 #[.pointer (some ⟨cb, 0, none⟩), .int .i64 i] w (WorksPost B N w cb gb C l E n ρ) := by
  have H1 := hide (kHolds h.grp h.fits h.inv h.wok i hi)
  have H2 : Hid (∀ W now' (k : Nat), k < l.length → Crew false B N W ρ cb gb C now' l E n → Calls Try.prog 30 #[.pointer (some ⟨gb, 0, none⟩), .int .i64 i, .int .i64 k] W fun e w' => (∃ a b : Int, e = .returned (.tuple #[.int .i64 a, .int .i64 b])) ∧ LeaseP false B W ρ gb C l w') := fun W now' k hk hW => kFetchL hW.grp hW.fits hW.inv hW.wok i hi k hk
  have H3 : Hid (∀ W now' (k : Nat), k < l.length → Crew false B N W ρ cb gb C now' l E n → Calls Try.prog 31 #[.pointer (some ⟨gb, 0, none⟩), .int .i64 i, .int .i64 k, .bool false] W fun e w' => (∃ a : Int, e = .returned (.int .i64 a)) ∧ LeaseP false B W ρ gb C l w') := fun W now' k hk hW => kCommitL hW.grp hW.fits hW.inv hW.wok i hi k hk false
  have H4 : Hid (∀ W now', Crew false B N W ρ cb gb C now' l E n → W.cell? ⟨cb, 6, none⟩ = some (.pointer (some ⟨gb, 0, none⟩)) ∧ cb < W.heap.size) := fun W now' hW => by
    obtain ⟨ea, ecap, _, c6, _, _, _, hcb, _⟩ := crew_cells hW.ent2
    exact ⟨c6, hcb⟩
  have hFit := hide h.fits
  have hTag := hide h.tag
  obtain ⟨c6, _⟩ := unhide H4 _ _ h.loose
  have HC := hide h.loose
  clear h
  go_enter Try.func32, Try.ntmps32
  go_wp2_with fail
  refine (unhide H1).mono ?_
  intro e w1 hq
  obtain ⟨v, hs, rfl, hl16, hin, hrow, hb⟩ := hq
  obtain ⟨va, vc, rfl⟩ := ownsRow_len hrow
  have HCr := hide ((unhide HC).below hb)
  have HB := hide (hb.mono hN)
  have hsz := hb.size
  have HR := hide hrow
  have HIn := hide hin
  clear hb hrow hin c6
  go_wp2
  go_loopw [6] (fun q wr => ∃ j : Nat, j ≤ hs.length ∧ q = .int .i64 j ∧ WInv B N w cb gb C l E n ρ va vc hs wr) (fun q _ => hs.length - (intOf q).toNat)
  case atStart => exact ⟨0, Nat.zero_le _, rfl, now, unhide HCr, unhide HB, hsz, unhide HR⟩
  case round =>
    obtain ⟨j, hj, rfl, now1, hC1, hB1, hz1, hrow⟩ := hrel
    by_cases hlt : j < hs.length
    · obtain ⟨vb, vcap, vcur, hv, hvw, hvb, _⟩ := ownsRow_shape hrow (by omega)
      injection hv with e1 _ e3
      subst e1
      subst e3
      have hx : hs[j]? = some hs[j] := List.getElem?_eq_getElem hlt
      obtain ⟨k, hk, hxk⟩ := unhide HIn hs[j] (List.getElem_mem hlt)
      have cj : wr.cell? ⟨vb, j * 4, none⟩ = some (.int .i64 k) := by
        have := World.ownsRow.cellAt hrow (j * 4 + 0) (by omega)
        rw [rowHd_get hs j 0 (by omega) _ hx] at this
        rw [Nat.add_zero] at this
        rw [this, ← hxk]
        rfl
      obtain ⟨c6, hcb⟩ := unhide H4 _ _ hC1
      have hvl := lt_of_heap hvb
      have hz : Hid (¬ mine ρ vb ∧ ¬ mine ρ cb) := ⟨fun hm => by unfold mine at hm; have := unhide hFit vb hvw; omega, fun hm => by unfold mine at hm; have := unhide hTag; omega⟩
      have R1 := hide (hC1.below (Below.refl _ wr).drew)
      have HCf := hide (unhide H2 wr.drew now1 k hk (unhide R1))
      have HB1 := hide hB1.drew
      have hNr : N ≤ wr.heap.size := by omega
      have HROW := hide hrow
      have hzz := hide hz1
      clear hC1 hB1 hrow hvb hx hxk
      go_wp2_with fail
      go_region_held3 (fun w' => w'.cell? ⟨cb, 6, none⟩ = some (.pointer (some ⟨gb, 0, none⟩)) ∧ w'.cell? ⟨vb, j * 4, none⟩ = some (.int .i64 k)) (first | go_keep | trivial) ((go_at_call 30; refine (unhide HCf).mono ?_; rintro e w3 ⟨⟨a, b, rfl⟩, hp⟩; have hpk := hp.choose_spec.2.2.1; have d6 := (hpk.cell (p := ⟨cb, 6, none⟩) hcb (unhide hz).2).trans c6; have dj := (hpk.cell (p := ⟨vb, j * 4, none⟩) hvl (unhide hz).1).trans cj))
      obtain ⟨now2, hC2, hB2, hK2⟩ := (unhide R1).lease hNr hp
      have hrow2 := ownsRow_keeps (ownsRow_keeps (unhide HROW) (Keeps.drew (Keeps.refl (mine ρ) wr)) (fun q hq hm => by
        have e : vb = q := by simpa [Value.ownBlock] using hq
        subst e
        exact (unhide hz).1 hm)) hK2 (fun q hq hm => by
        have e : vb = q := by simpa [Value.ownBlock] using hq
        subst e
        exact (unhide hz).1 hm)
      have HROW2 := hide hrow2
      have HC2 := hide hC2
      have HB2 := hide ((unhide HB1).trans hB2)
      have hs2 : Hid (w.heap.size ≤ w3.heap.size) := by have := hK2.size; have := unhide hzz; unfold Hid; have h8 : wr.drew.heap.size = wr.heap.size := rfl; omega
      have hcb2 := (unhide H4 _ _ hC2).2
      have hvl2 : vb < w3.heap.size := (hrow2.lt vb rfl).2
      have hN2 : N ≤ w3.heap.size := by have := unhide hs2; omega
      clear hC2 hB2 hK2 hrow2 hp HROW HB1 R1 HCf c6 cj
      by_cases hgo : b = 0 ∧ 0 < a
      · obtain ⟨rfl, ha⟩ := hgo
        have R3 := hide ((unhide HC2).below (Below.refl _ w3).drew)
        have HCc := hide (unhide H3 w3.drew now2 k hk (unhide R3))
        go_wp2_with fail
        go_region_held3 (fun w' => w'.cell? ⟨cb, 6, none⟩ = some (.pointer (some ⟨gb, 0, none⟩)) ∧ w'.cell? ⟨vb, j * 4, none⟩ = some (.int .i64 k)) (first | go_keep | trivial) ((go_at_call 31; refine (unhide HCc).mono ?_; rintro e w4 ⟨⟨c, rfl⟩, hp4⟩; have hpk4 := hp4.choose_spec.2.2.1; have d64 := (hpk4.cell (p := ⟨cb, 6, none⟩) hcb2 (unhide hz).2).trans d6; have dj4 := (hpk4.cell (p := ⟨vb, j * 4, none⟩) hvl2 (unhide hz).1).trans dj))
        obtain ⟨now4, hC4, hB4, hK4⟩ := (unhide R3).lease hN2 hp4
        have hrow4 := hide (ownsRow_keeps (ownsRow_keeps (unhide HROW2) (Keeps.drew (Keeps.refl (mine ρ) w3)) (fun q hq hm => by
          have e : vb = q := by simpa [Value.ownBlock] using hq
          subst e
          exact (unhide hz).1 hm)) hK4 (fun q hq hm => by
          have e : vb = q := by simpa [Value.ownBlock] using hq
          subst e
          exact (unhide hz).1 hm))
        have HC4 := hide hC4
        have HB4 := hide (((unhide HB2).drew).trans hB4)
        have hs4 : Hid (w.heap.size ≤ w4.heap.size) := by have := hK4.size; have := unhide hs2; unfold Hid; have h8 : w3.drew.heap.size = w3.heap.size := rfl; omega
        clear hC4 hB4 hK4 hp4 hpk4 d64 dj4 d6 dj
        go_wp2
        go_roundw
        case rel => exact ⟨j + 1, by omega, by go_num, now4, unhide HC4, unhide HB4, unhide hs4, unhide hrow4⟩
        case measure => simp [intOf]; omega
      · clear d6 dj
        by_cases hb0 : b = 0
        · have ha : ¬ 0 < a := fun ha => hgo ⟨hb0, ha⟩
          subst hb0
          go_wp2
          go_roundw
          case rel => exact ⟨j + 1, by omega, by go_num, now2, unhide HC2, unhide HB2, unhide hs2, unhide HROW2⟩
          case measure => simp [intOf]; omega
        · go_wp2
          go_roundw
          case rel => exact ⟨j + 1, by omega, by go_num, now2, unhide HC2, unhide HB2, unhide hs2, unhide HROW2⟩
          case measure => simp [intOf]; omega
    · have e : j = hs.length := by omega
      subst e
      have HC1 := hide hC1
      have HB1 := hide hB1
      clear hC1 hB1 hrow
      go_wp2
      go_end0
      exact ⟨rfl, now1, unhide HC1, unhide HB1⟩

end Go.Proofs.Ytpnkmnmchdabkaa
namespace Go.Proofs.Ytpnkmnmchdabkaa
open Go.RowKit
attribute [local go_sem ↓] Go.wp_at_zero Go.wp_at_succ

/-- Which of n things the number c speaks of. -/
def pickN (c n : Int) : Nat := ((if c < 0 then -(c + 1) else c) % n).toNat
theorem pickN_lt (c n : Int) (hn : 1 ≤ n) : (pickN c n : Int) < n := by
  unfold pickN
  have h0 := Int.emod_nonneg (if c < 0 then -(c + 1) else c) (show n ≠ 0 by omega)
  have h1 := Int.emod_lt_of_pos (if c < 0 then -(c + 1) else c) (show 0 < n by omega)
  omega

set_option maxHeartbeats 400000 in
theorem pick_at (c n : Int) (w : World) (h1 : -9223372036854775808 ≤ c) (h2 : c ≤ 9223372036854775807) (hn : 1 ≤ n) (hn2 : n ≤ 1000) :
    Calls Try.prog 13 #[.int .i64 c, .int .i64 n] w fun e w' => e = .returned (.int .i64 (pickN c n)) ∧ w' = w := by
  have hn0 : ¬ n = 0 := by omega
  have h0 := Int.emod_nonneg (if c < 0 then -(c + 1) else c) hn0
  by_cases hc : c < 0
  · have HR : Hid ((pickN c n : Int) = -(c + 1) % n) := by
      refine hide ?_
      unfold pickN
      rw [if_pos hc] at h0 ⊢
      omega
    clear h0
    go_enter Try.func13, Try.ntmps13
    go_wp2
    go_ret
    exact ⟨ret_int (by rw [unhide HR, ← Int.neg_tmod, Int.tmod_eq_emod_of_nonneg (by omega)]), rfl⟩
  · have HR : Hid ((pickN c n : Int) = c % n) := by
      refine hide ?_
      unfold pickN
      rw [if_neg hc] at h0 ⊢
      omega
    clear h0
    go_enter Try.func13, Try.ntmps13
    go_wp2
    go_ret
    exact ⟨ret_int (by rw [unhide HR]), rfl⟩

/-- A list of shards that came out, as a walk reads it. -/
def Told (w : World) (lb : Nat) (l : List Sh) : Prop :=
  ∀ (i : Nat) (s : Sh), l[i]? = some s → w.cell? ⟨lb, i * 5, none⟩ = some (.int .i64 s.lo) ∧ w.cell? ⟨lb, i * 5 + 1, none⟩ = some (.int .i64 s.hi) ∧ w.cell? ⟨lb, i * 5 + 2, none⟩ = some (.bool s.op) ∧
    ∃ pb pc, w.cell? ⟨lb, i * 5 + 3, none⟩ = some (.slice (some ⟨pb, 0, none⟩) s.par.length pc) ∧ ∀ j (hj : j < s.par.length), w.cell? ⟨pb, j, none⟩ = some (.int .i64 s.par[j])

def ShPost (w : World) (l : List Sh) (e : Ending) (w' : World) : Prop :=
  ∃ lb lcap, e = .returned (.slice (some ⟨lb, 0, none⟩) l.length lcap) ∧ Told w' lb l ∧ w.heap.size ≤ lb ∧ lb < w'.heap.size ∧ Below w.heap.size w w'

theorem shards_at {w : World} {ρ : Nat → Nat} {gb : Nat} {C : Cfg} {now : Rest} {l : List Sh} (hG : Grp w ρ gb C now l) (hI : Inv l) :
    Calls Try.prog 33 #[.pointer (some ⟨gb, 0, none⟩)] w (ShPost w l) := by
  refine (gShards_any w ρ gb C now l hG hI).mono ?_
  rintro e w' ⟨v, k, rfl, hk, hL, hb⟩
  have hkl : k.length = l.length := by rw [← hk]; simp
  have hrow := hL.row
  rw [hkl] at hrow
  obtain ⟨g, cap, cur, hv, hB, hg, _⟩ := ownsRow_shape hrow hI.pos
  subst hv
  refine ⟨g, cap, rfl, ?_, hB, lt_of_heap hg, hb⟩
  intro i s hi
  rw [← hk] at hi
  simp at hi
  obtain ⟨pv, hx⟩ := hi
  have hlt := (List.getElem?_eq_some_iff.1 hx).1
  have hcell : ∀ j, j < 5 → w'.cell? ⟨g, i * 5 + j, none⟩ = (outCells (s, pv))[j]? := by
    intro j hj
    rw [World.ownsRow.cellAt hrow (i * 5 + j) (by omega), listCells_get k i j hj _ hx]
  refine ⟨hcell 0 (by omega), hcell 1 (by omega), hcell 2 (by omega), ?_⟩
  have hpar := hL.par i _ hx
  obtain ⟨pg, hpg⟩ := hL.parS i _ hx
  obtain ⟨pa, pc, hpv⟩ := ownsRow_len hpar
  simp only at hpv hpg hpar
  rw [hpv] at hpg hpar
  have hpa : ∃ pb, pa = some ⟨pb, 0, none⟩ := by
    rcases hpar.2 with ⟨e, _⟩ | ⟨g', cap', cur', e, _⟩
    · injection e with e1
      rw [e1] at hpg; simp [Value.ownBlock] at hpg
    · injection e with e1
      exact ⟨g', e1⟩
  obtain ⟨pb, rfl⟩ := hpa
  refine ⟨pb, pc, (hcell 3 (by omega)).trans (by rw [hpv]; rfl), fun j hj => ?_⟩
  rw [World.ownsRow.cellAt hpar j (by omega)]
  simp [hj]

/-- It stands while only other blocks turn, up to its parents. -/
theorem Told.near {w w' : World} {lb : Nat} {l : List Sh} (h : Told w lb l) (hb : w'.heap[lb]? = w.heap[lb]?) (i : Nat) (s : Sh) (hi : l[i]? = some s) :
    w'.cell? ⟨lb, i * 5, none⟩ = some (.int .i64 s.lo) ∧ w'.cell? ⟨lb, i * 5 + 1, none⟩ = some (.int .i64 s.hi) ∧ w'.cell? ⟨lb, i * 5 + 2, none⟩ = some (.bool s.op) := by
  obtain ⟨a, b, c, _⟩ := h i s hi
  have hc : ∀ j, w'.cell? ⟨lb, j, none⟩ = w.cell? ⟨lb, j, none⟩ := fun j => World.cell?_of_block (w := w) hb
  exact ⟨(hc _).trans a, (hc _).trans b, (hc _).trans c⟩

/-- The law's own number of shards is written. -/
theorem crew_count {N : Nat} {w : World} {ρ : Nat → Nat} {cb gb : Nat} {C : Cfg} {now : Rest} {l : List Sh} {E : List En} {n : Nat} (n' : Nat) (v : Int) (hv : v = n') {ev : Value} (hG : Grp w ρ gb C now l) (hl : l.length ≤ 16)
    (hblk : w.heap[cb]? = some (.cells (crewArr C gb ev n) 31 (0, 0))) (hrow : w.ownsRow 0 59 5 ev E.length (entCells E)) (hT : ∀ k, ev.ownBlock = some k → ρ k = 101) (htag : ρ cb = 100) (hf : Fits w ρ) (hlow : ∀ k, ρ k ≠ 0 → N ≤ k) (hN : N ≤ w.heap.size) :
    (∃ ev', (w.setCell ⟨cb, 8, none⟩ (.int .i64 v)).heap[cb]? = some (.cells (crewArr C gb ev' n') 31 (0, 0)) ∧ (w.setCell ⟨cb, 8, none⟩ (.int .i64 v)).ownsRow 0 59 5 ev' E.length (entCells E) ∧ ∀ k, ev'.ownBlock = some k → ρ k = 101) ∧
      Grp (w.setCell ⟨cb, 8, none⟩ (.int .i64 v)) ρ gb C now l ∧ Fits (w.setCell ⟨cb, 8, none⟩ (.int .i64 v)) ρ ∧ Below N w (w.setCell ⟨cb, 8, none⟩ (.int .i64 v)) := by
  subst hv
  have hk : Keeps (fun k => k = cb) w (w.setCell ⟨cb, 8, none⟩ (.int .i64 n')) := (Keeps.refl (fun k => k = cb) w).setCell (p := ⟨cb, 8, none⟩) (Or.inl rfl) _
  obtain ⟨sv, m, rfl, G⟩ := hG
  refine ⟨⟨ev, ?_, ?_, hT⟩, ⟨sv, m, rfl, G.keeps hk (fun k e => Or.inl fun hm => by subst e; unfold mine at hm; omega) (fun _ _ => rfl) (by simpa using hl)⟩, fun k hkk => hf k (by simpa [World.setCell] using hkk), hk.below hN fun k _ e => hlow k (by rw [e, htag]; omega)⟩
  · rw [heap_setCell_same hblk]; rfl
  · exact ownsRow_keeps hrow hk (fun k hkk e => by subst e; have := hT _ hkk; omega)

theorem low_count {N : Nat} {X : Nat → Option Obj} {w : World} {ρ : Nat → Nat} {cb : Nat} (h : Low N X w ρ) (htag : ρ cb = 100) (v : Value) : Low N X (w.setCell ⟨cb, 8, none⟩ v) ρ :=
  h.still ((Keeps.refl (fun k => k = cb) w).setCell (p := ⟨cb, 8, none⟩) (Or.inl rfl) v) (fun k _ e => by subst e; omega)

end Go.Proofs.Ytpnkmnmchdabkaa
