import Derived.Test.YtpnkmnmchdabkaaCrew
namespace Go.Proofs.Ytpnkmnmchdabkaa
open Go.RowKit
attribute [local go_sem ↓] Go.wp_at_zero Go.wp_at_succ

/-- A call on the group that leaves its log: the crew stands. -/
theorem Crew.lease {N : Nat} {w w' : World} {ρ : Nat → Nat} {cb gb : Nat} {C : Cfg} {now : Rest} {l : List Sh} {E : List En} {n : Nat} (h : Crew N w ρ cb gb C now l E n) (hN : N ≤ w.heap.size) (hp : LeaseP w ρ gb C l w') :
    ∃ now', Crew N w' ρ cb gb C now' l E n ∧ Below N w w' ∧ Keeps (mine ρ) w w' := by
  obtain ⟨now', hw, hG, hk, hf⟩ := hp
  obtain ⟨ev, h1, h2, h3⟩ := h.ent
  refine ⟨now', ⟨⟨ev, ?_, ?_, h3⟩, h.tag, hG, h.inv, hf, h.low, h.cnt, h.tot, h.rng, h.val, hw⟩, hk.below hN (fun k _ hm => h.low k (by unfold mine at hm; omega)), hk⟩
  · rw [hk.block cb (lt_of_heap h1) (fun hm => by unfold mine at hm; rw [h.tag] at hm; omega)]; exact h1
  · exact ownsRow_keeps h2 hk (fun k hkk hm => by unfold mine at hm; rw [h3 k hkk] at hm; omega)

/-- What works leaves. -/
def WorksPost (N : Nat) (w : World) (cb gb : Nat) (C : Cfg) (l : List Sh) (E : List En) (n : Nat) (ρ : Nat → Nat) (e : Ending) (w' : World) : Prop :=
  e = .returned (.tuple #[]) ∧ ∃ now', Crew N w' ρ cb gb C now' l E n ∧ Below N w w'

/-- What works' loop holds. -/
def WInv (N : Nat) (w : World) (cb gb : Nat) (C : Cfg) (l : List Sh) (E : List En) (n : Nat) (ρ : Nat → Nat) (va : Option Addr) (vc : Nat) (hs : List Hd) (wr : World) : Prop :=
  ∃ now', Crew N wr ρ cb gb C now' l E n ∧ Below N w wr ∧ w.heap.size ≤ wr.heap.size ∧ wr.ownsRow w.heap.size 75 4 (.slice va hs.length vc) hs.length (rowHd hs)

set_option maxRecDepth 100000 in
set_option maxHeartbeats 2000000 in
theorem works_any {N : Nat} {w : World} {ρ : Nat → Nat} {cb gb : Nat} {C : Cfg} {now : Rest} {l : List Sh} {E : List En} {n : Nat} (h : Crew N w ρ cb gb C now l E n) (hN : N ≤ w.heap.size) (i : Nat) (hi : (i : Int) < C.a) :
    Calls Try.prog 32 #[.pointer (some ⟨cb, 0, none⟩), .int .i64 i] w (WorksPost N w cb gb C l E n ρ) := by
  have H1 := hide (kHolds h.grp h.fits h.inv h.wok i hi)
  have H2 : Hid (∀ W now' (k : Nat), k < l.length → Crew N W ρ cb gb C now' l E n → Calls Try.prog 30 #[.pointer (some ⟨gb, 0, none⟩), .int .i64 i, .int .i64 k] W fun e w' => (∃ a b : Int, e = .returned (.tuple #[.int .i64 a, .int .i64 b])) ∧ LeaseP W ρ gb C l w') := fun W now' k hk hW => kFetch hW.grp hW.fits hW.inv hW.wok i hi k hk
  have H3 : Hid (∀ W now' (k : Nat), k < l.length → Crew N W ρ cb gb C now' l E n → Calls Try.prog 31 #[.pointer (some ⟨gb, 0, none⟩), .int .i64 i, .int .i64 k, .bool false] W fun e w' => (∃ a : Int, e = .returned (.int .i64 a)) ∧ LeaseP W ρ gb C l w') := fun W now' k hk hW => kCommit hW.grp hW.fits hW.inv hW.wok i hi k hk false
  have H4 : Hid (∀ W now', Crew N W ρ cb gb C now' l E n → W.cell? ⟨cb, 6, none⟩ = some (.pointer (some ⟨gb, 0, none⟩)) ∧ cb < W.heap.size) := fun W now' hW => by
    obtain ⟨ea, ecap, _, c6, _, _, _, hcb, _⟩ := crew_cells hW.ent2
    exact ⟨c6, hcb⟩
  have hFit := hide h.fits
  have hTag := hide h.tag
  obtain ⟨c6, _⟩ := unhide H4 _ _ h
  have HC := hide h
  clear h
  go_enter Try.func32, Try.ntmps32
  go_wp2_with fail
  refine (unhide H1).mono ?_
  intro e w1 hq
  obtain ⟨v, hs, rfl, hl16, hin, hrow, hb⟩ := hq
  obtain ⟨va, vc, rfl⟩ := ownsRow_len hrow
  have HCr := hide ((unhide HC).below hb)
  have HB := hide (hb.mono hN)
  have hsz := hb.size
  have HR := hide hrow
  have HIn := hide hin
  clear hb hrow hin c6
  go_wp2
  go_loopw [6] (fun q wr => ∃ j : Nat, j ≤ hs.length ∧ q = .int .i64 j ∧ WInv N w cb gb C l E n ρ va vc hs wr) (fun q _ => hs.length - (intOf q).toNat)
  case atStart => exact ⟨0, Nat.zero_le _, rfl, now, unhide HCr, unhide HB, hsz, unhide HR⟩
  case round =>
    obtain ⟨j, hj, rfl, now1, hC1, hB1, hz1, hrow⟩ := hrel
    by_cases hlt : j < hs.length
    · obtain ⟨vb, vcap, vcur, hv, hvw, hvb, _⟩ := ownsRow_shape hrow (by omega)
      injection hv with e1 _ e3
      subst e1
      subst e3
      have hx : hs[j]? = some hs[j] := List.getElem?_eq_getElem hlt
      obtain ⟨k, hk, hxk⟩ := unhide HIn hs[j] (List.getElem_mem hlt)
      have cj : wr.cell? ⟨vb, j * 4, none⟩ = some (.int .i64 k) := by
        have := World.ownsRow.cellAt hrow (j * 4 + 0) (by omega)
        rw [rowHd_get hs j 0 (by omega) _ hx] at this
        rw [Nat.add_zero] at this
        rw [this, ← hxk]
        rfl
      obtain ⟨c6, hcb⟩ := unhide H4 _ _ hC1
      have hvl := lt_of_heap hvb
      have hz : Hid (¬ mine ρ vb ∧ ¬ mine ρ cb) := ⟨fun hm => by unfold mine at hm; have := unhide hFit vb hvw; omega, fun hm => by unfold mine at hm; have := unhide hTag; omega⟩
      have R1 := hide (hC1.below (Below.refl _ wr).drew)
      have HCf := hide (unhide H2 wr.drew now1 k hk (unhide R1))
      have HB1 := hide hB1.drew
      have hNr : N ≤ wr.heap.size := by omega
      have HROW := hide hrow
      have hzz := hide hz1
      clear hC1 hB1 hrow hvb hx hxk
      go_wp2_with fail
      go_region_held3 (fun w' => w'.cell? ⟨cb, 6, none⟩ = some (.pointer (some ⟨gb, 0, none⟩)) ∧ w'.cell? ⟨vb, j * 4, none⟩ = some (.int .i64 k)) (first | go_keep | trivial) ((go_at_call 30; refine (unhide HCf).mono ?_; rintro e w3 ⟨⟨a, b, rfl⟩, hp⟩; have hpk := hp.choose_spec.2.2.1; have d6 := (hpk.cell (p := ⟨cb, 6, none⟩) hcb (unhide hz).2).trans c6; have dj := (hpk.cell (p := ⟨vb, j * 4, none⟩) hvl (unhide hz).1).trans cj))
      obtain ⟨now2, hC2, hB2, hK2⟩ := (unhide R1).lease hNr hp
      have hrow2 := ownsRow_keeps (ownsRow_keeps (unhide HROW) (Keeps.drew (Keeps.refl (mine ρ) wr)) (fun q hq hm => by
        have e : vb = q := by simpa [Value.ownBlock] using hq
        subst e
        exact (unhide hz).1 hm)) hK2 (fun q hq hm => by
        have e : vb = q := by simpa [Value.ownBlock] using hq
        subst e
        exact (unhide hz).1 hm)
      have HROW2 := hide hrow2
      have HC2 := hide hC2
      have HB2 := hide ((unhide HB1).trans hB2)
      have hs2 : Hid (w.heap.size ≤ w3.heap.size) := by have := hK2.size; have := unhide hzz; unfold Hid; have h8 : wr.drew.heap.size = wr.heap.size := rfl; omega
      have hcb2 := (unhide H4 _ _ hC2).2
      have hvl2 : vb < w3.heap.size := (hrow2.lt vb rfl).2
      have hN2 : N ≤ w3.heap.size := by have := unhide hs2; omega
      clear hC2 hB2 hK2 hrow2 hp HROW HB1 R1 HCf c6 cj
      by_cases hgo : b = 0 ∧ 0 < a
      · obtain ⟨rfl, ha⟩ := hgo
        have R3 := hide ((unhide HC2).below (Below.refl _ w3).drew)
        have HCc := hide (unhide H3 w3.drew now2 k hk (unhide R3))
        go_wp2_with fail
        go_region_held3 (fun w' => w'.cell? ⟨cb, 6, none⟩ = some (.pointer (some ⟨gb, 0, none⟩)) ∧ w'.cell? ⟨vb, j * 4, none⟩ = some (.int .i64 k)) (first | go_keep | trivial) ((go_at_call 31; refine (unhide HCc).mono ?_; rintro e w4 ⟨⟨c, rfl⟩, hp4⟩; have hpk4 := hp4.choose_spec.2.2.1; have d64 := (hpk4.cell (p := ⟨cb, 6, none⟩) hcb2 (unhide hz).2).trans d6; have dj4 := (hpk4.cell (p := ⟨vb, j * 4, none⟩) hvl2 (unhide hz).1).trans dj))
        obtain ⟨now4, hC4, hB4, hK4⟩ := (unhide R3).lease hN2 hp4
        have hrow4 := hide (ownsRow_keeps (ownsRow_keeps (unhide HROW2) (Keeps.drew (Keeps.refl (mine ρ) w3)) (fun q hq hm => by
          have e : vb = q := by simpa [Value.ownBlock] using hq
          subst e
          exact (unhide hz).1 hm)) hK4 (fun q hq hm => by
          have e : vb = q := by simpa [Value.ownBlock] using hq
          subst e
          exact (unhide hz).1 hm))
        have HC4 := hide hC4
        have HB4 := hide (((unhide HB2).drew).trans hB4)
        have hs4 : Hid (w.heap.size ≤ w4.heap.size) := by have := hK4.size; have := unhide hs2; unfold Hid; have h8 : w3.drew.heap.size = w3.heap.size := rfl; omega
        clear hC4 hB4 hK4 hp4 hpk4 d64 dj4 d6 dj
        go_wp2
        go_roundw
        case rel => exact ⟨j + 1, by omega, by go_num, now4, unhide HC4, unhide HB4, unhide hs4, unhide hrow4⟩
        case measure => simp [intOf]; omega
      · clear d6 dj
        by_cases hb0 : b = 0
        · have ha : ¬ 0 < a := fun ha => hgo ⟨hb0, ha⟩
          subst hb0
          go_wp2
          go_roundw
          case rel => exact ⟨j + 1, by omega, by go_num, now2, unhide HC2, unhide HB2, unhide hs2, unhide HROW2⟩
          case measure => simp [intOf]; omega
        · go_wp2
          go_roundw
          case rel => exact ⟨j + 1, by omega, by go_num, now2, unhide HC2, unhide HB2, unhide hs2, unhide HROW2⟩
          case measure => simp [intOf]; omega
    · have e : j = hs.length := by omega
      subst e
      have HC1 := hide hC1
      have HB1 := hide hB1
      clear hC1 hB1 hrow
      go_wp2
      go_end0
      exact ⟨rfl, now1, unhide HC1, unhide HB1⟩

end Go.Proofs.Ytpnkmnmchdabkaa
