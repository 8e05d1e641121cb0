import Derived.Test.YtpnkmnmchdabkaaEndE
import Derived.Test.YtpnkmnmchdabkaaM31
namespace Go.Proofs.Ytpnkmnmchdabkaa
open Go.RowKit
attribute [local go_sem ↓] Go.wp_at_zero Go.wp_at_succ

/-- The first j holds of the list are of shard m. -/
def Prc (hs : List Hd) (j m : Nat) : Prop := ∃ (q : Nat) (x : Hd), q < j ∧ hs[q]? = some x ∧ x.sh = m
theorem prc_next {hs : List Hd} {j k : Nat} {x : Hd} (hx : hs[j]? = some x) (hk : x.sh = k) : Prc hs (j + 1) = fun m => Prc hs j m ∨ m = k := by
  funext m
  refine propext ⟨?_, ?_⟩
  · rintro ⟨q, y, h1, h2, h3⟩
    by_cases e : q = j
    · subst e
      rw [hx] at h2
      injection h2 with h2
      subst h2
      exact Or.inr (by omega)
    · exact Or.inl ⟨q, y, by omega, h2, h3⟩
  · rintro (⟨q, y, h1, h2, h3⟩ | rfl)
    · exact ⟨q, y, by omega, h2, h3⟩
    · exact ⟨j, x, by omega, hx, hk⟩
/-- What works' loop holds, with all that was done. -/
def WIn (B : Bd) (N : Nat) (w : World) (cb gb : Nat) (C : Cfg) (now : Rest) (l : List Sh) (E : List En) (P : List Pl) (i : Nat) (ρ : Nat → Nat) (va : Option Addr) (vc : Nat) (hs : List Hd) (j : Nat) (wr : World) : Prop :=
  ∃ now' P', Cq B N wr ρ cb gb C now' l E P' ∧ Below N w wr ∧ w.heap.size ≤ wr.heap.size ∧ wr.ownsRow w.heap.size 75 4 (.slice va hs.length vc) hs.length (rowHd hs) ∧ now'.n = now.n ∧ WJ i l (Prc hs j) (fs now P) (fs now' P')
/-- What is known of the hold that is next. -/
theorem win_hold {B : Bd} {N : Nat} {w wr : World} {cb gb : Nat} {C : Cfg} {now now' : Rest} {l : List Sh} {E : List En} {P P' : List Pl} {i j : Nat} {ρ : Nat → Nat} {x : Hd} (h : Cq B N w ρ cb gb C now l E P) (h' : Cq B N wr ρ cb gb C now' l E P') (hn : now'.n = now.n) (hW : WJ i l (Prc (heldOf P i 16) j) (fs now P) (fs now' P')) (hi : i < now.n) (hm : ∀ k, k < 16 → ((fs now P).f i k).held = true → mt (fs now P) i k) (hx : (heldOf P i 16)[j]? = some x) :
    ∃ (k : Nat) (p : Pl), k < l.length ∧ x.sh = k ∧ P'[i * 16 + k]? = some p ∧ p.held = true ∧ ¬ Prc (heldOf P i 16) j k ∧ (0 ≤ p.h.at_ ∧ p.h.at_ ≤ dnP now'.dn k) ∧ dnP now'.dn k ≤ cn l k ∧ cn l k ≤ 32 ∧ epP now'.dn k ≤ p.h.ep := by
  have h16 := h.cr.inv.len
  obtain ⟨k, p, hk, hp, hh, rfl⟩ := heldOf_in (List.mem_of_getElem? hx)
  have H := h.ow.hd i k p _ hi hk hp hh (leD_at h.ow.lsL hk)
  have hno : ¬ Prc (heldOf P i 16) j k := by
    rintro ⟨q, y, h1, h2, h3⟩
    have := rise_at (h.ow.rise hi) h1 h2 hx
    have := H.sh
    omega
  obtain ⟨u1, u2⟩ := hW.un k hk hno
  have e1 : plD P' i k = p := by
    have : plD P i k = p := plD_is hp
    rw [← this]; exact u1
  have hp' : P'[i * 16 + k]? = some p := by rw [← e1]; exact plD_at h'.ow.pL (by omega) hk
  have H' := h'.ow.hd i k p _ (by omega) hk hp' hh (leD_at h'.ow.lsL hk)
  have hmt := hm k hk (by show (plD P i k).held = true; rw [plD_is hp]; exact hh)
  have hle := (h'.ow.le k _ (leD_at h'.ow.lsL hk)).2.2.1
  have hg : leD now'.ls k = leD now.ls k := congrFun hW.g k
  have hep : (leD now.ls k).e = p.h.ep := by
    have := hmt.2.2
    have e9 : plD P i k = p := plD_is hp
    have h9 : (leD now.ls k).e = (plD P i k).h.ep := this
    rw [e9] at h9
    exact h9
  rw [hg, hep] at hle
  exact ⟨k, p, H.lt, H.sh, hp', hh, hno, ⟨H'.a0, H'.a1⟩, (h'.ow.mr k hk).2.1, cn_le h.cr.inv k, hle⟩

set_option maxRecDepth 100000 in
set_option maxHeartbeats 2000000 in
theorem works_all {B : Bd} {N : Nat} {w : World} {ρ : Nat → Nat} {cb gb : Nat} {C : Cfg} {now : Rest} {l : List Sh} {E : List En} {P : List Pl} (h : Cq B N w ρ cb gb C now l E P) (hN : N ≤ w.heap.size) (hB : B.n ≤ 1000000000000000) (hC : 1 ≤ C.b ∧ C.b ≤ 8) (i : Nat) (hi : i < now.n) (hm : ∀ k, k < 16 → ((fs now P).f i k).held = true → mt (fs now P) i k) :
    Calls Try.prog 32 #[.pointer (some ⟨cb, 0, none⟩), .int .i64 i] w fun e w' => e = .returned (.tuple #[]) ∧ ∃ now' P', Cq B N w' ρ cb gb C now' l E P' ∧ Below N w w' ∧ now'.n = now.n ∧ Wk i l C.b (fs now P) (fs now' P') := by
  have H1 : Hid (Calls Try.prog 35 #[.pointer (some ⟨gb, 0, none⟩), .int .i64 i] w fun e w' => ∃ v, e = .returned (.tuple #[v, .int .i64 0]) ∧ w'.ownsRow w.heap.size 75 4 v (heldOf P i 16).length (rowHd (heldOf P i 16)) ∧ Below w.heap.size w w') := by
    obtain ⟨sv, m, g, cap, e, hg⟩ := h.gs
    exact gHolds_any hg i hi
  have H4 : Hid (∀ W now' P', Cq B N W ρ cb gb C now' l E P' → W.cell? ⟨cb, 6, none⟩ = some (.pointer (some ⟨gb, 0, none⟩)) ∧ cb < W.heap.size) := fun W now' P' hW => by
    obtain ⟨ea, ecap, _, c6, _, _, _, hcb, _⟩ := crew_cells hW.cr.ent2
    exact ⟨c6, hcb⟩
  have HH : Hid (∀ (wr : World) (now' : Rest) (P' : List Pl) (j : Nat) (x : Hd), Cq B N wr ρ cb gb C now' l E P' → now'.n = now.n → WJ i l (Prc (heldOf P i 16) j) (fs now P) (fs now' P') → (heldOf P i 16)[j]? = some x → ∃ (k : Nat) (p : Pl), k < l.length ∧ x.sh = k ∧ P'[i * 16 + k]? = some p ∧ p.held = true ∧ ¬ Prc (heldOf P i 16) j k ∧ (0 ≤ p.h.at_ ∧ p.h.at_ ≤ dnP now'.dn k) ∧ dnP now'.dn k ≤ cn l k ∧ cn l k ≤ 32 ∧ epP now'.dn k ≤ p.h.ep) := by
    intro wr now' P' j x h' hn hW hx
    exact win_hold h h' hn hW hi hm hx
  have HEnd : Hid (∀ now' P', WJ i l (Prc (heldOf P i 16) (heldOf P i 16).length) (fs now P) (fs now' P') → Wk i l C.b (fs now P) (fs now' P')) := by
    intro now' P' hW
    refine hW.wk C.b (fun k hk hh => ?_) (fun k hk hp => ?_)
    · have h9 : (plD P i k).held = true := hh
      have hp := plD_at h.ow.pL hi hk
      have := heldOf_has hp h9 16 hk
      obtain ⟨q, hq⟩ := List.getElem?_of_mem this
      exact ⟨q, _, (List.getElem?_eq_some_iff.1 hq).1, hq, (h.ow.hd i k _ _ hi hk hp h9 (leD_at h.ow.lsL hk)).sh⟩
    · obtain ⟨q, x, _, hq, hs⟩ := hp
      obtain ⟨k2, p, hk2, hp2, hh2, rfl⟩ := heldOf_in (List.mem_of_getElem? hq)
      have H := (h.ow.hd i k2 p _ hi hk2 hp2 hh2 (leD_at h.ow.lsL hk2)).sh
      have e : k2 = k := by omega
      subst e
      show (plD P i k2).held = true
      rw [plD_is hp2]; exact hh2
  have hl16 : (heldOf P i 16).length ≤ 16 := heldOf_le _ _ _
  have H0 : Hid (WJ i l (Prc (heldOf P i 16) 0) (fs now P) (fs now P)) := by
    have e : Prc (heldOf P i 16) 0 = fun _ => False := by
      funext m
      refine propext ⟨?_, fun h => h.elim⟩
      rintro ⟨q, _, hq, _⟩
      omega
    unfold Hid
    rw [e]
    exact WJ.zero i l _
  have hFit := hide h.cr.fits
  have hTag := hide h.cr.tag
  have h16 := h.cr.inv.len
  obtain ⟨c6, _⟩ := unhide H4 _ _ _ h
  have HC := hide h
  generalize heldOf P i 16 = hs at *
  clear h hm
  go_enter Try.func32, Try.ntmps32
  go_wp2_with fail
  refine (unhide H1).mono ?_
  intro e w1 hq
  obtain ⟨v, rfl, hrow, hb⟩ := hq
  obtain ⟨va, vc, rfl⟩ := ownsRow_len hrow
  have HCr := hide ((unhide HC).below hb)
  have HB := hide (hb.mono hN)
  have hsz := hb.size
  have HR := hide hrow
  clear hb hrow c6
  go_wp2
  go_loopw [6] (fun q wr => ∃ j : Nat, j ≤ hs.length ∧ q = .int .i64 j ∧ ∃ now' P', Cq B N wr ρ cb gb C now' l E P' ∧ Below N w wr ∧ w.heap.size ≤ wr.heap.size ∧ wr.ownsRow w.heap.size 75 4 (.slice va hs.length vc) hs.length (rowHd hs) ∧ now'.n = now.n ∧ WJ i l (Prc hs j) (fs now P) (fs now' P')) (fun q _ => hs.length - (intOf q).toNat)
  case atStart => exact ⟨0, Nat.zero_le _, rfl, now, P, unhide HCr, unhide HB, hsz, unhide HR, rfl, unhide H0⟩
  case round =>
    obtain ⟨j, hj, rfl, now1, P1, hC1, hB1, hz1, hrow, hn1, hW1⟩ := hrel
    by_cases hlt : j < hs.length
    · obtain ⟨vb, vcap, vcur, hv, hvw, hvb, _⟩ := ownsRow_shape hrow (by omega)
      injection hv with e1 _ e3
      subst e1
      subst e3
      have hx : hs[j]? = some hs[j] := List.getElem?_eq_getElem hlt
      obtain ⟨k, p, hk, hxk, hp, hh, hno, hat, hd, hc32, hep⟩ := unhide HH wr now1 P1 j _ hC1 hn1 hW1 hx
      have cj : wr.cell? ⟨vb, j * 4, none⟩ = some (.int .i64 k) := by
        have := World.ownsRow.cellAt hrow (j * 4 + 0) (by omega)
        rw [rowHd_get hs j 0 (by omega) _ hx] at this
        rw [Nat.add_zero] at this
        rw [this, ← hxk]
        rfl
      obtain ⟨c6, hcb⟩ := unhide H4 _ _ _ hC1
      have hvl := lt_of_heap hvb
      have hz : Hid (¬ mine ρ vb ∧ ¬ mine ρ cb) := ⟨fun hm => by unfold mine at hm; have := unhide hFit vb hvw; omega, fun hm => by unfold mine at hm; have := unhide hTag; omega⟩
      have R1 := hide (hC1.below (Below.refl _ wr).drew)
      have hNr : N ≤ wr.heap.size := by omega
      have HCf := hide (cFetch (unhide R1) hNr i k (by omega) hk p hp hh)
      have HB1 := hide hB1.drew
      have HROW := hide hrow
      have hzz := hide hz1
      have HNx := hide (prc_next hx hxk)
      have HP1 := hide hC1.hl
      have HDl := hide hC1.ow.dnL
      have HW1 := hide hW1
      have HP := hide hp
      have Hn1 := hide hn1
      have Hno := hide hno
      have Hat := hide hat
      have Hd := hide hd
      have Hep := hide hep
      clear hC1 hB1 hrow hvb hx hxk hW1 hp hn1 hno hat hd hep
      generalize hbe : bufV (cn l k) p.h.at_ C.b = bv at *
      have HBE := hide hbe
      clear hbe
      go_wp2_with fail
      go_region_held3 (fun w' => w'.cell? ⟨cb, 6, none⟩ = some (.pointer (some ⟨gb, 0, none⟩)) ∧ w'.cell? ⟨vb, j * 4, none⟩ = some (.int .i64 k)) (first | go_keep | trivial) ((go_at_call 30; refine (unhide HCf).mono ?_; rintro e w3 ⟨rfl, hC2, hB2, hK2⟩; have d6 := (hK2.cell (p := ⟨cb, 6, none⟩) hcb (unhide hz).2).trans c6; have dj := (hK2.cell (p := ⟨vb, j * 4, none⟩) hvl (unhide hz).1).trans cj))
      have hrow2 := ownsRow_keeps (ownsRow_keeps (unhide HROW) (Keeps.drew (Keeps.refl (mine ρ) wr)) (fun q hq hm => by
        have e : vb = q := by simpa [Value.ownBlock] using hq
        subst e
        exact (unhide hz).1 hm)) hK2 (fun q hq hm => by
        have e : vb = q := by simpa [Value.ownBlock] using hq
        subst e
        exact (unhide hz).1 hm)
      have HROW2 := hide hrow2
      have HC2 := hide hC2
      have HB2 := hide ((unhide HB1).trans hB2)
      have hs2 : Hid (w.heap.size ≤ w3.heap.size) := by have := hK2.size; have := unhide hzz; unfold Hid; have h8 : wr.drew.heap.size = wr.heap.size := rfl; omega
      have hcb2 := (unhide H4 _ _ _ hC2).2
      have hvl2 : vb < w3.heap.size := (hrow2.lt vb rfl).2
      have hN2 : N ≤ w3.heap.size := by have := unhide hs2; omega
      clear hC2 hB2 hK2 hrow2 HROW HB1 R1 HCf c6 cj
      by_cases ha : 0 < bv
      · have R3 := hide ((unhide HC2).below (Below.refl _ w3).drew)
        have HCc := hide (cCommit (unhide R3) hN2 hB i k (by have := unhide Hn1; show i < now1.n; omega) hk { p with held := true, h := ⟨k, p.h.ep, p.h.at_, bv⟩ } (by have h9 := (List.getElem?_eq_some_iff.1 (unhide HP)).1; exact List.getElem?_set_self h9) rfl (by show ¬ bv = 0; omega))
        go_wp2_with fail
        go_region_held3 (fun w' => w'.cell? ⟨cb, 6, none⟩ = some (.pointer (some ⟨gb, 0, none⟩)) ∧ w'.cell? ⟨vb, j * 4, none⟩ = some (.int .i64 k)) (first | go_keep | trivial) ((go_at_call 31; refine (unhide HCc).mono ?_; rintro e w4 ⟨⟨c, rfl⟩, hC4, hB4, hK4⟩; have d64 := (hK4.cell (p := ⟨cb, 6, none⟩) hcb2 (unhide hz).2).trans d6; have dj4 := (hK4.cell (p := ⟨vb, j * 4, none⟩) hvl2 (unhide hz).1).trans dj))
        have hrow4 := hide (ownsRow_keeps (ownsRow_keeps (unhide HROW2) (Keeps.drew (Keeps.refl (mine ρ) w3)) (fun q hq hm => by
          have e : vb = q := by simpa [Value.ownBlock] using hq
          subst e
          exact (unhide hz).1 hm)) hK4 (fun q hq hm => by
          have e : vb = q := by simpa [Value.ownBlock] using hq
          subst e
          exact (unhide hz).1 hm))
        have HC4 := hide hC4
        have HB4 := hide (((unhide HB2).drew).trans hB4)
        have hs4 : Hid (w.heap.size ≤ w4.heap.size) := by have := hK4.size; have := unhide hs2; unfold Hid; have h8 : w3.drew.heap.size = w3.heap.size := rfl; omega
        have HW4 := hide (WJ.busy (now := now1.up now1.ls (P1.set (i * 16 + k) { p with held := true, h := ⟨k, p.h.ep, p.h.at_, bv⟩ })) (unhide HW1) (Cb := C.b) (n := now1.n) (unhide HP1) (unhide HDl) (by have := unhide Hn1; omega) (show k < 16 by omega) (unhide Hno) (unhide HP) (unhide Hat) (unhide Hd) hc32 hC (by rw [unhide HBE]; exact ha) (unhide Hep) (p1 := { p with held := true, h := ⟨k, p.h.ep, p.h.at_, bv⟩ }) (by rw [unhide HBE]))
        clear hC4 hB4 hK4 d64 dj4 d6 dj
        go_wp2
        go_roundw
        case rel =>
          refine ⟨j + 1, by omega, by go_num, _, _, unhide HC4, unhide HB4, unhide hs4, unhide hrow4, ?_, ?_⟩
          · show ((now1.up now1.ls (P1.set (i * 16 + k) { p with held := true, h := ⟨k, p.h.ep, p.h.at_, bv⟩ })).fold k p.h.ep p.h.at_ bv).n = now.n
            rw [fold_n]
            exact unhide Hn1
          · rw [unhide HNx]
            exact unhide HW4
        case measure => simp [intOf]; omega
      · have HW3 := hide ((unhide HW1).idle (Cb := C.b) (n := now1.n) (unhide HP1) (by have := unhide Hn1; omega) (show k < 16 by omega) (unhide Hno) (unhide HP) (unhide Hat) (unhide Hd) hc32 hC.1 (by rw [unhide HBE]; exact ha))
        rw [unhide HBE] at HW3
        clear d6 dj
        go_wp2
        go_roundw
        case rel =>
          refine ⟨j + 1, by omega, by go_num, _, _, unhide HC2, unhide HB2, unhide hs2, unhide HROW2, unhide Hn1, ?_⟩
          rw [unhide HNx]
          exact unhide HW3
        case measure => simp [intOf]; omega
    · have e : j = hs.length := by omega
      subst e
      have HC1 := hide hC1
      have HB1 := hide hB1
      have HW1 := hide (unhide HEnd _ _ hW1)
      have Hn1 := hide hn1
      clear hC1 hB1 hrow hW1 hn1
      go_wp2
      go_end0
      exact ⟨rfl, now1, P1, unhide HC1, unhide HB1, unhide Hn1, unhide HW1⟩

end Go.Proofs.Ytpnkmnmchdabkaa
namespace Go.Proofs.Ytpnkmnmchdabkaa
open Go.RowKit
attribute [local go_sem ↓] Go.wp_at_zero Go.wp_at_succ

theorem cTick {B : Bd} {N : Nat} {w : World} {ρ : Nat → Nat} {cb gb : Nat} {C : Cfg} {now : Rest} {l : List Sh} {E : List En} {P : List Pl} (h : Cq B N w ρ cb gb C now l E P) (hN : N ≤ w.heap.size) (hB : B.n + 1 ≤ 1000000000000000) :
    Calls Try.prog 25 #[.pointer (some ⟨gb, 0, none⟩)] w fun e w' => e = .returned (.tuple #[]) ∧ ∃ ρ', Cq B.up N w' ρ' cb gb C { now with t := now.t + 1 } l E P ∧ Below N w w' := by
  have e : wrap64 (now.t + 1) = now.t + 1 := by
    have := h.nt.t0
    unfold wrap64
    omega
  refine (gTick_any w ρ gb C now l h.cr.grp h.cr.fits h.cr.inv).mono fun e' w' q => ?_
  obtain ⟨rfl, hp⟩ := q
  have ht := h.nt.tick (by omega)
  have hw := h.cr.wok.tick
  rw [e] at hp ht hw
  obtain ⟨ρ', ev, q1, q2, q3, q4, q5, q6, q7, q8, q9⟩ := h.cr.post hN hp
  exact ⟨rfl, ρ', ⟨⟨⟨ev, q2, q3, q4⟩, q5, q1, h.cr.inv, q6, q7, h.cr.cnt, h.cr.tot, h.cr.rng, h.cr.val, hw.loose⟩, h.hw, h.hm, h.hl, h.ow.up.1, ht⟩, q8.below hN (fun k _ hm => h.cr.low.1 k (by unfold mine at hm; omega))⟩

/-- Is worker a of the crew? -/
def bitB (sm a : Nat) : Bool := bits BinOp.and IntKind.i64 ((sm : Int) / 2 ^ a) 1 == 1
theorem bit_some : ∀ n : Fin 5, ∀ sm : Fin 16, 1 ≤ sm.val → sm.val < 2 ^ n.val → ∃ a : Fin 4, a.val < n.val ∧ bitB sm.val a.val = true := by decide
theorem least_of {p : Nat → Prop} : ∀ (n : Nat), p n → ∃ m, p m ∧ m ≤ n ∧ ∀ k, p k → m ≤ k := by
  intro n
  induction n using Nat.strongRecOn with
  | ind n ih =>
    intro hn
    by_cases h : ∃ k, k < n ∧ p k
    · obtain ⟨k, hk, hpk⟩ := h
      obtain ⟨m, a, b, c⟩ := ih k hk hpk
      exact ⟨m, a, by omega, c⟩
    · exact ⟨n, hn, Nat.le_refl _, fun k hk => by
        by_cases e : k < n
        · exact absurd ⟨k, e, hk⟩ h
        · omega⟩
/-- All the holds of a worker that has renewed and taken are its own. -/
theorem turn_held {i len : Nat} {fi : Nat → Bool} {s s1 s2 : Fs} {r : Option Nat} (h1 : Rn i fi s s1) (h2 : Tk i len s1 s2 r) (k : Nat) (hk : k < 16) (hh : (s2.f i k).held = true) : mt s2 i k := by
  by_cases hr : r = some k
  · exact (h2.near hk hr).2 rfl
  · rw [(h2.fh k hk hr).1] at hh
    exact (h2.far hk hr).2 (h1.held hk hh)

set_option maxRecDepth 100000 in
set_option maxHeartbeats 1000000 in
theorem round_any {B : Bd} {N : Nat} {w : World} {ρ : Nat → Nat} {cb gb : Nat} {C : Cfg} {now : Rest} {l : List Sh} {E : List En} {P : List Pl} (h : Cq B N w ρ cb gb C now l E P) (hN : N ≤ w.heap.size) (hB : B.n + 100 ≤ 1000000000000000) (sm a0 u0 r : Nat) (h0 : bitB sm a0 = true) (h0n : a0 < now.n) (hfirst : ∀ a, bitB sm a = true → a0 ≤ a) (hR : Rnd (bitB sm) now.n a0 l C.l u0 r (fs now P)) :
    Calls Try.prog 19 #[.pointer (some ⟨cb, 0, none⟩), .int .i64 sm] w fun e w' => e = .returned (.tuple #[]) ∧ ∃ (B' : Bd) (ρ' : Nat → Nat) (now' : Rest) (P' : List Pl), B'.n ≤ B.n + 20 ∧ Cq B' N w' ρ' cb gb C now' l E P' ∧ Below N w w' ∧ now'.n = now.n ∧ Rnd (bitB sm) now.n a0 l C.l u0 (r + 1) (fs now' P') := by
  have hv := (validB_iff _ _ _ _ _ _).1 h.cr.val
  have hI := h.cr.inv
  have HT := hide (cTick h hN (by omega))
  have H4 : Hid (∀ (W : World) (B : Bd) (ρ : Nat → Nat) (now' : Rest) (P' : List Pl), Cq B N W ρ cb gb C now' l E P' → W.cell? ⟨cb, 6, none⟩ = some (.pointer (some ⟨gb, 0, none⟩)) ∧ W.cell? ⟨cb, 0, none⟩ = some (.int .i64 C.a)) := fun W B ρ now' P' hW => by
    obtain ⟨ea, ecap, c0, c6, _, _, _, hcb, _⟩ := crew_cells hW.cr.ent2
    exact ⟨c6, c0⟩
  have HRe : Hid (∀ (W : World) (B : Bd) (ρ : Nat → Nat) (now' : Rest) (P' : List Pl) (i : Nat), Cq B N W ρ cb gb C now' l E P' → N ≤ W.heap.size → B.n + 1 ≤ 1000000000000000 → i < now'.n → Calls Try.prog 26 #[.pointer (some ⟨gb, 0, none⟩), .int .i64 i] W fun e w' => (∃ a b : Int, e = .returned (.tuple #[.int .i64 a, .int .i64 b])) ∧ ∃ now2 P2, Cq B.up N w' ρ cb gb C now2 l E P2 ∧ Below N W w' ∧ now2.n = now'.n ∧ Rn i (fun k => fin l (fs now' P').d k) (fs now' P') (fs now2 P2)) := by
    intro W B ρ now' P' i h1 h2 h3 h4
    exact cRenew h1 h2 h3 i h4
  have HTa : Hid (∀ (W : World) (B : Bd) (ρ : Nat → Nat) (now' : Rest) (P' : List Pl) (i : Nat), Cq B N W ρ cb gb C now' l E P' → N ≤ W.heap.size → B.n + 2 ≤ 1000000000000000 → i < now'.n → Calls Try.prog 27 #[.pointer (some ⟨gb, 0, none⟩), .int .i64 i] W fun e w' => (∃ a b : Int, e = .returned (.tuple #[.int .i64 a, .int .i64 b])) ∧ ∃ now2 P2 r, Cq B.up.up N w' ρ cb gb C now2 l E P2 ∧ Below N W w' ∧ now2.n = now'.n ∧ Tk i l.length (fs now' P') (fs now2 P2) r ∧ TkI i C.l l (fs now' P') r) := by
    intro W B ρ now' P' i h1 h2 h3 h4
    exact cTake h1 h2 h3 i h4
  have HWo : Hid (∀ (W : World) (B : Bd) (ρ : Nat → Nat) (now' : Rest) (P' : List Pl) (i : Nat), Cq B N W ρ cb gb C now' l E P' → N ≤ W.heap.size → B.n ≤ 1000000000000000 → i < now'.n → (∀ k, k < 16 → ((fs now' P').f i k).held = true → mt (fs now' P') i k) → Calls Try.prog 32 #[.pointer (some ⟨cb, 0, none⟩), .int .i64 i] W fun e w' => e = .returned (.tuple #[]) ∧ ∃ now2 P2, Cq B N w' ρ cb gb C now2 l E P2 ∧ Below N W w' ∧ now2.n = now'.n ∧ Wk i l C.b (fs now' P') (fs now2 P2)) := by
    intro W B ρ now' P' i h1 h2 h3 h4 h5
    exact works_all h1 h2 h3 (by omega) i h4 h5
  have hL : 1 ≤ C.l := by omega
  obtain ⟨τ, hR0, hτ⟩ := hR.begin (s' := fs { now with t := now.t + 1 } P) rfl rfl rfl rfl
  have HR0 := hide hR0
  have HEnd : Hid (∀ (now' : Rest) (P' : List Pl), Rin (bitB sm) now.n a0 l C.l τ (1 ≤ r) (2 ≤ r) (pot (bitB sm) now.n l (fs now P)) (unf l (fs now P).d l.length) now.n (fs now' P') → (fs now' P').t = now.t + 1 → Rnd (bitB sm) now.n a0 l C.l u0 (r + 1) (fs now' P')) := by
    intro now' P' h1 h2
    exact hR.finish hL h0n h1 (fun hr => by have := hτ hr; rw [h2]; exact this)
  have HTu : Hid (∀ (now1 now2 now3 now4 : Rest) (P1 P2 P3 P4 : List Pl) (q : Option Nat) (j : Nat), Rin (bitB sm) now.n a0 l C.l τ (1 ≤ r) (2 ≤ r) (pot (bitB sm) now.n l (fs now P)) (unf l (fs now P).d l.length) j (fs now1 P1) → bitB sm j = true → j < now.n → Turn j now.n C.b C.l l (fs now1 P1) (fs now2 P2) (fs now3 P3) (fs now4 P4) q → Rin (bitB sm) now.n a0 l C.l τ (1 ≤ r) (2 ≤ r) (pot (bitB sm) now.n l (fs now P)) (unf l (fs now P).d l.length) (j + 1) (fs now4 P4)) := by
    intro now1 now2 now3 now4 P1 P2 P3 P4 q j h1 h2 h3 h4
    exact h1.turn hI h0 h0n hfirst hL (fun h => by omega) h2 h3 h4
  have HSk : Hid (∀ (now1 : Rest) (P1 : List Pl) (j : Nat), Rin (bitB sm) now.n a0 l C.l τ (1 ≤ r) (2 ≤ r) (pot (bitB sm) now.n l (fs now P)) (unf l (fs now P).d l.length) j (fs now1 P1) → bitB sm j = false → Rin (bitB sm) now.n a0 l C.l τ (1 ≤ r) (2 ≤ r) (pot (bitB sm) now.n l (fs now P)) (unf l (fs now P).d l.length) (j + 1) (fs now1 P1)) := by
    intro now1 P1 j h1 h2
    exact h1.skip h0 h2
  obtain ⟨c6, c0⟩ := unhide H4 _ _ _ _ _ h
  have hn := h.cr.wok.2.1
  have hn4 := h.cr.wok.2.2.1
  clear h hR hR0 hτ hfirst h0 hI hv
  generalize hXX : pot (bitB sm) now.n l (fs now P) = X at *
  generalize hUU : unf l (fs now P).d l.length = U at *
  clear hXX hUU
  go_enter Try.func19, Try.ntmps19
  go_wp2_with fail
  refine (unhide HT).mono ?_
  rintro e w1 ⟨rfl, ρ1, hC1, hB1⟩
  have HC1 := hide hC1
  have HB1 := hide hB1
  have hN1 : N ≤ w1.heap.size := by have := hB1.size; omega
  clear hC1 hB1 HT
  go_wp2
  go_loopw [4] (fun i wr => ∃ (j : Nat) (B' : Bd) (ρ' : Nat → Nat) (now' : Rest) (P' : List Pl), j ≤ now.n ∧ i = .int .i64 j ∧ B'.n ≤ B.n + 1 + 3 * j ∧ Cq B' N wr ρ' cb gb C now' l E P' ∧ Below N w wr ∧ N ≤ wr.heap.size ∧ now'.n = now.n ∧ (fs now' P').t = now.t + 1 ∧ Rin (bitB sm) now.n a0 l C.l τ (1 ≤ r) (2 ≤ r) X U j (fs now' P')) (fun i _ => now.n - (intOf i).toNat)
  case atStart => exact ⟨0, B.up, ρ1, _, P, Nat.zero_le _, rfl, Nat.le_refl _, unhide HC1, unhide HB1, hN1, rfl, rfl, unhide HR0⟩
  case round =>
    obtain ⟨j, B', ρ', now', P', hj, rfl, hBn, hC, hBw, hNw, hn', ht', hRi⟩ := hrel
    obtain ⟨c6, c0⟩ := unhide H4 _ _ _ _ _ hC
    have HC := hide hC
    have HBw := hide hBw
    have Hn' := hide hn'
    have Ht' := hide ht'
    have HRi := hide hRi
    clear hC hBw hn' ht' hRi
    by_cases hlt : j < now.n
    · have hlt2 : (j : Int) < C.a := by omega
      cases hbit : bitB sm j
      · have d1 : (bits BinOp.and IntKind.i64 ((sm : Int) / 2 ^ j) 1 == 1) = false := hbit
        have HR1 := hide (unhide HSk _ _ _ (unhide HRi) hbit)
        clear hbit
        go_wp2
        go_roundw
        case rel => exact ⟨j + 1, B', ρ', now', P', by omega, by go_num, by omega, unhide HC, unhide HBw, hNw, unhide Hn', unhide Ht', unhide HR1⟩
        case measure => simp [intOf]; omega
      · have d1 : (bits BinOp.and IntKind.i64 ((sm : Int) / 2 ^ j) 1 == 1) = true := hbit
        have HBit := hide hbit
        have C1 := hide (unhide HRe wr B' ρ' now' P' j (unhide HC) hNw (by omega) (by have := unhide Hn'; omega))
        clear hbit
        go_wp2_with fail
        refine (unhide C1).mono ?_
        rintro e w2 ⟨⟨a, b, rfl⟩, now2, P2, hC2, hB2, hn2, hRn⟩
        obtain ⟨c6, c0⟩ := unhide H4 _ _ _ _ _ hC2
        have hN2 : N ≤ w2.heap.size := by have := hB2.size; omega
        have C2 := hide (unhide HTa w2 B'.up ρ' now2 P2 j hC2 hN2 (by show B'.n + 1 + 2 ≤ _; omega) (by have := unhide Hn'; omega))
        have HC2 := hide hC2
        have HB2 := hide ((unhide HBw).trans hB2)
        have Hn2 := hide hn2
        have HRn := hide hRn
        clear hC2 hB2 hn2 hRn
        go_wp2_with fail
        refine (unhide C2).mono ?_
        rintro e w3 ⟨⟨a3, b3, rfl⟩, now3, P3, q, hC3, hB3, hn3, hTk, hTi⟩
        obtain ⟨c6, c0⟩ := unhide H4 _ _ _ _ _ hC3
        have hN3 : N ≤ w3.heap.size := by have := hB3.size; omega
        have C3 := hide (unhide HWo w3 B'.up.up.up ρ' now3 P3 j hC3 hN3 (by show B'.n + 1 + 1 + 1 ≤ _; omega) (by have := unhide Hn'; have := unhide Hn2; omega) (fun k hk hh => turn_held (unhide HRn) hTk k hk hh))
        have HC3 := hide hC3
        have HB3 := hide ((unhide HB2).trans hB3)
        have Hn3 := hide hn3
        have HTk := hide hTk
        have HTi := hide hTi
        clear hC3 hB3 hn3 hTk hTi
        go_wp2_with fail
        refine (unhide C3).mono ?_
        rintro e w4 ⟨rfl, now4, P4, hC4, hB4, hn4', hWk⟩
        obtain ⟨c6, c0⟩ := unhide H4 _ _ _ _ _ hC4
        have hN4 : N ≤ w4.heap.size := by have := hB4.size; omega
        have HC4 := hide hC4
        have HB4 := hide ((unhide HB3).trans hB4)
        have Hn4 : Hid (now4.n = now.n) := by have := unhide Hn'; have := unhide Hn2; have := unhide Hn3; unfold Hid; omega
        have HT9 : Hid (Turn j now.n C.b C.l l (fs now' P') (fs now2 P2) (fs now3 P3) (fs now4 P4) q) := by
          have e1 := unhide Hn'
          have e2 := unhide Hn2
          have e3 := unhide Hn3
          have g0 := (unhide HC).gd
          have g1 := (unhide HC2).gd
          have g2 := (unhide HC3).gd
          have g3 := hC4.gd
          rw [e1] at g0
          rw [e2, e1] at g1
          rw [e3, e2, e1] at g2
          rw [unhide Hn4] at g3
          exact ⟨unhide HRn, unhide HTk, unhide HTi, hWk, g0, g1, g2, g3⟩
        have Ht4 : Hid ((fs now4 P4).t = now.t + 1) := (unhide HT9).t.trans (unhide Ht')
        have HR4 := hide (unhide HTu _ _ _ _ _ _ _ _ _ _ (unhide HRi) (unhide HBit) hlt (unhide HT9))
        clear hC4 hB4 hn4' hWk
        go_wp2
        go_roundw
        case rel => exact ⟨j + 1, B'.up.up.up, ρ', now4, P4, by omega, by go_num, by show B'.n + 1 + 1 + 1 ≤ _; omega, unhide HC4, unhide HB4, hN4, unhide Hn4, unhide Ht4, unhide HR4⟩
        case measure => simp [intOf]; omega
    · have hlt2 : ¬ (j : Int) < C.a := by omega
      have e : j = now.n := by omega
      subst e
      have HF := hide (unhide HEnd _ _ (unhide HRi) (unhide Ht'))
      go_wp2
      go_end0
      exact ⟨rfl, B', by omega, ρ', now', P', unhide HC, unhide HBw, unhide Hn', unhide HF⟩

end Go.Proofs.Ytpnkmnmchdabkaa
