import Derived.Test.YtpnkmnmchdabkaaM36
namespace Go.Proofs.Ytpnkmnmchdabkaa
open Go.RowKit
attribute [local go_sem ↓] Go.wp_at_zero Go.wp_at_succ

set_option maxRecDepth 100000 in
set_option maxHeartbeats 4000000 in
theorem taken_any {B : Bd} {N : Nat} {w : World} {ρ : Nat → Nat} {cb gb : Nat} {C : Cfg} {now : Rest} {l : List Sh} {E : List En} (h : Crew true B N w ρ cb gb C now l E l.length) (hN : N ≤ w.heap.size) (hBn : B.n ≤ 9223372036854775807) (i : Nat) (hi : (i : Int) < C.a) :
    Calls Try.prog 12 #[.pointer (some ⟨cb, 0, none⟩), .int .i64 i] w fun e w' => e = .returned (.bool true) ∧ ∃ now', Crew true B.up N w' ρ cb gb C now' l E l.length ∧ Below N w w' := by
  have h16 := h.inv.len
  have hpos := h.inv.pos
  have hI := h.inv
  have HT := hide (crew_take h hN hBn i hi)
  obtain ⟨ea, ecap, _, c6, _, _, _, _, _⟩ := crew_cells h.ent2
  have ei : ((i : Nat) : Int) = (i : Int) := rfl
  have HI := hide hI
  clear h hI
  go_enter Try.func12, Try.ntmps12
  go_wp2_with fail
  refine (unhide HT).mono ?_
  rintro e w1 ⟨r, now', P, rfl, hC1, hB1, hn4, hin, hls, hR, hr⟩
  have hN1 : N ≤ w1.heap.size := by have := hB1.size; omega
  have HM := hide (marks_any hC1)
  have HSh : Hid (∀ W, Below w1.heap.size w1 W → Calls Try.prog 33 #[.pointer (some ⟨gb, 0, none⟩)] W fun e w' => ∃ lb lcap, e = .returned (.slice (some ⟨lb, 0, none⟩) l.length lcap) ∧ Tol w' lb l ∧ Below W.heap.size W w') := fun W hW => by
    have := hC1.below hW
    exact shards_tol this.grp this.inv
  have HFin : Hid (∀ W, Below w1.heap.size w1 W → ∃ now', Crew true B.up N W ρ cb gb C now' l E l.length ∧ Below N w W) := fun W hW => ⟨now', hC1.below hW, hB1.trans (hW.mono hN1)⟩
  have HRd := hide hR
  have hUl := mkUp_len l now'.dn l.length
  have HUg : Hid (∀ (k : Nat) (x : Mk), (mkUp l now'.dn l.length)[k]? = some x → x.d = dnP now'.dn k) := fun k x hx => by
    have hk := (List.getElem?_eq_some_iff.1 hx).1
    rw [hUl] at hk
    rw [mkUp_get l now'.dn l.length k hk] at hx
    injection hx with hx
    rw [← hx]; rfl
  have HL16 := heldOf_le P i 16
  have HWt : Hid (∀ (W : World) (lb mb lcap mcap : Nat) (k : Nat), k < l.length → Tol W lb l → Mks W mb (mkUp l now'.dn l.length) → Calls Try.prog 37 #[.slice (some ⟨lb, 0, none⟩) l.length lcap, .slice (some ⟨mb, 0, none⟩) l.length mcap, .int .i64 k] W fun e w' => e = .returned (.bool (!(rdy l (dnP now'.dn) k) || fin l (dnP now'.dn) k)) ∧ ∃ n, w' = W.drewN n) := fun W lb mb lcap mcap k hk hT hM => by
    have := waits_any (lcap := lcap) (mcap := mcap) (unhide HI) hUl (unhide HUg) k hk W hT hM
    rw [hUl] at this
    exact this
  generalize mkUp l now'.dn l.length = U at *
  have HLs : Hid (∀ k, k < l.length → ∃ x, now'.ls[k]? = some x) := fun k hk => ⟨now'.ls[k]'(by omega), List.getElem?_eq_getElem _⟩
  have HRr := hide hr
  obtain ⟨⟨_, _, d6, _⟩, _⟩ := hR w1 (Below.refl _ w1)
  clear hC1 hB1 hR hr hls HT c6
  cases r with
  | none =>
    have hn0 : takeV none = .tuple #[.int .i64 0, .int .i64 10] := rfl
    rw [hn0]
    go_wp2_with fail
    refine (unhide HM).mono ?_
    rintro e w2 ⟨v, rfl, hv, hb2⟩
    obtain ⟨mb, mcap, rfl, hMk⟩ := mks_of hv (by omega)
    obtain ⟨⟨_, _, e6, _⟩, _⟩ := unhide HRd w2 hb2
    have C2 := hide (unhide HSh w2 hb2)
    have HB2 := hide hb2
    have HMk := hide hMk
    clear hv hb2 hMk d6 HM
    go_wp2_with fail
    refine (unhide C2).mono ?_
    rintro e w3 ⟨lb, lcap, rfl, hT, hb3⟩
    have HB3 := hide ((unhide HB2).trans (hb3.mono (unhide HB2).size))
    have HMk3 := hide ((unhide HMk).below hb3)
    have HT3 := hide hT
    obtain ⟨⟨_, _, f6, _⟩, _, hHo, _⟩ := unhide HRd w3 (unhide HB3)
    have C3 := hide (hHo i hin)
    clear hb3 hT hHo HMk C2 e6
    go_wp2_with fail
    refine (unhide C3).mono ?_
    rintro e w4 ⟨v, rfl, hv, hb4⟩
    have HB4 := hide ((unhide HB3).trans (hb4.mono (unhide HB3).size))
    have HMk4 := hide ((unhide HMk3).below hb4)
    have HT4 := hide ((unhide HT3).below hb4)
    obtain ⟨ha, hcap, rfl⟩ := ownsRow_len hv
    obtain ⟨⟨_, _, g6, g8⟩, _⟩ := unhide HRd w4 (unhide HB4)
    have q0 : ((l.length : Int) != (l.length : Int)) = false := by simp
    clear hv hb4 f6 HMk3 HT3 C3
    go_wp2
    go_loopw [12] (fun q wr => ∃ k : Nat, k ≤ l.length ∧ q = .int .i64 k ∧ Below w4.heap.size w4 wr) (fun q _ => l.length - (intOf q).toNat)
    case atStart => exact ⟨0, Nat.zero_le _, rfl, Below.refl _ w4⟩
    case round =>
      obtain ⟨k, hk, rfl, hB⟩ := hrel
      by_cases hlt : k < l.length
      · obtain ⟨x, hx⟩ := unhide HLs k hlt
        have hBw := (unhide HB4).trans (hB.mono (unhide HB4).size)
        obtain ⟨⟨_, _, j6, _⟩, _, _, hLe⟩ := unhide HRd wr hBw
        have C5 := hide (hLe k x hlt hx)
        have HX : Hid (x.o = -1 → (!(rdy l (dnP now'.dn) k) || fin l (dnP now'.dn) k) = true) := unhide HRr k x hlt hx
        have HB := hide hB
        have hws := hB.size
        clear hx hLe hBw hB
        go_wp2_with fail
        refine (unhide C5).mono ?_
        rintro e w5 ⟨rfl, hb5⟩
        have HB5 := hide (((unhide HB).trans (hb5.mono hws)).alloc (by have := hb5.size; omega) (.cells #[.int .i64 x.o, .int .i64 x.c, .int .i64 x.e] 70))
        have N5 := heap_alloc_new w5 (.cells #[.int .i64 x.o, .int .i64 x.c, .int .i64 x.e] 70)
        clear hb5 HB C5 j6
        go_wp2_with fail
        have C6 := hide (unhide HWt _ lb mb lcap mcap k hlt ((unhide HT4).below (unhide HB5)) ((unhide HMk4).below (unhide HB5)))
        generalize w5.alloc (.cells #[.int .i64 x.o, .int .i64 x.c, .int .i64 x.e] 70) = W at *
        generalize w5.heap.size = xb at *
        generalize (!(rdy l (dnP now'.dn) k) || fin l (dnP now'.dn) k) = b at *
        refine (unhide C6).mono ?_
        rintro e w6 ⟨rfl, n, rfl⟩
        have y0 := cell_of N5 0
        simp at y0
        have Y0 : (W.drewN n).cell? ⟨xb, 0, none⟩ = some (.int .i64 x.o) := y0
        have HBn : Hid (∀ q, Below w4.heap.size w4 ((W.drewN n).drewN q)) := fun q => below_drewN (below_drewN (unhide HB5) n) q
        clear y0 N5 C6 HB5
        generalize W.drewN n = V at *
        by_cases ho : x.o = -1
        · have hb := unhide HX ho
          subst hb
          have o1 : (x.o == -1) = true := by simp [ho]
          clear ho
          go_wp2
          exact ⟨⟨k + 1, by omega, by go_num, unhide HBn 0⟩, by simp [intOf]; omega⟩
        · have o1 : (x.o == -1) = false := by simpa using ho
          clear ho
          go_wp2
          exact ⟨⟨k + 1, by omega, by go_num, unhide HBn 0⟩, by simp [intOf]; omega⟩
      · have HB := hide ((unhide HB4).trans (hB.mono (unhide HB4).size))
        clear hB
        go_wp2
        go_ret
        exact ⟨rfl, unhide HFin _ (unhide HB)⟩
  | some m =>
    have hn0 : takeV (some m) = .tuple #[.int .i64 m, .int .i64 0] := rfl
    rw [hn0]
    obtain ⟨hml, hwt, x, hx, hxo, hyy, hex⟩ := unhide HRr
    have HYY := hide hyy
    have HEX := hide hex
    have K3 := hide hx
    clear hyy hex hx
    go_wp2_with fail
    refine (unhide HM).mono ?_
    rintro e w2 ⟨v, rfl, hv, hb2⟩
    obtain ⟨mb, mcap, rfl, hMk⟩ := mks_of hv (by omega)
    obtain ⟨⟨_, _, e6, _⟩, _⟩ := unhide HRd w2 hb2
    have C2 := hide (unhide HSh w2 hb2)
    have HB2 := hide hb2
    have HMk := hide hMk
    clear hv hb2 hMk d6 HM
    go_wp2_with fail
    refine (unhide C2).mono ?_
    rintro e w3 ⟨lb, lcap, rfl, hT, hb3⟩
    have HB3 := hide ((unhide HB2).trans (hb3.mono (unhide HB2).size))
    have HMk3 := hide ((unhide HMk).below hb3)
    have HT3 := hide hT
    obtain ⟨⟨_, _, f6, _⟩, _, hHo, _⟩ := unhide HRd w3 (unhide HB3)
    have C3 := hide (hHo i hin)
    clear hb3 hT hHo HMk C2 e6
    go_wp2_with fail
    refine (unhide C3).mono ?_
    rintro e w4 ⟨v, rfl, hv, hb4⟩
    have HB4 := hide ((unhide HB3).trans (hb4.mono (unhide HB3).size))
    have HMk4 := hide ((unhide HMk3).below hb4)
    have HT4 := hide ((unhide HT3).below hb4)
    obtain ⟨ha, hcap, rfl, hHs⟩ := hsAt_of hv none (fun g hg => by cases hg)
    have HHs := hide hHs
    clear hHs
    obtain ⟨⟨_, _, g6, g8⟩, _⟩ := unhide HRd w4 (unhide HB4)
    have q1 : decide ((m : Int) < 0) = false := by simp
    have q2 : decide ((l.length : Int) ≤ m) = false := by simp; omega
    have q0 : ((l.length : Int) != (l.length : Int)) = false := by simp
    clear hv hb4 f6 HMk3 HT3 C3
    have C5 := hide (unhide HWt w4 lb mb lcap mcap m hml (unhide HT4) (unhide HMk4))
    rw [hwt] at C5
    go_wp2_with fail
    refine (unhide C5).mono ?_
    rintro e w5 ⟨rfl, n, rfl⟩
    have HB5 := hide (below_drewN (unhide HB4) n)
    obtain ⟨⟨_, _, j6, _⟩, _, _, hLe⟩ := unhide HRd (w4.drewN n) (unhide HB5)
    have C6 := hide (hLe m x hml (unhide K3))
    have HMk5 : Hid (Mks (w4.drewN n) mb U) := (unhide HMk4).below ⟨rfl, rfl, rfl, Nat.le_refl _, fun _ _ => rfl⟩
    have HHs5 : Hid (HsAt (w4.drewN n) ha (heldOf P i 16) none) := unhide HHs
    clear hLe g6 g8 q0 q1 q2 C5
    generalize w4.drewN n = V at *
    go_wp2_with fail
    refine (unhide C6).mono ?_
    rintro e w6 ⟨rfl, hb6⟩
    have hVs := hb6.size
    have B6 : Below V.heap.size V (w6.alloc (.cells #[.int .i64 x.o, .int .i64 x.c, .int .i64 x.e] 70)) := hb6.alloc hVs _
    have HB6 := hide ((unhide HB5).trans (B6.mono (unhide HB5).size))
    have HMk6 := hide ((unhide HMk5).below B6)
    have HHs6 : Hid (HsAt (w6.alloc (.cells #[.int .i64 x.o, .int .i64 x.c, .int .i64 x.e] 70)) ha (heldOf P i 16) none) := (unhide HHs5).keep B6.size (fun b _ hb _ => ⟨B6.block b hb, fun g hg => by cases hg⟩)
    have N6 := heap_alloc_new w6 (.cells #[.int .i64 x.o, .int .i64 x.c, .int .i64 x.e] 70)
    have o1 : (x.o != (i : Int)) = false := by simp [hxo]
    rw [hxo] at N6 B6 HB6 HMk6 HHs6 ⊢
    clear B6 hb6 C6 j6 HHs5 HMk5 HB5 hVs
    go_wp2_with fail
    generalize w6.alloc (.cells #[.int .i64 (i : Int), .int .i64 x.c, .int .i64 x.e] 70) = W at *
    generalize w6.heap.size = xb at *
    generalize heldOf P i 16 = hs at *
    go_loopw [19] (fun q wr => ∃ j : Nat, j ≤ hs.length ∧ q = .int .i64 j ∧ wr = W ∧ ∀ (a : Nat) (y : Hd), a < j → hs[a]? = some y → y.sh ≠ m) (fun q _ => hs.length - (intOf q).toNat)
    case atStart => exact ⟨0, Nat.zero_le _, rfl, rfl, fun a y ha => by omega⟩
    case round =>
      obtain ⟨j, hj, rfl, rfl, hno⟩ := hrel
      have HNO := hide hno
      clear hno
      by_cases hjl : j < hs.length
      · obtain ⟨hb, rfl, _, _, hcell⟩ := unhide HHs6 (by omega)
        obtain ⟨y, hy⟩ : ∃ y, hs[j]? = some y := ⟨hs[j], List.getElem?_eq_getElem hjl⟩
        obtain ⟨y0, y1, y2, y3⟩ := hcell j y hy
        by_cases hym : y.sh = m
        · obtain ⟨z1, z2, z3⟩ := unhide HYY y (List.mem_of_getElem? hy) hym
          obtain ⟨u, hu⟩ : ∃ u, U[m]? = some u := ⟨U[m]'(by omega), List.getElem?_eq_getElem _⟩
          have hud := unhide HUg m u hu
          obtain ⟨m0, _⟩ := (unhide HMk6).2 m u hu
          have x2 := cell_of N6 2
          simp at x2
          rw [hym] at y0
          rw [z1] at y1
          rw [z2, ← hud] at y2
          rw [z3] at y3
          clear hcell hy hym z1 z2 z3 hud hu
          go_wp2
          go_quiet (fail)
          go_wp2
          go_ret
          exact ⟨rfl, unhide HFin _ (below_drewN (unhide HB6) nq)⟩
        · have b1 : (y.sh == (m : Int)) = false := by simpa using hym
          have HNX : Hid (∀ (a : Nat) (z : Hd), a < j + 1 → hs[a]? = some z → z.sh ≠ m) := fun a z ha hz => by
            by_cases e : a < j
            · exact unhide HNO a z e hz
            · have e : a = j := by omega
              subst e
              rw [hy] at hz
              injection hz with hz
              subst hz
              exact hym
          clear hcell hy hym
          go_wp2
          go_roundw
          case rel => exact ⟨j + 1, by omega, by go_num, trivial, unhide HNX⟩
          case measure => simp [intOf]; omega
      · exfalso
        obtain ⟨y, hy, hym⟩ := unhide HEX
        obtain ⟨a, ha⟩ := List.getElem?_of_mem hy
        exact unhide HNO a y (by have := (List.getElem?_eq_some_iff.1 ha).1; omega) ha hym


end Go.Proofs.Ytpnkmnmchdabkaa
