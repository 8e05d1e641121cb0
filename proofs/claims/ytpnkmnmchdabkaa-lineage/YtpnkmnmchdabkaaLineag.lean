import Derived.Test.YtpnkmnmchdabkaaM36
import Derived.Test.YtpnkmnmchdabkaaFrm
namespace Go.Proofs.Ytpnkmnmchdabkaa
open Go.RowKit
attribute [local go_sem ↓] Go.wp_at_zero Go.wp_at_succ

set_option maxRecDepth 100000 in
set_option maxHeartbeats 4000000 in
theorem lineage_any {t : Bool} {B : Bd} {N : Nat} {w : World} {ρ : Nat → Nat} {cb gb : Nat} {C : Cfg} {now : Rest} {l : List Sh} {E : List En} (h : Crew t B N w ρ cb gb C now l E l.length) (wa : Option Addr) (wcap : Nat) (W0 : List Mk) (hW : 0 < W0.length → ∃ wb, wa = some ⟨wb, 0, none⟩ ∧ Mks w wb W0)
    (hg : ∀ (k : Nat) (x : Mk), W0[k]? = some x → x.d ≤ (mkOf l now.dn k).d ∧ x.e ≤ (mkOf l now.dn k).e ∧ x.w ≤ (mkOf l now.dn k).w) :
    Calls Try.prog 16 #[.pointer (some ⟨cb, 0, none⟩), .slice wa W0.length wcap] w fun e w' => ∃ v, e = .returned (.tuple #[v, .bool true]) ∧ w'.ownsRow w.heap.size 45 3 v (mkUp l now.dn l.length).length (mkRow (mkUp l now.dn l.length)) ∧ Below w.heap.size w w' := by
  have h16 := h.inv.len
  have hpos := h.inv.pos
  have HI := hide h.inv
  obtain ⟨P, hn, hn4, hO, hR⟩ := crew_reads h
  have HM := hide (marks_any h)
  have HSh : Hid (∀ W, Below w.heap.size w W → Calls Try.prog 33 #[.pointer (some ⟨gb, 0, none⟩)] W fun e w' => ∃ lb lcap, e = .returned (.slice (some ⟨lb, 0, none⟩) l.length lcap) ∧ Tol w' lb l ∧ Below W.heap.size W w') := fun W hW => by
    have := h.below hW
    exact shards_tol this.grp this.inv
  have HCt : Hid (∀ (k : Nat) (s : Sh), l[k]? = some s → (s.cnt : Int) = held E k) := fun k s hs => by rw [h.cnt k s hs]
  have HMr : Hid (∀ k, k < l.length → (0 < (mkOf l now.dn k).d ↔ 0 < (mkOf l now.dn k).e) ∧ (0 < (mkOf l now.dn k).d → rdy l (dnP now.dn) k = true)) := fun k hk => by
    obtain ⟨_, _, _, a, b⟩ := hO.mr k (by omega)
    exact ⟨a, b⟩
  have HRd := hide hR
  have hUl := mkUp_len l now.dn l.length
  have HUg : Hid (∀ k, k < l.length → (mkUp l now.dn l.length)[k]? = some (mkOf l now.dn k)) := fun k hk => mkUp_get l now.dn l.length k hk
  have HCa : Hid (∀ (W : World) (lb mb lcap mcap : Nat) (k : Nat), k < l.length → Tol W lb l → Mks W mb (mkUp l now.dn l.length) → Calls Try.prog 39 #[.slice (some ⟨lb, 0, none⟩) l.length lcap, .slice (some ⟨mb, 0, none⟩) l.length mcap, .int .i64 k] W fun e w' => e = .returned (.bool (rdy l (dnP now.dn) k)) ∧ ∃ n, w' = W.drewN n) := fun W lb mb lcap mcap k hk hT hM => by
    have := (whole_any (lcap := lcap) (mcap := mcap) (unhide HI) hUl (fun k x hx => by
      have hk := (List.getElem?_eq_some_iff.1 hx).1
      rw [hUl] at hk
      rw [unhide HUg k hk] at hx
      injection hx with hx
      rw [← hx]) k hk W hT hM).1
    rw [hUl] at this
    exact this
  have HG := hide hg
  have HW := hide hW
  generalize mkUp l now.dn l.length = U at *
  generalize hmk : mkOf l now.dn = mk at *
  clear h hO hR hg hW hmk
  obtain ⟨⟨_, _, c6, _⟩, _⟩ := unhide HRd w (Below.refl _ w)
  go_enter Try.func16, Try.ntmps16
  go_wp2_with fail
  refine (unhide HM).mono ?_
  rintro e w1 ⟨v, rfl, hv, hb1⟩
  obtain ⟨mb, mcap, rfl, hMk⟩ := mks_of hv (by omega)
  obtain ⟨⟨_, _, d6, _⟩, _⟩ := unhide HRd w1 hb1
  have C2 := hide (unhide HSh w1 hb1)
  have HV := hide hv
  have HB1 := hide hb1
  have HMk := hide hMk
  clear hv hb1 hMk HM c6
  go_wp2_with fail
  refine (unhide C2).mono ?_
  rintro e w2 ⟨lb, lcap, rfl, hT, hb2⟩
  have HB2 := hide ((unhide HB1).trans (hb2.mono (unhide HB1).size))
  have HMk2 := hide ((unhide HMk).below hb2)
  have HT2 := hide hT
  have HV2 : Hid (w2.ownsRow w.heap.size 45 3 (.slice (some ⟨mb, 0, none⟩) U.length mcap) U.length (mkRow U)) := ownsRow_of_block (unhide HV) fun q hq => hb2.block q ((unhide HV).lt q hq).2
  have HW2 : Hid (0 < W0.length → ∃ wb, wa = some ⟨wb, 0, none⟩ ∧ Mks w2 wb W0) := fun h0 => by
    obtain ⟨wb, e, hm⟩ := unhide HW h0
    exact ⟨wb, e, hm.below (unhide HB2)⟩
  obtain ⟨⟨_, _, _, g8⟩, _⟩ := unhide HRd w2 (unhide HB2)
  have q0 : ((l.length : Int) != (l.length : Int)) = false := by simp
  clear hb2 hT HMk HV HB1 HW C2 d6
  go_wp2
  have HDr : Hid (∀ q, Below w2.heap.size w2 (w2.drewN q)) := fun q => ⟨rfl, rfl, rfl, Nat.le_refl _, fun _ _ => rfl⟩
  clear g8 q0
  go_loopw [9] (fun q wr => ∃ (k n : Nat), k ≤ l.length ∧ q = .int .i64 k ∧ wr = w2.drewN n) (fun q _ => l.length - (intOf q).toNat)
  case atStart => exact ⟨0, 0, Nat.zero_le _, rfl, rfl⟩
  case round =>
    obtain ⟨k, n, hk, rfl, rfl⟩ := hrel
    by_cases hkl : k < l.length
    · have hs : l[k]? = some l[k] := List.getElem?_eq_getElem hkl
      generalize l[k] = s at hs
      have hu := unhide HUg k hkl
      obtain ⟨m0, m1, m2⟩ := (unhide HMk2).2 k _ hu
      obtain ⟨_, t4, pb, pc, _, t3, tp⟩ := (unhide HT2).2 k s hs
      have hct := unhide HCt k s hs
      obtain ⟨hr1, hr2⟩ := unhide HMr k hkl
      have HPR := hide ((unhide HI).parR k s hs)
      have HPC := hide ((unhide HI).parC k s hs)
      have hp2 := ((unhide HI).parL k s hs).1
      have HR2 := hide hr2
      have HR1 := hide hr1
      have TP := hide tp
      have HGk := hide (unhide HG k)
      have HCn := hide (fun q => (unhide HRd (w2.drewN q) ((unhide HB2).trans ((unhide HDr q).mono (unhide HB2).size))).2.1 k)
      have HCk := hide (fun q => unhide HCa (w2.drewN q) lb mb lcap mcap k hkl ((unhide HT2).below (unhide HDr q)) ((unhide HMk2).below (unhide HDr q)))
      have M0 : (w2.drewN n).cell? ⟨mb, k * 3, none⟩ = some (.int .i64 (mk k).d) := m0
      have M1 : (w2.drewN n).cell? ⟨mb, k * 3 + 1, none⟩ = some (.int .i64 (mk k).e) := m1
      have M2 : (w2.drewN n).cell? ⟨mb, k * 3 + 2, none⟩ = some (.int .i64 (mk k).w) := m2
      have HM0 := hide m0
      have HM1 := hide m1
      have T3 := hide t3
      have T4 := hide t4
      generalize mk k = x at *
      clear hu m0 m1 m2 t3 t4 tp hr1 hr2 hs
      go_wp2
      refine reg_split (fun a' w' => ∃ nq, w' = w2.drewN nq ∧ a'.tmps.size = 154 ∧ a'.defers = [] ∧ a'.tmps[0]? = some (.pointer (some ⟨cb, 0, none⟩)) ∧ a'.tmps[1]? = some (.slice wa W0.length wcap) ∧ a'.tmps[2]? = some (undef) ∧ a'.tmps[3]? = some (undef) ∧ a'.tmps[6]? = some (.slice (some ⟨mb, 0, none⟩) l.length mcap) ∧ a'.tmps[7]? = some (.bool true) ∧ a'.tmps[8]? = some (.slice (some ⟨lb, 0, none⟩) l.length lcap) ∧ a'.tmps[9]? = some (.int .i64 k) ∧ a'.tmps[13]? = some (.tuple #[.slice (some ⟨mb, 0, none⟩) l.length mcap, .bool true]) ∧ a'.tmps[14]? = some (.pointer (some ⟨cb, 0, none⟩)) ∧ a'.tmps[15]? = some (.tuple #[.slice (some ⟨mb, 0, none⟩) l.length mcap, .bool true]) ∧ a'.tmps[16]? = some (.slice (some ⟨mb, 0, none⟩) l.length mcap) ∧ a'.tmps[17]? = some (.bool true) ∧ a'.tmps[18]? = some (.pointer (some ⟨cb, 0, none⟩)) ∧ a'.tmps[19]? = some (.pointer (some ⟨cb, 0, none⟩)) ∧ a'.tmps[20]? = some (.pointer (some ⟨cb, 6, none⟩)) ∧ a'.tmps[21]? = some (.pointer (some ⟨gb, 0, none⟩)) ∧ a'.tmps[22]? = some (.slice (some ⟨lb, 0, none⟩) l.length lcap) ∧ a'.tmps[23]? = some (.bool true) ∧ a'.tmps[24]? = some (.bool false) ∧ a'.tmps[25]? = some (.bool false) ∧ a'.tmps[26]? = some (.slice (some ⟨lb, 0, none⟩) l.length lcap) ∧ a'.tmps[27]? = some (.int .i64 (l.length : Int)) ∧ a'.tmps[28]? = some (.pointer (some ⟨cb, 0, none⟩)) ∧ a'.tmps[29]? = some (.pointer (some ⟨cb, 0, none⟩)) ∧ a'.tmps[30]? = some (.pointer (some ⟨cb, 8, none⟩)) ∧ a'.tmps[31]? = some (.int .i64 (l.length : Int)) ∧ a'.tmps[32]? = some (.bool false) ∧ a'.tmps[33]? = some (.bool false) ∧ a'.tmps[153]? = some (undef) ∧ a'.tmps[82]? = some (.bool false)) ?reg ?tail
      case reg =>
        by_cases hkw : k < W0.length
        · obtain ⟨wb, rfl, hWm⟩ := unhide HW2 (by omega)
          obtain ⟨y, hy⟩ : ∃ y, W0[k]? = some y := ⟨W0[k], List.getElem?_eq_getElem hkw⟩
          obtain ⟨w0, w1', w2'⟩ := hWm.2 k y hy
          obtain ⟨g1, g2, g3⟩ := unhide HGk y hy
          have V0 : (w2.drewN n).cell? ⟨wb, k * 3, none⟩ = some (.int .i64 y.d) := w0
          have V1 : (w2.drewN n).cell? ⟨wb, k * 3 + 1, none⟩ = some (.int .i64 y.e) := w1'
          have V2 : (w2.drewN n).cell? ⟨wb, k * 3 + 2, none⟩ = some (.int .i64 y.w) := w2'
          have b1 : decide (x.d < y.d) = false := by simp; omega
          have b2 : decide (x.e < y.e) = false := by simp; omega
          have b3 : decide (x.w < y.w) = false := by simp; omega
          have HNX : Hid (∀ m, (w2.drewN n).drewN m = w2.drewN (n + m)) := fun m => World.drewN_drewN ..
          clear hWm hy w0 w1' w2' g1 g2 g3
          generalize w2.drewN n = V at *
          go_quiet (fail)
          refine ⟨rfl, n + nq, unhide HNX nq, rfl, rfl, rfl, rfl, rfl, rfl, rfl, rfl, rfl, rfl, rfl, rfl, rfl, rfl, rfl, rfl, rfl, rfl, rfl, rfl, rfl, rfl, rfl, rfl, rfl, rfl, rfl, rfl, rfl, rfl, rfl, rfl, congrArg some ?_⟩
          first | rfl | (simp; omega)
        · have b1 : decide (k < W0.length) = false := by simp; omega
          have HNX : Hid (∀ m, (w2.drewN n).drewN m = w2.drewN (n + m)) := fun m => World.drewN_drewN ..
          obtain ⟨J, hJ⟩ : ∃ J : Int, J = (k : Int) := ⟨_, rfl⟩
          have b2 : decide (J < (W0.length : Int)) = false := by simp; omega
          rw [← hJ]
          clear hJ M0 M1 M2
          generalize w2.drewN n = V at *
          go_quiet (fail)
          refine ⟨rfl, n + nq, unhide HNX nq, rfl, rfl, rfl, rfl, rfl, rfl, rfl, rfl, rfl, rfl, rfl, rfl, rfl, rfl, rfl, rfl, rfl, rfl, rfl, rfl, rfl, rfl, rfl, rfl, rfl, rfl, rfl, rfl, rfl, rfl, rfl, rfl, congrArg some ?_⟩
          first | rfl | (simp; omega)
      case tail =>
        rintro a' w' ⟨n2, rfl, hz, hd, e0, e1, e2, e3, e6, e7, e8, e9, e13, e14, e15, e16, e17, e18, e19, e20, e21, e22, e23, e24, e25, e26, e27, e28, e29, e30, e31, e32, e33, e153, e82⟩
        obtain ⟨f, rfl⟩ := frame154 a' hz hd
        clear hz hd
        replace e0 : f 0 = _ := Option.some.inj e0
        replace e1 : f 1 = _ := Option.some.inj e1
        replace e2 : f 2 = _ := Option.some.inj e2
        replace e3 : f 3 = _ := Option.some.inj e3
        replace e6 : f 6 = _ := Option.some.inj e6
        replace e7 : f 7 = _ := Option.some.inj e7
        replace e8 : f 8 = _ := Option.some.inj e8
        replace e9 : f 9 = _ := Option.some.inj e9
        replace e13 : f 13 = _ := Option.some.inj e13
        replace e14 : f 14 = _ := Option.some.inj e14
        replace e15 : f 15 = _ := Option.some.inj e15
        replace e16 : f 16 = _ := Option.some.inj e16
        replace e17 : f 17 = _ := Option.some.inj e17
        replace e18 : f 18 = _ := Option.some.inj e18
        replace e19 : f 19 = _ := Option.some.inj e19
        replace e20 : f 20 = _ := Option.some.inj e20
        replace e21 : f 21 = _ := Option.some.inj e21
        replace e22 : f 22 = _ := Option.some.inj e22
        replace e23 : f 23 = _ := Option.some.inj e23
        replace e24 : f 24 = _ := Option.some.inj e24
        replace e25 : f 25 = _ := Option.some.inj e25
        replace e26 : f 26 = _ := Option.some.inj e26
        replace e27 : f 27 = _ := Option.some.inj e27
        replace e28 : f 28 = _ := Option.some.inj e28
        replace e29 : f 29 = _ := Option.some.inj e29
        replace e30 : f 30 = _ := Option.some.inj e30
        replace e31 : f 31 = _ := Option.some.inj e31
        replace e32 : f 32 = _ := Option.some.inj e32
        replace e33 : f 33 = _ := Option.some.inj e33
        replace e153 : f 153 = _ := Option.some.inj e153
        replace e82 : f 82 = _ := Option.some.inj e82
        rw [e0, e1, e2, e3, e6, e7, e8, e9, e13, e14, e15, e16, e17, e18, e19, e20, e21, e22, e23, e24, e25, e26, e27, e28, e29, e30, e31, e32, e33, e153, e82]
        clear e0 e1 e2 e3 e6 e7 e8 e9 e13 e14 e15 e16 e17 e18 e19 e20 e21 e22 e23 e24 e25 e26 e27 e28 e29 e30 e31 e32 e33 e153 e82
        obtain ⟨b, hbd⟩ : ∃ b, b = decide (0 < x.d) := ⟨_, rfl⟩
        have z1 : decide (0 < x.d) = b := hbd.symm
        have z2 : decide (0 < x.e) = b := by
          rw [hbd]
          have := unhide HR1
          by_cases h9 : 0 < x.d
          · simp [h9, this.1 h9]
          · have : ¬ 0 < x.e := fun h8 => h9 (this.2 h8)
            simp [h9, this]
        have HR3 : Hid (b = true → rdy l (dnP now.dn) k = true) := fun h9 => unhide HR2 (by rw [hbd] at h9; simpa using h9)
        have M0 : (w2.drewN n2).cell? ⟨mb, k * 3, none⟩ = some (.int .i64 x.d) := unhide HM0
        have M1 : (w2.drewN n2).cell? ⟨mb, k * 3 + 1, none⟩ = some (.int .i64 x.e) := unhide HM1
        have L4 : (w2.drewN n2).cell? ⟨lb, k * 5 + 4, none⟩ = some (.int .i64 s.cnt) := unhide T4
        have q5 : ((s.cnt : Int) != (held E k : Int)) = false := by simp [hct]
        have HCq : Hid (∀ q, Calls Try.prog 18 #[.pointer (some ⟨cb, 0, none⟩), .int .i64 k] ((w2.drewN n2).drewN q) fun e w4 => e = .returned (.int .i64 (held E k)) ∧ w4 = (w2.drewN n2).drewN q) := fun q => by
          have := unhide HCn (n2 + q)
          rw [← World.drewN_drewN] at this
          exact this.mono fun e w4 h => ⟨h.1, h.2.symm⟩
        have HNX : Hid (∀ m, (w2.drewN n2).drewN m = w2.drewN (n2 + m)) := fun m => World.drewN_drewN ..
        have HCT := hide hct
        clear hbd hct
        generalize hV : w2.drewN n2 = V at *
        clear hV
        go_wp2
        go_quiet ((go_at_call 18; refine Calls.quiet_of_same (unhide HCq _)))
        have HW4 := hide (unhide HNX nq)
        rw [unhide HW4]
        clear HW4 M0 M1 L4 q5 HCq
        go_wp2
        go_loopw [10] (fun i wr => ∃ (a q : Nat), a ≤ s.par.length ∧ i = .int .i64 a ∧ wr = w2.drewN q) (fun i _ => s.par.length - (intOf i).toNat)
        case atStart => exact ⟨0, n2 + nq, Nat.zero_le _, rfl, rfl⟩
        case round =>
          obtain ⟨a, q, ha, rfl, rfl⟩ := hrel
          have T3q : (w2.drewN q).cell? ⟨lb, k * 5 + 3, none⟩ = some (.slice (some ⟨pb, 0, none⟩) s.par.length pc) := unhide T3
          by_cases hal : a < s.par.length
          · obtain ⟨p, u, hpe, hpj, hpu, _⟩ := unhide HPR s.par[a] (List.getElem_mem _)
            have z4 := unhide TP a hal
            rw [hpe] at z4
            have hop := unhide HPC s.par[a] (List.getElem_mem _) p u hpe hpu
            obtain ⟨o2, _⟩ := (unhide HT2).2 p u hpu
            rw [hop] at o2
            have Z4 : (w2.drewN q).cell? ⟨pb, a, none⟩ = some (.int .i64 p) := z4
            have O2 : (w2.drewN q).cell? ⟨lb, p * 5 + 2, none⟩ = some (.bool false) := o2
            have hpl : p < l.length := by omega
            have m1 : decide ((p : Int) < 0) = false := by simp
            have m2 : decide ((k : Int) ≤ p) = false := by simp; omega
            have m3 : decide (k ≤ p) = false := by simp; omega
            have HNX2 : Hid (∀ m, (w2.drewN q).drewN m = w2.drewN (q + m)) := fun m => World.drewN_drewN ..
            clear z4 o2 hop hpe hpu z1 z2
            generalize w2.drewN q = V1 at *
            go_wp2
            exact ⟨⟨a + 1, q + 0, by omega, by go_num, unhide HNX2 0⟩, by simp [intOf]; omega⟩
          · have C5 := hide (unhide HCk q)
            have HNX2 : Hid (∀ m, (w2.drewN q).drewN m = w2.drewN (q + m)) := fun m => World.drewN_drewN ..
            go_wp2_with fail
            refine (unhide C5).mono ?_
            rintro e w5 ⟨rfl, m, rfl⟩
            rw [unhide HNX2 m]
            have M5 : (w2.drewN (q + m)).cell? ⟨mb, k * 3, none⟩ = some (.int .i64 x.d) := unhide HM0
            have HNX3 : Hid (∀ r, (w2.drewN (q + m)).drewN r = w2.drewN (q + m + r)) := fun r => World.drewN_drewN ..
            clear T3q C5 HNX2
            generalize w2.drewN (q + m) = V2 at *
            cases b with
            | true =>
              have hry := unhide HR3 rfl
              rw [hry]
              clear hry
              go_wp2
              exact ⟨⟨k + 1, q + m + 0, by omega, by go_num, unhide HNX3 0⟩, by simp [intOf]; omega⟩
            | false =>
              generalize rdy l (dnP now.dn) k = r9 at *
              go_wp2
              exact ⟨⟨k + 1, q + m + 0, by omega, by go_num, unhide HNX3 0⟩, by simp [intOf]; omega⟩
    · have HB3 : Hid (Below w.heap.size w (w2.drewN n)) := (unhide HB2).trans ((unhide HDr n).mono (unhide HB2).size)
      have HV3 : Hid ((w2.drewN n).ownsRow w.heap.size 45 3 (.slice (some ⟨mb, 0, none⟩) U.length mcap) U.length (mkRow U)) := ownsRow_of_block (unhide HV2) fun q hq => rfl
      generalize w2.drewN n = V at *
      go_wp2
      refine bodyPost_ret (v := .tuple #[.slice (some ⟨mb, 0, none⟩) l.length mcap, .bool true]) ?_ rfl ⟨_, rfl, ?_, unhide HB3⟩
      · simp [results, Try.results16, go_sem]
      · have := unhide HV3
        rw [hUl] at this ⊢
        exact this

end Go.Proofs.Ytpnkmnmchdabkaa
