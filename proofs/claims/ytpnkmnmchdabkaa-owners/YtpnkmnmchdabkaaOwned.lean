import Derived.Test.YtpnkmnmchdabkaaFrm
namespace Go.Proofs.Ytpnkmnmchdabkaa
open Go.RowKit
attribute [local go_sem ↓] Go.wp_at_zero Go.wp_at_succ
attribute [local irreducible] Go.wpQuiet

set_option maxRecDepth 100000 in
set_option maxHeartbeats 4000000 in
theorem owned_any {t : Bool} {B : Bd} {N : Nat} {w : World} {ρ : Nat → Nat} {cb gb : Nat} {C : Cfg} {now : Rest} {l : List Sh} {E : List En} (h : Crew t B N w ρ cb gb C now l E l.length) :
    Calls Try.prog 14 #[.pointer (some ⟨cb, 0, none⟩)] w fun e w' => e = .returned (.bool true) ∧ Below w.heap.size w w' := by
  obtain ⟨i0, hi0, hz0, hz1, hz2⟩ := info_parts infoHold
  have h16 := h.inv.len
  have hpos := h.inv.pos
  obtain ⟨P, hn, hn4, hO, hR⟩ := crew_reads h
  have HM := hide (marks_any h)
  have HK : Hid (∀ i, i < now.n → ∀ (j : Nat) (y : Hd), (heldOf P i 16)[j]? = some y → ∃ (k : Nat) (x : Le), k < l.length ∧ y.sh = k ∧ now.ls[k]? = some x ∧ 1 ≤ y.ep ∧ y.ep ≤ x.e ∧ (y.ep = x.e → x.o = i) ∧ epP now.dn k ≤ x.e ∧ 0 ≤ y.at_ ∧ y.at_ ≤ dnP now.dn k ∧ 0 ≤ y.bf ∧ y.bf ≤ C.b ∧ y.at_ + y.bf ≤ held E k) := fun i hi j y hy => by
    obtain ⟨k, x, h1, h2, h3, h4, h5, h6, h7, h8, h9, h10, h11, h12⟩ := hO.hold hi (List.mem_of_getElem? hy)
    refine ⟨k, x, h1, h2, h3, h4, h5, h6, h7, h8, h9, h10, h11, ?_⟩
    have b := h.cnt k _ (List.getElem?_eq_getElem h1)
    have c := cn_is (List.getElem?_eq_getElem h1)
    omega
  have HRise : Hid (∀ i, i < now.n → ∀ (j : Nat) (x y : Hd), (heldOf P i 16)[j]? = some x → (heldOf P i 16)[j + 1]? = some y → x.sh < y.sh) := fun i hi j x y hx hy => rise_at (hO.rise hi) (by omega) hx hy
  have HAp : Hid (∀ i, i < now.n → ∀ (j : Nat) (y : Hd), (heldOf P i 16)[j]? = some y → ∀ (q : Nat) (x : Hd), (allUp P i ++ (heldOf P i 16).take j)[q]? = some x → x.sh = y.sh → x.ep ≠ y.ep) := fun i hi j y hy q x hx he => hO.apart hi hy (List.mem_of_getElem? hx) he
  have HLen : Hid (∀ i, i ≤ now.n → (allUp P i).length ≤ 64) := fun i hi => by have := allUp_len P i; omega
  have HL16 : Hid (∀ i, (heldOf P i 16).length ≤ 16) := fun i => heldOf_le P i 16
  have HCb : 0 ≤ C.b := h.wok.2.2.2.1
  obtain ⟨_, _, _, _, _, _, _, hcbw, _⟩ := crew_cells h.ent2
  have HE5 : Hid (∀ k, held E k ≤ 512) := fun k => Nat.le_trans (held_le E k) h.short
  have HRd := hide hR
  have hUl := mkUp_len l now.dn l.length
  have HUg := hide (fun k hk => mkUp_get l now.dn l.length k hk)
  generalize mkUp l now.dn l.length = U at *
  clear h hO hR
  go_enter Try.func14, Try.ntmps14
  go_wp2_with fail
  refine (unhide HM).mono ?_
  rintro e w1 ⟨v, rfl, hv, hb1⟩
  obtain ⟨mb, mcap, rfl, hMk⟩ := mks_of hv (by omega)
  have HR1 : Hid (∀ W, Below w1.heap.size w1 W → Below w.heap.size w W ∧ Mks W mb U) := fun W hW => ⟨hb1.trans (hW.mono hb1.size), hMk.below hW⟩
  clear hv hb1 hMk HM
  go_wp2
  go_loopw [5, 6] (fun p q wr => ∃ (i cp : Nat) (a : Option Addr), i ≤ now.n ∧ q = .int .i64 i ∧ p = .slice a (allUp P i).length cp ∧ wr.ownsRow w1.heap.size 75 4 (.slice a (allUp P i).length cp) (allUp P i).length (rowHd (allUp P i)) ∧ Below w1.heap.size w1 wr) (fun _ q _ => now.n - (intOf q).toNat)
  case atStart => exact ⟨0, 0, none, Nat.zero_le _, rfl, rfl, World.ownsRow_nil _ _ _ _, Below.refl _ w1⟩
  case round =>
    obtain ⟨i, cp, a, hi, rfl, rfl, hown, hB⟩ := hrel
    obtain ⟨⟨c0, c2, c6, c8⟩, _, hHo, _⟩ := unhide HRd wr (unhide HR1 wr hB).1
    by_cases hlt : i < now.n
    · have hK := hide (unhide HK i hlt)
      have hRi := hide (unhide HRise i hlt)
      have hAp := hide (unhide HAp i hlt)
      have hLen := unhide HLen i hi
      have hHl := unhide HL16 i
      have hAS : Hid (allUp P (i + 1) = allUp P i ++ heldOf P i 16) := rfl
      have CH := hide (hHo i hlt)
      have HO := hide hown
      have HB := hide hB
      have HGL := hide (fun q hq => hown.lt q hq)
      have hlt' : (i : Int) < C.a := by omega
      generalize allUp P i = F at *
      generalize heldOf P i 16 = hs at *
      clear hown hB hHo c2 c8
      go_wp2_with fail
      refine (unhide CH).mono ?_
      rintro e w2 ⟨v, rfl, hv, hb2⟩
      obtain ⟨ha, hcap, rfl, hHs⟩ := hsAt_of hv a (fun g hg => by subst hg; exact (unhide HGL g.block rfl).2)
      have hO2 : Hid (w2.ownsRow w1.heap.size 75 4 (.slice a F.length cp) F.length (rowHd F)) := ownsRow_of_block (unhide HO) fun q hq => hb2.block q (unhide HGL q hq).2
      have HB2 : Hid (Below w1.heap.size w1 w2) := (unhide HB).trans (hb2.mono (unhide HB).size)
      have HHs := hide hHs
      clear hv hb2 HO HB HGL hHs CH c0 c6
      go_wp2
      go_loopw [5, 9] (fun p q wr => ∃ (j cp : Nat) (a : Option Addr), j ≤ hs.length ∧ q = .int .i64 j ∧ p = .slice a (F ++ hs.take j).length cp ∧ wr.ownsRow w1.heap.size 75 4 (.slice a (F ++ hs.take j).length cp) (F ++ hs.take j).length (rowHd (F ++ hs.take j)) ∧ Below w1.heap.size w1 wr ∧ HsAt wr ha hs a) (fun _ q _ => hs.length - (intOf q).toNat)
      case atStart => exact ⟨0, cp, a, Nat.zero_le _, rfl, by simp, by simpa using unhide hO2, unhide HB2, unhide HHs⟩
      case round =>
        obtain ⟨j, cp, a, hj, rfl, rfl, hown, hB, hHs⟩ := hrel
        by_cases hjl : j < hs.length
        · obtain ⟨hb, rfl, hbl, hba, hcell⟩ := hHs (by omega)
          obtain ⟨y, hy⟩ : ∃ y, hs[j]? = some y := ⟨hs[j], List.getElem?_eq_getElem hjl⟩
          obtain ⟨y0, y1, y2, y3⟩ := hcell j y hy
          obtain ⟨k, x, k1, k2, k3, k4, k5, k6, k7, k8, k9, k10, k11, k12⟩ := unhide hK j y hy
          obtain ⟨⟨_, c2, c6, c8⟩, _, _, _⟩ := unhide HRd wr (unhide HR1 wr hB).1
          obtain ⟨ysh, ep, at_, bf⟩ := y
          simp only at y0 y1 y2 y3 k2 k4 k5 k6 k8 k9 k10 k11 k12
          subst k2
          have K3 := hide k3
          have K6 := hide k6
          clear k3 k6
          have HO := hide hown
          have HB := hide hB
          have HHs := hide hHs
          have HGL := hide (fun q hq => hown.lt q hq)
          have hTs : Hid (hs.take (j + 1) = hs.take j ++ [⟨k, ep, at_, bf⟩]) := by
            unfold Hid
            obtain ⟨q1, q2⟩ := List.getElem?_eq_some_iff.1 hy
            rw [List.take_succ_eq_append_getElem hjl, q2]
          have hFl : (F ++ hs.take j).length ≤ 80 := by rw [List.length_append, List.length_take]; omega
          have hAx := hide (unhide hAp j _ hy)
          have hPrev : Hid (∀ j', j = j' + 1 → ∃ z, hs[j']? = some z ∧ z.sh < k) := fun j' e => by
            subst e
            obtain ⟨z, hz⟩ : ∃ z, hs[j']? = some z := ⟨hs[j']'(by omega), List.getElem?_eq_getElem _⟩
            exact ⟨z, hz, unhide hRi j' z _ hz hy⟩
          have HCe := hide hcell
          have hFS : Hid (F ++ hs.take (j + 1) = (F ++ hs.take j) ++ [⟨k, ep, at_, bf⟩]) := by
            unfold Hid
            rw [unhide hTs, List.append_assoc]
          generalize F ++ hs.take j = G at *
          have hws : w1.heap.size ≤ wr.heap.size := hB.size
          have B1 : Hid (Below w1.heap.size w1 (wr.alloc (.cells #[.int .i64 k, .int .i64 ep, .int .i64 at_, .int .i64 bf] 75))) := hB.alloc hws _
          have O1 : Hid ((wr.alloc (.cells #[.int .i64 k, .int .i64 ep, .int .i64 at_, .int .i64 bf] 75)).ownsRow w1.heap.size 75 4 (.slice a G.length cp) G.length (rowHd G)) := hown.alloc _
          have N1 := heap_alloc_new wr (.cells #[.int .i64 k, .int .i64 ep, .int .i64 at_, .int .i64 bf] 75)
          have S1 : Hid ((wr.alloc (.cells #[.int .i64 k, .int .i64 ep, .int .i64 at_, .int .i64 bf] 75)).heap.size = wr.heap.size + 1) := by unfold Hid; simp
          have A1 : Hid (HsAt (wr.alloc (.cells #[.int .i64 k, .int .i64 ep, .int .i64 at_, .int .i64 bf] 75)) (some ⟨hb, 0, none⟩) hs a) := hHs.keep (by rw [unhide S1]; omega) (fun b _ hbl hba => ⟨Below.heap_alloc _ _ _ hbl, hba⟩)
          have hnh : hb < wr.heap.size := hbl
          clear hown hB hHs hcell hy c2 c6 c8
          go_wp2
          generalize wr.alloc (.cells #[.int .i64 k, .int .i64 ep, .int .i64 at_, .int .i64 bf] 75) = V at *
          generalize wr.heap.size = nb at *
          have n0 := cell_of N1 0
          have n1 := cell_of N1 1
          have n2 := cell_of N1 2
          have n3 := cell_of N1 3
          simp at n0 n1 n2 n3
          obtain ⟨hb2, he2, _, _, hcV⟩ := unhide A1 (by omega)
          simp only [Option.some.injEq, Addr.mk.injEq, and_true] at he2
          subst he2
          have HCV := hide hcV
          clear hcV
          obtain ⟨⟨_, c2, c6, c8⟩, _, _, _⟩ := unhide HRd V (unhide HR1 V (unhide B1)).1
          have q1 : decide ((k : Int) < 0) = false := by simp
          have q2 : decide ((l.length : Int) ≤ k) = false := by simp; omega
          refine reg_split (fun a' w' => ∃ nq, w' = V.drewN nq ∧ a'.tmps.size = 195 ∧ a'.defers = [] ∧ a'.tmps[0]? = some (.pointer (some ⟨cb, 0, none⟩)) ∧ a'.tmps[1]? = some (undef) ∧ a'.tmps[3]? = some (.slice (some ⟨mb, 0, none⟩) l.length mcap) ∧ a'.tmps[4]? = some (.bool true) ∧ a'.tmps[5]? = some (.slice a G.length cp) ∧ a'.tmps[6]? = some (.int .i64 i) ∧ a'.tmps[7]? = some (.slice (some ⟨hb, 0, none⟩) hs.length hcap) ∧ a'.tmps[8]? = some (.int .i64 0) ∧ a'.tmps[9]? = some (.int .i64 j) ∧ a'.tmps[10]? = some (.pointer (some ⟨nb, 0, none⟩)) ∧ a'.tmps[14]? = some (.tuple #[.slice (some ⟨mb, 0, none⟩) l.length mcap, .bool true]) ∧ a'.tmps[15]? = some (.pointer (some ⟨cb, 0, none⟩)) ∧ a'.tmps[16]? = some (.tuple #[.slice (some ⟨mb, 0, none⟩) l.length mcap, .bool true]) ∧ a'.tmps[17]? = some (.slice (some ⟨mb, 0, none⟩) l.length mcap) ∧ a'.tmps[18]? = some (.bool true) ∧ a'.tmps[19]? = some (.bool true) ∧ a'.tmps[20]? = some (.bool false) ∧ a'.tmps[21]? = some (.int .i64 i) ∧ a'.tmps[22]? = some (.pointer (some ⟨cb, 0, none⟩)) ∧ a'.tmps[23]? = some (.pointer (some ⟨cb, 0, none⟩)) ∧ a'.tmps[24]? = some (.pointer (some ⟨cb, 0, none⟩)) ∧ a'.tmps[25]? = some (.pointer (some ⟨cb, 0, none⟩)) ∧ a'.tmps[26]? = some (.int .i64 C.a) ∧ a'.tmps[27]? = some (.bool true) ∧ a'.tmps[28]? = some (u28) ∧ a'.tmps[29]? = some (u29) ∧ a'.tmps[30]? = some (.tuple #[.slice (some ⟨hb, 0, none⟩) hs.length hcap, .int .i64 0]) ∧ a'.tmps[31]? = some (.pointer (some ⟨cb, 0, none⟩)) ∧ a'.tmps[32]? = some (.pointer (some ⟨cb, 0, none⟩)) ∧ a'.tmps[33]? = some (.pointer (some ⟨cb, 6, none⟩)) ∧ a'.tmps[34]? = some (.pointer (some ⟨gb, 0, none⟩)) ∧ a'.tmps[35]? = some (.int .i64 i) ∧ a'.tmps[36]? = some (.tuple #[.slice (some ⟨hb, 0, none⟩) hs.length hcap, .int .i64 0]) ∧ a'.tmps[37]? = some (.slice (some ⟨hb, 0, none⟩) hs.length hcap) ∧ a'.tmps[38]? = some (.int .i64 0) ∧ a'.tmps[39]? = some (.int .i64 0) ∧ a'.tmps[40]? = some (.bool false) ∧ a'.tmps[45]? = some (u45) ∧ a'.tmps[46]? = some (u46) ∧ a'.tmps[77]? = some (.bool false)) ?reg ?tail
          case reg =>
            obtain ⟨J, hJ⟩ : ∃ J : Int, J = (j : Int) := ⟨_, rfl⟩
            rcases Nat.eq_zero_or_pos j with hj0 | hj0
            · have q3 : decide (0 < J) = false := by simp; omega
              rw [← hJ]
              clear hj0 hJ HCV
              go_quiet (fail)
              refine ⟨rfl, nq, rfl, rfl, rfl, rfl, rfl, rfl, rfl, rfl, rfl, rfl, rfl, rfl, rfl, rfl, rfl, rfl, rfl, rfl, rfl, rfl, rfl, rfl, rfl, rfl, rfl, rfl, rfl, rfl, rfl, rfl, rfl, rfl, rfl, rfl, rfl, rfl, rfl, rfl, rfl, rfl, rfl, rfl, congrArg some ?_⟩
              first | rfl | (simp; omega)
            · obtain ⟨j', hj'⟩ : ∃ j', j = j' + 1 := ⟨j - 1, by omega⟩
              obtain ⟨z, hz, hzk⟩ := unhide hPrev j' hj'
              obtain ⟨z0, _⟩ := unhide HCV j' z hz
              have q4 : decide ((k : Int) ≤ z.sh) = false := by simp; omega
              subst hj'
              have hj9 : j' < hs.length := by omega
              have hw9 : IntKind.i64.wrap (j' : Int) = (j' : Int) := by rw [IntKind.wrap_i64]; omega
              clear hz HCV hJ
              go_quiet (fail)
              refine ⟨rfl, nq, rfl, rfl, rfl, rfl, rfl, rfl, rfl, rfl, rfl, rfl, rfl, rfl, rfl, rfl, rfl, rfl, rfl, rfl, rfl, rfl, rfl, rfl, rfl, rfl, rfl, rfl, rfl, rfl, rfl, rfl, rfl, rfl, rfl, rfl, rfl, rfl, rfl, rfl, rfl, rfl, rfl, rfl, congrArg some ?_⟩
              first | rfl | (simp; omega)
          case tail =>
            rintro a' w' ⟨nq, rfl, hz, hd, e0, e1, e3, e4, e5, e6, e7, e8, e9, e10, e14, e15, e16, e17, e18, e19, e20, e21, e22, e23, e24, e25, e26, e27, e28, e29, e30, e31, e32, e33, e34, e35, e36, e37, e38, e39, e40, e45, e46, e77⟩
            obtain ⟨f, rfl⟩ := frame195 a' hz hd
            clear hz hd
            replace e0 : f 0 = _ := Option.some.inj e0
            replace e1 : f 1 = _ := Option.some.inj e1
            replace e3 : f 3 = _ := Option.some.inj e3
            replace e4 : f 4 = _ := Option.some.inj e4
            replace e5 : f 5 = _ := Option.some.inj e5
            replace e6 : f 6 = _ := Option.some.inj e6
            replace e7 : f 7 = _ := Option.some.inj e7
            replace e8 : f 8 = _ := Option.some.inj e8
            replace e9 : f 9 = _ := Option.some.inj e9
            replace e10 : f 10 = _ := Option.some.inj e10
            replace e14 : f 14 = _ := Option.some.inj e14
            replace e15 : f 15 = _ := Option.some.inj e15
            replace e16 : f 16 = _ := Option.some.inj e16
            replace e17 : f 17 = _ := Option.some.inj e17
            replace e18 : f 18 = _ := Option.some.inj e18
            replace e19 : f 19 = _ := Option.some.inj e19
            replace e20 : f 20 = _ := Option.some.inj e20
            replace e21 : f 21 = _ := Option.some.inj e21
            replace e22 : f 22 = _ := Option.some.inj e22
            replace e23 : f 23 = _ := Option.some.inj e23
            replace e24 : f 24 = _ := Option.some.inj e24
            replace e25 : f 25 = _ := Option.some.inj e25
            replace e26 : f 26 = _ := Option.some.inj e26
            replace e27 : f 27 = _ := Option.some.inj e27
            replace e28 : f 28 = _ := Option.some.inj e28
            replace e29 : f 29 = _ := Option.some.inj e29
            replace e30 : f 30 = _ := Option.some.inj e30
            replace e31 : f 31 = _ := Option.some.inj e31
            replace e32 : f 32 = _ := Option.some.inj e32
            replace e33 : f 33 = _ := Option.some.inj e33
            replace e34 : f 34 = _ := Option.some.inj e34
            replace e35 : f 35 = _ := Option.some.inj e35
            replace e36 : f 36 = _ := Option.some.inj e36
            replace e37 : f 37 = _ := Option.some.inj e37
            replace e38 : f 38 = _ := Option.some.inj e38
            replace e39 : f 39 = _ := Option.some.inj e39
            replace e40 : f 40 = _ := Option.some.inj e40
            replace e45 : f 45 = _ := Option.some.inj e45
            replace e46 : f 46 = _ := Option.some.inj e46
            replace e77 : f 77 = _ := Option.some.inj e77
            rw [e0, e1, e3, e4, e5, e6, e7, e8, e9, e10, e14, e15, e16, e17, e18, e19, e20, e21, e22, e23, e24, e25, e26, e27, e28, e29, e30, e31, e32, e33, e34, e35, e36, e37, e38, e39, e40, e45, e46, e77]
            clear e0 e1 e3 e4 e5 e6 e7 e8 e9 e10 e14 e15 e16 e17 e18 e19 e20 e21 e22 e23 e24 e25 e26 e27 e28 e29 e30 e31 e32 e33 e34 e35 e36 e37 e38 e39 e40 e45 e46 e77
            have B2 : Hid (Below w1.heap.size w1 (V.drewN nq)) := below_drewN (unhide B1) nq
            have O2 : Hid ((V.drewN nq).ownsRow w1.heap.size 75 4 (.slice a G.length cp) G.length (rowHd G)) := ownsRow_of_block (unhide O1) fun q hq => rfl
            have A2 : Hid (HsAt (V.drewN nq) (some ⟨hb, 0, none⟩) hs a) := unhide A1
            have S2 : (V.drewN nq).heap.size = nb + 1 := unhide S1
            have N2 : (V.drewN nq).heap[nb]? = some (.cells #[.int .i64 k, .int .i64 ep, .int .i64 at_, .int .i64 bf] 75 (0, 0)) := N1
            clear B1 O1 A1 S1 N1 n0 n1 n2 n3 c2 c6 c8 HCV q1 q2 y0 y1 y2 y3 HB HO HHs HCe
            generalize V.drewN nq = V at *
            have n0 := cell_of N2 0
            simp at n0
            obtain ⟨⟨_, _, c6, _⟩, _⟩ := unhide HRd V (unhide HR1 V (unhide B2)).1
            have CL : Hid (∀ W, Below w1.heap.size w1 W → Calls Try.prog 36 #[.pointer (some ⟨gb, 0, none⟩), .int .i64 k] W fun e w' => e = .returned (.tuple #[.agg #[.int .i64 x.o, .int .i64 x.c, .int .i64 x.e], .int .i64 0]) ∧ Below W.heap.size W w') := fun W hW => (unhide HRd W (unhide HR1 W hW).1).2.2.2 k x k1 (unhide K3)
            have HBV : Hid (∀ q, Below w1.heap.size w1 (V.drewN q)) := fun q => below_drewN (unhide B2) q
            have HBA : Hid (∀ q o, Below w1.heap.size w1 ((V.drewN q).alloc o)) := fun q o => (below_drewN (unhide B2) q).alloc (by show w1.heap.size ≤ V.heap.size; omega) o
            have hcbl : cb < V.heap.size := by have := (unhide HR1 V (unhide B2)).1.size; omega
            have hnbl : nb < V.heap.size := by omega
            have hne1 : ¬ cb = V.heap.size := by omega
            have hne2 : ¬ nb = V.heap.size := by omega
            have hne3 : ¬ V.heap.size = cb := by omega
            have hne4 : ¬ V.heap.size = nb := by omega
            have HS2 := hide S2
            clear S2
            have HQ : Hid (∀ w', Below V.heap.size V w' → Below w1.heap.size w1 w' ∧ w'.ownsRow w1.heap.size 75 4 (.slice a G.length cp) G.length (rowHd G) ∧ HsAt w' (some ⟨hb, 0, none⟩) hs a ∧ w'.heap[nb]? = some (.cells #[.int .i64 k, .int .i64 ep, .int .i64 at_, .int .i64 bf] 75 (0, 0))) := fun w' hw' =>
              ⟨(unhide B2).trans (hw'.mono (unhide B2).size), ownsRow_of_block (unhide O2) fun q hq => hw'.block q ((unhide O2).lt q hq).2, (unhide A2).keep hw'.size (fun b _ hb hba => ⟨hw'.block b hb, hba⟩), (hw'.block nb hnbl).trans N2⟩
            go_wp2
            refine reg_split (fun a' w' => ∃ xb, Below w1.heap.size w1 w' ∧ w'.ownsRow w1.heap.size 75 4 (.slice a G.length cp) G.length (rowHd G) ∧ HsAt w' (some ⟨hb, 0, none⟩) hs a ∧ w'.heap[nb]? = some (.cells #[.int .i64 k, .int .i64 ep, .int .i64 at_, .int .i64 bf] 75 (0, 0)) ∧ w'.cell? ⟨xb, 0, none⟩ = some (.int .i64 x.o) ∧ w'.cell? ⟨xb, 2, none⟩ = some (.int .i64 x.e) ∧ a'.tmps.size = 195 ∧ a'.defers = [] ∧ a'.tmps[0]? = some (.pointer (some ⟨cb, 0, none⟩)) ∧ a'.tmps[1]? = some (undef) ∧ a'.tmps[3]? = some (.slice (some ⟨mb, 0, none⟩) l.length mcap) ∧ a'.tmps[4]? = some (.bool true) ∧ a'.tmps[5]? = some (.slice a G.length cp) ∧ a'.tmps[6]? = some (.int .i64 i) ∧ a'.tmps[7]? = some (.slice (some ⟨hb, 0, none⟩) hs.length hcap) ∧ a'.tmps[8]? = some (.int .i64 0) ∧ a'.tmps[9]? = some (.int .i64 j) ∧ a'.tmps[10]? = some (.pointer (some ⟨nb, 0, none⟩)) ∧ a'.tmps[11]? = some (.pointer (some ⟨xb, 0, none⟩)) ∧ a'.tmps[12]? = some (.int .i64 0) ∧ a'.tmps[14]? = some (.tuple #[.slice (some ⟨mb, 0, none⟩) l.length mcap, .bool true]) ∧ a'.tmps[15]? = some (.pointer (some ⟨cb, 0, none⟩)) ∧ a'.tmps[16]? = some (.tuple #[.slice (some ⟨mb, 0, none⟩) l.length mcap, .bool true]) ∧ a'.tmps[17]? = some (.slice (some ⟨mb, 0, none⟩) l.length mcap) ∧ a'.tmps[18]? = some (.bool true) ∧ a'.tmps[19]? = some (.bool true) ∧ a'.tmps[20]? = some (.bool false) ∧ a'.tmps[21]? = some (.int .i64 i) ∧ a'.tmps[22]? = some (.pointer (some ⟨cb, 0, none⟩)) ∧ a'.tmps[23]? = some (.pointer (some ⟨cb, 0, none⟩)) ∧ a'.tmps[24]? = some (.pointer (some ⟨cb, 0, none⟩)) ∧ a'.tmps[25]? = some (.pointer (some ⟨cb, 0, none⟩)) ∧ a'.tmps[26]? = some (.int .i64 C.a) ∧ a'.tmps[27]? = some (.bool true) ∧ a'.tmps[28]? = some (u28) ∧ a'.tmps[29]? = some (u29) ∧ a'.tmps[30]? = some (.tuple #[.slice (some ⟨hb, 0, none⟩) hs.length hcap, .int .i64 0]) ∧ a'.tmps[31]? = some (.pointer (some ⟨cb, 0, none⟩)) ∧ a'.tmps[32]? = some (.pointer (some ⟨cb, 0, none⟩)) ∧ a'.tmps[33]? = some (.pointer (some ⟨cb, 6, none⟩)) ∧ a'.tmps[34]? = some (.pointer (some ⟨gb, 0, none⟩)) ∧ a'.tmps[35]? = some (.int .i64 i) ∧ a'.tmps[36]? = some (.tuple #[.slice (some ⟨hb, 0, none⟩) hs.length hcap, .int .i64 0]) ∧ a'.tmps[37]? = some (.slice (some ⟨hb, 0, none⟩) hs.length hcap) ∧ a'.tmps[38]? = some (.int .i64 0) ∧ a'.tmps[39]? = some (.int .i64 0) ∧ a'.tmps[40]? = some (.bool false) ∧ a'.tmps[45]? = some (u45) ∧ a'.tmps[46]? = some (u46)) ?reg2 ?tail2
            case reg2 =>
              go_region_held3 (fun w' => w'.cell? ⟨cb, 6, none⟩ = some (.pointer (some ⟨gb, 0, none⟩)) ∧ w'.cell? ⟨nb, 0, none⟩ = some (.int .i64 k))
                (first | go_keep | (go_split_ands; refine ⟨?_, ?_⟩ <;> (refine (hb5.cell ?_).trans ?_ <;> first | assumption | (simp; omega) | (show _ < V.heap.size; omega))) | (go_split_ands; refine ⟨?_, ?_⟩ <;> (refine ((hb5.alloc hb5.size _).cell ?_).trans ?_ <;> first | assumption | (simp; omega) | (show _ < V.heap.size; omega))) | (dsimp only; refine ⟨?_, ?_⟩ <;> go_keep))
                ((go_at_call 36; refine (unhide CL _ (by first | exact unhide HBV _ | exact unhide HBA _ _)).mono ?_; rintro e w5 ⟨rfl, hb5⟩; try (have hx5 := new_block hb5; have x50 := cell_of hx5 0; have x51 := cell_of hx5 1; have x52 := cell_of hx5 2; have f50 := frozen_of hx5 0; have f51 := frozen_of hx5 1; have f52 := frozen_of hx5 2; simp at x50 x51 x52)))
              · have hV5 : Below V.heap.size V w5 := ⟨hb5.os, hb5.tape, hb5.output, hb5.size, hb5.block⟩
                obtain ⟨g1, g2, g3, g4⟩ := unhide HQ _ (hV5.alloc hV5.size (.cells #[.int .i64 x.o, .int .i64 x.c, .int .i64 x.e] 70))
                have hx6 := heap_alloc_new w5 (.cells #[.int .i64 x.o, .int .i64 x.c, .int .i64 x.e] 70)
                exact ⟨rfl, w5.heap.size, g1, g2, g3, g4, cell_of hx6 0, cell_of hx6 2, rfl, rfl, rfl, rfl, rfl, rfl, rfl, rfl, rfl, rfl, rfl, rfl, rfl, rfl, rfl, rfl, rfl, rfl, rfl, rfl, rfl, rfl, rfl, rfl, rfl, rfl, rfl, rfl, rfl, rfl, rfl, rfl, rfl, rfl, rfl, rfl, rfl, rfl, rfl, rfl, rfl, rfl, rfl⟩
              · have hV5 : Below V.heap.size V w5 := ⟨hb5.os, hb5.tape, hb5.output, Nat.le_trans (Nat.le_of_lt (by show V.heap.size < (V.heap.push _).size; simp)) hb5.size, fun q hq => (hb5.block q (Nat.lt_trans hq (by show V.heap.size < (V.heap.push _).size; simp))).trans (Below.heap_alloc (V.drewN _) _ q hq)⟩
                obtain ⟨hx6, hV6, _, _⟩ := set3_new (o1 := .int .i64 x.o) (o2 := .int .i64 x.c) (o3 := .int .i64 x.e) hV5 (Nat.le_refl _) hx5
                obtain ⟨g1, g2, g3, g4⟩ := unhide HQ _ hV6
                exact ⟨rfl, V.heap.size, g1, g2, g3, g4, cell_of hx6 0, cell_of hx6 2, rfl, rfl, rfl, rfl, rfl, rfl, rfl, rfl, rfl, rfl, rfl, rfl, rfl, rfl, rfl, rfl, rfl, rfl, rfl, rfl, rfl, rfl, rfl, rfl, rfl, rfl, rfl, rfl, rfl, rfl, rfl, rfl, rfl, rfl, rfl, rfl, rfl, rfl, rfl, rfl, rfl, rfl, rfl⟩
            case tail2 =>
              clear n0
              rintro a' w' ⟨xb, hBw, hOw, hAw, hNw, x0, x2, hz, hd, e0, e1, e3, e4, e5, e6, e7, e8, e9, e10, e11, e12, e14, e15, e16, e17, e18, e19, e20, e21, e22, e23, e24, e25, e26, e27, e28, e29, e30, e31, e32, e33, e34, e35, e36, e37, e38, e39, e40, e45, e46⟩
              obtain ⟨f, rfl⟩ := frame195 a' hz hd
              clear hz hd
              replace e0 : f 0 = _ := Option.some.inj e0
              replace e1 : f 1 = _ := Option.some.inj e1
              replace e3 : f 3 = _ := Option.some.inj e3
              replace e4 : f 4 = _ := Option.some.inj e4
              replace e5 : f 5 = _ := Option.some.inj e5
              replace e6 : f 6 = _ := Option.some.inj e6
              replace e7 : f 7 = _ := Option.some.inj e7
              replace e8 : f 8 = _ := Option.some.inj e8
              replace e9 : f 9 = _ := Option.some.inj e9
              replace e10 : f 10 = _ := Option.some.inj e10
              replace e11 : f 11 = _ := Option.some.inj e11
              replace e12 : f 12 = _ := Option.some.inj e12
              replace e14 : f 14 = _ := Option.some.inj e14
              replace e15 : f 15 = _ := Option.some.inj e15
              replace e16 : f 16 = _ := Option.some.inj e16
              replace e17 : f 17 = _ := Option.some.inj e17
              replace e18 : f 18 = _ := Option.some.inj e18
              replace e19 : f 19 = _ := Option.some.inj e19
              replace e20 : f 20 = _ := Option.some.inj e20
              replace e21 : f 21 = _ := Option.some.inj e21
              replace e22 : f 22 = _ := Option.some.inj e22
              replace e23 : f 23 = _ := Option.some.inj e23
              replace e24 : f 24 = _ := Option.some.inj e24
              replace e25 : f 25 = _ := Option.some.inj e25
              replace e26 : f 26 = _ := Option.some.inj e26
              replace e27 : f 27 = _ := Option.some.inj e27
              replace e28 : f 28 = _ := Option.some.inj e28
              replace e29 : f 29 = _ := Option.some.inj e29
              replace e30 : f 30 = _ := Option.some.inj e30
              replace e31 : f 31 = _ := Option.some.inj e31
              replace e32 : f 32 = _ := Option.some.inj e32
              replace e33 : f 33 = _ := Option.some.inj e33
              replace e34 : f 34 = _ := Option.some.inj e34
              replace e35 : f 35 = _ := Option.some.inj e35
              replace e36 : f 36 = _ := Option.some.inj e36
              replace e37 : f 37 = _ := Option.some.inj e37
              replace e38 : f 38 = _ := Option.some.inj e38
              replace e39 : f 39 = _ := Option.some.inj e39
              replace e40 : f 40 = _ := Option.some.inj e40
              replace e45 : f 45 = _ := Option.some.inj e45
              replace e46 : f 46 = _ := Option.some.inj e46
              rw [e0, e1, e3, e4, e5, e6, e7, e8, e9, e10, e11, e12, e14, e15, e16, e17, e18, e19, e20, e21, e22, e23, e24, e25, e26, e27, e28, e29, e30, e31, e32, e33, e34, e35, e36, e37, e38, e39, e40, e45, e46]
              clear e0 e1 e3 e4 e5 e6 e7 e8 e9 e10 e11 e12 e14 e15 e16 e17 e18 e19 e20 e21 e22 e23 e24 e25 e26 e27 e28 e29 e30 e31 e32 e33 e34 e35 e36 e37 e38 e39 e40 e45 e46
              have n0 := cell_of hNw 0
              have n1 := cell_of hNw 1
              have n2 := cell_of hNw 2
              have n3 := cell_of hNw 3
              simp at n0 n1 n2 n3
              have BW := hide hBw
              have OW := hide hOw
              have AW := hide hAw
              have NW := hide hNw
              have hM := (unhide HR1 w' hBw).2
              obtain ⟨u, hu⟩ : ∃ u, U[k]? = some u := ⟨U[k]'(by omega), List.getElem?_eq_getElem _⟩
              have hue : u.e = epP now.dn k ∧ u.d = dnP now.dn k := by
                have := unhide HUg k k1
                rw [hu] at this
                injection this with this
                rw [this]; exact ⟨rfl, rfl⟩
              obtain ⟨m0, m1, _⟩ := hM.2 k u hu
              obtain ⟨⟨_, c2, _, _⟩, hCn, _, _⟩ := unhide HRd w' (unhide HR1 w' hBw).1
              have HCn := hide (hCn k)
              obtain ⟨hue1, hue2⟩ := hue
              rw [hue1] at m1
              rw [hue2] at m0
              clear hBw hOw hAw hNw hM hu hue1 hue2 hCn B2 O2 A2 HQ CL HBV HBA N2 c6 hcbl hnbl hne1 hne2 hne3 hne4 HS2
              have t1 : decide (ep < 1) = false := by simp; omega
              have t2 : decide (x.e < ep) = false := by simp; omega
              have t5 : decide (x.e < epP now.dn k) = false := by simp; omega
              go_wp2
              refine reg_split (fun a' w3 => ∃ nq, w3 = w'.drewN nq ∧ a'.tmps.size = 195 ∧ a'.defers = [] ∧ a'.tmps[0]? = some (.pointer (some ⟨cb, 0, none⟩)) ∧ a'.tmps[1]? = some (undef) ∧ a'.tmps[3]? = some (.slice (some ⟨mb, 0, none⟩) l.length mcap) ∧ a'.tmps[4]? = some (.bool true) ∧ a'.tmps[5]? = some (.slice a G.length cp) ∧ a'.tmps[6]? = some (.int .i64 i) ∧ a'.tmps[7]? = some (.slice (some ⟨hb, 0, none⟩) hs.length hcap) ∧ a'.tmps[8]? = some (.int .i64 0) ∧ a'.tmps[9]? = some (.int .i64 j) ∧ a'.tmps[10]? = some (.pointer (some ⟨nb, 0, none⟩)) ∧ a'.tmps[11]? = some (.pointer (some ⟨xb, 0, none⟩)) ∧ a'.tmps[12]? = some (.int .i64 0) ∧ a'.tmps[14]? = some (.tuple #[.slice (some ⟨mb, 0, none⟩) l.length mcap, .bool true]) ∧ a'.tmps[15]? = some (.pointer (some ⟨cb, 0, none⟩)) ∧ a'.tmps[16]? = some (.tuple #[.slice (some ⟨mb, 0, none⟩) l.length mcap, .bool true]) ∧ a'.tmps[17]? = some (.slice (some ⟨mb, 0, none⟩) l.length mcap) ∧ a'.tmps[18]? = some (.bool true) ∧ a'.tmps[19]? = some (.bool true) ∧ a'.tmps[20]? = some (.bool false) ∧ a'.tmps[21]? = some (.int .i64 i) ∧ a'.tmps[22]? = some (.pointer (some ⟨cb, 0, none⟩)) ∧ a'.tmps[23]? = some (.pointer (some ⟨cb, 0, none⟩)) ∧ a'.tmps[24]? = some (.pointer (some ⟨cb, 0, none⟩)) ∧ a'.tmps[25]? = some (.pointer (some ⟨cb, 0, none⟩)) ∧ a'.tmps[26]? = some (.int .i64 C.a) ∧ a'.tmps[27]? = some (.bool true) ∧ a'.tmps[28]? = some (u28) ∧ a'.tmps[29]? = some (u29) ∧ a'.tmps[30]? = some (.tuple #[.slice (some ⟨hb, 0, none⟩) hs.length hcap, .int .i64 0]) ∧ a'.tmps[31]? = some (.pointer (some ⟨cb, 0, none⟩)) ∧ a'.tmps[32]? = some (.pointer (some ⟨cb, 0, none⟩)) ∧ a'.tmps[33]? = some (.pointer (some ⟨cb, 6, none⟩)) ∧ a'.tmps[34]? = some (.pointer (some ⟨gb, 0, none⟩)) ∧ a'.tmps[35]? = some (.int .i64 i) ∧ a'.tmps[36]? = some (.tuple #[.slice (some ⟨hb, 0, none⟩) hs.length hcap, .int .i64 0]) ∧ a'.tmps[37]? = some (.slice (some ⟨hb, 0, none⟩) hs.length hcap) ∧ a'.tmps[38]? = some (.int .i64 0) ∧ a'.tmps[39]? = some (.int .i64 0) ∧ a'.tmps[40]? = some (.bool false) ∧ a'.tmps[45]? = some (u45) ∧ a'.tmps[46]? = some (u46) ∧ a'.tmps[125]? = some (.bool false)) ?reg3 ?tail3
              case reg3 =>
                by_cases heq : ep = x.e
                · have t3 : (ep == x.e) = true := by simp [heq]
                  have t4 : (x.o != (i : Int)) = false := by simp [unhide K6 heq]
                  clear heq
                  go_quiet (fail)
                  refine ⟨rfl, nq, rfl, rfl, rfl, rfl, rfl, rfl, rfl, rfl, rfl, rfl, rfl, rfl, rfl, rfl, rfl, rfl, rfl, rfl, rfl, rfl, rfl, rfl, rfl, rfl, rfl, rfl, rfl, rfl, rfl, rfl, rfl, rfl, rfl, rfl, rfl, rfl, rfl, rfl, rfl, rfl, rfl, rfl, rfl, rfl, congrArg some ?_⟩
                  first | rfl | (simp; omega)
                · have t3 : (ep == x.e) = false := by simpa using heq
                  clear heq
                  go_quiet (fail)
                  refine ⟨rfl, nq, rfl, rfl, rfl, rfl, rfl, rfl, rfl, rfl, rfl, rfl, rfl, rfl, rfl, rfl, rfl, rfl, rfl, rfl, rfl, rfl, rfl, rfl, rfl, rfl, rfl, rfl, rfl, rfl, rfl, rfl, rfl, rfl, rfl, rfl, rfl, rfl, rfl, rfl, rfl, rfl, rfl, rfl, rfl, rfl, congrArg some ?_⟩
                  first | rfl | (simp; omega)
              case tail3 =>
                rintro a' w3 ⟨n3q, rfl, hz, hd, e0, e1, e3, e4, e5, e6, e7, e8, e9, e10, e11, e12, e14, e15, e16, e17, e18, e19, e20, e21, e22, e23, e24, e25, e26, e27, e28, e29, e30, e31, e32, e33, e34, e35, e36, e37, e38, e39, e40, e45, e46, e125⟩
                obtain ⟨f, rfl⟩ := frame195 a' hz hd
                clear hz hd
                replace e0 : f 0 = _ := Option.some.inj e0
                replace e1 : f 1 = _ := Option.some.inj e1
                replace e3 : f 3 = _ := Option.some.inj e3
                replace e4 : f 4 = _ := Option.some.inj e4
                replace e5 : f 5 = _ := Option.some.inj e5
                replace e6 : f 6 = _ := Option.some.inj e6
                replace e7 : f 7 = _ := Option.some.inj e7
                replace e8 : f 8 = _ := Option.some.inj e8
                replace e9 : f 9 = _ := Option.some.inj e9
                replace e10 : f 10 = _ := Option.some.inj e10
                replace e11 : f 11 = _ := Option.some.inj e11
                replace e12 : f 12 = _ := Option.some.inj e12
                replace e14 : f 14 = _ := Option.some.inj e14
                replace e15 : f 15 = _ := Option.some.inj e15
                replace e16 : f 16 = _ := Option.some.inj e16
                replace e17 : f 17 = _ := Option.some.inj e17
                replace e18 : f 18 = _ := Option.some.inj e18
                replace e19 : f 19 = _ := Option.some.inj e19
                replace e20 : f 20 = _ := Option.some.inj e20
                replace e21 : f 21 = _ := Option.some.inj e21
                replace e22 : f 22 = _ := Option.some.inj e22
                replace e23 : f 23 = _ := Option.some.inj e23
                replace e24 : f 24 = _ := Option.some.inj e24
                replace e25 : f 25 = _ := Option.some.inj e25
                replace e26 : f 26 = _ := Option.some.inj e26
                replace e27 : f 27 = _ := Option.some.inj e27
                replace e28 : f 28 = _ := Option.some.inj e28
                replace e29 : f 29 = _ := Option.some.inj e29
                replace e30 : f 30 = _ := Option.some.inj e30
                replace e31 : f 31 = _ := Option.some.inj e31
                replace e32 : f 32 = _ := Option.some.inj e32
                replace e33 : f 33 = _ := Option.some.inj e33
                replace e34 : f 34 = _ := Option.some.inj e34
                replace e35 : f 35 = _ := Option.some.inj e35
                replace e36 : f 36 = _ := Option.some.inj e36
                replace e37 : f 37 = _ := Option.some.inj e37
                replace e38 : f 38 = _ := Option.some.inj e38
                replace e39 : f 39 = _ := Option.some.inj e39
                replace e40 : f 40 = _ := Option.some.inj e40
                replace e45 : f 45 = _ := Option.some.inj e45
                replace e46 : f 46 = _ := Option.some.inj e46
                replace e125 : f 125 = _ := Option.some.inj e125
                rw [e0, e1, e3, e4, e5, e6, e7, e8, e9, e10, e11, e12, e14, e15, e16, e17, e18, e19, e20, e21, e22, e23, e24, e25, e26, e27, e28, e29, e30, e31, e32, e33, e34, e35, e36, e37, e38, e39, e40, e45, e46, e125]
                clear e0 e1 e3 e4 e5 e6 e7 e8 e9 e10 e11 e12 e14 e15 e16 e17 e18 e19 e20 e21 e22 e23 e24 e25 e26 e27 e28 e29 e30 e31 e32 e33 e34 e35 e36 e37 e38 e39 e40 e45 e46 e125
                have HNX3 : Hid (∀ n, (w'.drewN n3q).drewN n = w'.drewN (n3q + n)) := fun n => World.drewN_drewN ..
                have m0' : (w'.drewN n3q).cell? ⟨mb, k * 3, none⟩ = some (.int .i64 (dnP now.dn k)) := m0
                have p0 : (w'.drewN n3q).cell? ⟨nb, 0, none⟩ = some (.int .i64 k) := n0
                have p1 : (w'.drewN n3q).cell? ⟨nb, 1, none⟩ = some (.int .i64 ep) := n1
                have p2 : (w'.drewN n3q).cell? ⟨nb, 2, none⟩ = some (.int .i64 at_) := n2
                have p3 : (w'.drewN n3q).cell? ⟨nb, 3, none⟩ = some (.int .i64 bf) := n3
                have d2 : (w'.drewN n3q).cell? ⟨cb, 2, none⟩ = some (.int .i64 C.b) := c2
                have h512 := unhide HE5 k
                have hwr : IntKind.i64.wrap (at_ + bf) = at_ + bf := by rw [IntKind.wrap_i64]; omega
                have s1 : decide (at_ < 0) = false := by simp; omega
                have s2 : decide (dnP now.dn k < at_) = false := by simp; omega
                have s3 : decide (bf < 0) = false := by simp; omega
                have s4 : decide (C.b < bf) = false := by simp; omega
                have s5 : decide ((held E k : Int) < at_ + bf) = false := by simp; omega
                have HCd : Hid (∀ n, Calls Try.prog 18 #[.pointer (some ⟨cb, 0, none⟩), .int .i64 k] ((w'.drewN n3q).drewN n) fun e w4 => e = .returned (.int .i64 (held E k)) ∧ w4 = (w'.drewN n3q).drewN n) := fun n => by
                  have := (unhide HRd ((w'.drewN n3q).drewN n) (unhide HR1 _ (below_drewN (below_drewN (unhide BW) n3q) n)).1).2.1 k
                  exact this.mono fun e w4 h => ⟨h.1, h.2.symm⟩
                clear m0 m1 n0 n1 n2 n3 c2 x0 x2 t1 t2 t5 HCn
                have B3 : Hid (Below w1.heap.size w1 (w'.drewN n3q)) := below_drewN (unhide BW) n3q
                have O3 : Hid ((w'.drewN n3q).ownsRow w1.heap.size 75 4 (.slice a G.length cp) G.length (rowHd G)) := ownsRow_of_block (unhide OW) fun q hq => rfl
                have A3 : Hid (HsAt (w'.drewN n3q) (some ⟨hb, 0, none⟩) hs a) := unhide AW
                clear BW OW AW NW
                generalize w'.drewN n3q = V3 at *
                go_wp2
                go_quiet ((go_at_call 18; refine Calls.quiet_of_same (unhide HCd _)))
                go_wp2
                have HAll : Hid (HsAt V3 a G none) := by
                  obtain ⟨ha', cap', e1, h9⟩ := hsAt_of (unhide O3) none (fun g hg => by cases hg)
                  injection e1 with e2
                  rw [e2]
                  exact h9
                have p0' : Hid (∀ n, (V3.drewN n).cell? ⟨nb, 0, none⟩ = some (.int .i64 k) ∧ (V3.drewN n).cell? ⟨nb, 1, none⟩ = some (.int .i64 ep) ∧ (V3.drewN n).cell? ⟨nb, 2, none⟩ = some (.int .i64 at_) ∧ (V3.drewN n).cell? ⟨nb, 3, none⟩ = some (.int .i64 bf)) := fun n => ⟨p0, p1, p2, p3⟩
                clear p0 p1 p2 p3 d2 s1 s2 s3 s4 s5 hwr m0' HCd
                go_loopw [13] (fun q wr => ∃ (b n : Nat), b ≤ G.length ∧ q = .int .i64 b ∧ wr = V3.drewN n) (fun q _ => G.length - (intOf q).toNat)
                case atStart => exact ⟨0, nq, Nat.zero_le _, rfl, rfl⟩
                case round =>
                  obtain ⟨b, n, hbG, rfl, rfl⟩ := hrel
                  obtain ⟨r0, r1, r2, r3⟩ := unhide p0' n
                  by_cases hbl2 : b < G.length
                  · obtain ⟨ab, rfl, _, _, hcG⟩ := unhide HAll (by omega)
                    obtain ⟨y, hy⟩ : ∃ y, G[b]? = some y := ⟨G[b], List.getElem?_eq_getElem hbl2⟩
                    obtain ⟨v0, v1, _, _⟩ := hcG b y hy
                    have V0 : (V3.drewN n).cell? ⟨ab, b * 4, none⟩ = some (.int .i64 y.sh) := v0
                    have V1 : (V3.drewN n).cell? ⟨ab, b * 4 + 1, none⟩ = some (.int .i64 y.ep) := v1
                    have HNX : Hid (∀ m, (V3.drewN n).drewN m = V3.drewN (n + m)) := fun m => World.drewN_drewN ..
                    have hyn := unhide hAx b y hy
                    by_cases hys : y.sh = k
                    · have w1' : (y.sh == (k : Int)) = true := by simp [hys]
                      have w2' : (y.ep == ep) = false := by simpa using hyn hys
                      clear hcG hy v0 v1 hyn hys
                      generalize V3.drewN n = V4 at *
                      go_wp2
                      go_quiet (fail)
                      go_wp2
                      go_roundw
                      case rel => exact ⟨b + 1, n + nq, by omega, by go_num, unhide HNX nq⟩
                      case measure => simp [intOf]; omega
                    · have w1' : (y.sh == (k : Int)) = false := by simpa using hys
                      clear hcG hy v0 v1 hyn hys
                      generalize V3.drewN n = V4 at *
                      go_wp2
                      go_quiet (fail)
                      go_wp2
                      go_roundw
                      case rel => exact ⟨b + 1, n + nq, by omega, by go_num, unhide HNX nq⟩
                      case measure => simp [intOf]; omega
                  · have B5 : Hid (Below w1.heap.size w1 (V3.drewN n)) := below_drewN (unhide B3) n
                    have O5 : Hid ((V3.drewN n).ownsRow w1.heap.size 75 4 (.slice a G.length cp) G.length (rowHd G)) := ownsRow_of_block (unhide O3) fun q hq => rfl
                    have A5 : Hid (HsAt (V3.drewN n) (some ⟨hb, 0, none⟩) hs a) := unhide A3
                    have hG5 := hide (fun q hq => (unhide O5).lt q hq)
                    have hz5 : w1.heap.size ≤ (V3.drewN n).heap.size := (unhide B5).size
                    generalize V3.drewN n = V5 at *
                    go_wp2_with (at_builtin; go_must (refine wpList_append_lies _ rfl _ _ _ rfl w1.heap.size 75 i0 _ 4 32 Try.underlying66 hi0 hz0 hz1 hz2 rfl (by omega) _ G.length (rowHd G) rfl ?own ⟨V5.heap.size, 0, none⟩ 1 1 (hdCells ⟨k, ep, at_, bf⟩) rfl rfl ?news ?one (by omega) ?h63 ?bytes ?base (V5.heap.size + 1) ?hH ?next))
                    case own => exact (unhide O5).alloc _
                    case news => exact World.news_of_block (heap_alloc_new V5 _)
                    case one =>
                      intro u hu
                      simp [hdCells] at hu
                      rcases hu with rfl | rfl | rfl | rfl <;> rfl
                    case h63 => unfold maxLen; omega
                    case bytes => omega
                    case base => simp; omega
                    case hH => simp
                    case next =>
                      intro g2 cap2 w6 hown6 hgrow6 hat hlt6
                      have hB6 : Hid (Below w1.heap.size w1 w6) := ((unhide B5).alloc hz5 _).grown hgrow6 (by simp; omega) (fun q hq => (unhide hG5 q hq).1)
                      have hA6 : Hid (HsAt w6 (some ⟨hb, 0, none⟩) hs (some ⟨g2, 0, none⟩)) := (unhide A5).grow hgrow6 hat
                      have HN := hide hown6
                      clear hown6 hgrow6 hat
                      go_wp2
                      go_roundw
                      case rel =>
                        refine ⟨j + 1, cap2, some ⟨g2, 0, none⟩, by omega, by go_num, ?_, ?_, unhide hB6, unhide hA6⟩
                        · rw [unhide hFS]; simp
                        · rw [unhide hFS, rowHd_append]
                          simpa [rowHd] using unhide HN
                      case measure => simp [intOf]; omega
        · have e : j = hs.length := by omega
          subst e
          have HO := hide hown
          have HB := hide hB
          clear hown hB hHs
          go_wp2
          go_roundw
          case rel => exact ⟨i + 1, cp, a, by omega, by go_num, by rw [unhide hAS]; simp, by rw [unhide hAS]; simpa using unhide HO, unhide HB⟩
          case measure => simp [intOf]; omega
    · have HB := hide (unhide HR1 wr hB).1
      have hge : ¬ (i : Int) < C.a := by omega
      clear hown hB hHo c2 c6 c8
      go_wp2
      go_ret
      exact ⟨rfl, unhide HB⟩

end Go.Proofs.Ytpnkmnmchdabkaa
