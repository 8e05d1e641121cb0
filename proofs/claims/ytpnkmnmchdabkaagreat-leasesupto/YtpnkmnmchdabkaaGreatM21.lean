import Derived.Test.YtpnkmnmchdabkaaGreatM20
import Derived.Test.YtpnkmnmchdabkaaGreatInv
import Derived.Test.YtpnkmnmchdabkaaGreatM13
import Derived.Test.YtpnkmnmchdabkaaGreatM03
namespace Go.Proofs.YtpnkmnmchdabkaaGreat
open Go.RowKit
attribute [local go_sem ↓] Go.wp_at_zero Go.wp_at_succ

theorem infoSS : (Tryz.prog.info? 98).map (fun i => (i.zero, i.size, i.bytes)) = some (some (.slice none 0 0), 1, 24) := by kernel_rfl

set_option maxRecDepth 100000 in
set_option maxHeartbeats 8000000 in
theorem keepShards_any {w : World} {ρ : Nat → Nat} {wb : Nat} {sdv : Value} {last : Int} {sv iv hv m1 m2 m3 : Value} {Ls Li Lh : List Ke} (h : LawAt w ρ wb sdv last sv iv hv m1 m2 m3 Ls Li Lh) (hf : Fits w ρ) (h1 : -8000000000000000000 ≤ last) (h2 : last ≤ 0) (lv : Value) (l : List (Sh × Value)) (ho : OutAt w ρ lv l) (hn : l.length ≤ 16) (hpl : ∀ (i : Nat) (x : Sh × Value), l[i]? = some x → x.1.par.length ≤ 2) (hlen : Li.length ≤ 9999000) (hlenS : Ls.length ≤ 10000000) :
    Calls Tryz.prog 34 #[.pointer (some ⟨wb, 0, none⟩), lv] w (KeepPostS w ρ wb sdv last hv m3 Ls Li Lh lv l) := by
  obtain ⟨n, hnl⟩ : ∃ n, n = l.length := ⟨_, rfl⟩
  obtain ⟨la, lc, rfl⟩ := ownsRow_len ho.row
  obtain ⟨i5, hi5, y50, y51, y52⟩ := info_parts infoSS
  obtain ⟨i3, hi3, y30, y31, y32⟩ := info_parts infoI
  obtain ⟨i8, hi8, y80, y81, y82⟩ := info_parts info82
  have HP0 := hide (PInv.start h hf l)
  rw [← hnl] at hn ho ⊢
  have HO := hide ho
  have HPL := hide hpl
  clear h hf ho hpl
  have HNL := hide hnl
  have hn16 : n ≤ 16 := hn
  clear hn hnl
  go_enter Tryz.func34, Tryz.ntmps34
  go_wp2
  go_loopw [4] (fun i wr => ∃ (j : Nat) (ρ1 : Nat → Nat) (iv1 m11 : Value) (Ln : List Ke), j ≤ n ∧ i = .int .i64 j ∧ PInv w ρ wb sdv last sv hv m2 m3 Ls Li Lh l j ρ1 iv1 m11 Ln wr) (fun i _ => n - (intOf i).toNat)
  case atStart => exact ⟨0, _, _, _, _, Nat.zero_le _, rfl, unhide HP0⟩
  case round =>
    obtain ⟨j, ρ1, iv1, m11, Ln, hj, rfl, hP⟩ := hrel
    by_cases hlt : j < n
    · obtain ⟨x, hx⟩ : ∃ x, l[j]? = some x := ⟨_, List.getElem?_eq_getElem (by have := unhide HNL; omega)⟩
      obtain ⟨pr, pt, vr, vt⟩ := hP.par (unhide HO) x hx
      rw [← unhide HNL] at vr
      obtain ⟨lb, cp, cur, hv1, _, hcb, _, _, hcs, _⟩ := ownsRow_shape vr (by omega)
      injection hv1 with e1 e2 e3
      subst e1 e3
      clear e2
      have c3 : wr.cell? ⟨lb, j * 5 + 3, none⟩ = some x.2 := (World.ownsRow.cellAt vr (j * 5 + 3) (by omega)).trans (by rw [listCells_get l j 3 (by omega) x hx]; rfl)
      have hlenI : (Li ++ Ln).length ≤ 10000000 := by rw [List.length_append, hP.len]; omega
      have HK := hide (keepInts_any hP.law hP.fits (by omega) (by omega) x.2 x.1.par.length _ pr (by have := unhide HPL j x hx; omega) hlenI pt)
      have HPj := hide hP
      have HX := hide hx
      clear hP pr pt vr vt hcb hcs hx
      go_wp2_with (go_at_call 58; refine (unhide HK).mono ?_; rintro e w' hpost; have HQ := hide ((unhide HPj).step (unhide HO) x (unhide HX) hpost); obtain ⟨rfl, -⟩ := hpost)
      go_roundw
      case rel =>
        obtain ⟨ρ2, iv2, m12, L2, hq⟩ := unhide HQ
        exact ⟨j + 1, ρ2, iv2, m12, L2, by omega, by go_num, hq⟩
      case measure => simp [intOf]; omega
    · have ej : j = n := by omega
      subst ej
      obtain ⟨U, hU⟩ : ∃ U, U = wr := ⟨_, rfl⟩
      rw [← hU] at hP ⊢
      clear hU
      have hwl := lt_of_heap hP.law.blk
      have c7 : U.cell? ⟨wb, 7, none⟩ = some (.int .i64 (last - j)) := cell_of hP.law.blk 7
      have f7 := frozen_of hP.law.blk 7
      have HM := hide (mark_any U wb (last - j) c7 f7 (by omega) (by omega))
      obtain ⟨vr, vt⟩ := hP.row (unhide HO)
      rw [← unhide HNL] at vr
      have HL := hide vr
      have HT := hide vt
      have HPI := hide hP
      have hll : Hid (∀ k, (Value.slice la j lc).ownBlock = some k → k < U.heap.size) := fun k hk => (vr.lt k hk).2
      clear vr vt hP HP0
      go_wp2_with (go_at_call 71; refine (unhide HM).mono ?_; rintro e w' ⟨rfl, rfl⟩)
      have hVl : Hid ((U.setCell ⟨wb, 7, none⟩ (.int .i64 (last - j - 1))).ownsRow 0 100 5 (.slice la j lc) j (listCells l)) := by
        refine ownsRow_of_block (unhide HL) fun k hk => Below.heap_setCell _ _ _ _ ?_
        rintro rfl
        have h1 := unhide HT _ hk
        have h2 := (unhide HPI).law.tag
        omega
      have HV := hide ((unhide HPI).law.marked (last - j - 1))
      have HKV : Hid (Keeps (fun k => laws ρ1 k ∨ (Value.slice la j lc).ownBlock = some k) U (U.setCell ⟨wb, 7, none⟩ (.int .i64 (last - j - 1)))) := (Keeps.refl _ U).setCell (Or.inl (Or.inl (by unfold laws; rw [(unhide HPI).law.tag]; omega))) _
      have hVs : (U.setCell ⟨wb, 7, none⟩ (.int .i64 (last - j - 1))).heap.size = U.heap.size := by simp [World.setCell]
      clear HM c7 f7
      generalize U.setCell ⟨wb, 7, none⟩ (.int .i64 (last - j - 1)) = V at *
      generalize hmm : last - (j : Int) - 1 = m at *
      have HmE := hide hmm.symm
      go_loopw [6] (fun i wr => ∃ q : Nat, q ≤ j ∧ i = .int .i64 q ∧ wr.ownsRow 0 100 5 (.slice la j lc) j (repP patS m q ++ (listCells l).drop (q * 5)) ∧ Keeps (fun k => (Value.slice la j lc).ownBlock = some k) V wr) (fun i _ => j - (intOf i).toNat)
      case atStart => exact ⟨0, Nat.zero_le _, rfl, by simpa [repP] using unhide hVl, Keeps.refl _ _⟩
      case round =>
        obtain ⟨q, hq, rfl, hown, hkk⟩ := hrel
        by_cases hlt : q < j
        · obtain ⟨lb, cp, cur, hv1, _, hcb, _, _, hcs, _⟩ := ownsRow_shape hown (by omega)
          injection hv1 with e1 e2 e3
          subst e1
          have fz := fun i => frozen_of hcb i
          have c0 : ∃ u, wr.cell? ⟨lb, q * 5, none⟩ = some u := ⟨_, (cell_of hcb (q * 5)).trans (Array.getElem?_eq_getElem (by omega))⟩
          have c1 : ∃ u, wr.cell? ⟨lb, q * 5 + 1, none⟩ = some u := ⟨_, (cell_of hcb (q * 5 + 1)).trans (Array.getElem?_eq_getElem (by omega))⟩
          have c2 : ∃ u, wr.cell? ⟨lb, q * 5 + 2, none⟩ = some u := ⟨_, (cell_of hcb (q * 5 + 2)).trans (Array.getElem?_eq_getElem (by omega))⟩
          have c3 : ∃ u, wr.cell? ⟨lb, q * 5 + 3, none⟩ = some u := ⟨_, (cell_of hcb (q * 5 + 3)).trans (Array.getElem?_eq_getElem (by omega))⟩
          have c4 : ∃ u, wr.cell? ⟨lb, q * 5 + 4, none⟩ = some u := ⟨_, (cell_of hcb (q * 5 + 4)).trans (Array.getElem?_eq_getElem (by omega))⟩
          obtain ⟨u0, c0⟩ := c0
          obtain ⟨u1, c1⟩ := c1
          obtain ⟨u2, c2⟩ := c2
          obtain ⟨u3, c3⟩ := c3
          obtain ⟨u4, c4⟩ := c4
          have HS := hide (row_put5 hown q (.int .i64 m) (.int .i64 0) (.bool false) (.slice none 0 0) (.int .i64 0))
          have HKK := hide hkk
          have hxl : q * 5 + 5 ≤ (listCells l).length := by rw [listCells_len, ← unhide HNL]; omega
          have HXL := hide hxl
          clear hown hkk hcb hcs hxl
          go_wp2
          go_roundw
          case rel =>
            refine ⟨q + 1, by omega, by go_num, ?_, (((((unhide HKK).setCell (p := ⟨lb, q * 5, none⟩) (Or.inl rfl) _).setCell (p := ⟨lb, q * 5 + 1, none⟩) (Or.inl rfl) _).setCell (p := ⟨lb, q * 5 + 2, none⟩) (Or.inl rfl) _).setCell (p := ⟨lb, q * 5 + 3, none⟩) (Or.inl rfl) _).setCell (p := ⟨lb, q * 5 + 4, none⟩) (Or.inl rfl) _⟩
            rw [← repS_set (unhide HXL)]; exact unhide HS
          case measure => simp [intOf]; omega
        · have HR : Hid (wr.ownsRow 0 100 5 (.slice la j lc) j (repP patS m j)) := by
            have e : q = j := by omega
            subst e
            rw [List.drop_eq_nil_of_le (by rw [listCells_len, ← unhide HNL]; omega), List.append_nil] at hown
            exact hown
          have HKK := hide hkk
          clear hown hkk
          have HI0 := hide (KInvS.start (unhide HV) hVs (unhide HPI).fits (unhide HT) (unhide HKV) (unhide HKK) (unhide HR) (unhide hll))
          clear HV HKV HKK HR hVl HL HT
          generalize j = n at *
          go_wp2
          go_loopw [1, 7] (fun lq i wr => ∃ (j : Nat) (ρ2 : Nat → Nat) (sv1 m21 : Value) (Lt : List Ke) (x : Ke), j ≤ 4 ∧ i = .int .i64 j ∧ lq = .slice x.a x.n x.cap ∧ KInvS U ρ1 wb sdv m iv1 hv m11 m3 Ls (Li ++ Ln) Lh (.slice la n lc) n j ρ2 sv1 m21 Lt x wr) (fun _ i _ => 4 - (intOf i).toNat)
          case atStart => exact ⟨0, _, _, _, _, _, by omega, rfl, rfl, unhide HI0⟩
          case round =>
            obtain ⟨j, ρ2, sv1, m21, Lt, x, hj, rfl, rfl, hK⟩ := hrel
            by_cases hlt4 : j < 4
            · obtain ⟨ia, ic, rfl⟩ := ownsRow_len hK.law.kS.row
              obtain ⟨ma, mc, rfl⟩ := ownsRow_len hK.law.kS.ms
              have hNl : (Ls ++ Lt).length ≤ 10000010 := by rw [List.length_append, hK.len]; omega
              have hxn : x.n ≤ 1010 := by have := hK.xn; omega
              have q2 : wr.cell? ⟨wb, 1, none⟩ = some (.slice ia (Ls ++ Lt).length ic) := cell_of hK.law.blk 1
              have q4 : wr.cell? ⟨wb, 5, none⟩ = some (.slice ma (Ls ++ Lt).length mc) := cell_of hK.law.blk 5
              have p2 := frozen_of hK.law.blk 1
              have p4 := frozen_of hK.law.blk 5
              have hwr := lt_of_heap hK.law.blk
              have n1 : Hid ((Value.slice ia (Ls ++ Lt).length ic).ownBlock ≠ some wb) := fun e => by have := hK.law.tS wb e; have := hK.law.tag; omega
              have n2 : Hid ((Value.slice ma (Ls ++ Lt).length mc).ownBlock ≠ some wb) := fun e => by have := hK.law.t2 wb e; have := hK.law.tag; omega
              have HK := hide hK
              clear hK HI0
              generalize hNN : (Ls ++ Lt).length = N at *
              have HNN := hide hNN
              have HB := hide (unhide HK).law.blk
              clear hNN
              go_wp2_with (at_builtin; go_must (refine wpList_append_stands _ rfl _ _ _ rfl 0 98 i5 _ 1 24 Tryz.underlying31 hi5 y50 y51 y52 rfl (by omega) _ N ((Ls ++ Lt).map entV) rfl ?own ⟨wr.heap.size, 0, none⟩ 1 1 [.slice x.a x.n x.cap] rfl rfl ?news ?one (by omega) ?h63 ?bytes (Nat.zero_le _) ?next))
              case own => have := (unhide HK).law.kS.row.alloc (.cells #[.slice x.a x.n x.cap] 98); rw [unhide HNN] at this; exact this
              case news => exact World.news_of_block (cs := #[.slice x.a x.n x.cap]) (heap_alloc_new wr _)
              case one => simp [Value.oneCell']
              case h63 => unfold maxLen; omega
              case bytes => omega
              case next =>
                intro g1 c1 B1 hown1 hgrow1 hat1 hlt1 hst1
                have F1 := field_append (f := 1) (v := .slice ia N ic) (unhide HB) (unhide n1) hown1 hgrow1 (by simpa using hat1)
                have z2 : B1.cell? ⟨wb, 1, none⟩ = some (.slice ia N ic) := (hgrow1.cell_far _ (by simp; omega) (fun e => unhide n1 e.symm)).trans ((World.cell?_of_block (w := wr) (Below.heap_alloc _ _ _ hwr)).trans q2)
                have z4 : B1.cell? ⟨wb, 5, none⟩ = some (.slice ma N mc) := (hgrow1.cell_far _ (by simp; omega) (fun e => unhide n1 e.symm)).trans ((World.cell?_of_block (w := wr) (Below.heap_alloc _ _ _ hwr)).trans q4)
                have zf2 : B1.frozen? ⟨wb, 1, none⟩ = false := (hgrow1.frozen_far _ (by simp; omega) (fun e => unhide n1 e.symm)).trans ((World.frozen?_of_block (w := wr) (Below.heap_alloc _ _ _ hwr)).trans p2)
                have zf4 : B1.frozen? ⟨wb, 5, none⟩ = false := (hgrow1.frozen_far _ (by simp; omega) (fun e => unhide n1 e.symm)).trans ((World.frozen?_of_block (w := wr) (Below.heap_alloc _ _ _ hwr)).trans p4)
                have HF1 := hide F1
                have zB1 := hgrow1.size
                simp at zB1
                have sC1 : (B1.setCell ⟨wb, 1, none⟩ (.slice (some ⟨g1, 0, none⟩) (N + 1) c1)).heap.size = B1.heap.size := by simp [World.setCell]
                have HO2 : Hid ((B1.setCell ⟨wb, 1, none⟩ (.slice (some ⟨g1, 0, none⟩) (N + 1) c1)).ownsRow 0 3 1 (.slice ma N mc) N ((Ls ++ Lt).map entM)) := by
                  have := (unhide HK).law.kS.ms
                  rw [unhide HNN] at this
                  refine ownsRow_of_block this fun k hk => F1.2.2.1.block k (this.lt k hk).2 ?_
                  rintro (e | e)
                  · exact unhide n2 (e ▸ hk)
                  · have a := (unhide HK).law.tS k e; have b := (unhide HK).law.t2 k hk; omega
                have HO3 : Hid ((B1.setCell ⟨wb, 1, none⟩ (.slice (some ⟨g1, 0, none⟩) (N + 1) c1)).ownsRow 0 100 5 (entV x) x.n (repP patS x.m x.n)) := by
                  refine ownsRow_of_block (unhide HK).row fun k hk => F1.2.2.1.block k ((unhide HK).row.lt k hk).2 ?_
                  have c := (unhide HK).xt k hk
                  rintro (e | e)
                  · have := (unhide HK).law.tag; rw [e] at c; omega
                  · have a := (unhide HK).law.tS k e; omega
                have HW2 : Hid (((B1.setCell ⟨wb, 1, none⟩ (.slice (some ⟨g1, 0, none⟩) (N + 1) c1)).alloc (.cells #[.int .i64 m] 3)).heap[B1.heap.size]? = some (.cells #[.int .i64 m] 3 (0, 0))) := by
                  have := heap_alloc_new (B1.setCell ⟨wb, 1, none⟩ (.slice (some ⟨g1, 0, none⟩) (N + 1) c1)) (.cells #[.int .i64 m] 3)
                  rw [sC1] at this
                  exact this
                clear F1 hown1 hgrow1 hat1 hst1 q2 q4 p2 p4
                go_wp2_with (at_builtin; go_must (refine wpList_append_stands _ rfl _ _ _ rfl 0 3 i3 _ 1 8 Tryz.underlying34 hi3 y30 y31 y32 rfl (by omega) _ N ((Ls ++ Lt).map entM) rfl ?own2 ⟨B1.heap.size, 0, none⟩ 1 1 [.int .i64 m] rfl rfl ?news2 ?one2 (by omega) ?h632 ?bytes2 (Nat.zero_le _) ?next2))
                case own2 => exact (unhide HO2).alloc _
                case news2 => exact World.news_of_block (cs := #[.int .i64 m]) (unhide HW2)
                case one2 => simp [Value.oneCell']
                case h632 => unfold maxLen; omega
                case bytes2 => omega
                case next2 =>
                  intro g2 c2 B2 hown2 hgrow2 hat2 hlt2 hst2
                  have F2 := field_append (W := (B1.setCell ⟨wb, 1, none⟩ (.slice (some ⟨g1, 0, none⟩) (N + 1) c1))) (f := 5) (v := .slice ma N mc) (unhide HF1).1 (unhide n2) hown2 hgrow2 (by simpa [World.setCell] using hat2)
                  have w1 := lt_of_heap (unhide HF1).1
                  have y4 : B2.cell? ⟨wb, 5, none⟩ = some (.slice ma N mc) := (hgrow2.cell_far _ (by simp [World.setCell]; omega) (fun e => unhide n2 e.symm)).trans ((World.cell?_of_block (w := (B1.setCell ⟨wb, 1, none⟩ (.slice (some ⟨g1, 0, none⟩) (N + 1) c1))) (Below.heap_alloc _ _ _ w1)).trans (cell_of (unhide HF1).1 5))
                  have yf4 : B2.frozen? ⟨wb, 5, none⟩ = false := (hgrow2.frozen_far _ (by simp [World.setCell]; omega) (fun e => unhide n2 e.symm)).trans ((World.frozen?_of_block (w := (B1.setCell ⟨wb, 1, none⟩ (.slice (some ⟨g1, 0, none⟩) (N + 1) c1))) (Below.heap_alloc _ _ _ w1)).trans (frozen_of (unhide HF1).1 5))
                  have HF2 := hide F2
                  have sC2 : (B2.setCell ⟨wb, 5, none⟩ (.slice (some ⟨g2, 0, none⟩) (N + 1) c2)).heap.size = B2.heap.size := by simp [World.setCell]
                  have HO4 : Hid ((B2.setCell ⟨wb, 5, none⟩ (.slice (some ⟨g2, 0, none⟩) (N + 1) c2)).ownsRow 0 100 5 (entV x) x.n (repP patS x.m x.n)) := by
                    refine ownsRow_of_block (unhide HO3) fun k hk => F2.2.2.1.block k ((unhide HO3).lt k hk).2 ?_
                    have c := (unhide HK).xt k hk
                    rintro (e | e)
                    · have := (unhide HK).law.tag; rw [e] at c; omega
                    · have a := (unhide HK).law.t2 k e; omega
                  have HW3 : Hid (((B2.setCell ⟨wb, 5, none⟩ (.slice (some ⟨g2, 0, none⟩) (N + 1) c2)).alloc (.cells #[.int .i64 m, .int .i64 0, .bool false, .slice none 0 0, .int .i64 0] 100)).heap[B2.heap.size]? = some (.cells #[.int .i64 m, .int .i64 0, .bool false, .slice none 0 0, .int .i64 0] 100 (0, 0))) := by
                    have := heap_alloc_new (B2.setCell ⟨wb, 5, none⟩ (.slice (some ⟨g2, 0, none⟩) (N + 1) c2)) (.cells #[.int .i64 m, .int .i64 0, .bool false, .slice none 0 0, .int .i64 0] 100)
                    rw [sC2] at this
                    exact this
                  clear F2 hown2 hgrow2 hat2 hst2 z2 z4 zf2 zf4
                  go_wp2_with (at_builtin; go_must (refine wpList_append_stands _ rfl _ _ _ rfl 0 100 i8 _ 5 56 Tryz.underlying98 hi8 y80 y81 y82 rfl (by omega) _ x.n (repP patS x.m x.n) rfl ?own3 ⟨B2.heap.size, 0, none⟩ 1 1 [.int .i64 m, .int .i64 0, .bool false, .slice none 0 0, .int .i64 0] rfl rfl ?news3 ?one3 (by omega) ?h633 ?bytes3 (Nat.zero_le _) ?next3))
                  case own3 => exact (unhide HO4).alloc _
                  case news3 => exact World.news_of_block (cs := #[.int .i64 m, .int .i64 0, .bool false, .slice none 0 0, .int .i64 0]) (unhide HW3)
                  case one3 => simp [Value.oneCell']
                  case h633 => unfold maxLen; omega
                  case bytes3 => omega
                  case next3 =>
                    intro g3 c3 D hown3 hgrow3 hat3 hlt3 hst3
                    have L3 := list_append hgrow3 hst3 (by simpa [World.setCell] using hat3)
                    have hxm := (unhide HK).xm
                    obtain ⟨ρ2, hstep⟩ := (unhide HK).step (by omega) (by rw [unhide HNN]; omega) (N := N + 1) (by rw [unhide HNN]) (unhide HF1).1 (by rw [List.map_append, List.append_assoc]; exact (unhide HF1).2.1) (unhide HF1).2.2.1 (unhide HF1).2.2.2.1 (unhide HF2).1 (by have := (unhide HF2).2.1; rw [← hxm] at this; rw [List.map_append, List.append_assoc]; exact this) (unhide HF2).2.2.1 (unhide HF2).2.2.2.1 (by rw [← hxm] at hown3; exact hown3) L3.1 L3.2.1 L3.2.2
                    have HStep := hide hstep
                    clear hstep L3 hown3 hgrow3 hat3 hst3 hxm
                    go_wp2
                    go_roundw
                    case rel => exact ⟨j + 1, ρ2, _, _, _, ⟨some ⟨g3, 0, none⟩, x.n + 1, c3, x.m⟩, by omega, by go_num, rfl, unhide HStep⟩
                    case measure => simp [intOf]; omega
            · have HK := hide hK
              have e4 : Hid (j = 4) := by (unfold Hid; omega)
              clear hK
              go_wp2
              have hK := unhide HK
              have e4' := unhide e4
              subst e4'
              have hp := PInv.done (unhide HNL) (unhide HPI) (unhide HO) (by rw [unhide HmE] at hK; exact hK)
              exact bodyPost_ret (v := .tuple #[]) (by simp [results, Tryz.results34, go_sem]) rfl hp

end Go.Proofs.YtpnkmnmchdabkaaGreat
namespace Go.Proofs.YtpnkmnmchdabkaaGreat
open Go.RowKit
attribute [local go_sem ↓] Go.wp_at_zero Go.wp_at_succ

/-- The group with its log, as a caller knows it. -/
def Grp (w : World) (ρ : Nat → Nat) (gb : Nat) (C : Cfg) (now : Rest) (l : List Sh) : Prop := ∃ sv m, m.map (·.s) = l ∧ GrpAt w ρ gb C now sv m

theorem of_map {m : List Cs} {l : List Sh} (h : m.map (·.s) = l) : m.length = l.length := by rw [← h]; simp
theorem at_map {m : List Cs} {l : List Sh} (h : m.map (·.s) = l) {i : Nat} {s : Cs} (hi : m[i]? = some s) : l[i]? = some s.s := by rw [← h]; simp [hi]
theorem to_map {m : List Cs} {l : List Sh} (h : m.map (·.s) = l) {i : Nat} {s : Sh} (hi : l[i]? = some s) : ∃ t : Cs, m[i]? = some t ∧ t.s = s := by
  rw [← h] at hi
  simp at hi
  exact hi

theorem GrpPost.grp {w w' : World} {ρ : Nat → Nat} {gb : Nat} {C : Cfg} {now : Rest} {l : List Sh} (h : GrpPost w ρ gb C now l w') : ∃ ρ', Grp w' ρ' gb C now l ∧ Keeps (mine ρ) w w' ∧ Ext w.heap.size ρ ρ' ∧ Fits w' ρ' := by
  obtain ⟨ρ', sv, m, a, b, c, d, e⟩ := h
  exact ⟨ρ', ⟨sv, m, a, b⟩, c, d, e⟩

set_option maxHeartbeats 400000 in
theorem gSplit_any (w : World) (ρ : Nat → Nat) (gb : Nat) (C : Cfg) (now : Rest) (l : List Sh) (n a : Int) (h : Grp w ρ gb C now l) (hf : Fits w ρ) (hI : Inv l) :
    Calls Tryz.prog 100 #[.pointer (some ⟨gb, 0, none⟩), .int .i64 n, .int .i64 a] w fun e w' =>
      e = .returned (.tuple #[.int .i64 (aSplit l n a).2.1, .int .i64 (aSplit l n a).2.2]) ∧ GrpPost w ρ gb C now (aSplit l n a).1 w' := by
  obtain ⟨sv, m, rfl, G⟩ := h
  have hl : m.length ≤ 16 := by have := hI.len; simpa using this
  have h0 : 0 < m.length := by have := hI.pos; simpa using this
  have HS := hide (split_any w ρ gb C now sv m n a G hf h0 hl)
  obtain ⟨c6, _⟩ := G.cells
  clear G hI
  go_enter Tryz.func100, Tryz.ntmps100
  go_wp2_with (go_at_call 126; refine (unhide HS).mono ?_; rintro e w1 ⟨rfl, hp⟩)
  go_ret2
  exact ⟨rfl, hp⟩

set_option maxHeartbeats 400000 in
theorem gMerge_any (w : World) (ρ : Nat → Nat) (gb : Nat) (C : Cfg) (now : Rest) (l : List Sh) (n a : Int) (h : Grp w ρ gb C now l) (hf : Fits w ρ) (hI : Inv l) :
    Calls Tryz.prog 102 #[.pointer (some ⟨gb, 0, none⟩), .int .i64 n, .int .i64 a] w fun e w' =>
      e = .returned (.tuple #[.int .i64 (aMerge l n a).2.1, .int .i64 (aMerge l n a).2.2]) ∧ GrpPost w ρ gb C now (aMerge l n a).1 w' := by
  obtain ⟨sv, m, rfl, G⟩ := h
  have hl : m.length ≤ 16 := by have := hI.len; simpa using this
  have h0 : 0 < m.length := by have := hI.pos; simpa using this
  have HS := hide (merge_any w ρ gb C now sv m n a G hf h0 hl (fun i s hi => (hI.rng i s.s (by simp [hi])).2.1))
  obtain ⟨c6, _⟩ := G.cells
  clear G hI
  go_enter Tryz.func102, Tryz.ntmps102
  go_wp2_with (go_at_call 127; refine (unhide HS).mono ?_; rintro e w1 ⟨rfl, hp⟩)
  go_ret2
  exact ⟨rfl, hp⟩

set_option maxHeartbeats 400000 in
theorem gShards_any (w : World) (ρ : Nat → Nat) (gb : Nat) (C : Cfg) (now : Rest) (l : List Sh) (h : Grp w ρ gb C now l) (hI : Inv l) :
    Calls Tryz.prog 31 #[.pointer (some ⟨gb, 0, none⟩)] w (ListPost w l) := by
  obtain ⟨sv, m, rfl, G⟩ := h
  have hl : m.length ≤ 16 := by have := hI.len; simpa using this
  have h0 : 0 < m.length := by have := hI.pos; simpa using this
  have HS := hide (list_any w ρ gb C now sv m G h0 hl (fun i s hi => (hI.parL i s.s (by simp [hi])).1))
  obtain ⟨c6, _⟩ := G.cells
  clear G hI
  go_enter Tryz.func31, Tryz.ntmps31
  go_wp2_with (go_at_call 70; refine (unhide HS).mono ?_; rintro e w1 ⟨v, k, rfl, hp⟩)
  go_ret
  exact ⟨v, k, rfl, hp⟩

theorem GrpAt.tick {w : World} {ρ : Nat → Nat} {gb : Nat} {C : Cfg} {now : Rest} {sv : Value} {m : List Cs} (h : GrpAt w ρ gb C now sv m) (hf : Fits w ρ) (hm : m.length ≤ 16) (n' : Int) :
    GrpPost w ρ gb C { now with t := n' } (m.map (·.s)) (w.setCell ⟨gb, 6, none⟩ (.int .i64 n')) := by
  have hk : Keeps (fun k => k = gb) w (w.setCell ⟨gb, 6, none⟩ (.int .i64 n')) := (Keeps.refl (fun k => k = gb) w).setCell (p := ⟨gb, 6, none⟩) (Or.inl rfl) _
  refine ⟨ρ, sv, m, rfl, ⟨?_, h.tag, ?_, ownsRow_keeps h.wk hk (fun k hkk e => by subst e; have := h.wkT _ hkk; have := h.tag; omega), h.wkT, h.dnL, h.lsL⟩, hk.mono (fun k _ e => by subst e; unfold mine; rw [h.tag]; omega), Ext.refl hf, fun k hk => hf k (by simpa [World.setCell] using hk)⟩
  · rw [heap_setCell_same h.blk]
    unfold grpArr
    rw [List.setIfInBounds_toArray]
    rfl
  · have lt : ∀ {i : Nat} {s : Cs}, m[i]? = some s → i < 16 := fun hi => by have := (List.getElem?_eq_some_iff.1 hi).1; omega
    refine ⟨ownsRow_keeps h.log.row hk (fun k hkk e => by subst e; have := h.log.rowT _ hkk; have := h.tag; omega), h.log.rowT, fun i s hi => ownsRow_keeps (h.log.par i s hi) hk (fun k hkk e => by subst e; have := h.log.parT i s hi _ hkk; have := h.tag; omega), h.log.parT, fun i s hi => ?_, h.log.rcT⟩
    obtain ⟨xs, hx⟩ := h.log.rcs i s hi
    exact ⟨xs, ownsRow_keeps hx hk (fun k hkk e => by subst e; have := h.log.rcT i s hi _ hkk; have := h.tag; omega)⟩

set_option maxHeartbeats 400000 in
theorem gTick_any (w : World) (ρ : Nat → Nat) (gb : Nat) (C : Cfg) (now : Rest) (l : List Sh) (h : Grp w ρ gb C now l) (hf : Fits w ρ) (hI : Inv l) :
    Calls Tryz.prog 104 #[.pointer (some ⟨gb, 0, none⟩)] w fun e w' => e = .returned (.tuple #[]) ∧ GrpPost w ρ gb C { now with t := wrap64 (now.t + 1) } l w' := by
  obtain ⟨sv, m, rfl, G⟩ := h
  have hl : m.length ≤ 16 := by have := hI.len; simpa using this
  obtain ⟨_, _, c7, f7, _⟩ := G.cells
  have HG := hide (G.tick hf hl (wrap64 (now.t + 1)))
  clear G hI
  go_enter Tryz.func104, Tryz.ntmps104
  go_wp2
  go_end0
  exact ⟨rfl, unhide HG⟩

theorem makeR_zero {s : ByteArray} {v t : Int} (h : makeR s v t = 0) : keyB s = true ∧ ¬ (1000000 < v ∨ v < -1000000) ∧ ¬ (t < 0 ∨ 1000000 < t) := by
  unfold makeR at h
  split at h
  · omega
  · rename_i hk
    split at h
    · omega
    · split at h
      · omega
      · exact ⟨by simpa using hk, by assumption, by assumption⟩
theorem keyB_len {s : ByteArray} (h : keyB s = true) : s.data.toList.length ≤ 8 ∧ ∀ b ∈ s.data.toList, b.toNat ≠ 0 := by
  simp only [keyB, Bool.and_eq_true, decide_eq_true_eq, List.all_eq_true] at h
  refine ⟨by have := h.1.2; simpa using this, fun b hb => ?_⟩
  have := h.2 b hb
  simp [letter] at this
  omega

/-- What Put leaves. -/
def PutPost (w : World) (ρ : Nat → Nat) (gb : Nat) (C : Cfg) (now : Rest) (l : List Sh) (s : ByteArray) (v t : Int) (e : Ending) (w' : World) : Prop :=
  (makeR s v t ≠ 0 ∧ e = .returned (.tuple #[.int .i64 0, .int .i64 0, .int .i64 (makeR s v t)]) ∧ GrpPost w ρ gb C now l w') ∨
  (makeR s v t = 0 ∧ ∃ k x, Home l (hashL s.data.toList) k x ∧ e = .returned (putV k x.cnt) ∧ GrpPost w ρ gb C now (putL l k x) w')

set_option maxRecDepth 100000 in
set_option maxHeartbeats 1000000 in
theorem gPut_any (w : World) (ρ : Nat → Nat) (gb : Nat) (C : Cfg) (now : Rest) (l : List Sh) (s : ByteArray) (v t : Int) (h : Grp w ρ gb C now l) (hf : Fits w ρ) (hI : Inv l) (hs : s.size ≤ maxLen) :
    Calls Tryz.prog 98 #[.pointer (some ⟨gb, 0, none⟩), .string s, .int .i64 v, .int .i64 t] w (PutPost w ρ gb C now l s v t) := by
  obtain ⟨sv, m, rfl, G⟩ := h
  have hl : m.length ≤ 16 := by have := hI.len; simpa using this
  have HM := hide (make_any s v t w hs)
  obtain ⟨c6, _, _, _, hgb⟩ := G.cells
  have HX : Hid (∀ w1, Below w.heap.size w w1 → GrpAt w1 ρ gb C now sv m) := fun w1 hb => G.keeps (Keeps.of_below hb) (fun j hj => Or.inr hj) (fun _ _ => rfl) hl
  have HF := hide hf
  by_cases hr : makeR s v t = 0
  · obtain ⟨hk, _, _⟩ := makeR_zero hr
    obtain ⟨hk8, hz⟩ := keyB_len hk
    obtain ⟨hb0, hb1⟩ := hashL_bd s.data.toList
    obtain ⟨k, x, hx, hacc, hu⟩ := hI.part (hashL s.data.toList) hb0 hb1
    obtain ⟨y, hy, rfl⟩ := to_map rfl hx
    have HP : Hid (∀ w1, GrpAt w1 ρ gb C now sv m → Fits w1 ρ → Calls Tryz.prog 124 #[.pointer (some ⟨gb, 7, none⟩), .agg (recArr s.data.toList v t)] w1 fun e w' => e = .returned (putV k y.s.cnt) ∧ GrpPost w1 ρ gb C now (putL (m.map (·.s)) k y.s) w') := fun w1 G1 F1 =>
      logPut_any w1 ρ gb C now sv m s.data.toList v t G1 F1 hl hk8 hz k y hy hacc (fun j t hj ha => hu j t.s (by simp [hj]) ha) (hI.cnt k y.s hx)
    have HHome := hide (⟨hx, hacc, hu⟩ : Home (m.map (·.s)) (hashL s.data.toList) k y.s)
    have HR := hide hr
    rw [madeR_yes hr] at HM
    unfold recArr at HM HP
    clear G hI hr hk hk8 hz hb0 hb1 hx hacc hu hy hf
    go_enter Tryz.func98, Tryz.ntmps98
    go_wp2_with (go_at_call 123; refine (unhide HM).mono ?_; rintro e w1 ⟨rfl, hb⟩)
    have hN := heap_alloc_new w1 (.cells #[.int .u8 (byteAt s.data.toList 0), .int .u8 (byteAt s.data.toList 1), .int .u8 (byteAt s.data.toList 2), .int .u8 (byteAt s.data.toList 3), .int .u8 (byteAt s.data.toList 4), .int .u8 (byteAt s.data.toList 5), .int .u8 (byteAt s.data.toList 6), .int .u8 (byteAt s.data.toList 7), .int .i64 v, .int .i64 t] 137)
    have hB := hb.alloc hb.size (.cells #[.int .u8 (byteAt s.data.toList 0), .int .u8 (byteAt s.data.toList 1), .int .u8 (byteAt s.data.toList 2), .int .u8 (byteAt s.data.toList 3), .int .u8 (byteAt s.data.toList 4), .int .u8 (byteAt s.data.toList 5), .int .u8 (byteAt s.data.toList 6), .int .u8 (byteAt s.data.toList 7), .int .i64 v, .int .i64 t] 137)
    have hws := hb.size
    have hZ : (w1.alloc (.cells #[.int .u8 (byteAt s.data.toList 0), .int .u8 (byteAt s.data.toList 1), .int .u8 (byteAt s.data.toList 2), .int .u8 (byteAt s.data.toList 3), .int .u8 (byteAt s.data.toList 4), .int .u8 (byteAt s.data.toList 5), .int .u8 (byteAt s.data.toList 6), .int .u8 (byteAt s.data.toList 7), .int .i64 v, .int .i64 t] 137)).heap.size = w1.heap.size + 1 := by simp
    generalize w1.alloc _ = W at hN hB hZ ⊢
    obtain ⟨k0, k1, k2, k3, k4, k5, k6, k7, k8, k9⟩ := load10 hN
    have HP1 := hide (unhide HP W.drew (unhide HX W.drew hB.drew) (fun q hq => unhide HF q (by have : W.heap.size ≤ q := hq; omega)))
    have hun : Hid (¬ mine ρ w1.heap.size) := fun hm => by have := unhide HF w1.heap.size hws; unfold mine at hm; omega
    have HB := hide hB
    have HZ := hide hZ
    clear hN hB hZ hb
    by_cases hc : 32 ≤ y.s.cnt
    · have HV : Hid (putV k y.s.cnt = .tuple #[.int .i64 0, .int .i64 0, .int .i64 8]) := by unfold putV; rw [if_pos hc]; trivial
      rw [unhide HV] at HP1
      go_region_held3 (fun w' => w'.cell? ⟨w1.heap.size, 0, none⟩ = some (.int .u8 (byteAt s.data.toList 0)) ∧ w'.cell? ⟨w1.heap.size, 1, none⟩ = some (.int .u8 (byteAt s.data.toList 1)) ∧ w'.cell? ⟨w1.heap.size, 2, none⟩ = some (.int .u8 (byteAt s.data.toList 2)) ∧ w'.cell? ⟨w1.heap.size, 3, none⟩ = some (.int .u8 (byteAt s.data.toList 3)) ∧ w'.cell? ⟨w1.heap.size, 4, none⟩ = some (.int .u8 (byteAt s.data.toList 4)) ∧ w'.cell? ⟨w1.heap.size, 5, none⟩ = some (.int .u8 (byteAt s.data.toList 5)) ∧ w'.cell? ⟨w1.heap.size, 6, none⟩ = some (.int .u8 (byteAt s.data.toList 6)) ∧ w'.cell? ⟨w1.heap.size, 7, none⟩ = some (.int .u8 (byteAt s.data.toList 7)) ∧ w'.cell? ⟨w1.heap.size, 8, none⟩ = some (.int .i64 v) ∧ w'.cell? ⟨w1.heap.size, 9, none⟩ = some (.int .i64 t))
        (first | go_keep | (go_split_ands; refine ⟨?_, ?_, ?_, ?_, ?_, ?_, ?_, ?_, ?_, ?_⟩ <;> (rw [hkp.cell (show w1.heap.size < W.heap.size by have := unhide HZ; omega) (unhide hun)]; assumption)))
        ((go_at_call 124; refine (unhide HP1).mono ?_; rintro e w2 ⟨rfl, hpost⟩; have hkp := hpost.choose_spec.choose_spec.choose_spec.2.2.1))
      go_wp2
      go_ret3
      refine Or.inr ⟨unhide HR, k, y.s, unhide HHome, by rw [unhide HV]; rfl, GrpPost.trans (w1 := W.drew) ((Keeps.of_below (unhide HB).drew).mono (fun _ _ _ => by omega)) (Ext.refl (unhide HF)) hpost⟩
    · have HV : Hid (putV k y.s.cnt = .tuple #[.int .i64 k, .int .i64 y.s.cnt, .int .i64 0]) := by unfold putV; rw [if_neg hc]; trivial
      rw [unhide HV] at HP1
      go_region_held3 (fun w' => w'.cell? ⟨w1.heap.size, 0, none⟩ = some (.int .u8 (byteAt s.data.toList 0)) ∧ w'.cell? ⟨w1.heap.size, 1, none⟩ = some (.int .u8 (byteAt s.data.toList 1)) ∧ w'.cell? ⟨w1.heap.size, 2, none⟩ = some (.int .u8 (byteAt s.data.toList 2)) ∧ w'.cell? ⟨w1.heap.size, 3, none⟩ = some (.int .u8 (byteAt s.data.toList 3)) ∧ w'.cell? ⟨w1.heap.size, 4, none⟩ = some (.int .u8 (byteAt s.data.toList 4)) ∧ w'.cell? ⟨w1.heap.size, 5, none⟩ = some (.int .u8 (byteAt s.data.toList 5)) ∧ w'.cell? ⟨w1.heap.size, 6, none⟩ = some (.int .u8 (byteAt s.data.toList 6)) ∧ w'.cell? ⟨w1.heap.size, 7, none⟩ = some (.int .u8 (byteAt s.data.toList 7)) ∧ w'.cell? ⟨w1.heap.size, 8, none⟩ = some (.int .i64 v) ∧ w'.cell? ⟨w1.heap.size, 9, none⟩ = some (.int .i64 t))
        (first | go_keep | (go_split_ands; refine ⟨?_, ?_, ?_, ?_, ?_, ?_, ?_, ?_, ?_, ?_⟩ <;> (rw [hkp.cell (show w1.heap.size < W.heap.size by have := unhide HZ; omega) (unhide hun)]; assumption)))
        ((go_at_call 124; refine (unhide HP1).mono ?_; rintro e w2 ⟨rfl, hpost⟩; have hkp := hpost.choose_spec.choose_spec.choose_spec.2.2.1))
      go_wp2
      go_ret3
      refine Or.inr ⟨unhide HR, k, y.s, unhide HHome, by rw [unhide HV]; rfl, GrpPost.trans (w1 := W.drew) ((Keeps.of_below (unhide HB).drew).mono (fun _ _ _ => by omega)) (Ext.refl (unhide HF)) hpost⟩
  · rw [madeR_no rfl hr] at HM
    have HR := hide hr
    have hne : (makeR s v t != 0) = true := by rw [bne_iff_ne]; exact hr
    unfold recArr at HM
    clear G hI hf hr
    generalize hq : makeR s v t = q at *
    have HQ := hide hq
    clear hq
    go_enter Tryz.func98, Tryz.ntmps98
    go_wp2_with (go_at_call 123; refine (unhide HM).mono ?_; rintro e w1 ⟨rfl, hb⟩)
    go_ret3
    exact Or.inl ⟨by rw [unhide HQ]; exact unhide HR, by rw [unhide HQ]; rfl, ρ, sv, m, rfl, unhide HX _ (hb.alloc hb.size _), (Keeps.of_below (hb.alloc hb.size _)).mono (fun _ _ _ => by omega), Ext.refl (unhide HF), fun j hj => unhide HF j (by have := hb.size; simp at hj; omega)⟩

end Go.Proofs.YtpnkmnmchdabkaaGreat
