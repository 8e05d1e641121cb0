import Derived.Test.YtpnkmnmchdabkaaGreatLawH
namespace Go.Proofs.YtpnkmnmchdabkaaGreat
open Go.RowKit
attribute [local go_sem ↓] Go.wp_at_zero Go.wp_at_succ

theorem infoSS : (Tryz.prog.info? 98).map (fun i => (i.zero, i.size, i.bytes)) = some (some (.slice none 0 0), 1, 24) := by kernel_rfl

set_option maxRecDepth 100000 in
set_option maxHeartbeats 8000000 in
theorem keepShards_any {w : World} {ρ : Nat → Nat} {wb : Nat} {sdv : Value} {last : Int} {sv iv hv m1 m2 m3 : Value} {Ls Li Lh : List Ke} (h : LawAt w ρ wb sdv last sv iv hv m1 m2 m3 Ls Li Lh) (hf : Fits w ρ) (h1 : -8000000000000000000 ≤ last) (h2 : last ≤ 0) (lv : Value) (l : List (Sh × Value)) (ho : OutAt w ρ lv l) (hn : l.length ≤ 16) (hpl : ∀ (i : Nat) (x : Sh × Value), l[i]? = some x → x.1.par.length ≤ 2) (hlen : Li.length ≤ 9999000) (hlenS : Ls.length ≤ 10000000) :
    Calls Tryz.prog 34 #[.pointer (some ⟨wb, 0, none⟩), lv] w (KeepPostS w ρ wb sdv last hv m3 Ls Li Lh lv l) := by
  obtain ⟨n, hnl⟩ : ∃ n, n = l.length := ⟨_, rfl⟩
  obtain ⟨la, lc, rfl⟩ := ownsRow_len ho.row
  obtain ⟨i5, hi5, y50, y51, y52⟩ := info_parts infoSS
  obtain ⟨i3, hi3, y30, y31, y32⟩ := info_parts infoI
  obtain ⟨i8, hi8, y80, y81, y82⟩ := info_parts info82
  have HP0 := hide (PInv.start h hf l)
  rw [← hnl] at hn ho ⊢
  have HO := hide ho
  have HPL := hide hpl
  clear h hf ho hpl
  have HNL := hide hnl
  have hn16 : n ≤ 16 := hn
  clear hn hnl
  go_enter Tryz.func34, Tryz.ntmps34
  go_wp2
  go_loopw [4] (fun i wr => ∃ (j : Nat) (ρ1 : Nat → Nat) (iv1 m11 : Value) (Ln : List Ke), j ≤ n ∧ i = .int .i64 j ∧ PInv w ρ wb sdv last sv hv m2 m3 Ls Li Lh l j ρ1 iv1 m11 Ln wr) (fun i _ => n - (intOf i).toNat)
  case atStart => exact ⟨0, _, _, _, _, Nat.zero_le _, rfl, unhide HP0⟩
  case round =>
    obtain ⟨j, ρ1, iv1, m11, Ln, hj, rfl, hP⟩ := hrel
    by_cases hlt : j < n
    · obtain ⟨x, hx⟩ : ∃ x, l[j]? = some x := ⟨_, List.getElem?_eq_getElem (by have := unhide HNL; omega)⟩
      obtain ⟨pr, pt, vr, vt⟩ := hP.par (unhide HO) x hx
      rw [← unhide HNL] at vr
      obtain ⟨lb, cp, cur, hv1, _, hcb, _, _, hcs, _⟩ := ownsRow_shape vr (by omega)
      injection hv1 with e1 e2 e3
      subst e1 e3
      clear e2
      have c3 : wr.cell? ⟨lb, j * 5 + 3, none⟩ = some x.2 := (World.ownsRow.cellAt vr (j * 5 + 3) (by omega)).trans (by rw [listCells_get l j 3 (by omega) x hx]; rfl)
      have hlenI : (Li ++ Ln).length ≤ 10000000 := by rw [List.length_append, hP.len]; omega
      have HK := hide (keepInts_any hP.law hP.fits (by omega) (by omega) x.2 x.1.par.length _ pr (by have := unhide HPL j x hx; omega) hlenI pt)
      have HPj := hide hP
      have HX := hide hx
      clear hP pr pt vr vt hcb hcs hx
      go_wp2_with (go_at_call 58; refine (unhide HK).mono ?_; rintro e w' hpost; have HQ := hide ((unhide HPj).step (unhide HO) x (unhide HX) hpost); obtain ⟨rfl, -⟩ := hpost)
      go_roundw
      case rel =>
        obtain ⟨ρ2, iv2, m12, L2, hq⟩ := unhide HQ
        exact ⟨j + 1, ρ2, iv2, m12, L2, by omega, by go_num, hq⟩
      case measure => simp [intOf]; omega
    · have ej : j = n := by omega
      subst ej
      obtain ⟨U, hU⟩ : ∃ U, U = wr := ⟨_, rfl⟩
      rw [← hU] at hP ⊢
      clear hU
      have hwl := lt_of_heap hP.law.blk
      have c7 : U.cell? ⟨wb, 7, none⟩ = some (.int .i64 (last - j)) := cell_of hP.law.blk 7
      have f7 := frozen_of hP.law.blk 7
      have HM := hide (mark_any U wb (last - j) c7 f7 (by omega) (by omega))
      obtain ⟨vr, vt⟩ := hP.row (unhide HO)
      rw [← unhide HNL] at vr
      have HL := hide vr
      have HT := hide vt
      have HPI := hide hP
      have hll : Hid (∀ k, (Value.slice la j lc).ownBlock = some k → k < U.heap.size) := fun k hk => (vr.lt k hk).2
      clear vr vt hP HP0
      go_wp2_with (go_at_call 71; refine (unhide HM).mono ?_; rintro e w' ⟨rfl, rfl⟩)
      have hVl : Hid ((U.setCell ⟨wb, 7, none⟩ (.int .i64 (last - j - 1))).ownsRow 0 100 5 (.slice la j lc) j (listCells l)) := by
        refine ownsRow_of_block (unhide HL) fun k hk => Below.heap_setCell _ _ _ _ ?_
        rintro rfl
        have h1 := unhide HT _ hk
        have h2 := (unhide HPI).law.tag
        omega
      have HV := hide ((unhide HPI).law.marked (last - j - 1))
      have HKV : Hid (Keeps (fun k => laws ρ1 k ∨ (Value.slice la j lc).ownBlock = some k) U (U.setCell ⟨wb, 7, none⟩ (.int .i64 (last - j - 1)))) := (Keeps.refl _ U).setCell (Or.inl (Or.inl (by unfold laws; rw [(unhide HPI).law.tag]; omega))) _
      have hVs : (U.setCell ⟨wb, 7, none⟩ (.int .i64 (last - j - 1))).heap.size = U.heap.size := by simp [World.setCell]
      clear HM c7 f7
      generalize U.setCell ⟨wb, 7, none⟩ (.int .i64 (last - j - 1)) = V at *
      generalize hmm : last - (j : Int) - 1 = m at *
      have HmE := hide hmm.symm
      go_loopw [6] (fun i wr => ∃ q : Nat, q ≤ j ∧ i = .int .i64 q ∧ wr.ownsRow 0 100 5 (.slice la j lc) j (repP patS m q ++ (listCells l).drop (q * 5)) ∧ Keeps (fun k => (Value.slice la j lc).ownBlock = some k) V wr) (fun i _ => j - (intOf i).toNat)
      case atStart => exact ⟨0, Nat.zero_le _, rfl, by simpa [repP] using unhide hVl, Keeps.refl _ _⟩
      case round =>
        obtain ⟨q, hq, rfl, hown, hkk⟩ := hrel
        by_cases hlt : q < j
        · obtain ⟨lb, cp, cur, hv1, _, hcb, _, _, hcs, _⟩ := ownsRow_shape hown (by omega)
          injection hv1 with e1 e2 e3
          subst e1
          have fz := fun i => frozen_of hcb i
          have c0 : ∃ u, wr.cell? ⟨lb, q * 5, none⟩ = some u := ⟨_, (cell_of hcb (q * 5)).trans (Array.getElem?_eq_getElem (by omega))⟩
          have c1 : ∃ u, wr.cell? ⟨lb, q * 5 + 1, none⟩ = some u := ⟨_, (cell_of hcb (q * 5 + 1)).trans (Array.getElem?_eq_getElem (by omega))⟩
          have c2 : ∃ u, wr.cell? ⟨lb, q * 5 + 2, none⟩ = some u := ⟨_, (cell_of hcb (q * 5 + 2)).trans (Array.getElem?_eq_getElem (by omega))⟩
          have c3 : ∃ u, wr.cell? ⟨lb, q * 5 + 3, none⟩ = some u := ⟨_, (cell_of hcb (q * 5 + 3)).trans (Array.getElem?_eq_getElem (by omega))⟩
          have c4 : ∃ u, wr.cell? ⟨lb, q * 5 + 4, none⟩ = some u := ⟨_, (cell_of hcb (q * 5 + 4)).trans (Array.getElem?_eq_getElem (by omega))⟩
          obtain ⟨u0, c0⟩ := c0
          obtain ⟨u1, c1⟩ := c1
          obtain ⟨u2, c2⟩ := c2
          obtain ⟨u3, c3⟩ := c3
          obtain ⟨u4, c4⟩ := c4
          have HS := hide (row_put5 hown q (.int .i64 m) (.int .i64 0) (.bool false) (.slice none 0 0) (.int .i64 0))
          have HKK := hide hkk
          have hxl : q * 5 + 5 ≤ (listCells l).length := by rw [listCells_len, ← unhide HNL]; omega
          have HXL := hide hxl
          clear hown hkk hcb hcs hxl
          go_wp2
          go_roundw
          case rel =>
            refine ⟨q + 1, by omega, by go_num, ?_, (((((unhide HKK).setCell (p := ⟨lb, q * 5, none⟩) (Or.inl rfl) _).setCell (p := ⟨lb, q * 5 + 1, none⟩) (Or.inl rfl) _).setCell (p := ⟨lb, q * 5 + 2, none⟩) (Or.inl rfl) _).setCell (p := ⟨lb, q * 5 + 3, none⟩) (Or.inl rfl) _).setCell (p := ⟨lb, q * 5 + 4, none⟩) (Or.inl rfl) _⟩
            rw [← repS_set (unhide HXL)]; exact unhide HS
          case measure => simp [intOf]; omega
        · have HR : Hid (wr.ownsRow 0 100 5 (.slice la j lc) j (repP patS m j)) := by
            have e : q = j := by omega
            subst e
            rw [List.drop_eq_nil_of_le (by rw [listCells_len, ← unhide HNL]; omega), List.append_nil] at hown
            exact hown
          have HKK := hide hkk
          clear hown hkk
          have HI0 := hide (KInvS.start (unhide HV) hVs (unhide HPI).fits (unhide HT) (unhide HKV) (unhide HKK) (unhide HR) (unhide hll))
          clear HV HKV HKK HR hVl HL HT
          generalize j = n at *
          go_wp2
          go_loopw [1, 7] (fun lq i wr => ∃ (j : Nat) (ρ2 : Nat → Nat) (sv1 m21 : Value) (Lt : List Ke) (x : Ke), j ≤ 4 ∧ i = .int .i64 j ∧ lq = .slice x.a x.n x.cap ∧ KInvS U ρ1 wb sdv m iv1 hv m11 m3 Ls (Li ++ Ln) Lh (.slice la n lc) n j ρ2 sv1 m21 Lt x wr) (fun _ i _ => 4 - (intOf i).toNat)
          case atStart => exact ⟨0, _, _, _, _, _, by omega, rfl, rfl, unhide HI0⟩
          case round =>
            obtain ⟨j, ρ2, sv1, m21, Lt, x, hj, rfl, rfl, hK⟩ := hrel
            by_cases hlt4 : j < 4
            · obtain ⟨ia, ic, rfl⟩ := ownsRow_len hK.law.kS.row
              obtain ⟨ma, mc, rfl⟩ := ownsRow_len hK.law.kS.ms
              have hNl : (Ls ++ Lt).length ≤ 10000010 := by rw [List.length_append, hK.len]; omega
              have hxn : x.n ≤ 1010 := by have := hK.xn; omega
              have q2 : wr.cell? ⟨wb, 1, none⟩ = some (.slice ia (Ls ++ Lt).length ic) := cell_of hK.law.blk 1
              have q4 : wr.cell? ⟨wb, 5, none⟩ = some (.slice ma (Ls ++ Lt).length mc) := cell_of hK.law.blk 5
              have p2 := frozen_of hK.law.blk 1
              have p4 := frozen_of hK.law.blk 5
              have hwr := lt_of_heap hK.law.blk
              have n1 : Hid ((Value.slice ia (Ls ++ Lt).length ic).ownBlock ≠ some wb) := fun e => by have := hK.law.tS wb e; have := hK.law.tag; omega
              have n2 : Hid ((Value.slice ma (Ls ++ Lt).length mc).ownBlock ≠ some wb) := fun e => by have := hK.law.t2 wb e; have := hK.law.tag; omega
              have HK := hide hK
              clear hK HI0
              generalize hNN : (Ls ++ Lt).length = N at *
              have HNN := hide hNN
              have HB := hide (unhide HK).law.blk
              clear hNN
              go_wp2_with (at_builtin; go_must (refine wpList_append_stands _ rfl _ _ _ rfl 0 98 i5 _ 1 24 Tryz.underlying31 hi5 y50 y51 y52 rfl (by omega) _ N ((Ls ++ Lt).map entV) rfl ?own ⟨wr.heap.size, 0, none⟩ 1 1 [.slice x.a x.n x.cap] rfl rfl ?news ?one (by omega) ?h63 ?bytes (Nat.zero_le _) ?next))
              case own => have := (unhide HK).law.kS.row.alloc (.cells #[.slice x.a x.n x.cap] 98); rw [unhide HNN] at this; exact this
              case news => exact World.news_of_block (cs := #[.slice x.a x.n x.cap]) (heap_alloc_new wr _)
              case one => simp [Value.oneCell']
              case h63 => unfold maxLen; omega
              case bytes => omega
              case next =>
                intro g1 c1 B1 hown1 hgrow1 hat1 hlt1 hst1
                have F1 := field_append (f := 1) (v := .slice ia N ic) (unhide HB) (unhide n1) hown1 hgrow1 (by simpa using hat1)
                have z2 : B1.cell? ⟨wb, 1, none⟩ = some (.slice ia N ic) := (hgrow1.cell_far _ (by simp; omega) (fun e => unhide n1 e.symm)).trans ((World.cell?_of_block (w := wr) (Below.heap_alloc _ _ _ hwr)).trans q2)
                have z4 : B1.cell? ⟨wb, 5, none⟩ = some (.slice ma N mc) := (hgrow1.cell_far _ (by simp; omega) (fun e => unhide n1 e.symm)).trans ((World.cell?_of_block (w := wr) (Below.heap_alloc _ _ _ hwr)).trans q4)
                have zf2 : B1.frozen? ⟨wb, 1, none⟩ = false := (hgrow1.frozen_far _ (by simp; omega) (fun e => unhide n1 e.symm)).trans ((World.frozen?_of_block (w := wr) (Below.heap_alloc _ _ _ hwr)).trans p2)
                have zf4 : B1.frozen? ⟨wb, 5, none⟩ = false := (hgrow1.frozen_far _ (by simp; omega) (fun e => unhide n1 e.symm)).trans ((World.frozen?_of_block (w := wr) (Below.heap_alloc _ _ _ hwr)).trans p4)
                have HF1 := hide F1
                have zB1 := hgrow1.size
                simp at zB1
                have sC1 : (B1.setCell ⟨wb, 1, none⟩ (.slice (some ⟨g1, 0, none⟩) (N + 1) c1)).heap.size = B1.heap.size := by simp [World.setCell]
                have HO2 : Hid ((B1.setCell ⟨wb, 1, none⟩ (.slice (some ⟨g1, 0, none⟩) (N + 1) c1)).ownsRow 0 3 1 (.slice ma N mc) N ((Ls ++ Lt).map entM)) := by
                  have := (unhide HK).law.kS.ms
                  rw [unhide HNN] at this
                  refine ownsRow_of_block this fun k hk => F1.2.2.1.block k (this.lt k hk).2 ?_
                  rintro (e | e)
                  · exact unhide n2 (e ▸ hk)
                  · have a := (unhide HK).law.tS k e; have b := (unhide HK).law.t2 k hk; omega
                have HO3 : Hid ((B1.setCell ⟨wb, 1, none⟩ (.slice (some ⟨g1, 0, none⟩) (N + 1) c1)).ownsRow 0 100 5 (entV x) x.n (repP patS x.m x.n)) := by
                  refine ownsRow_of_block (unhide HK).row fun k hk => F1.2.2.1.block k ((unhide HK).row.lt k hk).2 ?_
                  have c := (unhide HK).xt k hk
                  rintro (e | e)
                  · have := (unhide HK).law.tag; rw [e] at c; omega
                  · have a := (unhide HK).law.tS k e; omega
                have HW2 : Hid (((B1.setCell ⟨wb, 1, none⟩ (.slice (some ⟨g1, 0, none⟩) (N + 1) c1)).alloc (.cells #[.int .i64 m] 3)).heap[B1.heap.size]? = some (.cells #[.int .i64 m] 3 (0, 0))) := by
                  have := heap_alloc_new (B1.setCell ⟨wb, 1, none⟩ (.slice (some ⟨g1, 0, none⟩) (N + 1) c1)) (.cells #[.int .i64 m] 3)
                  rw [sC1] at this
                  exact this
                clear F1 hown1 hgrow1 hat1 hst1 q2 q4 p2 p4
                go_wp2_with (at_builtin; go_must (refine wpList_append_stands _ rfl _ _ _ rfl 0 3 i3 _ 1 8 Tryz.underlying34 hi3 y30 y31 y32 rfl (by omega) _ N ((Ls ++ Lt).map entM) rfl ?own2 ⟨B1.heap.size, 0, none⟩ 1 1 [.int .i64 m] rfl rfl ?news2 ?one2 (by omega) ?h632 ?bytes2 (Nat.zero_le _) ?next2))
                case own2 => exact (unhide HO2).alloc _
                case news2 => exact World.news_of_block (cs := #[.int .i64 m]) (unhide HW2)
                case one2 => simp [Value.oneCell']
                case h632 => unfold maxLen; omega
                case bytes2 => omega
                case next2 =>
                  intro g2 c2 B2 hown2 hgrow2 hat2 hlt2 hst2
                  have F2 := field_append (W := (B1.setCell ⟨wb, 1, none⟩ (.slice (some ⟨g1, 0, none⟩) (N + 1) c1))) (f := 5) (v := .slice ma N mc) (unhide HF1).1 (unhide n2) hown2 hgrow2 (by simpa [World.setCell] using hat2)
                  have w1 := lt_of_heap (unhide HF1).1
                  have y4 : B2.cell? ⟨wb, 5, none⟩ = some (.slice ma N mc) := (hgrow2.cell_far _ (by simp [World.setCell]; omega) (fun e => unhide n2 e.symm)).trans ((World.cell?_of_block (w := (B1.setCell ⟨wb, 1, none⟩ (.slice (some ⟨g1, 0, none⟩) (N + 1) c1))) (Below.heap_alloc _ _ _ w1)).trans (cell_of (unhide HF1).1 5))
                  have yf4 : B2.frozen? ⟨wb, 5, none⟩ = false := (hgrow2.frozen_far _ (by simp [World.setCell]; omega) (fun e => unhide n2 e.symm)).trans ((World.frozen?_of_block (w := (B1.setCell ⟨wb, 1, none⟩ (.slice (some ⟨g1, 0, none⟩) (N + 1) c1))) (Below.heap_alloc _ _ _ w1)).trans (frozen_of (unhide HF1).1 5))
                  have HF2 := hide F2
                  have sC2 : (B2.setCell ⟨wb, 5, none⟩ (.slice (some ⟨g2, 0, none⟩) (N + 1) c2)).heap.size = B2.heap.size := by simp [World.setCell]
                  have HO4 : Hid ((B2.setCell ⟨wb, 5, none⟩ (.slice (some ⟨g2, 0, none⟩) (N + 1) c2)).ownsRow 0 100 5 (entV x) x.n (repP patS x.m x.n)) := by
                    refine ownsRow_of_block (unhide HO3) fun k hk => F2.2.2.1.block k ((unhide HO3).lt k hk).2 ?_
                    have c := (unhide HK).xt k hk
                    rintro (e | e)
                    · have := (unhide HK).law.tag; rw [e] at c; omega
                    · have a := (unhide HK).law.t2 k e; omega
                  have HW3 : Hid (((B2.setCell ⟨wb, 5, none⟩ (.slice (some ⟨g2, 0, none⟩) (N + 1) c2)).alloc (.cells #[.int .i64 m, .int .i64 0, .bool false, .slice none 0 0, .int .i64 0] 100)).heap[B2.heap.size]? = some (.cells #[.int .i64 m, .int .i64 0, .bool false, .slice none 0 0, .int .i64 0] 100 (0, 0))) := by
                    have := heap_alloc_new (B2.setCell ⟨wb, 5, none⟩ (.slice (some ⟨g2, 0, none⟩) (N + 1) c2)) (.cells #[.int .i64 m, .int .i64 0, .bool false, .slice none 0 0, .int .i64 0] 100)
                    rw [sC2] at this
                    exact this
                  clear F2 hown2 hgrow2 hat2 hst2 z2 z4 zf2 zf4
                  go_wp2_with (at_builtin; go_must (refine wpList_append_stands _ rfl _ _ _ rfl 0 100 i8 _ 5 56 Tryz.underlying98 hi8 y80 y81 y82 rfl (by omega) _ x.n (repP patS x.m x.n) rfl ?own3 ⟨B2.heap.size, 0, none⟩ 1 1 [.int .i64 m, .int .i64 0, .bool false, .slice none 0 0, .int .i64 0] rfl rfl ?news3 ?one3 (by omega) ?h633 ?bytes3 (Nat.zero_le _) ?next3))
                  case own3 => exact (unhide HO4).alloc _
                  case news3 => exact World.news_of_block (cs := #[.int .i64 m, .int .i64 0, .bool false, .slice none 0 0, .int .i64 0]) (unhide HW3)
                  case one3 => simp [Value.oneCell']
                  case h633 => unfold maxLen; omega
                  case bytes3 => omega
                  case next3 =>
                    intro g3 c3 D hown3 hgrow3 hat3 hlt3 hst3
                    have L3 := list_append hgrow3 hst3 (by simpa [World.setCell] using hat3)
                    have hxm := (unhide HK).xm
                    obtain ⟨ρ2, hstep⟩ := (unhide HK).step (by omega) (by rw [unhide HNN]; omega) (N := N + 1) (by rw [unhide HNN]) (unhide HF1).1 (by rw [List.map_append, List.append_assoc]; exact (unhide HF1).2.1) (unhide HF1).2.2.1 (unhide HF1).2.2.2.1 (unhide HF2).1 (by have := (unhide HF2).2.1; rw [← hxm] at this; rw [List.map_append, List.append_assoc]; exact this) (unhide HF2).2.2.1 (unhide HF2).2.2.2.1 (by rw [← hxm] at hown3; exact hown3) L3.1 L3.2.1 L3.2.2
                    have HStep := hide hstep
                    clear hstep L3 hown3 hgrow3 hat3 hst3 hxm
                    go_wp2
                    go_roundw
                    case rel => exact ⟨j + 1, ρ2, _, _, _, ⟨some ⟨g3, 0, none⟩, x.n + 1, c3, x.m⟩, by omega, by go_num, rfl, unhide HStep⟩
                    case measure => simp [intOf]; omega
            · have HK := hide hK
              have e4 : Hid (j = 4) := by (unfold Hid; omega)
              clear hK
              go_wp2
              have hK := unhide HK
              have e4' := unhide e4
              subst e4'
              have hp := PInv.done (unhide HNL) (unhide HPI) (unhide HO) (by rw [unhide HmE] at hK; exact hK)
              exact bodyPost_ret (v := .tuple #[]) (by simp [results, Tryz.results34, go_sem]) rfl hp

end Go.Proofs.YtpnkmnmchdabkaaGreat
