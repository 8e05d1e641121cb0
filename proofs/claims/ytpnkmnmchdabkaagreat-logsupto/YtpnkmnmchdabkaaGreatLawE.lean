import Derived.Test.YtpnkmnmchdabkaaGreatLawD
namespace Go.Proofs.YtpnkmnmchdabkaaGreat
open Go.RowKit
attribute [local go_sem ↓] Go.wp_at_zero Go.wp_at_succ

set_option maxRecDepth 100000 in
set_option maxHeartbeats 4000000 in
theorem keepInts_any {w : World} {ρ : Nat → Nat} {wb : Nat} {sdv : Value} {last : Int} {sv iv hv m1 m2 m3 : Value} {Ls Li Lh : List Ke} (h : LawAt w ρ wb sdv last sv iv hv m1 m2 m3 Ls Li Lh) (hf : Fits w ρ) (h1 : -9000000000000000000 ≤ last) (h2 : last ≤ 0) (lv : Value) (n : Nat) (xs : List Value) (hl : w.ownsRow 0 3 1 lv n xs) (hn : n ≤ 1000) (hlen : Li.length ≤ 10000000) (hlt : ∀ k, lv.ownBlock = some k → ρ k = 0) :
    Calls Tryz.prog 58 #[.pointer (some ⟨wb, 0, none⟩), lv] w (KeepPost w ρ wb sdv (last - 1) sv hv m2 m3 Ls Li Lh lv) := by
  obtain ⟨la, lc, rfl⟩ := ownsRow_len hl
  have hwl := lt_of_heap h.blk
  have c7 : w.cell? ⟨wb, 7, none⟩ = some (.int .i64 last) := cell_of h.blk 7
  have f7 := frozen_of h.blk 7
  have HM := hide (mark_any w wb last c7 f7 h1 h2)
  obtain ⟨i5, hi5, y50, y51, y52⟩ := info_parts info50
  obtain ⟨i3, hi3, y30, y31, y32⟩ := info_parts infoI
  have H0 := hide h
  have HL := hide hl
  have HT := hide hlt
  have HF := hide hf
  clear h hl hlt hf
  go_enter Tryz.func58, Tryz.ntmps58
  go_wp2_with (go_at_call 71; refine (unhide HM).mono ?_; rintro e w' ⟨rfl, rfl⟩)
  have hVl : Hid ((w.setCell ⟨wb, 7, none⟩ (.int .i64 (last - 1))).ownsRow 0 3 1 (.slice la n lc) n xs) := by
    refine ownsRow_of_block (unhide HL) fun k hk => Below.heap_setCell _ _ _ _ ?_
    rintro rfl
    have h1 := unhide HT _ hk
    have h2 := (unhide H0).tag
    omega
  have HV := hide ((unhide H0).marked (last - 1))
  have HKV : Hid (Keeps (fun k => laws ρ k ∨ (Value.slice la n lc).ownBlock = some k) w (w.setCell ⟨wb, 7, none⟩ (.int .i64 (last - 1)))) := (Keeps.refl _ w).setCell (Or.inl (Or.inl (by unfold laws; rw [(unhide H0).tag]; omega))) _
  have hVs : (w.setCell ⟨wb, 7, none⟩ (.int .i64 (last - 1))).heap.size = w.heap.size := by simp [World.setCell]
  clear HM c7 f7
  generalize w.setCell ⟨wb, 7, none⟩ (.int .i64 (last - 1)) = V at *
  generalize hmm : last - 1 = m at *
  go_loopw [5] (fun i wr => ∃ j : Nat, j ≤ n ∧ i = .int .i64 j ∧ wr.ownsRow 0 3 1 (.slice la n lc) n (repP patI m j ++ xs.drop j) ∧ Keeps (fun k => (Value.slice la n lc).ownBlock = some k) V wr) (fun i _ => n - (intOf i).toNat)
  case atStart => exact ⟨0, Nat.zero_le _, rfl, by simpa [repP] using unhide hVl, Keeps.refl _ _⟩
  case round =>
    obtain ⟨j, hj, rfl, hown, hkk⟩ := hrel
    by_cases hlt : j < n
    · obtain ⟨lb, cp, cur, hv1, _, hcb, _, _, hcs, _⟩ := ownsRow_shape hown (by omega)
      injection hv1 with e1 e2 e3
      subst e1
      have fz := frozen_of hcb j
      have cz : wr.cell? ⟨lb, j, none⟩ = cur[j]? := cell_of hcb j
      have hjc : j < cur.size := by omega
      rw [Array.getElem?_eq_getElem hjc] at cz
      have HS := hide (World.ownsRow.stored hown j (.int .i64 m)).1
      have HKK := hide hkk
      have hxl : j < xs.length := by have := (unhide HL).1; omega
      clear hown hkk hcb hcs
      go_wp2
      go_roundw
      case rel =>
        refine ⟨j + 1, by omega, by go_num, ?_, (unhide HKK).setCell (p := ⟨lb, j, none⟩) (Or.inl rfl) _⟩
        rw [← rep_set hxl]; exact unhide HS
      case measure => simp [intOf]; omega
    · have HR : Hid (wr.ownsRow 0 3 1 (.slice la n lc) n (repP patI m n)) := by
        have hxl := (unhide HL).1
        have e : j = n := by omega
        subst e
        rw [List.drop_eq_nil_of_le (by omega), List.append_nil] at hown
        exact hown
      have HKK := hide hkk
      clear hown hkk
      have HI0 := hide (KInv.start (unhide HV) hVs (unhide HF) (unhide HT) (unhide HKV) (unhide HKK) (unhide HR) (fun k hk => ((unhide HL).lt k hk).2))
      have HLl := hide (fun k hk => ((unhide HL).lt k hk).2)
      clear HV HKV HKK HR hVl HL HT H0
      go_wp2
      go_loopw [1, 6] (fun l i wr => ∃ (j : Nat) (ρ1 : Nat → Nat) (iv1 m11 : Value) (Ln : List Ke) (x : Ke), j ≤ 4 ∧ i = .int .i64 j ∧ l = .slice x.a x.n x.cap ∧ KInv w ρ wb sdv m sv hv m2 m3 Ls Li Lh (.slice la n lc) n j ρ1 iv1 m11 Ln x wr) (fun _ i _ => 4 - (intOf i).toNat)
      case atStart => exact ⟨0, _, _, _, _, _, by omega, rfl, rfl, unhide HI0⟩
      case round =>
        obtain ⟨j, ρ1, iv1, m11, Ln, x, hj, rfl, rfl, hK⟩ := hrel
        by_cases hlt4 : j < 4
        · obtain ⟨ia, ic, rfl⟩ := ownsRow_len hK.law.kI.row
          obtain ⟨ma, mc, rfl⟩ := ownsRow_len hK.law.kI.ms
          have hNl : (Li ++ Ln).length ≤ 10000010 := by rw [List.length_append, hK.len]; omega
          have hxn : x.n ≤ 1010 := by have := hK.xn; omega
          have q2 : wr.cell? ⟨wb, 2, none⟩ = some (.slice ia (Li ++ Ln).length ic) := cell_of hK.law.blk 2
          have q4 : wr.cell? ⟨wb, 4, none⟩ = some (.slice ma (Li ++ Ln).length mc) := cell_of hK.law.blk 4
          have p2 := frozen_of hK.law.blk 2
          have p4 := frozen_of hK.law.blk 4
          have hwr := lt_of_heap hK.law.blk
          have n1 : Hid ((Value.slice ia (Li ++ Ln).length ic).ownBlock ≠ some wb) := fun e => by have := hK.law.tI wb e; have := hK.law.tag; omega
          have n2 : Hid ((Value.slice ma (Li ++ Ln).length mc).ownBlock ≠ some wb) := fun e => by have := hK.law.t1 wb e; have := hK.law.tag; omega
          have HK := hide hK
          clear hK HI0
          generalize hNN : (Li ++ Ln).length = N at *
          have HNN := hide hNN
          have HB := hide (unhide HK).law.blk
          clear hNN
          go_wp2_with (at_builtin; go_must (refine wpList_append_stands _ rfl _ _ _ rfl 0 34 i5 _ 1 24 Tryz.underlying32 hi5 y50 y51 y52 rfl (by omega) _ N ((Li ++ Ln).map entV) rfl ?own ⟨wr.heap.size, 0, none⟩ 1 1 [.slice x.a x.n x.cap] rfl rfl ?news ?one (by omega) ?h63 ?bytes (Nat.zero_le _) ?next))
          case own => have := (unhide HK).law.kI.row.alloc (.cells #[.slice x.a x.n x.cap] 34); rw [unhide HNN] at this; exact this
          case news => exact World.news_of_block (cs := #[.slice x.a x.n x.cap]) (heap_alloc_new wr _)
          case one => simp [Value.oneCell']
          case h63 => unfold maxLen; omega
          case bytes => omega
          case next =>
            intro g1 c1 B1 hown1 hgrow1 hat1 hlt1 hst1
            have F1 := field_append (f := 2) (v := .slice ia N ic) (unhide HB) (unhide n1) hown1 hgrow1 (by simpa using hat1)
            have z2 : B1.cell? ⟨wb, 2, none⟩ = some (.slice ia N ic) := (hgrow1.cell_far _ (by simp; omega) (fun e => unhide n1 e.symm)).trans ((World.cell?_of_block (w := wr) (Below.heap_alloc _ _ _ hwr)).trans q2)
            have z4 : B1.cell? ⟨wb, 4, none⟩ = some (.slice ma N mc) := (hgrow1.cell_far _ (by simp; omega) (fun e => unhide n1 e.symm)).trans ((World.cell?_of_block (w := wr) (Below.heap_alloc _ _ _ hwr)).trans q4)
            have zf2 : B1.frozen? ⟨wb, 2, none⟩ = false := (hgrow1.frozen_far _ (by simp; omega) (fun e => unhide n1 e.symm)).trans ((World.frozen?_of_block (w := wr) (Below.heap_alloc _ _ _ hwr)).trans p2)
            have zf4 : B1.frozen? ⟨wb, 4, none⟩ = false := (hgrow1.frozen_far _ (by simp; omega) (fun e => unhide n1 e.symm)).trans ((World.frozen?_of_block (w := wr) (Below.heap_alloc _ _ _ hwr)).trans p4)
            have HF1 := hide F1
            have zB1 := hgrow1.size
            simp at zB1
            have sC1 : (B1.setCell ⟨wb, 2, none⟩ (.slice (some ⟨g1, 0, none⟩) (N + 1) c1)).heap.size = B1.heap.size := by simp [World.setCell]
            have HO2 : Hid ((B1.setCell ⟨wb, 2, none⟩ (.slice (some ⟨g1, 0, none⟩) (N + 1) c1)).ownsRow 0 3 1 (.slice ma N mc) N ((Li ++ Ln).map entM)) := by
              have := (unhide HK).law.kI.ms
              rw [unhide HNN] at this
              refine ownsRow_of_block this fun k hk => F1.2.2.1.block k (this.lt k hk).2 ?_
              rintro (e | e)
              · exact unhide n2 (e ▸ hk)
              · have a := (unhide HK).law.tI k e; have b := (unhide HK).law.t1 k hk; omega
            have HO3 : Hid ((B1.setCell ⟨wb, 2, none⟩ (.slice (some ⟨g1, 0, none⟩) (N + 1) c1)).ownsRow 0 3 1 (entV x) x.n (repP patI x.m x.n)) := by
              refine ownsRow_of_block (unhide HK).row fun k hk => F1.2.2.1.block k ((unhide HK).row.lt k hk).2 ?_
              have c := (unhide HK).xt k hk
              rintro (e | e)
              · have := (unhide HK).law.tag; rw [e] at c; omega
              · have a := (unhide HK).law.tI k e; omega
            have HW2 : Hid (((B1.setCell ⟨wb, 2, none⟩ (.slice (some ⟨g1, 0, none⟩) (N + 1) c1)).alloc (.cells #[.int .i64 m] 3)).heap[B1.heap.size]? = some (.cells #[.int .i64 m] 3 (0, 0))) := by
              have := heap_alloc_new (B1.setCell ⟨wb, 2, none⟩ (.slice (some ⟨g1, 0, none⟩) (N + 1) c1)) (.cells #[.int .i64 m] 3)
              rw [sC1] at this
              exact this
            clear F1 hown1 hgrow1 hat1 hst1 q2 q4 p2 p4
            go_wp2_with (at_builtin; go_must (refine wpList_append_stands _ rfl _ _ _ rfl 0 3 i3 _ 1 8 Tryz.underlying34 hi3 y30 y31 y32 rfl (by omega) _ N ((Li ++ Ln).map entM) rfl ?own2 ⟨B1.heap.size, 0, none⟩ 1 1 [.int .i64 m] rfl rfl ?news2 ?one2 (by omega) ?h632 ?bytes2 (Nat.zero_le _) ?next2))
            case own2 => exact (unhide HO2).alloc _
            case news2 => exact World.news_of_block (cs := #[.int .i64 m]) (unhide HW2)
            case one2 => simp [Value.oneCell']
            case h632 => unfold maxLen; omega
            case bytes2 => omega
            case next2 =>
              intro g2 c2 B2 hown2 hgrow2 hat2 hlt2 hst2
              have F2 := field_append (W := (B1.setCell ⟨wb, 2, none⟩ (.slice (some ⟨g1, 0, none⟩) (N + 1) c1))) (f := 4) (v := .slice ma N mc) (unhide HF1).1 (unhide n2) hown2 hgrow2 (by simpa [World.setCell] using hat2)
              have w1 := lt_of_heap (unhide HF1).1
              have y4 : B2.cell? ⟨wb, 4, none⟩ = some (.slice ma N mc) := (hgrow2.cell_far _ (by simp [World.setCell]; omega) (fun e => unhide n2 e.symm)).trans ((World.cell?_of_block (w := (B1.setCell ⟨wb, 2, none⟩ (.slice (some ⟨g1, 0, none⟩) (N + 1) c1))) (Below.heap_alloc _ _ _ w1)).trans (cell_of (unhide HF1).1 4))
              have yf4 : B2.frozen? ⟨wb, 4, none⟩ = false := (hgrow2.frozen_far _ (by simp [World.setCell]; omega) (fun e => unhide n2 e.symm)).trans ((World.frozen?_of_block (w := (B1.setCell ⟨wb, 2, none⟩ (.slice (some ⟨g1, 0, none⟩) (N + 1) c1))) (Below.heap_alloc _ _ _ w1)).trans (frozen_of (unhide HF1).1 4))
              have HF2 := hide F2
              have sC2 : (B2.setCell ⟨wb, 4, none⟩ (.slice (some ⟨g2, 0, none⟩) (N + 1) c2)).heap.size = B2.heap.size := by simp [World.setCell]
              have HO4 : Hid ((B2.setCell ⟨wb, 4, none⟩ (.slice (some ⟨g2, 0, none⟩) (N + 1) c2)).ownsRow 0 3 1 (entV x) x.n (repP patI x.m x.n)) := by
                refine ownsRow_of_block (unhide HO3) fun k hk => F2.2.2.1.block k ((unhide HO3).lt k hk).2 ?_
                have c := (unhide HK).xt k hk
                rintro (e | e)
                · have := (unhide HK).law.tag; rw [e] at c; omega
                · have a := (unhide HK).law.t1 k e; omega
              have HW3 : Hid (((B2.setCell ⟨wb, 4, none⟩ (.slice (some ⟨g2, 0, none⟩) (N + 1) c2)).alloc (.cells #[.int .i64 m] 3)).heap[B2.heap.size]? = some (.cells #[.int .i64 m] 3 (0, 0))) := by
                have := heap_alloc_new (B2.setCell ⟨wb, 4, none⟩ (.slice (some ⟨g2, 0, none⟩) (N + 1) c2)) (.cells #[.int .i64 m] 3)
                rw [sC2] at this
                exact this
              clear F2 hown2 hgrow2 hat2 hst2 z2 z4 zf2 zf4
              go_wp2_with (at_builtin; go_must (refine wpList_append_stands _ rfl _ _ _ rfl 0 3 i3 _ 1 8 Tryz.underlying34 hi3 y30 y31 y32 rfl (by omega) _ x.n (repP patI x.m x.n) rfl ?own3 ⟨B2.heap.size, 0, none⟩ 1 1 [.int .i64 m] rfl rfl ?news3 ?one3 (by omega) ?h633 ?bytes3 (Nat.zero_le _) ?next3))
              case own3 => exact (unhide HO4).alloc _
              case news3 => exact World.news_of_block (cs := #[.int .i64 m]) (unhide HW3)
              case one3 => simp [Value.oneCell']
              case h633 => unfold maxLen; omega
              case bytes3 => omega
              case next3 =>
                intro g3 c3 D hown3 hgrow3 hat3 hlt3 hst3
                have L3 := list_append hgrow3 hst3 (by simpa [World.setCell] using hat3)
                have hxm := (unhide HK).xm
                obtain ⟨ρ2, hstep⟩ := (unhide HK).step (by omega) (by rw [unhide HNN]; omega) (N := N + 1) (by rw [unhide HNN]) (unhide HF1).1 (by rw [List.map_append, List.append_assoc]; exact (unhide HF1).2.1) (unhide HF1).2.2.1 (unhide HF1).2.2.2.1 (unhide HF2).1 (by have := (unhide HF2).2.1; rw [← hxm] at this; rw [List.map_append, List.append_assoc]; exact this) (unhide HF2).2.2.1 (unhide HF2).2.2.2.1 (by rw [← hxm] at hown3; exact hown3) L3.1 L3.2.1 L3.2.2
                have HStep := hide hstep
                clear hstep L3 hown3 hgrow3 hat3 hst3 hxm
                go_wp2
                go_roundw
                case rel => exact ⟨j + 1, ρ2, _, _, _, ⟨some ⟨g3, 0, none⟩, x.n + 1, c3, x.m⟩, by omega, by go_num, rfl, unhide HStep⟩
                case measure => simp [intOf]; omega
        · have HK := hide hK
          have e4 : Hid (j = 4) := by (unfold Hid; omega)
          clear hK
          go_wp2
          have hK := unhide HK
          refine bodyPost_ret (v := .tuple #[]) (by simp [results, Tryz.results58, go_sem]) rfl ⟨rfl, ρ1, iv1, m11, Ln, hK.law, by rw [hK.len, unhide e4], hK.e1, hK.e2, hK.fits, hK.keeps, hK.e3⟩

end Go.Proofs.YtpnkmnmchdabkaaGreat
