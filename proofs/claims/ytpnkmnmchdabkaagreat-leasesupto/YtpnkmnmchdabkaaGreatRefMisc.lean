import Derived.Test.YtpnkmnmchdabkaaGreatM23
namespace Go.Proofs.YtpnkmnmchdabkaaGreat
open Go.RowKit
attribute [local go_sem ↓] Go.wp_at_zero Go.wp_at_succ

set_option maxRecDepth 100000 in
set_option maxHeartbeats 2000000 in
theorem refLease_any {w : World} {ρ : Nat → Nat} {yb : Nat} {C : Cfg} {time : Int} {rs : List Rf} {P : List Pt} {wv : Wks} {fv sv lv : Value} (h : RefAt w ρ yb C time rs P wv fv sv lv) (hpos : 0 < rs.length) (n : Int) :
    (∀ (k : Nat) (r : Rf), n = k → rs[k]? = some r → Calls Tryz.prog 68 #[.pointer (some ⟨yb, 0, none⟩), .int .i64 n] w fun e w' => e = .returned (.tuple #[.agg #[.int .i64 r.own, .int .i64 r.ctr, .int .i64 r.lep], .int .i64 0]) ∧ Below w.heap.size w w') ∧
    (¬ (0 ≤ n ∧ n < rs.length) → Calls Tryz.prog 68 #[.pointer (some ⟨yb, 0, none⟩), .int .i64 n] w fun e w' => e = .returned (.tuple #[.agg #[.int .i64 0, .int .i64 0, .int .i64 0], .int .i64 5]) ∧ Below w.heap.size w w') := by
  obtain ⟨sb, cap, rfl, hsb, _, _, hcell⟩ := h.shards hpos
  have c7 : w.cell? ⟨yb, 7, none⟩ = some (.slice (some ⟨sb, 0, none⟩) rs.length cap) := cell_of h.blk 7
  have hyb := lt_of_heap h.blk
  have HT : Hid (∀ W, W.cell? ⟨yb, 7, none⟩ = some (.slice (some ⟨sb, 0, none⟩) rs.length cap) → Calls Tryz.prog 49 #[.pointer (some ⟨yb, 0, none⟩), .int .i64 n] W fun e w' => e = .returned (.bool (decide (0 ≤ n ∧ n < (rs.length : Int)))) ∧ W = w') := fun W hc => refThere_any yb rs.length cap (some ⟨sb, 0, none⟩) n W hc
  refine ⟨?_, ?_⟩
  · rintro k r rfl hr
    have hk := (List.getElem?_eq_some_iff.1 hr).1
    have e4 : w.cell? ⟨sb, k * 9 + 4, none⟩ = some (.int .i64 r.own) := hcell k r hr 4 (by omega)
    have e5 : w.cell? ⟨sb, k * 9 + 5, none⟩ = some (.int .i64 r.ctr) := hcell k r hr 5 (by omega)
    have e6 : w.cell? ⟨sb, k * 9 + 6, none⟩ = some (.int .i64 r.lep) := hcell k r hr 6 (by omega)
    have hd : decide (0 ≤ (k : Int) ∧ (k : Int) < (rs.length : Int)) = true := by simp; omega
    rw [hd] at HT
    clear h hcell hd
    go_enter Tryz.func68, Tryz.ntmps68
    go_wp2_with (go_at_call 49; refine (unhide HT _ ((World.cell?_of_block (w := w) (Below.heap_alloc _ _ _ hyb)).trans c7)).mono ?_; rintro e w1 ⟨rfl, rfl⟩)
    refine bodyPost_ret (v := .tuple #[.agg #[.int .i64 r.own, .int .i64 r.ctr, .int .i64 r.lep], .int .i64 0]) ?_ rfl ⟨rfl, (Below.refl _ w).alloc (Nat.le_refl _) _⟩
    simp [results, Tryz.results68, go_sem]
  · intro hn
    have hd : decide (0 ≤ n ∧ n < (rs.length : Int)) = false := by simpa using hn
    rw [hd] at HT
    clear h hcell hd hn
    go_enter Tryz.func68, Tryz.ntmps68
    go_wp2_with (go_at_call 49; refine (unhide HT _ ((World.cell?_of_block (w := w) (Below.heap_alloc _ _ _ hyb)).trans c7)).mono ?_; rintro e w1 ⟨rfl, rfl⟩)
    refine bodyPost_ret (v := .tuple #[.agg #[.int .i64 0, .int .i64 0, .int .i64 0], .int .i64 5]) ?_ rfl ⟨rfl, (Below.refl _ w).alloc (Nat.le_refl _) _⟩
    simp [results, Tryz.results68, go_sem]

theorem Wks.get_setH {x : Wks} {i : Nat} {y : Wk} (hy : x.l[i]? = some y) (hs : List Hd) (hv : Value) : (x.setH i y hs hv).l[i]? = some { y with hs := hs, hv := hv } := by
  have := (List.getElem?_eq_some_iff.1 hy).1
  simp [Wks.setH, this]

set_option maxRecDepth 100000 in
set_option maxHeartbeats 2000000 in
theorem refCrash_any {w : World} {ρ : Nat → Nat} {yb : Nat} {C : Cfg} {time : Int} {rs : List Rf} {P : List Pt} {wv : Wks} {fv sv lv : Value} (h : RefAt w ρ yb C time rs P wv fv sv lv) (hf : Fits w ρ) (i : Nat) (y : Wk) (hy : wv.l[i]? = some y) :
    Calls Tryz.prog 66 #[.pointer (some ⟨yb, 0, none⟩), .int .i64 i] w fun e w' => e = .returned (.int .i64 0) ∧ RefPost w ρ yb C time rs P { wv with l := wv.l.set i ⟨[], .slice none 0 0, [], .slice none 0 0⟩ } fv w' := by
  have hi := (List.getElem?_eq_some_iff.1 hy).1
  obtain ⟨vb, vc, hv, _, hvb, hvf, ch, cn⟩ := h.wk.shape hy
  have c8 : w.cell? ⟨yb, 8, none⟩ = some wv.v := cell_of h.blk 8
  rw [hv] at c8
  have f0 := hvf (i * 2)
  have f1 := hvf (i * 2 + 1)
  have HW := hide (refWorks_any yb wv.l.length vc (some ⟨vb, 0, none⟩) i w c8)
  have HP : Hid (RefPost w ρ yb C time rs P { wv with l := wv.l.set i ⟨[], .slice none 0 0, [], .slice none 0 0⟩ } fv ((w.setCell ⟨vb, i * 2, none⟩ (.slice none 0 0)).setCell ⟨vb, i * 2 + 1, none⟩ (.slice none 0 0))) := by
    obtain ⟨ρ1, sv1, lv1, R1, k1, x1, f1⟩ := h.setHolds hf hy hv [] (.slice none 0 0) (World.ownsRow_nil _ _ _ _) (Keeps.refl _ w) (fun k hk => by simp [Value.ownBlock] at hk)
    have hy1 := Wks.get_setH hy [] (.slice none 0 0)
    have hv1 : (wv.setH i y [] (.slice none 0 0)).v = .slice (some ⟨vb, 0, none⟩) (wv.setH i y [] (.slice none 0 0)).l.length vc := by simp [Wks.setH, hv]
    have p2 := R1.setNotes f1 hy1 hv1 [] (.slice none 0 0) (World.ownsRow_nil _ _ _ _) (Keeps.refl _ _) (fun k hk => by simp [Value.ownBlock] at hk)
    have := RefPost.trans k1 x1 p2
    simp only [Wks.setN, Wks.setH, List.set_set] at this
    exact this
  have hd : decide (0 ≤ (i : Int) ∧ (i : Int) < (wv.l.length : Int)) = true := by simp; omega
  rw [hd] at HW
  clear h hf hv hvf hd
  go_enter Tryz.func66, Tryz.ntmps66
  go_wp2_with (go_at_call 79; refine (unhide HW).mono ?_; rintro e w1 ⟨rfl, rfl⟩)
  go_ret
  exact ⟨rfl, unhide HP⟩

/-- The first hold for a shard. -/
def firstOf : List Hd → Int → Option Hd
  | [], _ => none
  | h :: r, k => if h.sh = k then some h else firstOf r k
theorem ixOf_first (hs : List Hd) (k : Int) (n : Nat) : (firstOf hs k = none → ixOf hs k n = -1) ∧ (∀ x, firstOf hs k = some x → ∃ j, hs[j]? = some x ∧ ixOf hs k n = (n + j : Nat)) := by
  induction hs generalizing n with
  | nil => exact ⟨fun _ => rfl, fun x hx => by cases hx⟩
  | cons h r ih =>
    by_cases hk : h.sh = k
    · refine ⟨fun e => by simp [firstOf, hk] at e, fun x hx => ?_⟩
      simp [firstOf, hk] at hx
      subst hx
      exact ⟨0, rfl, by simp [ixOf, hk]⟩
    · refine ⟨fun e => ?_, fun x hx => ?_⟩
      · simp only [firstOf, if_neg hk] at e
        simp only [ixOf, if_neg hk]
        exact (ih (n + 1)).1 e
      · simp only [firstOf, if_neg hk] at hx
        obtain ⟨j, h1, h2⟩ := (ih (n + 1)).2 x hx
        refine ⟨j + 1, by simpa using h1, ?_⟩
        simp only [ixOf, if_neg hk]
        rw [h2]
        congr 1
        omega
/-- The holds by the numbers of the shards. -/
def byShard (hs : List Hd) (n : Nat) : List Hd := (List.range n).filterMap (fun k : Nat => firstOf hs (k : Int))
theorem byShard_succ (hs : List Hd) (n : Nat) : byShard hs (n + 1) = byShard hs n ++ (match firstOf hs n with | none => [] | some x => [x]) := by
  unfold byShard
  rw [List.range_succ, List.filterMap_append]
  congr 1
  simp only [List.filterMap_cons, List.filterMap_nil]
  cases firstOf hs n <;> rfl
theorem byShard_le (hs : List Hd) (n : Nat) : (byShard hs n).length ≤ n := by
  have := List.length_filterMap_le (fun k : Nat => firstOf hs (k : Int)) (List.range n)
  simpa [byShard] using this

theorem firstOf_in {hs : List Hd} {k : Int} {x : Hd} (h : firstOf hs k = some x) : x ∈ hs ∧ x.sh = k := by
  induction hs with
  | nil => cases h
  | cons a r ih =>
    by_cases hk : a.sh = k
    · simp [firstOf, hk] at h
      subst h
      exact ⟨by simp, hk⟩
    · simp only [firstOf, if_neg hk] at h
      exact ⟨List.mem_cons_of_mem _ (ih h).1, (ih h).2⟩

set_option maxRecDepth 100000 in
set_option maxHeartbeats 4000000 in
theorem refHolds_any {w : World} {ρ : Nat → Nat} {yb : Nat} {C : Cfg} {time : Int} {rs : List Rf} {P : List Pt} {wv : Wks} {fv sv lv : Value} (h : RefAt w ρ yb C time rs P wv fv sv lv) (hpos : 0 < rs.length) (hrs : rs.length ≤ 16) (i : Nat) (y : Wk) (hy : wv.l[i]? = some y) (hl : y.hs.length ≤ 1000) :
    Calls Tryz.prog 73 #[.pointer (some ⟨yb, 0, none⟩), .int .i64 i] w fun e w' => ∃ v, e = .returned (.tuple #[v, .int .i64 0]) ∧ w'.ownsRow w.heap.size 102 4 v (byShard y.hs rs.length).length (rowHd (byShard y.hs rs.length)) ∧ Below w.heap.size w w' := by
  have hi := (List.getElem?_eq_some_iff.1 hy).1
  obtain ⟨vb, vc, hv, _, hvb, hvf, ch, _⟩ := h.wk.shape hy
  have c8 : w.cell? ⟨yb, 8, none⟩ = some wv.v := cell_of h.blk 8
  rw [hv] at c8
  have hyb := lt_of_heap h.blk
  obtain ⟨ha, hc, hhv, hcell⟩ := h.holdsAt hy
  rw [hhv] at ch
  obtain ⟨i0, hi0, hz0, hz1, hz2⟩ := info_parts infoHold
  have HC := hide hcell
  have HH : Hid (∀ W (k : Int), Below w.heap.size w W → Calls Tryz.prog 80 #[.pointer (some ⟨yb, 0, none⟩), .int .i64 i, .int .i64 k] W fun e w' => e = .returned (.int .i64 (ixOf y.hs k 0)) ∧ W = w') := fun W k hb => refHold_any (h.keeps (Keeps.of_below hb) (fun _ hk => Or.inr hk) (fun _ _ => rfl)) i y hy hl k
  obtain ⟨sb, cap, rfl, _⟩ := h.shards hpos
  have c7 : w.cell? ⟨yb, 7, none⟩ = some (.slice (some ⟨sb, 0, none⟩) rs.length cap) := cell_of h.blk 7
  have HW := hide (refWorks_any yb wv.l.length vc (some ⟨vb, 0, none⟩) i w c8)
  have hd : decide (0 ≤ (i : Int) ∧ (i : Int) < (wv.l.length : Int)) = true := by simp; omega
  rw [hd] at HW
  clear h hcell hhv hv hd hvf
  go_enter Tryz.func73, Tryz.ntmps73
  go_wp2_with (go_at_call 79; refine (unhide HW).mono ?_; rintro e w1 ⟨rfl, rfl⟩)
  go_loopw [7, 8] (fun p q wr => ∃ (j cp : Nat) (a : Option Addr), j ≤ rs.length ∧ q = .int .i64 j ∧ p = .slice a (byShard y.hs j).length cp ∧ wr.ownsRow w.heap.size 102 4 (.slice a (byShard y.hs j).length cp) (byShard y.hs j).length (rowHd (byShard y.hs j)) ∧ Below w.heap.size w wr) (fun _ q _ => rs.length - (intOf q).toNat)
  case atStart => exact ⟨0, 0, none, Nat.zero_le _, rfl, rfl, World.ownsRow_nil _ _ _ _, Below.refl _ _⟩
  case round =>
    obtain ⟨j, cp, a, hj, rfl, rfl, hown, hB⟩ := hrel
    have d7 := (hB.cell (p := ⟨yb, 7, none⟩) hyb).trans c7
    have d8 := (hB.cell (p := ⟨yb, 8, none⟩) hyb).trans c8
    have dh := (hB.cell (p := ⟨vb, i * 2, none⟩) hvb).trans ch
    by_cases hlt : j < rs.length
    · have HS := hide (byShard_succ y.hs j)
      have hle : (byShard y.hs j).length ≤ 16 := by have := byShard_le y.hs j; omega
      have HO := hide hown
      have HB := hide hB
      have hws := hB.size
      have HGL := hide (fun q hq => hown.lt q hq)
      have HI := hide (unhide HH wr j hB)
      cases hfi : firstOf y.hs (j : Int) with
      | none =>
        have hix := (ixOf_first y.hs j 0).1 hfi
        rw [hix] at HI
        have HF := hide hfi
        clear hown hB hfi hix
        go_wp2_with (go_at_call 80; refine (unhide HI).mono ?_; rintro e w1 ⟨rfl, rfl⟩)
        go_roundw
        case rel =>
          refine ⟨j + 1, cp, a, by omega, by go_num, ?_, ?_, unhide HB⟩
          · rw [unhide HS, unhide HF, List.append_nil]
          · rw [unhide HS, unhide HF, List.append_nil]; exact unhide HO
        case measure => simp [intOf]; omega
      | some e =>
        obtain ⟨q, hq, hix⟩ := (ixOf_first y.hs j 0).2 e hfi
        rw [Nat.zero_add] at hix
        rw [hix] at HI
        have hql := (List.getElem?_eq_some_iff.1 hq).1
        obtain ⟨pb, rfl, hpb, _, _, hcc⟩ := unhide HC q e hq
        have hcx : ∀ x, x < 4 → wr.cell? ⟨pb, q * 4 + x, none⟩ = (hdCells e)[x]? := fun x hx => (hB.cell (p := ⟨pb, q * 4 + x, none⟩) hpb).trans (hcc x hx)
        have b0 : wr.cell? ⟨pb, q * 4, none⟩ = some (.int .i64 e.sh) := hcx 0 (by omega)
        have b1 : wr.cell? ⟨pb, q * 4 + 1, none⟩ = some (.int .i64 e.ep) := hcx 1 (by omega)
        have b2 : wr.cell? ⟨pb, q * 4 + 2, none⟩ = some (.int .i64 e.at_) := hcx 2 (by omega)
        have b3 : wr.cell? ⟨pb, q * 4 + 3, none⟩ = some (.int .i64 e.bf) := hcx 3 (by omega)
        have HF := hide hfi
        have hq0 : ¬ ((q : Int) < 0) := by omega
        clear hown hB hfi hix hcc hcx hq
        generalize hFF : byShard y.hs j = F at *
        clear hFF
        go_wp2_with (first | (go_at_call 80; refine (unhide HI).mono ?_; rintro e w1 ⟨rfl, rfl⟩) | (at_builtin; go_must (refine wpList_append_lies _ rfl _ _ _ rfl w.heap.size 102 i0 _ 4 32 Tryz.underlying81 hi0 hz0 hz1 hz2 rfl (by omega) _ F.length (rowHd F) rfl ?own ⟨wr.heap.size, 0, none⟩ 1 1 (hdCells e) rfl rfl ?news ?one (by omega) ?h63 ?bytes ?base (wr.heap.size + 1) ?hH ?next)))
        case own => exact (unhide HO).alloc _
        case news => exact World.news_of_block (cs := #[.int .i64 e.sh, .int .i64 e.ep, .int .i64 e.at_, .int .i64 e.bf]) (heap_alloc_new wr _)
        case one =>
          intro u hu
          simp [hdCells] at hu
          rcases hu with rfl | rfl | rfl | rfl <;> rfl
        case h63 => unfold maxLen; omega
        case bytes => omega
        case base => simp; omega
        case hH => simp
        case next =>
          intro g2 cap2 w2 hown2 hgrow2 hat hlt2
          have hB2 : Hid (Below w.heap.size w w2) := ((unhide HB).alloc hws _).grown hgrow2 (by simp; omega) (fun q hq => (unhide HGL q hq).1)
          have HN := hide hown2
          clear hown2 hgrow2 hat
          go_wp2
          go_roundw
          case rel =>
            refine ⟨j + 1, cap2, some ⟨g2, 0, none⟩, by omega, by go_num, ?_, ?_, unhide hB2⟩
            · rw [unhide HS, unhide HF, List.length_append]; rfl
            · rw [unhide HS, unhide HF, List.length_append, rowHd_append]
              simp only [rowHd, List.append_nil, List.length_cons, List.length_nil]
              exact unhide HN
          case measure => simp [intOf]; omega
    · have ej : j = rs.length := by omega
      subst ej
      have HO := hide hown
      have HB := hide hB
      clear hown hB
      go_wp2
      go_ret2
      exact ⟨_, rfl, unhide HO, unhide HB⟩

end Go.Proofs.YtpnkmnmchdabkaaGreat
