import Derived.Test.YtodfgofcbefmlaaRep
import Derived.Deep.DeepMust
import Derived.Deep.RegionLaw
import Derived.Deep.DrawnRows
namespace Go.Proofs.Ytodfgofcbefmlaa
open Go.RowKit
attribute [local go_sem ↓] Go.wp_at_zero Go.wp_at_succ

theorem info3 : (Try.prog.info? 3).map (fun i => (i.zero, i.size, i.bytes)) = some (some (.int .i64 0), 1, 8) := by kernel_rfl

theorem take_map_succ (l : List Int) (k : Nat) (hk : k < l.length) : ((l.take (k + 1)).map (Value.int .i64)) = (l.take k).map (Value.int .i64) ++ [.int .i64 l[k]] := by
  rw [List.take_succ_eq_append_getElem hk, List.map_append]; rfl

/-- A row of five cells, all of them written. -/
def set5 (w : World) (b : Nat) (v0 v1 v2 v3 v4 : Value) : World :=
  ((((w.setCell ⟨b, 0, none⟩ v0).setCell ⟨b, 1, none⟩ v1).setCell ⟨b, 2, none⟩ v2).setCell ⟨b, 3, none⟩ v3).setCell ⟨b, 4, none⟩ v4
theorem set5_heap {w : World} {b : Nat} {u0 u1 u2 u3 u4 : Value} {e : TypeId} (h : w.heap[b]? = some (.cells #[u0, u1, u2, u3, u4] e (0, 0))) (v0 v1 v2 v3 v4 : Value) :
    (set5 w b v0 v1 v2 v3 v4).heap[b]? = some (.cells #[v0, v1, v2, v3, v4] e (0, 0)) := by
  unfold set5
  have h := heap_setCell_same (i := 0) h v0
  have h := heap_setCell_same (i := 1) h v1
  have h := heap_setCell_same (i := 2) h v2
  have h := heap_setCell_same (i := 3) h v3
  have h := heap_setCell_same (i := 4) h v4
  rw [h]
  simp
theorem set5_other {w : World} {b k : Nat} (hk : k ≠ b) (v0 v1 v2 v3 v4 : Value) : (set5 w b v0 v1 v2 v3 v4).heap[k]? = w.heap[k]? := by
  unfold set5
  rw [Below.heap_setCell _ _ _ _ hk, Below.heap_setCell _ _ _ _ hk, Below.heap_setCell _ _ _ _ hk, Below.heap_setCell _ _ _ _ hk, Below.heap_setCell _ _ _ _ hk]
theorem set5_below {B : Nat} {a w : World} {b : Nat} (h : Below B a w) (hb : B ≤ b) (v0 v1 v2 v3 v4 : Value) : Below B a (set5 w b v0 v1 v2 v3 v4) :=
  ((((h.setCell (p := ⟨b, 0, none⟩) hb _).setCell (p := ⟨b, 1, none⟩) hb _).setCell (p := ⟨b, 2, none⟩) hb _).setCell (p := ⟨b, 3, none⟩) hb _).setCell (p := ⟨b, 4, none⟩) hb _
theorem load5 {w : World} {b : Nat} {v0 v1 v2 v3 v4 : Value} {e : TypeId} {f : Nat × Nat} (h : w.heap[b]? = some (.cells #[v0, v1, v2, v3, v4] e f)) :
    w.cell? ⟨b, 0, none⟩ = some v0 ∧ w.cell? ⟨b, 1, none⟩ = some v1 ∧ w.cell? ⟨b, 2, none⟩ = some v2 ∧ w.cell? ⟨b, 3, none⟩ = some v3 ∧ w.cell? ⟨b, 4, none⟩ = some v4 :=
  ⟨cell_of h 0, cell_of h 1, cell_of h 2, cell_of h 3, cell_of h 4⟩

/-- What tell leaves: a list of its own with the parents. -/
def ToldPost (w : World) (lo hi : Int) (op : Bool) (par : List Int) (cnt : Nat) (e : Ending) (w' : World) : Prop :=
  ∃ g cap, e = .returned (.agg #[.int .i64 lo, .int .i64 hi, .bool op, .slice (some ⟨g, 0, none⟩) par.length cap, .int .i64 cnt]) ∧ w'.ownsRow w.heap.size 3 1 (.slice (some ⟨g, 0, none⟩) par.length cap) par.length (par.map (Value.int .i64)) ∧ Below w.heap.size w w'

set_option maxRecDepth 100000 in
set_option maxHeartbeats 2000000 in
theorem tell_any (b o : Nat) (lo hi : Int) (op : Bool) (par : List Int) (cnt rcap pcap : Nat) (pa ra : Option Addr) (w : World) (hp : par.length ≤ 2) (hb : b < w.heap.size)
    (c0 : w.cell? ⟨b, o, none⟩ = some (.int .i64 lo)) (c1 : w.cell? ⟨b, o + 1, none⟩ = some (.int .i64 hi)) (c2 : w.cell? ⟨b, o + 2, none⟩ = some (.bool op)) (c3 : w.cell? ⟨b, o + 3, none⟩ = some (.slice pa par.length pcap)) (c4 : w.cell? ⟨b, o + 4, none⟩ = some (.slice ra cnt rcap))
    (hpar : ∀ j (hj : j < par.length), ∃ pb, pa = some ⟨pb, 0, none⟩ ∧ pb < w.heap.size ∧ w.cell? ⟨pb, j, none⟩ = some (.int .i64 par[j])) :
    Calls Try.prog 93 #[.pointer (some ⟨b, o, none⟩)] w (ToldPost w lo hi op par cnt) := by
  obtain ⟨i0, hi0, hz0, hz1, hz2⟩ := info_parts info3
  have HP := hide hpar
  clear hpar
  go_enter Try.func93, Try.ntmps93
  go_wp2_with (at_make; refine wpList_make_own _ rfl _ _ 50 rfl (w.heap.size + 1) 3 i0 _ 1 Try.underlying50 hi0 hz0 hz1 _ _ _ par.length rfl rfl rfl ?bytes ?maxLen ?base ?mk)
  case bytes => rw [hz2]; omega
  case maxLen => unfold maxLen; omega
  case base => simp
  case mk =>
    intro w1 hown hgrow
    have hB : Below w.heap.size w w1 := ((Below.refl _ w).alloc (Nat.le_refl _) _).grown hgrow (by simp) (fun k h => by cases h)
    have hR : w1.heap[w.heap.size]? = some (.cells #[.int .i64 0, .int .i64 0, .bool false, .slice none 0 0, .int .i64 0] 82 (0, 0)) := by
      rw [hgrow.block _ (by simp) (by simp)]; exact heap_alloc_new w _
    have hsz : w.heap.size + 1 < w1.heap.size := by
      have := (hown.lt _ rfl).2
      simpa using this
    have k3 := (hB.cell (p := ⟨b, o + 3, none⟩) hb).trans c3
    have HR := hide hR
    have HO := hide hown
    have HB := hide hB
    clear hown hgrow hB hR
    go_wp2
    clear k3
    go_loopw [3, 4] (fun p i wr => ∃ k g cap : Nat, k ≤ par.length ∧ i = .int .i64 k ∧ p = .slice (some ⟨g, 0, none⟩) k cap ∧ wr.ownsRow (w.heap.size + 1) 3 1 (.slice (some ⟨g, 0, none⟩) k cap) k ((par.take k).map (Value.int .i64)) ∧ Below w.heap.size w wr ∧ wr.heap[w.heap.size]? = some (.cells #[.int .i64 0, .int .i64 0, .bool false, .slice none 0 0, .int .i64 0] 82 (0, 0))) (fun _ i _ => par.length - (intOf i).toNat)
    case atStart => exact ⟨0, _, _, Nat.zero_le _, rfl, rfl, unhide HO, unhide HB, unhide HR⟩
    case round =>
      obtain ⟨k, g, cap, hk, rfl, rfl, hown, hB, hR⟩ := hrel
      have k3 := (hB.cell (p := ⟨b, o + 3, none⟩) hb).trans c3
      by_cases hlt : k < par.length
      · obtain ⟨pb, hpa, hpb, hc⟩ := unhide HP k hlt
        subst hpa
        have hck := (hB.cell (p := ⟨pb, k, none⟩) hpb).trans hc
        have HOw := hide hown
        have HBw := hide hB
        have HRw := hide hR
        have hgl := (hown.lt g rfl)
        have HGL := hide hgl
        have hwr := hB.size
        clear hc hown hB hR hgl
        go_wp2_with (at_builtin; go_must (refine wpList_append_lies _ rfl _ _ _ rfl (w.heap.size + 1) 3 i0 _ 1 8 Try.underlying50 hi0 hz0 hz1 hz2 rfl (by omega) _ k ((par.take k).map (Value.int .i64)) rfl ?own ⟨wr.heap.size, 0, none⟩ 1 1 [.int .i64 par[k]] rfl rfl ?news ?one (by omega) ?h63 ?bytes ?base wr.heap.size.succ ?hH ?next))
        case own => exact (unhide HOw).alloc _
        case news => exact World.news_of_block (cs := #[.int .i64 par[k]]) (heap_alloc_new wr _)
        case one => intro u hu; simp at hu; subst hu; rfl
        case h63 => unfold maxLen; omega
        case bytes => omega
        case base => have := (unhide HGL).2; simp; omega
        case hH => simp
        case next =>
          intro g2 cap2 w2 hown2 hgrow2 hat hlt2
          have hB2 : Hid (Below w.heap.size w w2) := ((unhide HBw).alloc hwr _).grown hgrow2 (by simp; omega) (fun q h => by simp [Value.ownBlock] at h; have := (unhide HGL).1; omega)
          have hR2 : Hid (w2.heap[w.heap.size]? = some (.cells #[.int .i64 0, .int .i64 0, .bool false, .slice none 0 0, .int .i64 0] 82 (0, 0))) := by
            have h1 := (unhide HGL).1
            have h2 := (unhide HGL).2
            refine hide ?_
            rw [hgrow2.block _ (by simp; omega) (by simp [Value.ownBlock]; omega), Below.heap_alloc _ _ _ (by omega)]
            exact unhide HRw
          have HN := hide hown2
          clear hown2 hgrow2 hat
          go_wp2
          go_roundw
          case rel =>
            refine ⟨k + 1, g2, cap2, by omega, by go_num, rfl, ?_, unhide hB2, unhide hR2⟩
            rw [take_map_succ par k hlt, List.map_take]; exact unhide HN
          case measure => simp [intOf]; omega
      · have hkl : k = par.length := by omega
        subst hkl
        rw [List.take_length] at hown
        have k0 := (hB.cell (p := ⟨b, o, none⟩) hb).trans c0
        have k1 := (hB.cell (p := ⟨b, o + 1, none⟩) hb).trans c1
        have k2 := (hB.cell (p := ⟨b, o + 2, none⟩) hb).trans c2
        have k4 := (hB.cell (p := ⟨b, o + 4, none⟩) hb).trans c4
        have hfr := fun i => frozen_of hR i
        have r0 := cell_of hR 0
        have r1 := cell_of hR 1
        have r2 := cell_of hR 2
        have r3 := cell_of hR 3
        have r4 := cell_of hR 4
        have hne : b ≠ w.heap.size := by omega
        have hne2 : ¬ w.heap.size = b := by omega
        have HOw := hide hown
        have HBw := hide hB
        have HRw := hide hR
        clear hown hB hR c0 c1 c2 c3 c4 HP HO HB HR
        go_wp2
        go_region_held3 (fun w' => w'.cell? ⟨b, o, none⟩ = some (.int .i64 lo) ∧ w'.cell? ⟨b, o + 1, none⟩ = some (.int .i64 hi) ∧ w'.cell? ⟨b, o + 2, none⟩ = some (.bool op) ∧ w'.cell? ⟨b, o + 4, none⟩ = some (.slice ra cnt rcap)) (go_keep) (fail)
        go_wp2
        have hN := set5_heap (w := wr) (unhide HRw) (.int .i64 lo) (.int .i64 hi) (.bool op) (.slice (some ⟨g, 0, none⟩) par.length cap) (.int .i64 cnt)
        have hBB := set5_below (unhide HBw) (Nat.le_refl _) (.int .i64 lo) (.int .i64 hi) (.bool op) (.slice (some ⟨g, 0, none⟩) par.length cap) (.int .i64 cnt)
        have hOO : (set5 wr w.heap.size (.int .i64 lo) (.int .i64 hi) (.bool op) (.slice (some ⟨g, 0, none⟩) par.length cap) (.int .i64 cnt)).ownsRow w.heap.size 3 1 (.slice (some ⟨g, 0, none⟩) par.length cap) par.length (par.map (Value.int .i64)) := by
          refine ownsRow_base (ownsRow_of_block (unhide HOw) fun q hq => set5_other ?_ _ _ _ _ _) (by omega)
          have := ((unhide HOw).lt q hq).1
          omega
        unfold set5 at hN hBB hOO
        generalize World.setCell _ _ _ = W8 at *
        obtain ⟨m0, m1, m2, m3, m4⟩ := load5 hN
        refine bodyPost_ret (v := .agg #[.int .i64 lo, .int .i64 hi, .bool op, .slice (some ⟨g, 0, none⟩) par.length cap, .int .i64 cnt]) (by simp [results, Try.results93, go_sem, m0, m1, m2, m3, m4]) rfl ?_
        exact ⟨g, cap, rfl, hOO.drew, hBB.drew⟩

end Go.Proofs.Ytodfgofcbefmlaa
