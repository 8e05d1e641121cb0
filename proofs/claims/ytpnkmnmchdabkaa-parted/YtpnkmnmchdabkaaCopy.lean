import Derived.Test.YtpnkmnmchdabkaaRep
import Derived.Deep.DeepMust
import Derived.Deep.RegionLaw
import Derived.Deep.DrawnRows
namespace Go.Proofs.Ytpnkmnmchdabkaa
open Go.RowKit
attribute [local go_sem ↓] Go.wp_at_zero Go.wp_at_succ

theorem info3 : (Try.prog.info? 3).map (fun i => (i.zero, i.size, i.bytes)) = some (some (.int .i64 0), 1, 8) := by kernel_rfl

theorem take_map_succ (l : List Int) (k : Nat) (hk : k < l.length) : ((l.take (k + 1)).map (Value.int .i64)) = (l.take k).map (Value.int .i64) ++ [.int .i64 l[k]] := by
  rw [List.take_succ_eq_append_getElem hk, List.map_append]; rfl

/-- A row of five cells, all of them written. -/
def set5 (w : World) (b : Nat) (v0 v1 v2 v3 v4 : Value) : World :=
  ((((w.setCell ⟨b, 0, none⟩ v0).setCell ⟨b, 1, none⟩ v1).setCell ⟨b, 2, none⟩ v2).setCell ⟨b, 3, none⟩ v3).setCell ⟨b, 4, none⟩ v4
theorem set5_heap {w : World} {b : Nat} {u0 u1 u2 u3 u4 : Value} {e : TypeId} (h : w.heap[b]? = some (.cells #[u0, u1, u2, u3, u4] e (0, 0))) (v0 v1 v2 v3 v4 : Value) :
    (set5 w b v0 v1 v2 v3 v4).heap[b]? = some (.cells #[v0, v1, v2, v3, v4] e (0, 0)) := by
  unfold set5
  have h := heap_setCell_same (i := 0) h v0
  have h := heap_setCell_same (i := 1) h v1
  have h := heap_setCell_same (i := 2) h v2
  have h := heap_setCell_same (i := 3) h v3
  have h := heap_setCell_same (i := 4) h v4
  rw [h]
  simp
theorem set5_other {w : World} {b k : Nat} (hk : k ≠ b) (v0 v1 v2 v3 v4 : Value) : (set5 w b v0 v1 v2 v3 v4).heap[k]? = w.heap[k]? := by
  unfold set5
  rw [Below.heap_setCell _ _ _ _ hk, Below.heap_setCell _ _ _ _ hk, Below.heap_setCell _ _ _ _ hk, Below.heap_setCell _ _ _ _ hk, Below.heap_setCell _ _ _ _ hk]
theorem set5_below {B : Nat} {a w : World} {b : Nat} (h : Below B a w) (hb : B ≤ b) (v0 v1 v2 v3 v4 : Value) : Below B a (set5 w b v0 v1 v2 v3 v4) :=
  ((((h.setCell (p := ⟨b, 0, none⟩) hb _).setCell (p := ⟨b, 1, none⟩) hb _).setCell (p := ⟨b, 2, none⟩) hb _).setCell (p := ⟨b, 3, none⟩) hb _).setCell (p := ⟨b, 4, none⟩) hb _
theorem load5 {w : World} {b : Nat} {v0 v1 v2 v3 v4 : Value} {e : TypeId} {f : Nat × Nat} (h : w.heap[b]? = some (.cells #[v0, v1, v2, v3, v4] e f)) :
    w.cell? ⟨b, 0, none⟩ = some v0 ∧ w.cell? ⟨b, 1, none⟩ = some v1 ∧ w.cell? ⟨b, 2, none⟩ = some v2 ∧ w.cell? ⟨b, 3, none⟩ = some v3 ∧ w.cell? ⟨b, 4, none⟩ = some v4 :=
  ⟨cell_of h 0, cell_of h 1, cell_of h 2, cell_of h 3, cell_of h 4⟩

/-- What copyParents leaves: a list of its own. -/
def CopyPost (w : World) (par : List Int) (e : Ending) (w' : World) : Prop :=
  ∃ g cap, e = .returned (.slice (some ⟨g, 0, none⟩) par.length cap) ∧ w'.ownsRow w.heap.size 3 1 (.slice (some ⟨g, 0, none⟩) par.length cap) par.length (par.map (Value.int .i64)) ∧ Below w.heap.size w w'

set_option maxRecDepth 100000 in
set_option maxHeartbeats 2000000 in
theorem copyParents_any (b o : Nat) (par : List Int) (pcap : Nat) (pa : Option Addr) (w : World) (hp : par.length ≤ 2) (hb : b < w.heap.size)
    (c3 : w.cell? ⟨b, o + 3, none⟩ = some (.slice pa par.length pcap))
    (hpar : ∀ j (hj : j < par.length), ∃ pb, pa = some ⟨pb, 0, none⟩ ∧ pb < w.heap.size ∧ w.cell? ⟨pb, j, none⟩ = some (.int .i64 par[j])) :
    Calls Try.prog 106 #[.pointer (some ⟨b, o, none⟩)] w (CopyPost w par) := by
  obtain ⟨i0, hi0, hz0, hz1, hz2⟩ := info_parts info3
  have HP := hide hpar
  clear hpar
  go_enter Try.func106, Try.ntmps106
  go_wp2_with (at_make; refine wpList_make_own _ rfl _ _ 63 rfl w.heap.size 3 i0 _ 1 Try.underlying63 hi0 hz0 hz1 _ _ _ par.length rfl rfl rfl ?bytes ?maxLen ?base ?mk)
  case bytes => rw [hz2]; omega
  case maxLen => unfold maxLen; omega
  case base => simp
  case mk =>
    intro w1 hown hgrow
    have hB : Below w.heap.size w w1 := (Below.refl _ w).grown hgrow (by simp) (fun k h => by cases h)
    have hsz : w.heap.size < w1.heap.size := by
      have := (hown.lt _ rfl).2
      simpa using this
    have k3 := (hB.cell (p := ⟨b, o + 3, none⟩) hb).trans c3
    have HO := hide hown
    have HB := hide hB
    clear hown hgrow hB
    go_wp2
    clear k3
    go_loopw [3, 4] (fun p i wr => ∃ k g cap : Nat, k ≤ par.length ∧ i = .int .i64 k ∧ p = .slice (some ⟨g, 0, none⟩) k cap ∧ wr.ownsRow w.heap.size 3 1 (.slice (some ⟨g, 0, none⟩) k cap) k ((par.take k).map (Value.int .i64)) ∧ Below w.heap.size w wr) (fun _ i _ => par.length - (intOf i).toNat)
    case atStart => exact ⟨0, _, _, Nat.zero_le _, rfl, rfl, unhide HO, unhide HB⟩
    case round =>
      obtain ⟨k, g, cap, hk, rfl, rfl, hown, hB⟩ := hrel
      have k3 := (hB.cell (p := ⟨b, o + 3, none⟩) hb).trans c3
      by_cases hlt : k < par.length
      · obtain ⟨pb, hpa, hpb, hc⟩ := unhide HP k hlt
        subst hpa
        have hck := (hB.cell (p := ⟨pb, k, none⟩) hpb).trans hc
        have HOw := hide hown
        have HBw := hide hB
        have hgl := (hown.lt g rfl)
        have HGL := hide hgl
        have hwr := hB.size
        clear hc hown hB hgl
        go_wp2_with (at_builtin; go_must (refine wpList_append_lies _ rfl _ _ _ rfl w.heap.size 3 i0 _ 1 8 Try.underlying63 hi0 hz0 hz1 hz2 rfl (by omega) _ k ((par.take k).map (Value.int .i64)) rfl ?own ⟨wr.heap.size, 0, none⟩ 1 1 [.int .i64 par[k]] rfl rfl ?news ?one (by omega) ?h63 ?bytes ?base wr.heap.size.succ ?hH ?next))
        case own => exact (unhide HOw).alloc _
        case news => exact World.news_of_block (cs := #[.int .i64 par[k]]) (heap_alloc_new wr _)
        case one => intro u hu; simp at hu; subst hu; rfl
        case h63 => unfold maxLen; omega
        case bytes => omega
        case base => have := (unhide HGL).2; simp; omega
        case hH => simp
        case next =>
          intro g2 cap2 w2 hown2 hgrow2 hat hlt2
          have hB2 : Hid (Below w.heap.size w w2) := ((unhide HBw).alloc hwr _).grown hgrow2 (by simp; omega) (fun q h => by simp [Value.ownBlock] at h; have := (unhide HGL).1; omega)
          have HN := hide hown2
          clear hown2 hgrow2 hat
          go_wp2
          go_roundw
          case rel =>
            refine ⟨k + 1, g2, cap2, by omega, by go_num, rfl, ?_, unhide hB2⟩
            rw [take_map_succ par k hlt, List.map_take]; exact unhide HN
          case measure => simp [intOf]; omega
      · have hkl : k = par.length := by omega
        subst hkl
        rw [List.take_length] at hown
        have HOw := hide hown
        have HBw := hide hB
        clear hown hB c3 HP HO HB
        go_wp2
        go_ret
        exact ⟨g, cap, rfl, unhide HOw, unhide HBw⟩

end Go.Proofs.Ytpnkmnmchdabkaa
