import Derived.Test.YtpnkmnmchdabkaaGreatRefPut
import Derived.Test.YtpnkmnmchdabkaaGreatList
namespace Go.Proofs.YtpnkmnmchdabkaaGreat
open Go.RowKit
attribute [local go_sem ↓] Go.wp_at_zero Go.wp_at_succ

/-- What the document's List tells: its own lists of parents are in it. -/
def refOut (rs : List Rf) (P : List Pt) : List (Sh × Value) := rs.mapIdx (fun i r => (⟨r.lo, r.hi, r.op, r.par, (ofShard P i).length⟩, r.pv))
theorem refOut_len (rs : List Rf) (P : List Pt) : (refOut rs P).length = rs.length := by simp [refOut]
theorem refOut_get {rs : List Rf} {P : List Pt} {i : Nat} {r : Rf} (h : rs[i]? = some r) : (refOut rs P)[i]? = some (⟨r.lo, r.hi, r.op, r.par, (ofShard P i).length⟩, r.pv) := by simp [refOut, h]
theorem refOut_take {rs : List Rf} {P : List Pt} {i : Nat} {r : Rf} (h : rs[i]? = some r) : (refOut rs P).take (i + 1) = (refOut rs P).take i ++ [(⟨r.lo, r.hi, r.op, r.par, (ofShard P i).length⟩, r.pv)] := by
  have h1 := refOut_get (P := P) h
  have hi := (List.getElem?_eq_some_iff.1 h1).1
  rw [List.take_succ_eq_append_getElem hi]
  congr 1
  rw [(List.getElem?_eq_some_iff.1 h1).2]
theorem refOut_tk (rs : List Rf) (P : List Pt) (i : Nat) (h : i ≤ rs.length) : ((refOut rs P).take i).length = i := by rw [List.length_take, refOut_len]; omega

set_option maxHeartbeats 400000 in
theorem refTick_any {w : World} {ρ : Nat → Nat} {yb : Nat} {C : Cfg} {time : Int} {rs : List Rf} {P : List Pt} {wv : Wks} {fv sv lv : Value} (h : RefAt w ρ yb C time rs P wv fv sv lv) (hf : Fits w ρ) :
    Calls Tryz.prog 105 #[.pointer (some ⟨yb, 0, none⟩)] w fun e w' => e = .returned (.tuple #[]) ∧ RefPost w ρ yb C (wrap64 (time + 1)) rs P wv fv w' := by
  have c6 : w.cell? ⟨yb, 6, none⟩ = some (.int .i64 time) := cell_of h.blk 6
  have f6 := frozen_of h.blk 6
  have hk : Keeps (fun k => k = yb) w (w.setCell ⟨yb, 6, none⟩ (.int .i64 (wrap64 (time + 1)))) := (Keeps.refl (fun k => k = yb) w).setCell (p := ⟨yb, 6, none⟩) (Or.inl rfl) _
  have HP : Hid (RefPost w ρ yb C (wrap64 (time + 1)) rs P wv fv (w.setCell ⟨yb, 6, none⟩ (.int .i64 (wrap64 (time + 1))))) := by
    have ok : ∀ {e : TypeId} {size : Nat} {v : Value} {n : Nat} {xs : List Value} {t : Nat}, w.ownsRow 0 e size v n xs → (∀ k, v.ownBlock = some k → ρ k = t) → t ≠ 200 → (w.setCell ⟨yb, 6, none⟩ (.int .i64 (wrap64 (time + 1)))).ownsRow 0 e size v n xs := by
      intro e size v n xs t ho ht h1
      refine ownsRow_keeps ho hk fun k hkk hs => ?_
      subst hs
      have := ht _ hkk; have := h.tag; omega
    refine ⟨ρ, sv, lv, ⟨?_, h.tag, ok h.row h.rowT (by omega), h.rowT, ok h.log h.logT (by omega), h.logT, fun i r hi => ok (h.par i r hi) (h.parT i r hi) (by omega), h.parT, h.wk.same fun k h1 h2 h3 => ⟨hk.block k h1 (fun hs => by subst hs; have := h.tag; omega), rfl⟩⟩, hk.mono (fun k _ e => by subst e; unfold theirs; rw [h.tag]; omega), ExtR.refl hf, fun k hkk => hf k (by simpa [World.setCell] using hkk)⟩
    rw [heap_setCell_same h.blk]; rfl
  clear h hk
  go_enter Tryz.func105, Tryz.ntmps105
  go_wp2
  go_end0
  exact ⟨rfl, unhide HP⟩

theorem load9 {w : World} {b : Nat} {r : Rf} {e : TypeId} {f : Nat × Nat} (h : w.heap[b]? = some (.cells (rfCells r).toArray e f)) :
    w.cell? ⟨b, 0, none⟩ = some (.int .i64 r.lo) ∧ w.cell? ⟨b, 1, none⟩ = some (.int .i64 r.hi) ∧ w.cell? ⟨b, 2, none⟩ = some (.bool r.op) ∧ w.cell? ⟨b, 3, none⟩ = some r.pv :=
  ⟨cell_of h 0, cell_of h 1, cell_of h 2, cell_of h 3⟩

set_option maxRecDepth 100000 in
set_option maxHeartbeats 1000000 in
theorem refList_any {w : World} {ρ : Nat → Nat} {yb : Nat} {C : Cfg} {time : Int} {rs : List Rf} {P : List Pt} {wv : Wks} {fv sv lv : Value} (h : RefAt w ρ yb C time rs P wv fv sv lv) (hP : P.length ≤ 1000000) (hpos : 0 < rs.length) (hrs : rs.length ≤ 16) :
    Calls Tryz.prog 32 #[.pointer (some ⟨yb, 0, none⟩)] w fun e w' => ∃ a cap, e = .returned (.slice a rs.length cap) ∧ w'.ownsRow w.heap.size 100 5 (.slice a rs.length cap) rs.length (listCells (refOut rs P)) ∧ Below w.heap.size w w' := by
  obtain ⟨sb, cap, rfl, hsb, _, _, hcell⟩ := h.shards hpos
  have c7 : w.cell? ⟨yb, 7, none⟩ = some (.slice (some ⟨sb, 0, none⟩) rs.length cap) := cell_of h.blk 7
  have hyb := lt_of_heap h.blk
  obtain ⟨i0, hi0, hz0, hz1, hz2⟩ := info_parts info82
  have HRc : Hid (∀ (wr : World) (k : Nat), Below w.heap.size w wr → Calls Tryz.prog 43 #[.pointer (some ⟨yb, 0, none⟩), .int .i64 k] wr fun e w' => ∃ a cap, e = .returned (.slice a (ofShard P k).length cap) ∧ w'.ownsRow wr.heap.size 144 4 (.slice a (ofShard P k).length cap) (ofShard P k).length (rowPt (ofShard P k)) ∧ Below wr.heap.size wr w') := fun wr k hb =>
    records_any (h.keeps (Keeps.of_below hb) (fun _ hk => Or.inr hk) (fun _ _ => rfl)) hP k
  have HPv : Hid (∀ (i : Nat) (r : Rf), rs[i]? = some r → ∃ pa pc, r.pv = .slice pa r.par.length pc) := fun i r hi => ownsRow_len (h.par i r hi)
  have HC := hide hcell
  have HEx : Hid (∀ j, j < rs.length → ∃ q, rs[j]? = some q) := fun j hj => ⟨rs[j], List.getElem?_eq_getElem hj⟩
  clear h hcell
  go_enter Tryz.func32, Tryz.ntmps32
  go_wp2
  go_loopw [3, 4] (fun p i wr => ∃ (j cap : Nat) (a : Option Addr), j ≤ rs.length ∧ i = .int .i64 j ∧ p = .slice a j cap ∧ wr.ownsRow w.heap.size 100 5 (.slice a j cap) j (listCells ((refOut rs P).take j)) ∧ Below w.heap.size w wr) (fun _ i _ => rs.length - (intOf i).toNat)
  case atStart => exact ⟨0, 0, none, Nat.zero_le _, rfl, rfl, World.ownsRow_nil _ _ _ _, Below.refl _ _⟩
  case round =>
    obtain ⟨j, cap1, a, hj, rfl, rfl, hown, hB⟩ := hrel
    have d7 := (hB.cell (p := ⟨yb, 7, none⟩) hyb).trans c7
    by_cases hlt : j < rs.length
    · obtain ⟨r, hr⟩ := unhide HEx j hlt
      obtain ⟨pa, pc, hpv⟩ := unhide HPv j r hr
      have hc : ∀ i, i < 9 → wr.cell? ⟨sb, j * 9 + i, none⟩ = (rfCells r)[i]? := fun i hi => (hB.cell (p := ⟨sb, j * 9 + i, none⟩) hsb).trans (unhide HC j r hr i hi)
      have b0 : wr.cell? ⟨sb, j * 9, none⟩ = some (.int .i64 r.lo) := hc 0 (by omega)
      have b1 : wr.cell? ⟨sb, j * 9 + 1, none⟩ = some (.int .i64 r.hi) := hc 1 (by omega)
      have b2 : wr.cell? ⟨sb, j * 9 + 2, none⟩ = some (.bool r.op) := hc 2 (by omega)
      have b3 : wr.cell? ⟨sb, j * 9 + 3, none⟩ = some (.slice pa r.par.length pc) := by rw [← hpv]; exact hc 3 (by omega)
      have b4 : wr.cell? ⟨sb, j * 9 + 4, none⟩ = some (.int .i64 r.own) := hc 4 (by omega)
      have b5 : wr.cell? ⟨sb, j * 9 + 5, none⟩ = some (.int .i64 r.ctr) := hc 5 (by omega)
      have b6 : wr.cell? ⟨sb, j * 9 + 6, none⟩ = some (.int .i64 r.lep) := hc 6 (by omega)
      have b7 : wr.cell? ⟨sb, j * 9 + 7, none⟩ = some (.int .i64 r.done) := hc 7 (by omega)
      have b8 : wr.cell? ⟨sb, j * 9 + 8, none⟩ = some (.int .i64 r.ep) := hc 8 (by omega)
      have HTk := hide (refOut_take (P := P) hr)
      have hbox : Below w.heap.size w (wr.alloc (.cells #[.int .i64 r.lo, .int .i64 r.hi, .bool r.op, .slice pa r.par.length pc, .int .i64 r.own, .int .i64 r.ctr, .int .i64 r.lep, .int .i64 r.done, .int .i64 r.ep] 73)) := hB.alloc hB.size _
      have HR1 := hide (unhide HRc _ j hbox)
      have HO := hide hown
      have HB := hide hB
      have HPV := hide hpv
      have hws := hB.size
      have HGL := hide (fun q hq => hown.lt q hq)
      clear hc hr hown hB hbox hpv
      go_wp2_with fail
      refine (unhide HR1).mono ?_
      rintro e w2 ⟨ra, rcap, rfl, _, hb2⟩
      obtain ⟨g1, hB2, hsz2⟩ := below_new hb2
      have e0 := cell_of g1 0
      have e1 := cell_of g1 1
      have e2 := cell_of g1 2
      have e3 := cell_of g1 3
      simp at e0 e1 e2 e3
      have HB2 := hide hB2
      generalize (ofShard P j).length = cn at *
      clear hb2 g1 hB2 b0 b1 b2 b3 b4 b5 b6 b7 b8 d7
      go_wp2_with (at_builtin; go_must (refine wpList_append_lies _ rfl _ _ _ rfl w.heap.size 100 i0 _ 5 56 Tryz.underlying98 hi0 hz0 hz1 hz2 rfl (by omega) _ j (listCells ((refOut rs P).take j)) rfl ?own ⟨w2.heap.size, 0, none⟩ 1 1 (outCells (⟨r.lo, r.hi, r.op, r.par, cn⟩, .slice pa r.par.length pc)) rfl rfl ?news ?one (by omega) ?h63 ?bytes ?base (w2.heap.size + 1) ?hH ?next))
      case own => exact (ownsRow_of_block (unhide HO) fun q hq => (unhide HB2).block q ((unhide HGL) q hq).2).alloc _
      case news => exact World.news_of_block (cs := #[.int .i64 r.lo, .int .i64 r.hi, .bool r.op, .slice pa r.par.length pc, .int .i64 cn]) (heap_alloc_new w2 _)
      case one =>
        intro u hu
        simp [outCells] at hu
        rcases hu with rfl | rfl | rfl | rfl | rfl <;> rfl
      case h63 => unfold maxLen; omega
      case bytes => omega
      case base => simp; omega
      case hH => simp
      case next =>
        intro g2 cap2 w3 hown3 hgrow3 hat hlt2
        have hB3 : Hid (Below w.heap.size w w3) := (((unhide HB).trans ((unhide HB2).mono hws)).alloc (by omega) _).grown hgrow3 (by simp; omega) (fun q hq => (unhide HGL q hq).1)
        have HN := hide hown3
        clear hown3 hgrow3 hat
        go_wp2
        go_roundw
        case rel =>
          refine ⟨j + 1, cap2, some ⟨g2, 0, none⟩, by omega, by go_num, rfl, ?_, unhide hB3⟩
          rw [unhide HTk, listCells_append, unhide HPV]
          simp only [listCells, List.append_nil]
          exact unhide HN
        case measure => simp [intOf]; omega
    · have hjj : j = rs.length := by omega
      subst hjj
      rw [List.take_of_length_le (by rw [refOut_len]; omega)] at hown
      have HO := hide hown
      have HB := hide hB
      clear hown hB
      go_wp2
      go_ret
      exact ⟨a, cap1, rfl, unhide HO, unhide HB⟩

end Go.Proofs.YtpnkmnmchdabkaaGreat
