import Derived.Test.YtpnkmnmchdabkaaM38
import Derived.Test.YtpnkmnmchdabkaaM07
namespace Go.Proofs.Ytpnkmnmchdabkaa
open Go.RowKit
attribute [local go_sem ↓] Go.wp_at_zero Go.wp_at_succ

/-- A set of starts in memory: its block, its row. -/
def SetAt (B sb b : Nat) (L : List Int) (w : World) : Prop := ∃ v, w.heap[sb]? = some (.cells #[v] 178 (0, 0)) ∧ w.ownsRow B 3 1 v L.length (L.map (Value.int .i64)) ∧ v.ownBlock ≠ some sb ∧ B ≤ sb ∧ v.ownBlock ≠ some b ∧ sb ≠ b
/-- While the row is moved up. -/
def SetMv (B sb b g cap : Nat) (L : List Int) (w wr : World) : Prop := wr.heap[sb]? = some (.cells #[.slice (some ⟨g, 0, none⟩) L.length cap] 178 (0, 0)) ∧ wr.ownsRow B 3 1 (.slice (some ⟨g, 0, none⟩) L.length cap) L.length (L.map (Value.int .i64)) ∧ g ≠ sb ∧ B ≤ sb ∧ B ≤ g ∧ Below B w wr ∧ g ≠ b ∧ sb ≠ b ∧ wr.heap[b]? = w.heap[b]?
theorem SetMv.set {B sb b g cap : Nat} {L : List Int} {w wr : World} (h : SetMv B sb b g cap L w wr) (i : Nat) (x : Int) {M : List Int} (hM : L.set i x = M) : SetMv B sb b g cap M w (wr.setCell ⟨g, i, none⟩ (.int .i64 x)) := by
  obtain ⟨h1, h2, h3, h4, h5, h6, h7, h8, h9⟩ := h
  have hl : M.length = L.length := by rw [← hM]; simp
  have := (World.ownsRow.stored h2 i (.int .i64 x)).1
  rw [← List.map_set, hM] at this
  refine ⟨?_, by rw [hl]; exact this, h3, h4, h5, h6.setCell (p := ⟨g, i, none⟩) h5 _, h7, h8, (Below.heap_setCell _ _ _ _ (fun e => h7 e.symm)).trans h9⟩
  rw [Below.heap_setCell _ _ _ _ (fun e => h3 e.symm), hl]
  exact h1
theorem SetMv.drew {B sb b g cap : Nat} {L : List Int} {w wr : World} (h : SetMv B sb b g cap L w wr) : SetMv B sb b g cap L w wr.drew := by
  obtain ⟨h1, h2, h3, h4, h5, h6, h7, h8, h9⟩ := h
  exact ⟨h1, h2, h3, h4, h5, h6.drew, h7, h8, h9⟩
theorem SetMv.at {B sb b g cap : Nat} {L : List Int} {w wr : World} (h : SetMv B sb b g cap L w wr) : SetAt B sb b L wr := by
  obtain ⟨h1, h2, h3, h4, h5, h6, h7, h8, h9⟩ := h
  refine ⟨_, h1, h2, fun e => ?_, h4, fun e => ?_, h8⟩
  · have h9 : some g = some sb := e
    injection h9 with h9
    exact h3 h9
  · have h9 : some g = some b := e
    injection h9 with h9
    exact h7 h9
theorem SetMv.cells {B sb b g cap : Nat} {L : List Int} {w wr : World} (h : SetMv B sb b g cap L w wr) (hL : 0 < L.length) : wr.cell? ⟨sb, 0, none⟩ = some (.slice (some ⟨g, 0, none⟩) L.length cap) ∧ wr.frozen? ⟨sb, 0, none⟩ = false ∧ (∀ j, wr.frozen? ⟨g, j, none⟩ = false) ∧ ∀ (j : Nat) (y : Int), L[j]? = some y → wr.cell? ⟨g, j, none⟩ = some (.int .i64 y) := by
  obtain ⟨h1, h2, h3, h4, h5, h6, h7, h8, h9⟩ := h
  obtain ⟨g2, c2, cur, e, _, hg, _⟩ := ownsRow_shape h2 hL
  injection e with e
  injection e with e
  injection e with e
  subst e
  refine ⟨cell_of h1 0, frozen_of h1 0, fun j => frozen_of hg j, fun j y hj => ?_⟩
  have hl := (List.getElem?_eq_some_iff.1 hj).1
  rw [World.ownsRow.cellAt h2 j (by omega)]
  simp [hj]

set_option maxRecDepth 100000 in
set_option maxHeartbeats 4000000 in
theorem setAdd_any (B sb b : Nat) (L : List Int) (x : Int) (w : World) (hL : Sts L) (hbl : b < w.heap.size) (h : SetAt B sb b L w) :
    Calls Try.prog 115 #[.pointer (some ⟨sb, 0, none⟩), .int .i64 x] w fun e w' => e = .returned (.tuple #[]) ∧ SetAt B sb b (ins x L) w' ∧ Below B w w' ∧ w'.heap[b]? = w.heap[b]? := by
  obtain ⟨i0, hi0, hz0, hz1, hz2⟩ := info_parts info3
  obtain ⟨v, hsb, hrow, hne, hB, hnb, hsbb⟩ := h
  obtain ⟨va, vc, rfl⟩ := ownsRow_len hrow
  have hlen := hL.len
  have c0 : w.cell? ⟨sb, 0, none⟩ = some (.slice va L.length vc) := cell_of hsb 0
  have f0 := frozen_of hsb 0
  have hsl := lt_of_heap hsb
  have HC : Hid (∀ (j : Nat) (y : Int), L[j]? = some y → ∃ lb, va = some ⟨lb, 0, none⟩ ∧ w.cell? ⟨lb, j, none⟩ = some (.int .i64 y)) := fun j y hj => by
    have hl := (List.getElem?_eq_some_iff.1 hj).1
    obtain ⟨g2, c2, cur, e, _, hg, _⟩ := ownsRow_shape hrow (by omega)
    injection e with e
    subst e
    refine ⟨g2, rfl, ?_⟩
    rw [World.ownsRow.cellAt hrow j (by omega)]
    simp [hj]
  have HRow := hide hrow
  have HNe := hide hne
  have HNb := hide hnb
  have HSb := hide hsb
  have HL := hide hL
  clear hrow hne hsb hL hnb
  go_enter Try.func115, Try.ntmps115
  go_wp2
  go_loop [4] (fun t => ∃ p : Nat, t = .int .i64 p ∧ p ≤ L.length ∧ ∀ (j : Nat) (y : Int), p ≤ j → L[j]? = some y → x < y) (fun t => (intOf t).toNat)
  case atStart => exact ⟨L.length, rfl, Nat.le_refl _, fun j y h1 h2 => by have := (List.getElem?_eq_some_iff.1 h2).1; omega⟩
  case round =>
    obtain ⟨p, rfl, hp, hj⟩ := hrel
    have HJ := hide hj
    clear hj
    by_cases hp0 : 0 < p
    · obtain ⟨q, hq⟩ : ∃ q, p = q + 1 := ⟨p - 1, by omega⟩
      obtain ⟨y, hy⟩ : ∃ y, L[q]? = some y := ⟨L[q], List.getElem?_eq_getElem (by omega)⟩
      obtain ⟨lb, rfl, cy⟩ := unhide HC q y hy
      have HY := hide hy
      have hp1 : (p : Int) - 1 = (q : Int) := by omega
      have hwq : IntKind.i64.wrap (q : Int) = q := by rw [IntKind.wrap_i64]; omega
      have HQ := hide hq
      clear hy hq
      by_cases hgt : x < y
      · go_wp2
        go_round
        case rel =>
          refine ⟨q, by go_num, by have := unhide HQ; omega, fun j z h1 h2 => ?_⟩
          by_cases e : j = q
          · subst e
            have := (unhide HY).symm.trans h2
            injection this with this
            omega
          · exact unhide HJ j z (by have := unhide HQ; omega) h2
        case measure => simp [intOf]; omega
      · by_cases heq : y = x
        · have d1 : (y == x) = true := by simp [heq]
          have HE := hide heq
          clear heq
          go_wp2
          refine bodyPost_ret (v := .tuple #[]) (by simp [results, go_sem]) rfl ⟨rfl, ?_, Below.refl _ _, by first | rfl | exact Array.getElem?_eq_getElem hbl⟩
          rw [ins_same L (unhide HL).1 (by rw [← unhide HE]; exact List.mem_of_getElem? (unhide HY))]
          exact ⟨_, unhide HSb, unhide HRow, unhide HNe, hB, unhide HNb, hsbb⟩
        · have d1 : (y == x) = false := by simpa using heq
          have HPB : Hid (∀ (j : Nat) (z : Int), j < p → L[j]? = some z → z < x) := fun j z h1 h2 => by
            by_cases e : j = q
            · subst e
              have := (unhide HY).symm.trans h2
              injection this with this
              omega
            · have := ris_at (unhide HL).1 (show j < q by have := unhide HQ; omega) h2 (unhide HY)
              omega
          clear heq
          have HE := hide (ins_at L p hp (unhide HJ) (unhide HPB))
          go_wp2_with (at_builtin; go_must (refine wpList_append_lies _ rfl _ _ _ rfl B 3 i0 _ 1 8 Try.underlying63 hi0 hz0 hz1 hz2 rfl (by omega) _ L.length (L.map (Value.int .i64)) rfl ?own ⟨w.heap.size, 0, none⟩ 1 1 [.int .i64 x] rfl rfl ?news ?one (by omega) ?h63 ?bytes ?base (w.heap.size + 1) ?hH ?next))
          case own => exact (unhide HRow).alloc _
          case one => simp [Value.oneCell']
          case h63 => unfold maxLen; omega
          case bytes => omega
          case base => omega
          case next =>
            intro g2 cap2 w3 hown hgrow hat hlt
            have nsb : Hid (some sb ≠ (Value.slice (some ⟨lb, 0, none⟩) L.length vc).ownBlock) := fun e => unhide HNe e.symm
            have fz : w3.frozen? ⟨sb, 0, none⟩ = false := (hgrow.frozen_far _ (by simp; omega) (unhide nsb)).trans ((World.frozen?_of_block (w := w) (Below.heap_alloc _ _ _ hsl)).trans f0)
            have cz : w3.cell? ⟨sb, 0, none⟩ = some (.slice (some ⟨lb, 0, none⟩) L.length vc) := (hgrow.cell_far _ (by simp; omega) (unhide nsb)).trans ((World.cell?_of_block (w := w) (Below.heap_alloc _ _ _ hsl)).trans c0)
            have hg2 : Hid (g2 ≠ sb) := fun e => by
              subst e
              rcases hat with h9 | h9
              · exact unhide HNe h9
              · omega
            have hg3 : Hid (g2 ≠ b) := fun e => by
              subst e
              rcases hat with h9 | h9
              · exact unhide HNb h9
              · omega
            have nb : Hid (some b ≠ (Value.slice (some ⟨lb, 0, none⟩) L.length vc).ownBlock) := fun e => unhide HNb e.symm
            have HMV : Hid (SetMv B sb b g2 cap2 (sft L x L.length) w (w3.setCell ⟨sb, 0, none⟩ (.slice (some ⟨g2, 0, none⟩) (L.length + 1) cap2))) := by
              have hlb := (hown.lt g2 rfl).1
              have hsb3 : w3.heap[sb]? = some (.cells #[.slice (some ⟨lb, 0, none⟩) L.length vc] 178 (0, 0)) := (hgrow.block sb (by simp; omega) (unhide nsb)).trans ((Below.heap_alloc _ _ _ hsl).trans (unhide HSb))
              refine ⟨?_, ?_, unhide hg2, hB, hlb, ?_, unhide hg3, hsbb, (Below.heap_setCell _ _ _ _ (fun e => hsbb e.symm)).trans ((hgrow.block b (by simp; omega) (unhide nb)).trans (Below.heap_alloc _ _ _ hbl))⟩
              · rw [heap_setCell_same hsb3, sft_len (Nat.le_refl _)]
                rfl
              · rw [sft_len (Nat.le_refl _), sft_top, List.map_append]
                exact ownsRow_of_block hown fun q hq => Below.heap_setCell _ _ _ _ (fun e9 => unhide hg2 (by have h8 : some g2 = some q := hq; injection h8 with h8; exact h8.trans e9))
              · refine Below.setCell (p := ⟨sb, 0, none⟩) ?_ hB _
                exact ((Below.refl B w).alloc (by omega) _).grown hgrow (by simp; omega) (fun q hq => ((unhide HRow).lt q hq).1)
            clear hown hgrow hat hlt c0 f0
            go_wp2
            generalize w3.setCell ⟨sb, 0, none⟩ (.slice (some ⟨g2, 0, none⟩) (L.length + 1) cap2) = W at *
            clear cz fz
            obtain ⟨c0, _⟩ := (unhide HMV).cells (by rw [sft_len (Nat.le_refl _)]; omega)
            rw [sft_len (Nat.le_refl _)] at c0
            go_wp2
            go_loopw [5] (fun t wr => ∃ i : Nat, t = .int .i64 i ∧ p ≤ i ∧ i ≤ L.length ∧ SetMv B sb b g2 cap2 (sft L x i) w wr) (fun t _ => (intOf t).toNat)
            case atStart => exact ⟨L.length, by go_num, hp, Nat.le_refl _, unhide HMV⟩
            case round =>
              obtain ⟨i, rfl, hi1, hi2, hmv⟩ := hrel
              have hsl := sft_len (x := x) hi2
              obtain ⟨k1, k2, k3, k4⟩ := hmv.cells (by omega)
              rw [hsl] at k1
              by_cases hlt : p < i
              · obtain ⟨q9, hq⟩ : ∃ q, i = q + 1 := ⟨i - 1, by omega⟩
                subst hq
                obtain ⟨z, hz⟩ : ∃ z, L[q9]? = some z := ⟨L[q9], List.getElem?_eq_getElem (by omega)⟩
                have e1 := k4 q9 z (sft_get (by omega) hz)
                have e2 := k3 (q9 + 1)
                obtain ⟨z2, hz2⟩ : ∃ z2, (sft L x (q9 + 1))[q9 + 1]? = some z2 := ⟨(sft L x (q9 + 1))[q9 + 1]'(by omega), List.getElem?_eq_getElem (by omega)⟩
                have e3 := k4 (q9 + 1) z2 hz2
                have hwq : IntKind.i64.wrap (q9 : Int) = q9 := by rw [IntKind.wrap_i64]; omega
                have HM2 := hide (hmv.set (q9 + 1) z (sft_set hz))
                clear hmv k3 k4 hz hz2
                go_wp2
                go_region
                have HM3 := hide (unhide HM2).drew
                go_wp2
                go_roundw
                case rel => exact ⟨q9, by go_num, by omega, by omega, unhide HM3⟩
                case measure => simp [intOf]
              · have e : i = p := by omega
                subst e
                have e2 := k3 i
                obtain ⟨z2, hz2⟩ : ∃ z2, (sft L x i)[i]? = some z2 := ⟨(sft L x i)[i]'(by omega), List.getElem?_eq_getElem (by omega)⟩
                have e3 := k4 i z2 hz2
                have HM2 := hide (hmv.set i x (sft_end hi2))
                clear hmv k3 k4 hz2
                go_wp2
                go_end0
                refine ⟨rfl, ?_, (unhide HM2).2.2.2.2.2.1, (unhide HM2).2.2.2.2.2.2.2.2⟩
                rw [unhide HE]
                exact (unhide HM2).at
    · have HPB : Hid (∀ (j : Nat) (z : Int), j < p → L[j]? = some z → z < x) := fun j z h1 h2 => by omega
      have HE := hide (ins_at L p hp (unhide HJ) (unhide HPB))
      go_wp2_with (at_builtin; go_must (refine wpList_append_lies _ rfl _ _ _ rfl B 3 i0 _ 1 8 Try.underlying63 hi0 hz0 hz1 hz2 rfl (by omega) _ L.length (L.map (Value.int .i64)) rfl ?own9 ⟨w.heap.size, 0, none⟩ 1 1 [.int .i64 x] rfl rfl ?news9 ?one9 (by omega) ?h639 ?bytes9 ?base9 (w.heap.size + 1) ?hH9 ?next9))
      case own9 => exact (unhide HRow).alloc _
      case one9 => simp [Value.oneCell']
      case h639 => unfold maxLen; omega
      case bytes9 => omega
      case base9 => omega
      case next9 =>
        intro g2 cap2 w3 hown hgrow hat hlt
        have nsb : Hid (some sb ≠ (Value.slice va L.length vc).ownBlock) := fun e => unhide HNe e.symm
        have fz : w3.frozen? ⟨sb, 0, none⟩ = false := (hgrow.frozen_far _ (by simp; omega) (unhide nsb)).trans ((World.frozen?_of_block (w := w) (Below.heap_alloc _ _ _ hsl)).trans f0)
        have cz : w3.cell? ⟨sb, 0, none⟩ = some (.slice va L.length vc) := (hgrow.cell_far _ (by simp; omega) (unhide nsb)).trans ((World.cell?_of_block (w := w) (Below.heap_alloc _ _ _ hsl)).trans c0)
        have hg2 : Hid (g2 ≠ sb) := fun e => by
          subst e
          rcases hat with h9 | h9
          · exact unhide HNe h9
          · omega
        have hg3 : Hid (g2 ≠ b) := fun e => by
          subst e
          rcases hat with h9 | h9
          · exact unhide HNb h9
          · omega
        have nb : Hid (some b ≠ (Value.slice va L.length vc).ownBlock) := fun e => unhide HNb e.symm
        have HMV : Hid (SetMv B sb b g2 cap2 (sft L x L.length) w (w3.setCell ⟨sb, 0, none⟩ (.slice (some ⟨g2, 0, none⟩) (L.length + 1) cap2))) := by
          have hlb := (hown.lt g2 rfl).1
          have hsb3 : w3.heap[sb]? = some (.cells #[.slice va L.length vc] 178 (0, 0)) := (hgrow.block sb (by simp; omega) (unhide nsb)).trans ((Below.heap_alloc _ _ _ hsl).trans (unhide HSb))
          refine ⟨?_, ?_, unhide hg2, hB, hlb, ?_, unhide hg3, hsbb, (Below.heap_setCell _ _ _ _ (fun e => hsbb e.symm)).trans ((hgrow.block b (by simp; omega) (unhide nb)).trans (Below.heap_alloc _ _ _ hbl))⟩
          · rw [heap_setCell_same hsb3, sft_len (Nat.le_refl _)]
            rfl
          · rw [sft_len (Nat.le_refl _), sft_top, List.map_append]
            exact ownsRow_of_block hown fun q hq => Below.heap_setCell _ _ _ _ (fun e9 => unhide hg2 (by have h8 : some g2 = some q := hq; injection h8 with h8; exact h8.trans e9))
          · refine Below.setCell (p := ⟨sb, 0, none⟩) ?_ hB _
            exact ((Below.refl B w).alloc (by omega) _).grown hgrow (by simp; omega) (fun q hq => ((unhide HRow).lt q hq).1)
        clear hown hgrow hat hlt c0 f0
        go_wp2
        generalize w3.setCell ⟨sb, 0, none⟩ (.slice (some ⟨g2, 0, none⟩) (L.length + 1) cap2) = W at *
        clear cz fz
        obtain ⟨c0, _⟩ := (unhide HMV).cells (by rw [sft_len (Nat.le_refl _)]; omega)
        rw [sft_len (Nat.le_refl _)] at c0
        go_wp2
        go_loopw [5] (fun t wr => ∃ i : Nat, t = .int .i64 i ∧ p ≤ i ∧ i ≤ L.length ∧ SetMv B sb b g2 cap2 (sft L x i) w wr) (fun t _ => (intOf t).toNat)
        case atStart => exact ⟨L.length, by go_num, hp, Nat.le_refl _, unhide HMV⟩
        case round =>
          obtain ⟨i, rfl, hi1, hi2, hmv⟩ := hrel
          have hsl := sft_len (x := x) hi2
          obtain ⟨k1, k2, k3, k4⟩ := hmv.cells (by omega)
          rw [hsl] at k1
          by_cases hlt : p < i
          · obtain ⟨q9, hq⟩ : ∃ q, i = q + 1 := ⟨i - 1, by omega⟩
            subst hq
            obtain ⟨z, hz⟩ : ∃ z, L[q9]? = some z := ⟨L[q9], List.getElem?_eq_getElem (by omega)⟩
            have e1 := k4 q9 z (sft_get (by omega) hz)
            have e2 := k3 (q9 + 1)
            obtain ⟨z2, hz2⟩ : ∃ z2, (sft L x (q9 + 1))[q9 + 1]? = some z2 := ⟨(sft L x (q9 + 1))[q9 + 1]'(by omega), List.getElem?_eq_getElem (by omega)⟩
            have e3 := k4 (q9 + 1) z2 hz2
            have hwq : IntKind.i64.wrap (q9 : Int) = q9 := by rw [IntKind.wrap_i64]; omega
            have HM2 := hide (hmv.set (q9 + 1) z (sft_set hz))
            clear hmv k3 k4 hz hz2
            go_wp2
            go_region
            have HM3 := hide (unhide HM2).drew
            go_wp2
            go_roundw
            case rel => exact ⟨q9, by go_num, by omega, by omega, unhide HM3⟩
            case measure => simp [intOf]
          · have e : i = p := by omega
            subst e
            have e2 := k3 i
            obtain ⟨z2, hz2⟩ : ∃ z2, (sft L x i)[i]? = some z2 := ⟨(sft L x i)[i]'(by omega), List.getElem?_eq_getElem (by omega)⟩
            have e3 := k4 i z2 hz2
            have HM2 := hide (hmv.set i x (sft_end hi2))
            clear hmv k3 k4 hz2
            go_wp2
            go_end0
            refine ⟨rfl, ?_, (unhide HM2).2.2.2.2.2.1, (unhide HM2).2.2.2.2.2.2.2.2⟩
            rw [unhide HE]
            exact (unhide HM2).at

end Go.Proofs.Ytpnkmnmchdabkaa
