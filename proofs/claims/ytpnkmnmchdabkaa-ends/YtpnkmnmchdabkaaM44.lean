import Derived.Test.YtpnkmnmchdabkaaM38
import Derived.Test.YtpnkmnmchdabkaaM07
import Derived.Test.YtpnkmnmchdabkaaCrew
namespace Go.Proofs.Ytpnkmnmchdabkaa
open Go.RowKit
attribute [local go_sem ↓] Go.wp_at_zero Go.wp_at_succ

/-- Where the law's own list is, the first j passed. -/
def RisI (L : List Int) (x : Int) (j : Nat) (b : Bool) (M : List Int) : Prop := (b = false → M = L.take j ∧ ∀ z ∈ L.take j, z < x) ∧ (b = true → M = ins x (L.take j) ∧ ∃ z ∈ L.take j, x ≤ z)
theorem RisI.zero (L : List Int) (x : Int) : RisI L x 0 false [] := ⟨fun _ => ⟨rfl, by simp⟩, fun h => by cases h⟩
theorem take_next {L : List Int} {j : Nat} {y : Int} (h : L[j]? = some y) : L.take (j + 1) = L.take j ++ [y] := by
  obtain ⟨h1, rfl⟩ := List.getElem?_eq_some_iff.1 h
  exact List.take_succ_eq_append_getElem h1
theorem ins_two {x y : Int} (h : x < y) : ∀ (L : List Int), (∀ z ∈ L, z < x) → ins x (L ++ [y]) = L ++ [x] ++ [y]
  | [], _ => by simp [ins, h]
  | a :: r, h0 => by
    have h1 := h0 a (by simp)
    rw [List.cons_append, ins, if_neg (by omega), if_neg (by omega), ins_two h r (fun z hz => h0 z (by simp [hz]))]
    rfl
theorem RisI.a {L : List Int} {x y : Int} {j : Nat} {M : List Int} (h : RisI L x j false M) (hj : L[j]? = some y) (hy : x < y) : RisI L x (j + 1) true (M ++ [x] ++ [y]) := by
  obtain ⟨rfl, h0⟩ := h.1 rfl
  refine ⟨fun e => (by cases e), fun _ => ?_⟩
  rw [take_next hj]
  exact ⟨(ins_two hy _ h0).symm, y, by simp, by omega⟩
theorem RisI.b {L : List Int} {x y : Int} {j : Nat} {M : List Int} (hL : Ris L) (h : RisI L x j false M) (hj : L[j]? = some y) (hy : x = y) : RisI L x (j + 1) true (M ++ [y]) := by
  obtain ⟨rfl, h0⟩ := h.1 rfl
  refine ⟨fun e => (by cases e), fun _ => ?_⟩
  rw [take_next hj]
  refine ⟨(ins_same _ ?_ (by simp [hy])).symm, y, by simp, by omega⟩
  rw [← take_next hj]
  exact List.Pairwise.sublist (List.take_sublist _ _) hL
theorem RisI.c {L : List Int} {x y : Int} {j : Nat} {M : List Int} (h : RisI L x j false M) (hj : L[j]? = some y) (hy : y < x) : RisI L x (j + 1) false (M ++ [y]) := by
  obtain ⟨rfl, h0⟩ := h.1 rfl
  refine ⟨fun _ => ?_, fun e => (by cases e)⟩
  rw [take_next hj]
  refine ⟨rfl, fun z hz => ?_⟩
  rcases List.mem_append.1 hz with hz | hz
  · exact h0 z hz
  · simp at hz; omega
theorem RisI.d {L : List Int} {x y : Int} {j : Nat} {M : List Int} (hL : Ris L) (h : RisI L x j true M) (hj : L[j]? = some y) : RisI L x (j + 1) true (M ++ [y]) := by
  obtain ⟨rfl, z, hz, hx⟩ := h.2 rfl
  refine ⟨fun e => (by cases e), fun _ => ?_⟩
  rw [take_next hj]
  refine ⟨(ins_snoc _ ?_ ⟨z, hz, hx⟩).symm, z, by simp [hz], hx⟩
  rw [← take_next hj]
  exact List.Pairwise.sublist (List.take_sublist _ _) hL
theorem RisI.len {L : List Int} {x : Int} {j : Nat} {b : Bool} {M : List Int} (h : RisI L x j b M) (hl : L.length ≤ 1000001) : M.length ≤ 1000002 := by
  have hins : ∀ (K : List Int), (ins x K).length ≤ K.length + 1 := by
    intro K
    induction K with
    | nil => simp [ins]
    | cons a r ih => unfold ins; split; simp; split; simp; simp; omega
  have ht : (L.take j).length ≤ 1000001 := by rw [List.length_take]; omega
  cases b
  · rw [(h.1 rfl).1]; omega
  · rw [(h.2 rfl).1]; have := hins (L.take j); omega
theorem RisI.end0 {L : List Int} {x : Int} {M : List Int} (h : RisI L x L.length false M) : M ++ [x] = ins x L := by
  obtain ⟨rfl, h0⟩ := h.1 rfl
  rw [List.take_length] at h0 ⊢
  exact (ins_last L h0).symm
theorem RisI.end1 {L : List Int} {x : Int} {M : List Int} (h : RisI L x L.length true M) : M = ins x L := by
  obtain ⟨rfl, _⟩ := h.2 rfl
  rw [List.take_length]

set_option maxRecDepth 100000 in
set_option maxHeartbeats 1000000 in
theorem rising_any (L : List Int) (x : Int) (la : Option Addr) (lc : Nat) (w : World) (hL : Sts L) (hrow : w.ownsRow 0 3 1 (.slice la L.length lc) L.length (L.map (Value.int .i64))) :
    Calls Try.prog 94 #[.slice la L.length lc, .int .i64 x] w fun e w' => ∃ v, e = .returned v ∧ w'.ownsRow w.heap.size 3 1 v (ins x L).length ((ins x L).map (Value.int .i64)) ∧ Below w.heap.size w w' := by
  obtain ⟨i0, hi0, hz0, hz1, hz2⟩ := info_parts info3
  have hlen := hL.len
  have HC : Hid (∀ (j : Nat) (y : Int), L[j]? = some y → ∃ lb, la = some ⟨lb, 0, none⟩ ∧ lb < w.heap.size ∧ w.cell? ⟨lb, j, none⟩ = some (.int .i64 y)) := fun j y hj => by
    have hl := (List.getElem?_eq_some_iff.1 hj).1
    obtain ⟨g2, c2, cur, e, _, hg, _⟩ := ownsRow_shape hrow (by omega)
    injection e with e
    subst e
    refine ⟨g2, rfl, lt_of_heap hg, ?_⟩
    rw [World.ownsRow.cellAt hrow j (by omega)]
    simp [hj]
  have HL := hide hL.1
  clear hrow hL
  go_enter Try.func94, Try.ntmps94
  go_wp2
  go_loopw [5, 6, 7] (fun o p i wr => ∃ (j cp : Nat) (b : Bool) (M : List Int) (a : Option Addr), j ≤ L.length ∧ i = .int .i64 j ∧ p = .bool b ∧ o = .slice a M.length cp ∧ RisI L x j b M ∧ wr.ownsRow w.heap.size 3 1 (.slice a M.length cp) M.length (M.map (Value.int .i64)) ∧ Below w.heap.size w wr) (fun _ _ i _ => L.length - (intOf i).toNat)
  case atStart => exact ⟨0, 0, false, [], none, Nat.zero_le _, rfl, rfl, rfl, RisI.zero L x, World.ownsRow_nil _ _ _ _, Below.refl _ _⟩
  case round =>
    obtain ⟨j, cp, b, M, a, hj, rfl, rfl, rfl, hR, hown, hB⟩ := hrel
    have hML := hR.len hlen
    have HR := hide hR
    clear hR
    by_cases hlt : j < L.length
    · obtain ⟨y, hy⟩ : ∃ y, L[j]? = some y := ⟨L[j], List.getElem?_eq_getElem hlt⟩
      obtain ⟨lb, rfl, hlb, cy⟩ := unhide HC j y hy
      have HY := hide hy
      have cy1 := (hB.cell (p := ⟨lb, j, none⟩) hlb).trans cy
      clear hy
      cases b
      · by_cases h1 : x < y
        · have d1 : x ≤ y := by omega
          have HO1 := hide hown
          have HB1 := hide hB
          clear hown hB
          have hzz1 := (unhide HB1).size
          go_wp2_with (at_builtin; go_must (refine wpList_append_lies _ rfl _ _ _ rfl w.heap.size 3 i0 _ 1 8 Try.underlying63 hi0 hz0 hz1 hz2 rfl (by omega) _ M.length (M.map (Value.int .i64)) rfl ((unhide HO1).alloc _) ⟨wr.heap.size, 0, none⟩ 1 1 [.int .i64 x] rfl rfl (World.news_of_block (cs := #[.int .i64 x]) (heap_alloc_new wr _)) (by simp [Value.oneCell']) (by omega) (by unfold maxLen; omega) (by omega) (by simp; omega) (wr.heap.size + 1) (by simp) ?next1))
          case next1 =>
            intro g1 cap1 w1 hown hgrow hat hlt9
            have HB1n : Hid (Below w.heap.size w w1) := ((unhide HB1).alloc (unhide HB1).size _).grown hgrow (by have := (unhide HB1).size; simp; omega) (fun q hq => ((unhide HO1).lt q hq).1)
            have HO1n : Hid (w1.ownsRow w.heap.size 3 1 (.slice (some ⟨g1, 0, none⟩) (M.length + 1) cap1) (M.length + 1) ((M ++ [x]).map (Value.int .i64))) := by
              unfold Hid
              rw [List.map_append]
              exact hown
            clear hown hgrow hat hlt9
            have HO2 : Hid (w1.ownsRow w.heap.size 3 1 (.slice (some ⟨g1, 0, none⟩) (M ++ [x]).length cap1) (M ++ [x]).length ((M ++ [x]).map (Value.int .i64))) := by
              unfold Hid
              rw [List.length_append]
              exact unhide HO1n
            have HB2 := HB1n
            have cy2 := ((unhide HB1n).cell (p := ⟨lb, j, none⟩) hlb).trans cy
            have hM2 : (M ++ [x]).length ≤ 1000003 := by rw [List.length_append]; simp; omega
            have hM3 : M.length + 1 = (M ++ [x]).length := by simp
            have HRa := hide ((unhide HR).a (unhide HY) h1)
            rw [hM3]
            generalize hMM : M ++ [x] = M2 at *
            clear hM3 hMM cy1 HO1n HB1n
            have hzz2 := (unhide HB2).size
            go_wp2_with (at_builtin; go_must (refine wpList_append_lies _ rfl _ _ _ rfl w.heap.size 3 i0 _ 1 8 Try.underlying63 hi0 hz0 hz1 hz2 rfl (by omega) _ M2.length (M2.map (Value.int .i64)) rfl ((unhide HO2).alloc _) ⟨w1.heap.size, 0, none⟩ 1 1 [.int .i64 y] rfl rfl (World.news_of_block (cs := #[.int .i64 y]) (heap_alloc_new w1 _)) (by simp [Value.oneCell']) (by omega) (by unfold maxLen; omega) (by omega) (by simp; omega) (w1.heap.size + 1) (by simp) ?next2))
            case next2 =>
              intro g2 cap2 w2 hown hgrow hat hlt9
              have HB2n : Hid (Below w.heap.size w w2) := ((unhide HB2).alloc (unhide HB2).size _).grown hgrow (by have := (unhide HB2).size; simp; omega) (fun q hq => ((unhide HO2).lt q hq).1)
              have HO2n : Hid (w2.ownsRow w.heap.size 3 1 (.slice (some ⟨g2, 0, none⟩) (M2.length + 1) cap2) (M2.length + 1) ((M2 ++ [y]).map (Value.int .i64))) := by
                unfold Hid
                rw [List.map_append]
                exact hown
              clear hown hgrow hat hlt9
              go_wp2
              go_roundw
              case rel =>
                refine ⟨j + 1, cap2, true, _, some ⟨g2, 0, none⟩, by omega, by go_num, rfl, ?_, unhide HRa, (by rw [List.length_append]; exact unhide HO2n), unhide HB2n⟩
                simp
              case measure => simp [intOf]; omega
        · by_cases h2 : x = y
          · have d1 : x ≤ y := by omega
            have HO3 := hide hown
            have HB3 := hide hB
            have HE := hide h2
            clear hown hB h2
            have hzz3 := (unhide HB3).size
            go_wp2_with (at_builtin; go_must (refine wpList_append_lies _ rfl _ _ _ rfl w.heap.size 3 i0 _ 1 8 Try.underlying63 hi0 hz0 hz1 hz2 rfl (by omega) _ M.length (M.map (Value.int .i64)) rfl ((unhide HO3).alloc _) ⟨wr.heap.size, 0, none⟩ 1 1 [.int .i64 y] rfl rfl (World.news_of_block (cs := #[.int .i64 y]) (heap_alloc_new wr _)) (by simp [Value.oneCell']) (by omega) (by unfold maxLen; omega) (by omega) (by simp; omega) (wr.heap.size + 1) (by simp) ?next3))
            case next3 =>
              intro g3 cap3 w3 hown hgrow hat hlt9
              have HB3n : Hid (Below w.heap.size w w3) := ((unhide HB3).alloc (unhide HB3).size _).grown hgrow (by have := (unhide HB3).size; simp; omega) (fun q hq => ((unhide HO3).lt q hq).1)
              have HO3n : Hid (w3.ownsRow w.heap.size 3 1 (.slice (some ⟨g3, 0, none⟩) (M.length + 1) cap3) (M.length + 1) ((M ++ [y]).map (Value.int .i64))) := by
                unfold Hid
                rw [List.map_append]
                exact hown
              clear hown hgrow hat hlt9
              go_wp2
              go_roundw
              case rel =>
                refine ⟨j + 1, cap3, true, _, some ⟨g3, 0, none⟩, by omega, by go_num, rfl, ?_, (unhide HR).b (unhide HL) (unhide HY) (unhide HE), (by rw [List.length_append]; exact unhide HO3n), unhide HB3n⟩
                simp
              case measure => simp [intOf]; omega
          · have d1 : ¬ x ≤ y := by omega
            have d2 : y < x := by omega
            have HO4 := hide hown
            have HB4 := hide hB
            clear hown hB h2
            have hzz4 := (unhide HB4).size
            go_wp2_with (at_builtin; go_must (refine wpList_append_lies _ rfl _ _ _ rfl w.heap.size 3 i0 _ 1 8 Try.underlying63 hi0 hz0 hz1 hz2 rfl (by omega) _ M.length (M.map (Value.int .i64)) rfl ((unhide HO4).alloc _) ⟨wr.heap.size, 0, none⟩ 1 1 [.int .i64 y] rfl rfl (World.news_of_block (cs := #[.int .i64 y]) (heap_alloc_new wr _)) (by simp [Value.oneCell']) (by omega) (by unfold maxLen; omega) (by omega) (by simp; omega) (wr.heap.size + 1) (by simp) ?next4))
            case next4 =>
              intro g4 cap4 w4 hown hgrow hat hlt9
              have HB4n : Hid (Below w.heap.size w w4) := ((unhide HB4).alloc (unhide HB4).size _).grown hgrow (by have := (unhide HB4).size; simp; omega) (fun q hq => ((unhide HO4).lt q hq).1)
              have HO4n : Hid (w4.ownsRow w.heap.size 3 1 (.slice (some ⟨g4, 0, none⟩) (M.length + 1) cap4) (M.length + 1) ((M ++ [y]).map (Value.int .i64))) := by
                unfold Hid
                rw [List.map_append]
                exact hown
              clear hown hgrow hat hlt9
              go_wp2
              go_roundw
              case rel =>
                refine ⟨j + 1, cap4, false, _, some ⟨g4, 0, none⟩, by omega, by go_num, rfl, ?_, (unhide HR).c (unhide HY) d2, (by rw [List.length_append]; exact unhide HO4n), unhide HB4n⟩
                simp
              case measure => simp [intOf]; omega
      · have HO5 := hide hown
        have HB5 := hide hB
        clear hown hB
        have hzz5 := (unhide HB5).size
        go_wp2_with (at_builtin; go_must (refine wpList_append_lies _ rfl _ _ _ rfl w.heap.size 3 i0 _ 1 8 Try.underlying63 hi0 hz0 hz1 hz2 rfl (by omega) _ M.length (M.map (Value.int .i64)) rfl ((unhide HO5).alloc _) ⟨wr.heap.size, 0, none⟩ 1 1 [.int .i64 y] rfl rfl (World.news_of_block (cs := #[.int .i64 y]) (heap_alloc_new wr _)) (by simp [Value.oneCell']) (by omega) (by unfold maxLen; omega) (by omega) (by simp; omega) (wr.heap.size + 1) (by simp) ?next5))
        case next5 =>
          intro g5 cap5 w5 hown hgrow hat hlt9
          have HB5n : Hid (Below w.heap.size w w5) := ((unhide HB5).alloc (unhide HB5).size _).grown hgrow (by have := (unhide HB5).size; simp; omega) (fun q hq => ((unhide HO5).lt q hq).1)
          have HO5n : Hid (w5.ownsRow w.heap.size 3 1 (.slice (some ⟨g5, 0, none⟩) (M.length + 1) cap5) (M.length + 1) ((M ++ [y]).map (Value.int .i64))) := by
            unfold Hid
            rw [List.map_append]
            exact hown
          clear hown hgrow hat hlt9
          go_wp2
          go_roundw
          case rel =>
            refine ⟨j + 1, cap5, true, _, some ⟨g5, 0, none⟩, by omega, by go_num, rfl, ?_, (unhide HR).d (unhide HL) (unhide HY), (by rw [List.length_append]; exact unhide HO5n), unhide HB5n⟩
            simp
          case measure => simp [intOf]; omega
    · have e : j = L.length := by omega
      subst e
      cases b
      · have HO6 := hide hown
        have HB6 := hide hB
        clear hown hB
        have hzz6 := (unhide HB6).size
        go_wp2_with (at_builtin; go_must (refine wpList_append_lies _ rfl _ _ _ rfl w.heap.size 3 i0 _ 1 8 Try.underlying63 hi0 hz0 hz1 hz2 rfl (by omega) _ M.length (M.map (Value.int .i64)) rfl ((unhide HO6).alloc _) ⟨wr.heap.size, 0, none⟩ 1 1 [.int .i64 x] rfl rfl (World.news_of_block (cs := #[.int .i64 x]) (heap_alloc_new wr _)) (by simp [Value.oneCell']) (by omega) (by unfold maxLen; omega) (by omega) (by simp; omega) (wr.heap.size + 1) (by simp) ?next6))
        case next6 =>
          intro g6 cap6 w6 hown hgrow hat hlt9
          have HB6n : Hid (Below w.heap.size w w6) := ((unhide HB6).alloc (unhide HB6).size _).grown hgrow (by have := (unhide HB6).size; simp; omega) (fun q hq => ((unhide HO6).lt q hq).1)
          have HO6n : Hid (w6.ownsRow w.heap.size 3 1 (.slice (some ⟨g6, 0, none⟩) (M.length + 1) cap6) (M.length + 1) ((M ++ [x]).map (Value.int .i64))) := by
            unfold Hid
            rw [List.map_append]
            exact hown
          clear hown hgrow hat hlt9
          go_wp2
          go_ret
          refine ⟨_, rfl, ?_, unhide HB6n⟩
          rw [← (unhide HR).end0, List.length_append]
          exact unhide HO6n
      · have HO7 := hide hown
        have HB7 := hide hB
        clear hown hB
        go_wp2
        go_ret
        refine ⟨_, rfl, ?_, unhide HB7⟩
        rw [← (unhide HR).end1]
        exact unhide HO7

end Go.Proofs.Ytpnkmnmchdabkaa
namespace Go.Proofs.Ytpnkmnmchdabkaa
open Go.RowKit
attribute [local go_sem ↓] Go.wp_at_zero Go.wp_at_succ

/-- A list of the law's own records, as a walk reads it. -/
def EnR (w : World) (ra : Option Addr) (R : List En) : Prop := ∀ (j : Nat) (e : En), R[j]? = some e → ∃ rb, ra = some ⟨rb, 0, none⟩ ∧ rb < w.heap.size ∧ ∀ i, i < 5 → w.cell? ⟨rb, j * 5 + i, none⟩ = (enCells e)[i]?
theorem enR_of {w : World} {B : Nat} {ra : Option Addr} {rc : Nat} {R : List En} (h : w.ownsRow B 59 5 (.slice ra R.length rc) R.length (entCells R)) : EnR w ra R := by
  intro j e hj
  have hl := (List.getElem?_eq_some_iff.1 hj).1
  obtain ⟨g2, c2, cur, e2, _, hg, _⟩ := ownsRow_shape h (by omega)
  injection e2 with e2
  subst e2
  refine ⟨g2, rfl, lt_of_heap hg, fun i hi => ?_⟩
  rw [World.ownsRow.cellAt h (j * 5 + i) (by omega), entCells_get R j i hi e hj]
theorem EnR.below {w w' : World} {ra : Option Addr} {R : List En} (h : EnR w ra R) (hb : Below w.heap.size w w') : EnR w' ra R := by
  intro j e hj
  obtain ⟨rb, h1, h2, h3⟩ := h j e hj
  refine ⟨rb, h1, by have := hb.size; omega, fun i hi => ?_⟩
  rw [hb.cell (p := ⟨rb, j * 5 + i, none⟩) h2]
  exact h3 i hi

theorem div_mul_sub (t s : Int) : t / s * s = t - t % s := by rw [Int.emod_def, Int.mul_comm]; omega

set_option maxRecDepth 100000 in
set_option maxHeartbeats 1000000 in
theorem lawStarts_any {w : World} {cb : Nat} {C : Cfg} (R : List En) (ra : Option Addr) (rc : Nat) (hC : 1 ≤ C.s ∧ C.s ≤ 100) (hCn : 0 ≤ C.n ∧ C.n ≤ 100) (hCc : ∀ W, Below w.heap.size w W → W.cell? ⟨cb, 3, none⟩ = some (.int .i64 C.n) ∧ W.cell? ⟨cb, 4, none⟩ = some (.int .i64 C.s)) (hl : R.length ≤ 1000) (hT : ∀ e ∈ R, 0 ≤ e.time ∧ e.time ≤ 1000000) (hR : EnR w ra R) :
    Calls Try.prog 68 #[.pointer (some ⟨cb, 0, none⟩), .slice ra R.length rc] w fun e w' => ∃ v, e = .returned v ∧ w'.ownsRow w.heap.size 3 1 v (stsOf C.n C.s (R.map (·.time))).length ((stsOf C.n C.s (R.map (·.time))).map (Value.int .i64)) ∧ Below w.heap.size w w' := by
  have HCc := hide hCc
  have HRi : Hid (∀ (L : List Int) (x : Int) (la : Option Addr) (lc : Nat) (W : World), Sts L → W.ownsRow 0 3 1 (.slice la L.length lc) L.length (L.map (Value.int .i64)) → Calls Try.prog 94 #[.slice la L.length lc, .int .i64 x] W fun e w' => ∃ v, e = .returned v ∧ w'.ownsRow W.heap.size 3 1 v (ins x L).length ((ins x L).map (Value.int .i64)) ∧ Below W.heap.size W w') := by
    intro L x la lc W h1 h2
    exact rising_any L x la lc W h1 h2
  have hml : (R.map (·.time)).length = R.length := List.length_map _
  have HT : Hid (∀ (j : Nat) (e : En), R[j]? = some e → stsOf C.n C.s ((R.map (·.time)).take (j + 1)) = addO C.n C.s e.time (e.time.toNat + 1) (e.time / C.s * C.s) (stsOf C.n C.s ((R.map (·.time)).take j)) ∧ (0 ≤ e.time ∧ e.time ≤ 1000000) ∧ 0 ≤ e.time / C.s * C.s ∧ e.time / C.s * C.s ≤ e.time ∧ 0 ≤ e.time / C.s ∧ e.time / C.s ≤ e.time) := by
    intro j e hj
    have h0 := hT e (List.mem_of_getElem? hj)
    have h1 : (R.map (·.time))[j]? = some e.time := by rw [List.getElem?_map, hj]; rfl
    have h2 := Int.ediv_nonneg h0.1 (show 0 ≤ C.s by omega)
    have h3 := Int.mul_nonneg h2 (show 0 ≤ C.s by omega)
    have h4 := div_mul_sub e.time C.s
    have h5 := Int.emod_nonneg e.time (show C.s ≠ 0 by omega)
    refine ⟨?_, h0, h3, by omega, h2, Int.ediv_le_self _ h0.1⟩
    rw [stsOf_take h1, h4]
    rfl
  have HSt : Hid (∀ j, j ≤ R.length → Sts (stsOf C.n C.s ((R.map (·.time)).take j))) := by
    intro j hj
    exact sts_of (fun t ht => by
      obtain ⟨e, he, rfl⟩ := List.mem_map.1 ht
      exact (hT e he).2) j (by omega)
  obtain ⟨U, hU⟩ : ∃ U : Nat → List Int, ∀ j, U j = stsOf C.n C.s ((R.map (·.time)).take j) := ⟨_, fun _ => rfl⟩
  have HUe : Hid (stsOf C.n C.s (R.map (·.time)) = U R.length) := by unfold Hid; rw [hU, ← hml, List.take_length]
  have HU0 : Hid (U 0 = []) := hU 0
  have HUs : Hid (∀ (j : Nat) (e : En), R[j]? = some e → U (j + 1) = addO C.n C.s e.time (e.time.toNat + 1) (e.time / C.s * C.s) (U j) ∧ (0 ≤ e.time ∧ e.time ≤ 1000000) ∧ 0 ≤ e.time / C.s * C.s ∧ e.time / C.s * C.s ≤ e.time ∧ 0 ≤ e.time / C.s ∧ e.time / C.s ≤ e.time) := by
    intro j e hj
    rw [hU, hU]
    exact unhide HT j e hj
  have HUt : Hid (∀ j, j ≤ R.length → Sts (U j)) := by
    intro j hj
    rw [hU]
    exact unhide HSt j hj
  have HR := hide hR
  rw [unhide HUe]
  clear hCc hT hR HT HSt hU HUe hml
  have hn0 : ¬ C.s = 0 := by omega
  go_enter Try.func68, Try.ntmps68
  go_wp2
  go_loopw [5, 6] (fun o i wr => ∃ (j cp : Nat) (a : Option Addr), j ≤ R.length ∧ i = .int .i64 j ∧ o = .slice a (U j).length cp ∧ wr.ownsRow w.heap.size 3 1 (.slice a (U j).length cp) (U j).length ((U j).map (Value.int .i64)) ∧ Below w.heap.size w wr) (fun _ i _ => R.length - (intOf i).toNat)
  case atStart => exact ⟨0, 0, none, Nat.zero_le _, rfl, by rw [unhide HU0]; rfl, by rw [unhide HU0]; exact World.ownsRow_nil _ _ _ _, Below.refl _ _⟩
  case round =>
    obtain ⟨j, cp, a, hj, rfl, rfl, hown, hB⟩ := hrel
    by_cases hlt : j < R.length
    · obtain ⟨e, he⟩ : ∃ e, R[j]? = some e := ⟨R[j], List.getElem?_eq_getElem hlt⟩
      obtain ⟨hUj, ht, hf0, hf1, hf2, hf3⟩ := unhide HUs j e he
      obtain ⟨rb, rfl, hrb, hc⟩ := (unhide HR) j e he
      have c4 : w.cell? ⟨rb, j * 5 + 4, none⟩ = some (.int .i64 e.time) := hc 4 (by omega)
      have HUj := hide hUj
      have HMs := hide (unhide HUt j (by omega))
      have y4 := (hB.cell (p := ⟨rb, j * 5 + 4, none⟩) hrb).trans c4
      obtain ⟨k3, k4⟩ := unhide HCc wr hB
      have hwq : IntKind.i64.wrap (e.time / C.s) = e.time / C.s := by rw [IntKind.wrap_i64]; omega
      have hwm : IntKind.i64.wrap (e.time / C.s * C.s) = e.time / C.s * C.s := by rw [IntKind.wrap_i64]; omega
      have htd : Int.tdiv e.time C.s = e.time / C.s := Int.tdiv_eq_ediv_of_nonneg ht.1
      have HO := hide hown
      have HB := hide hB
      clear hown hB hc hUj he
      go_wp2
      go_quiet (fail)
      have HO2 : Hid ((wr.drewN nq).ownsRow w.heap.size 3 1 (.slice a (U j).length cp) (U j).length ((U j).map (Value.int .i64))) := unhide HO
      have HB2 := hide (below_drewN (unhide HB) nq)
      clear HO HB y4 k3 k4 hwq hwm htd hf2 hf3
      generalize wr.drewN nq = V at *
      generalize e.time / C.s * C.s = s0 at *
      generalize e.time = t at *
      go_wp2
      go_loopw [5, 8] (fun o u wr => ∃ (f cp : Nat) (s : Int) (M : List Int) (a : Option Addr), u = .int .i64 s ∧ o = .slice a M.length cp ∧ s ≤ t ∧ -1000 ≤ s ∧ s < f ∧ Sts M ∧ wr.ownsRow w.heap.size 3 1 (.slice a M.length cp) M.length (M.map (Value.int .i64)) ∧ Below w.heap.size w wr ∧ addO C.n C.s t f s M = addO C.n C.s t (t.toNat + 1) s0 (U j)) (fun _ u _ => (intOf u + 1).toNat)
      case atStart => exact ⟨t.toNat + 1, cp, s0, U j, a, rfl, rfl, hf1, by omega, by omega, unhide HMs, unhide HO2, unhide HB2, rfl⟩
      case round =>
        obtain ⟨f, cp, s, M, a, rfl, rfl, hst, hs0, hsf, hM, hown, hB, hE⟩ := hrel
        have y4 := (hB.cell (p := ⟨rb, j * 5 + 4, none⟩) hrb).trans c4
        obtain ⟨k3, k4⟩ := unhide HCc wr hB
        have hw9 : IntKind.i64.wrap (s + C.n) = s + C.n := by rw [IntKind.wrap_i64]; omega
        have hlM := hM.len
        have HO3 := hide hown
        have HB3 := hide hB
        have HE := hide hE
        have HM := hide hM
        clear hown hB hE hM
        have HOd : Hid (∀ n, (wr.drewN n).ownsRow w.heap.size 3 1 (.slice a M.length cp) M.length (M.map (Value.int .i64))) := fun n => ownsRow_of_block (unhide HO3) fun _ _ => rfl
        have HBd : Hid (∀ n, Below w.heap.size w (wr.drewN n)) := fun n => below_drewN (unhide HB3) n
        by_cases hs1 : 0 ≤ s
        · by_cases hs2 : t < s + C.n
          · have HH : Hid (hldW C.n s t = true) := by unfold Hid hldW; simp; omega
            go_wp2
            go_quiet (fail)
            have HO4 := hide (unhide HOd nq)
            have HB4 := hide (unhide HBd nq)
            clear HO3 HB3 HOd HBd y4 k3 k4
            generalize wr.drewN nq = V4 at *
            go_wp2_with fail
            refine (unhide HRi M s a cp _ (unhide HM) (ownsRow_base (unhide HO4) (Nat.zero_le _))).mono ?_
            rintro e9 w5 ⟨v5, rfl, hv5, hb5⟩
            obtain ⟨a5, c5, rfl⟩ := ownsRow_len hv5
            have HB5 := hide ((unhide HB4).trans (hb5.mono (unhide HB4).size))
            have HO5 := hide (ownsRow_base hv5 (unhide HB4).size)
            obtain ⟨k3, k4⟩ := unhide HCc w5 (unhide HB5)
            clear hv5 hb5
            go_wp2
            go_roundw
            case rel =>
              obtain ⟨f', rfl⟩ : ∃ f', f = f' + 1 := ⟨f - 1, by omega⟩
              refine ⟨f', c5, s - C.s, ins s M, a5, rfl, rfl, by omega, by omega, by omega, (unhide HM).ins ⟨hs1, by omega⟩, unhide HO5, unhide HB5, ?_⟩
              rw [← unhide HE, addO, if_pos (unhide HH)]
            case measure => simp [intOf]; omega
          · have HH : Hid (hldW C.n s t = false) := by unfold Hid hldW; simp; omega
            have d2 : decide (t < s + C.n) = false := by simpa using hs2
            have HF : Hid (U (j + 1) = M) := by unfold Hid; rw [unhide HUj, ← unhide HE, addO_end (unhide HH)]
            go_wp2
            go_quiet (fail)
            have HO4 := hide (unhide HOd nq)
            have HB4 := hide (unhide HBd nq)
            clear HO3 HB3 HOd HBd y4 k3 k4
            generalize wr.drewN nq = V4 at *
            go_wp2
            go_roundw
            case rel => exact ⟨j + 1, cp, a, by omega, by go_num, by rw [unhide HF], by rw [unhide HF]; exact unhide HO4, unhide HB4⟩
            case measure => simp [intOf]; omega
        · have HH : Hid (hldW C.n s t = false) := by unfold Hid hldW; simp; omega
          have d2 : decide (0 ≤ s) = false := by simpa using hs1
          have HF : Hid (U (j + 1) = M) := by unfold Hid; rw [unhide HUj, ← unhide HE, addO_end (unhide HH)]
          go_wp2
          go_quiet (fail)
          have HO4 := hide (unhide HOd nq)
          have HB4 := hide (unhide HBd nq)
          clear HO3 HB3 HOd HBd y4 k3 k4
          generalize wr.drewN nq = V4 at *
          go_wp2
          go_roundw
          case rel => exact ⟨j + 1, cp, a, by omega, by go_num, by rw [unhide HF], by rw [unhide HF]; exact unhide HO4, unhide HB4⟩
          case measure => simp [intOf]; omega
    · have e : j = R.length := by omega
      subst e
      have HO := hide hown
      have HB := hide hB
      clear hown hB
      go_wp2
      go_ret
      exact ⟨_, rfl, unhide HO, unhide HB⟩

end Go.Proofs.Ytpnkmnmchdabkaa
