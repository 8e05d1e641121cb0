import Derived.Test.YtpnkmnmchdabkaaM43
import Derived.Test.YtpnkmnmchdabkaaM45
import Derived.Deep.Cut
namespace Go.Proofs.Ytpnkmnmchdabkaa
open Go.RowKit
attribute [local go_sem ↓] Go.wp_at_zero Go.wp_at_succ

/-- What the law has of a window so far. -/
def lawSu (x : Su) : Array Value := #[.int .i64 x.c, .int .i64 0, .int .i64 x.mn, .int .i64 x.mx, .int .i64 x.f, .int .i64 x.l, .int .i64 x.lt, .bool x.o]
/-- A block of eight cells, one of them written. -/
theorem set1 {W : World} {sb : Nat} {cs cs' : Array Value} {T : TypeId} (h : W.heap[sb]? = some (.cells cs T (0, 0))) (i : Nat) (v : Value) (he : cs.setIfInBounds i v = cs') : (W.setCell ⟨sb, i, none⟩ v).heap[sb]? = some (.cells cs' T (0, 0)) := by
  rw [heap_setCell_same h, he]

theorem set_far {W : World} {sb b : Nat} {o : Option Obj} (i : Nat) (v : Value) (hne : b ≠ sb) (h : W.heap[b]? = o) : (W.setCell ⟨sb, i, none⟩ v).heap[b]? = o := (Below.heap_setCell _ _ _ _ hne).trans h

set_option maxRecDepth 100000 in
set_option maxHeartbeats 8000000 in
theorem lawSum_any {l : List Sh} {E : List En} {U : List Mk} {d : Nat → Nat} {w : World} {cb lb mb lcap mcap : Nat} {C : Cfg} (hI : Inv l) (hE : EntOk l E) (hEl : E.length ≤ 512) (hU : U.length = l.length) (hd : ∀ (k : Nat) (x : Mk), U[k]? = some x → x.d = d k) (hd32 : ∀ k, d k ≤ 32) (hB : Bfr w cb lb mb C l E U) (hC : 0 ≤ C.n ∧ C.n ≤ 100 ∧ 0 ≤ C.t ∧ C.t ≤ 100) (R : List En) (hR : ∀ e ∈ R, e ∈ E) (hRl : R.length ≤ 512) (ra : Option Addr) (rc : Nat) (hRr : EnR w ra R) (st : Int) (hst : 0 ≤ st ∧ st ≤ 1000000) :
    Calls Try.prog 71 #[.pointer (some ⟨cb, 0, none⟩), .slice (some ⟨lb, 0, none⟩) l.length lcap, .slice (some ⟨mb, 0, none⟩) U.length mcap, .slice ra R.length rc, .int .i64 st] w fun e w' => e = .returned (suV (rdOf C st (R.map (enFd l d)))) ∧ Below w.heap.size w w' := by
  have HBe : Hid (∀ (e : En) (W : World), e ∈ R → Below w.heap.size w W → Calls Try.prog 101 #[.pointer (some ⟨cb, 0, none⟩), .slice (some ⟨lb, 0, none⟩) l.length lcap, .slice (some ⟨mb, 0, none⟩) U.length mcap, .int .i64 e.shard, .int .i64 e.place] W fun e9 w' => e9 = .returned (.int .i64 (ahd l d e.shard e.place)) ∧ Below W.heap.size W w') := by
    intro e W he hW
    have h1 := hE.lt e (hR e he)
    obtain ⟨j, hj⟩ := List.getElem?_of_mem (hR e he)
    have h2 := hE.pl j e hj
    have h3 := held_le (E.take j) e.shard
    have h4 : (E.take j).length ≤ E.length := by rw [List.length_take]; omega
    exact before_any hI hE hEl hU hd hd32 e.shard h1.1 e.place W (by omega) (hB.below hW)
  have HCc : Hid (∀ W, Below w.heap.size w W → W.cell? ⟨cb, 3, none⟩ = some (.int .i64 C.n) ∧ W.cell? ⟨cb, 5, none⟩ = some (.int .i64 C.t)) := fun W hW => by
    obtain ⟨_, _, _, a, b⟩ := hB W hW
    exact ⟨a, b⟩
  have HV : Hid (∀ e ∈ R, -1000000 ≤ e.value ∧ e.value ≤ 1000000 ∧ 0 ≤ e.time ∧ e.time ≤ 1000000) := fun e he => (hE.key e (hR e he)).2
  obtain ⟨Q, hQ⟩ : ∃ Q : Nat → Su, ∀ j, Q j = rdOf C st ((R.map (enFd l d)).take j) := ⟨_, fun _ => rfl⟩
  have HQe : Hid (rdOf C st (R.map (enFd l d)) = Q R.length) := by unfold Hid; rw [hQ, show R.length = (R.map (enFd l d)).length by simp, List.take_length]
  have HQ0 : Hid (Q 0 = su0) := hQ 0
  have HQs : Hid (∀ (j : Nat) (e : En), R[j]? = some e → Q (j + 1) = if holdsW C.n st e.time = true then addS (Q j) e.value (decide (e.time + C.t < ahd l d e.shard e.place)) else Q j) := by
    intro j e hj
    rw [hQ, hQ, rdOf_take (x := enFd l d e) (by rw [List.getElem?_map, hj]; rfl)]
    rfl
  have HR := hide hRr
  rw [unhide HQe]
  clear hI hE hU hd hd32 hB hR hRr hQ HQe
  unfold suV
  go_enter Try.func71, Try.ntmps71
  go_wp2
  have HI0 : Hid (((w.alloc (.cells #[.int .i64 0, .int .i64 0, .int .i64 0, .int .i64 0, .int .i64 0, .int .i64 0, .int .i64 0, .bool false] 132)).alloc (.cells #[.int .i64 0, .int .i64 0, .int .i64 0, .int .i64 0, .int .i64 0, .int .i64 0, .int .i64 0, .bool false] 132)).heap[w.heap.size + 1]? = some (.cells (lawSu (Q 0)) 132 (0, 0)) ∧ ((w.alloc (.cells #[.int .i64 0, .int .i64 0, .int .i64 0, .int .i64 0, .int .i64 0, .int .i64 0, .int .i64 0, .bool false] 132)).alloc (.cells #[.int .i64 0, .int .i64 0, .int .i64 0, .int .i64 0, .int .i64 0, .int .i64 0, .int .i64 0, .bool false] 132)).heap[w.heap.size]? = some (.cells #[.int .i64 0, .int .i64 0, .int .i64 0, .int .i64 0, .int .i64 0, .int .i64 0, .int .i64 0, .bool false] 132 (0, 0)) ∧ Below w.heap.size w ((w.alloc (.cells #[.int .i64 0, .int .i64 0, .int .i64 0, .int .i64 0, .int .i64 0, .int .i64 0, .int .i64 0, .bool false] 132)).alloc (.cells #[.int .i64 0, .int .i64 0, .int .i64 0, .int .i64 0, .int .i64 0, .int .i64 0, .int .i64 0, .bool false] 132))) := by
    refine ⟨?_, ?_, ((Below.refl _ w).alloc (Nat.le_refl _) _).alloc (by simp) _⟩
    · rw [unhide HQ0]; exact new_two w _ _
    · rw [Below.heap_alloc _ _ _ (by simp)]; exact heap_alloc_new w _
  go_loopw [12, 13] (fun t i wr => ∃ (j : Nat) (T : Int), j ≤ R.length ∧ i = .int .i64 j ∧ t = .int .i64 T ∧ SumI j (Q j) T ∧ wr.heap[w.heap.size + 1]? = some (.cells (lawSu (Q j)) 132 (0, 0)) ∧ wr.heap[w.heap.size]? = some (.cells #[.int .i64 0, .int .i64 0, .int .i64 0, .int .i64 0, .int .i64 0, .int .i64 0, .int .i64 0, .bool false] 132 (0, 0)) ∧ Below w.heap.size w wr) (fun _ i _ => R.length - (intOf i).toNat)
  case atStart => exact ⟨0, 0, Nat.zero_le _, rfl, rfl, by rw [unhide HQ0]; exact SumI.zero, (unhide HI0).1, (unhide HI0).2.1, (unhide HI0).2.2⟩
  case round =>
    obtain ⟨j, T, hj, rfl, rfl, hS, hb, hr, hB⟩ := hrel
    by_cases hlt : j < R.length
    · obtain ⟨e, he⟩ : ∃ e, R[j]? = some e := ⟨R[j], List.getElem?_eq_getElem hlt⟩
      obtain ⟨v1, v2, t1, t2⟩ := unhide HV e (List.mem_of_getElem? he)
      obtain ⟨eb, rfl, heb, hc⟩ := (unhide HR) j e he
      have hc' : ∀ i, i < 5 → wr.cell? ⟨eb, j * 5 + i, none⟩ = (enCells e)[i]? := fun i hi => (hB.cell (p := ⟨eb, j * 5 + i, none⟩) heb).trans (hc i hi)
      have y0 : wr.cell? ⟨eb, j * 5, none⟩ = some (.int .i64 e.shard) := hc' 0 (by omega)
      have y1 : wr.cell? ⟨eb, j * 5 + 1, none⟩ = some (.int .i64 e.place) := hc' 1 (by omega)
      have y2 : wr.cell? ⟨eb, j * 5 + 2, none⟩ = some (.string e.key) := hc' 2 (by omega)
      have y3 : wr.cell? ⟨eb, j * 5 + 3, none⟩ = some (.int .i64 e.value) := hc' 3 (by omega)
      have y4 : wr.cell? ⟨eb, j * 5 + 4, none⟩ = some (.int .i64 e.time) := hc' 4 (by omega)
      have HQj := hide (unhide HQs j e he)
      have HBx := hide (hB.alloc hB.size (.cells #[.int .i64 e.shard, .int .i64 e.place, .string e.key, .int .i64 e.value, .int .i64 e.time] 59))
      have HXn := hide (heap_alloc_new wr (.cells #[.int .i64 e.shard, .int .i64 e.place, .string e.key, .int .i64 e.value, .int .i64 e.time] 59))
      have HXs := hide ((Below.heap_alloc wr (.cells #[.int .i64 e.shard, .int .i64 e.place, .string e.key, .int .i64 e.value, .int .i64 e.time] 59) (w.heap.size + 1) (lt_of_heap hb)).trans hb)
      have HXr := hide ((Below.heap_alloc wr (.cells #[.int .i64 e.shard, .int .i64 e.place, .string e.key, .int .i64 e.value, .int .i64 e.time] 59) w.heap.size (lt_of_heap hr)).trans hr)
      have CB : Hid (∀ W, Below w.heap.size w W → Calls Try.prog 101 #[.pointer (some ⟨cb, 0, none⟩), .slice (some ⟨lb, 0, none⟩) l.length lcap, .slice (some ⟨mb, 0, none⟩) U.length mcap, .int .i64 e.shard, .int .i64 e.place] W fun e9 w' => e9 = .returned (.int .i64 (ahd l d e.shard e.place)) ∧ Below W.heap.size W w') := fun W hW => unhide HBe e W (List.mem_of_getElem? he) hW
      have hne : Hid (w.heap.size + 1 ≠ wr.heap.size ∧ w.heap.size ≠ wr.heap.size) := ⟨by have := lt_of_heap hb; omega, by have := lt_of_heap hr; omega⟩
      have hsum := hide (hS.add (by omega) e.value)
      have HS := hide hS
      obtain ⟨hxc0, hxc1⟩ := hS.c
      obtain ⟨hxl0, hxl1⟩ := hS.lt
      obtain ⟨hT0, hT1⟩ := hS.t
      have hxz := hide hS.z
      clear hb hr hB hc hc' he hS
      go_wp2_with fail
      clear y0 y1 y2 y3 y4
      generalize (wr.alloc (.cells #[.int .i64 e.shard, .int .i64 e.place, .string e.key, .int .i64 e.value, .int .i64 e.time] 59)) = V0 at *
      obtain ⟨k3, k5⟩ := unhide HCc _ (unhide HBx)
      have x4 : V0.cell? ⟨wr.heap.size, 4, none⟩ = some (.int .i64 e.time) := cell_of (unhide HXn) 4
      have hwn : IntKind.i64.wrap (st + C.n) = st + C.n := by rw [IntKind.wrap_i64]; omega
      have hwt : IntKind.i64.wrap (e.time + C.t) = e.time + C.t := by rw [IntKind.wrap_i64]; omega
      generalize hx : Q j = x at *
      have HX := hide hx
      clear hx
      by_cases h1 : e.time < st
      · have HH : Hid (Q (j + 1) = x) := by unfold Hid; rw [unhide HQj, if_neg (by unfold holdsW; simp; omega)]
        have d1 : decide (e.time < st) = true := by simpa using h1
        go_quiet (fail)
        have HB2 := hide (below_drewN (unhide HBx) nq)
        have HS2 : Hid ((V0.drewN nq).heap[w.heap.size + 1]? = some (.cells (lawSu x) 132 (0, 0))) := unhide HXs
        have HR2 : Hid ((V0.drewN nq).heap[w.heap.size]? = some (.cells #[.int .i64 0, .int .i64 0, .int .i64 0, .int .i64 0, .int .i64 0, .int .i64 0, .int .i64 0, .bool false] 132 (0, 0))) := unhide HXr
        clear HBx HXs HXr HXn x4 k3 k5
        generalize V0.drewN nq = V at *
        go_wp2
        go_roundw
        case rel => exact ⟨j + 1, T, by omega, by go_num, rfl, by rw [unhide HH]; exact (unhide HS).same, by rw [unhide HH]; exact unhide HS2, unhide HR2, unhide HB2⟩
        case measure => simp [intOf]; omega
      · have d1 : decide (e.time < st) = false := by simpa using h1
        by_cases h2 : st + C.n ≤ e.time
        · have HH : Hid (Q (j + 1) = x) := by unfold Hid; rw [unhide HQj, if_neg (by unfold holdsW; simp; omega)]
          have d2 : decide (st + C.n ≤ e.time) = true := by simpa using h2
          go_quiet (fail)
          have HB2 := hide (below_drewN (unhide HBx) nq)
          have HS2 : Hid ((V0.drewN nq).heap[w.heap.size + 1]? = some (.cells (lawSu x) 132 (0, 0))) := unhide HXs
          have HR2 : Hid ((V0.drewN nq).heap[w.heap.size]? = some (.cells #[.int .i64 0, .int .i64 0, .int .i64 0, .int .i64 0, .int .i64 0, .int .i64 0, .int .i64 0, .bool false] 132 (0, 0))) := unhide HXr
          clear HBx HXs HXr HXn x4 k3 k5
          generalize V0.drewN nq = V at *
          go_wp2
          go_roundw
          case rel => exact ⟨j + 1, T, by omega, by go_num, rfl, by rw [unhide HH]; exact (unhide HS).same, by rw [unhide HH]; exact unhide HS2, unhide HR2, unhide HB2⟩
          case measure => simp [intOf]; omega
        · have d2 : decide (st + C.n ≤ e.time) = false := by simpa using h2
          have HH : Hid (Q (j + 1) = addS x e.value (decide (e.time + C.t < ahd l d e.shard e.place))) := by unfold Hid; rw [unhide HQj, if_pos (by unfold holdsW; simp; omega)]
          go_quiet (fail)
          have HB2 := hide (below_drewN (unhide HBx) nq)
          have HS2 : Hid ((V0.drewN nq).heap[w.heap.size + 1]? = some (.cells #[.int .i64 (x.c), .int .i64 0, .int .i64 (x.mn), .int .i64 (x.mx), .int .i64 (x.f), .int .i64 (x.l), .int .i64 (x.lt), .bool x.o] 132 (0, 0))) := unhide HXs
          have HR2 : Hid ((V0.drewN nq).heap[w.heap.size]? = some (.cells #[.int .i64 0, .int .i64 0, .int .i64 0, .int .i64 0, .int .i64 0, .int .i64 0, .int .i64 0, .bool false] 132 (0, 0))) := unhide HXr
          have HN2 : Hid ((V0.drewN nq).heap[wr.heap.size]? = some (.cells #[.int .i64 e.shard, .int .i64 e.place, .string e.key, .int .i64 e.value, .int .i64 e.time] 59 (0, 0))) := unhide HXn
          clear HBx HXs HXr HXn x4 k3 k5
          generalize V0.drewN nq = V at *
          have x0 : V.cell? ⟨wr.heap.size, 0, none⟩ = some (.int .i64 e.shard) := cell_of (unhide HN2) 0
          have x1 : V.cell? ⟨wr.heap.size, 1, none⟩ = some (.int .i64 e.place) := cell_of (unhide HN2) 1
          have x3 : V.cell? ⟨wr.heap.size, 3, none⟩ = some (.int .i64 e.value) := cell_of (unhide HN2) 3
          have x4 : V.cell? ⟨wr.heap.size, 4, none⟩ = some (.int .i64 e.time) := cell_of (unhide HN2) 4
          have s0 : V.cell? ⟨w.heap.size + 1, 0, none⟩ = some (.int .i64 (x.c)) := cell_of (unhide HS2) 0
          have g0 := frozen_of (unhide HS2) 0
          have s1 : V.cell? ⟨w.heap.size + 1, 1, none⟩ = some (.int .i64 0) := cell_of (unhide HS2) 1
          have g1 := frozen_of (unhide HS2) 1
          have s2 : V.cell? ⟨w.heap.size + 1, 2, none⟩ = some (.int .i64 (x.mn)) := cell_of (unhide HS2) 2
          have g2 := frozen_of (unhide HS2) 2
          have s3 : V.cell? ⟨w.heap.size + 1, 3, none⟩ = some (.int .i64 (x.mx)) := cell_of (unhide HS2) 3
          have g3 := frozen_of (unhide HS2) 3
          have s4 : V.cell? ⟨w.heap.size + 1, 4, none⟩ = some (.int .i64 (x.f)) := cell_of (unhide HS2) 4
          have g4 := frozen_of (unhide HS2) 4
          have s5 : V.cell? ⟨w.heap.size + 1, 5, none⟩ = some (.int .i64 (x.l)) := cell_of (unhide HS2) 5
          have g5 := frozen_of (unhide HS2) 5
          have s6 : V.cell? ⟨w.heap.size + 1, 6, none⟩ = some (.int .i64 (x.lt)) := cell_of (unhide HS2) 6
          have g6 := frozen_of (unhide HS2) 6
          have s7 : V.cell? ⟨w.heap.size + 1, 7, none⟩ = some (.bool x.o) := cell_of (unhide HS2) 7
          have g7 := frozen_of (unhide HS2) 7
          have hne1 := (unhide hne).1
          have hov : IntKind.i64.wrap (T + e.value) = T + e.value := by rw [IntKind.wrap_i64]; omega
          have hwc : IntKind.i64.wrap (x.c + 1) = x.c + 1 := by rw [IntKind.wrap_i64]; omega
          by_cases hc0 : x.c = 0
          · obtain ⟨hx0, hTz⟩ := unhide hxz hc0
            have ho : x.o = false := by rw [hx0]; rfl
            have hl0 : x.lt = 0 := by rw [hx0]; rfl
            have d3 : (x.c == 0) = true := by simpa using hc0
            clear hx0 hTz
            obtain ⟨S9, B9⟩ := set8_new (o0 := .int .i64 0) (o1 := .int .i64 0) (o2 := .int .i64 e.value) (o3 := .int .i64 e.value) (o4 := .int .i64 e.value) (o5 := .int .i64 0) (o6 := .int .i64 0) (o7 := .bool false) (unhide HB2) (Nat.le_succ _) (unhide HS2)
            have R9 := (set_far 7 (.bool false) (show w.heap.size ≠ w.heap.size + 1 by omega) (set_far 6 (.int .i64 0) (show w.heap.size ≠ w.heap.size + 1 by omega) (set_far 5 (.int .i64 0) (show w.heap.size ≠ w.heap.size + 1 by omega) (set_far 4 (.int .i64 e.value) (show w.heap.size ≠ w.heap.size + 1 by omega) (set_far 3 (.int .i64 e.value) (show w.heap.size ≠ w.heap.size + 1 by omega) (set_far 2 (.int .i64 e.value) (show w.heap.size ≠ w.heap.size + 1 by omega) (set_far 1 (.int .i64 0) (show w.heap.size ≠ w.heap.size + 1 by omega) (set_far 0 (.int .i64 0) (show w.heap.size ≠ w.heap.size + 1 by omega) (unhide HR2)))))))))
            have N9 := (set_far 7 (.bool false) (show wr.heap.size ≠ w.heap.size + 1 from fun e9 => hne1 e9.symm) (set_far 6 (.int .i64 0) (show wr.heap.size ≠ w.heap.size + 1 from fun e9 => hne1 e9.symm) (set_far 5 (.int .i64 0) (show wr.heap.size ≠ w.heap.size + 1 from fun e9 => hne1 e9.symm) (set_far 4 (.int .i64 e.value) (show wr.heap.size ≠ w.heap.size + 1 from fun e9 => hne1 e9.symm) (set_far 3 (.int .i64 e.value) (show wr.heap.size ≠ w.heap.size + 1 from fun e9 => hne1 e9.symm) (set_far 2 (.int .i64 e.value) (show wr.heap.size ≠ w.heap.size + 1 from fun e9 => hne1 e9.symm) (set_far 1 (.int .i64 0) (show wr.heap.size ≠ w.heap.size + 1 from fun e9 => hne1 e9.symm) (set_far 0 (.int .i64 0) (show wr.heap.size ≠ w.heap.size + 1 from fun e9 => hne1 e9.symm) (unhide HN2)))))))))
            have HS9 := hide S9
            have HB9 := hide B9
            have HR9 := hide R9
            have HN9 := hide N9
            clear S9 B9 R9 N9 HS2 HR2 HN2 HB2
            go_upto_region 10 with fail
            generalize ((((((((V.setCell ⟨w.heap.size + 1, 0, none⟩ (.int .i64 0)).setCell ⟨w.heap.size + 1, 1, none⟩ (.int .i64 0)).setCell ⟨w.heap.size + 1, 2, none⟩ (.int .i64 e.value)).setCell ⟨w.heap.size + 1, 3, none⟩ (.int .i64 e.value)).setCell ⟨w.heap.size + 1, 4, none⟩ (.int .i64 e.value)).setCell ⟨w.heap.size + 1, 5, none⟩ (.int .i64 0)).setCell ⟨w.heap.size + 1, 6, none⟩ (.int .i64 0)).setCell ⟨w.heap.size + 1, 7, none⟩ (.bool false)) = V9 at *
            clear x0 x1 x3 x4 s0 s1 s2 s3 s4 s5 s6 s7 g0 g1 g2 g3 g4 g5 g6 g7
            have HS2 := HS9
            have HB2 := HB9
            have HR2 := HR9
            have HN2 := HN9
            have x0 : V9.cell? ⟨wr.heap.size, 0, none⟩ = some (.int .i64 e.shard) := cell_of (unhide HN2) 0
            have x1 : V9.cell? ⟨wr.heap.size, 1, none⟩ = some (.int .i64 e.place) := cell_of (unhide HN2) 1
            have x3 : V9.cell? ⟨wr.heap.size, 3, none⟩ = some (.int .i64 e.value) := cell_of (unhide HN2) 3
            have x4 : V9.cell? ⟨wr.heap.size, 4, none⟩ = some (.int .i64 e.time) := cell_of (unhide HN2) 4
            have s0 : V9.cell? ⟨w.heap.size + 1, 0, none⟩ = some (.int .i64 0) := cell_of (unhide HS2) 0
            have g0 := frozen_of (unhide HS2) 0
            have s1 : V9.cell? ⟨w.heap.size + 1, 1, none⟩ = some (.int .i64 0) := cell_of (unhide HS2) 1
            have g1 := frozen_of (unhide HS2) 1
            have s2 : V9.cell? ⟨w.heap.size + 1, 2, none⟩ = some (.int .i64 e.value) := cell_of (unhide HS2) 2
            have g2 := frozen_of (unhide HS2) 2
            have s3 : V9.cell? ⟨w.heap.size + 1, 3, none⟩ = some (.int .i64 e.value) := cell_of (unhide HS2) 3
            have g3 := frozen_of (unhide HS2) 3
            have s4 : V9.cell? ⟨w.heap.size + 1, 4, none⟩ = some (.int .i64 e.value) := cell_of (unhide HS2) 4
            have g4 := frozen_of (unhide HS2) 4
            have s5 : V9.cell? ⟨w.heap.size + 1, 5, none⟩ = some (.int .i64 0) := cell_of (unhide HS2) 5
            have g5 := frozen_of (unhide HS2) 5
            have s6 : V9.cell? ⟨w.heap.size + 1, 6, none⟩ = some (.int .i64 0) := cell_of (unhide HS2) 6
            have g6 := frozen_of (unhide HS2) 6
            have s7 : V9.cell? ⟨w.heap.size + 1, 7, none⟩ = some (.bool false) := cell_of (unhide HS2) 7
            have g7 := frozen_of (unhide HS2) 7
            by_cases ho1 : 1000000 < T + e.value
            · have hovr : ovr x (T + e.value) = true := by unfold ovr; simp [ho1]
              have do1 : decide (1000000 < T + e.value) = true := by simpa using ho1
              have P0 := unhide HS2
              have P1 := set1 P0 5 (.int .i64 e.value) (show _ = #[.int .i64 0, .int .i64 0, .int .i64 e.value, .int .i64 e.value, .int .i64 e.value, .int .i64 e.value, .int .i64 0, .bool false] from rfl)
              have P2 := set1 P1 0 (.int .i64 1) (show _ = #[.int .i64 1, .int .i64 0, .int .i64 e.value, .int .i64 e.value, .int .i64 e.value, .int .i64 e.value, .int .i64 0, .bool false] from rfl)
              have P3 := set1 P2 7 (.bool true) (show _ = #[.int .i64 1, .int .i64 0, .int .i64 e.value, .int .i64 e.value, .int .i64 e.value, .int .i64 e.value, .int .i64 0, .bool true] from rfl)
              have PB := hide (below_set (Nat.le_succ _) (below_set (Nat.le_succ _) (below_set (Nat.le_succ _) (unhide HB2) 5 (.int .i64 e.value)) 0 (.int .i64 1)) 7 (.bool true))
              have PR := hide (set_far 7 (.bool true) (show w.heap.size ≠ w.heap.size + 1 by omega) (set_far 0 (.int .i64 1) (show w.heap.size ≠ w.heap.size + 1 by omega) (set_far 5 (.int .i64 e.value) (show w.heap.size ≠ w.heap.size + 1 by omega) (unhide HR2))))
              have PN := hide (set_far 7 (.bool true) (show wr.heap.size ≠ w.heap.size + 1 from fun e9 => hne1 e9.symm) (set_far 0 (.int .i64 1) (show wr.heap.size ≠ w.heap.size + 1 from fun e9 => hne1 e9.symm) (set_far 5 (.int .i64 e.value) (show wr.heap.size ≠ w.heap.size + 1 from fun e9 => hne1 e9.symm) (unhide HN2))))
              have PS := hide P3
              clear P0 P1 P2 P3 HR2 HN2 HS2 HB2
              go_wp2_with fail
              generalize (((V9.setCell ⟨w.heap.size + 1, 5, none⟩ (.int .i64 e.value)).setCell ⟨w.heap.size + 1, 0, none⟩ (.int .i64 1)).setCell ⟨w.heap.size + 1, 7, none⟩ (.bool true)) = V2 at *
              refine (unhide CB _ (unhide PB)).mono ?_
              rintro e9 w3 ⟨rfl, hb3⟩
              have HB3 := hide ((unhide PB).trans (hb3.mono (unhide PB).size))
              have S3 := (hb3.block _ (lt_of_heap (unhide PS))).trans (unhide PS)
              have R3 := hide ((hb3.block _ (lt_of_heap (unhide PR))).trans (unhide PR))
              have N3 := (hb3.block _ (lt_of_heap (unhide PN))).trans (unhide PN)
              obtain ⟨_, q5⟩ := unhide HCc _ (unhide HB3)
              have q4 : w3.cell? ⟨wr.heap.size, 4, none⟩ = some (.int .i64 e.time) := cell_of N3 4
              have HS3 := hide S3
              clear hb3 S3 N3 PB PR PN PS s0 g0 s1 g1 s2 g2 s3 g3 s4 g4 s5 g5 s6 g6 s7 g7 x0 x1 x3 x4
              generalize ahd l d e.shard e.place = ah at *
              by_cases hla : e.time + C.t < ah
              · have d9 : decide (e.time + C.t < ah) = true := by simpa using hla
                obtain ⟨s9, hadd, hnx⟩ := unhide hsum true ⟨v1, v2⟩
                rw [d9, hadd] at HH
                rw [hadd] at hnx
                rw [hovr, if_pos (Or.inl hc0), if_pos (Or.inl hc0), if_pos hc0, if_pos rfl, hc0, hl0] at HH hnx
                have HNX := hide hnx
                clear hadd hnx
                go_wp2
                go_quiet (fail)
                have HS4 : Hid ((w3.drewN nq).heap[w.heap.size + 1]? = some (.cells #[.int .i64 1, .int .i64 0, .int .i64 e.value, .int .i64 e.value, .int .i64 e.value, .int .i64 e.value, .int .i64 0, .bool true] 132 (0, 0))) := unhide HS3
                have HR4 : Hid ((w3.drewN nq).heap[w.heap.size]? = some (.cells #[.int .i64 0, .int .i64 0, .int .i64 0, .int .i64 0, .int .i64 0, .int .i64 0, .int .i64 0, .bool false] 132 (0, 0))) := unhide R3
                have HB4 := hide (below_drewN (unhide HB3) nq)
                clear q4 q5 HS3 R3 HB3
                generalize w3.drewN nq = V5 at *
                have r6 : V5.cell? ⟨w.heap.size + 1, 6, none⟩ = some (.int .i64 0) := cell_of (unhide HS4) 6
                have f6 := frozen_of (unhide HS4) 6
                have hwl : IntKind.i64.wrap (x.lt + 1) = x.lt + 1 := by rw [IntKind.wrap_i64]; omega
                have P9 := hide (set1 (unhide HS4) 6 (.int .i64 1) (show _ = #[.int .i64 1, .int .i64 0, .int .i64 e.value, .int .i64 e.value, .int .i64 e.value, .int .i64 e.value, .int .i64 1, .bool true] from rfl))
                have P8 := hide ((Below.heap_setCell V5 ⟨w.heap.size + 1, 6, none⟩ (.int .i64 1) w.heap.size (show w.heap.size ≠ w.heap.size + 1 by omega)).trans (unhide HR4))
                have P7 := hide (below_set (Nat.le_succ _) (unhide HB4) 6 (.int .i64 1))
                go_wp2
                go_roundw
                case rel => exact ⟨j + 1, T + e.value, by omega, by go_num, rfl, by rw [unhide HH]; exact unhide HNX, by rw [unhide HH]; exact unhide P9, unhide P8, unhide P7⟩
                case measure => simp [intOf]; omega
              · have d9 : decide (e.time + C.t < ah) = false := by simpa using hla
                obtain ⟨s9, hadd, hnx⟩ := unhide hsum false ⟨v1, v2⟩
                rw [d9, hadd] at HH
                rw [hadd] at hnx
                rw [hovr, if_pos (Or.inl hc0), if_pos (Or.inl hc0), if_pos hc0, if_neg Bool.false_ne_true, hc0, hl0] at HH hnx
                have HNX := hide hnx
                clear hadd hnx
                go_wp2
                go_quiet (fail)
                have HS4 : Hid ((w3.drewN nq).heap[w.heap.size + 1]? = some (.cells #[.int .i64 1, .int .i64 0, .int .i64 e.value, .int .i64 e.value, .int .i64 e.value, .int .i64 e.value, .int .i64 0, .bool true] 132 (0, 0))) := unhide HS3
                have HR4 : Hid ((w3.drewN nq).heap[w.heap.size]? = some (.cells #[.int .i64 0, .int .i64 0, .int .i64 0, .int .i64 0, .int .i64 0, .int .i64 0, .int .i64 0, .bool false] 132 (0, 0))) := unhide R3
                have HB4 := hide (below_drewN (unhide HB3) nq)
                clear q4 q5 HS3 R3 HB3
                generalize w3.drewN nq = V5 at *
                go_wp2
                go_roundw
                case rel => exact ⟨j + 1, T + e.value, by omega, by go_num, rfl, by rw [unhide HH]; exact unhide HNX, by rw [unhide HH]; exact unhide HS4, unhide HR4, unhide HB4⟩
                case measure => simp [intOf]; omega
            · have do1 : decide (1000000 < T + e.value) = false := by simpa using ho1
              by_cases ho2 : T + e.value < -1000000
              · have hovr : ovr x (T + e.value) = true := by unfold ovr; simp [ho2]
                have do2 : decide (T + e.value < -1000000) = true := by simpa using ho2
                have P0 := unhide HS2
                have P1 := set1 P0 5 (.int .i64 e.value) (show _ = #[.int .i64 0, .int .i64 0, .int .i64 e.value, .int .i64 e.value, .int .i64 e.value, .int .i64 e.value, .int .i64 0, .bool false] from rfl)
                have P2 := set1 P1 0 (.int .i64 1) (show _ = #[.int .i64 1, .int .i64 0, .int .i64 e.value, .int .i64 e.value, .int .i64 e.value, .int .i64 e.value, .int .i64 0, .bool false] from rfl)
                have P3 := set1 P2 7 (.bool true) (show _ = #[.int .i64 1, .int .i64 0, .int .i64 e.value, .int .i64 e.value, .int .i64 e.value, .int .i64 e.value, .int .i64 0, .bool true] from rfl)
                have PB := hide (below_set (Nat.le_succ _) (below_set (Nat.le_succ _) (below_set (Nat.le_succ _) (unhide HB2) 5 (.int .i64 e.value)) 0 (.int .i64 1)) 7 (.bool true))
                have PR := hide (set_far 7 (.bool true) (show w.heap.size ≠ w.heap.size + 1 by omega) (set_far 0 (.int .i64 1) (show w.heap.size ≠ w.heap.size + 1 by omega) (set_far 5 (.int .i64 e.value) (show w.heap.size ≠ w.heap.size + 1 by omega) (unhide HR2))))
                have PN := hide (set_far 7 (.bool true) (show wr.heap.size ≠ w.heap.size + 1 from fun e9 => hne1 e9.symm) (set_far 0 (.int .i64 1) (show wr.heap.size ≠ w.heap.size + 1 from fun e9 => hne1 e9.symm) (set_far 5 (.int .i64 e.value) (show wr.heap.size ≠ w.heap.size + 1 from fun e9 => hne1 e9.symm) (unhide HN2))))
                have PS := hide P3
                clear P0 P1 P2 P3 HR2 HN2 HS2 HB2
                go_wp2_with fail
                generalize (((V9.setCell ⟨w.heap.size + 1, 5, none⟩ (.int .i64 e.value)).setCell ⟨w.heap.size + 1, 0, none⟩ (.int .i64 1)).setCell ⟨w.heap.size + 1, 7, none⟩ (.bool true)) = V2 at *
                refine (unhide CB _ (unhide PB)).mono ?_
                rintro e9 w3 ⟨rfl, hb3⟩
                have HB3 := hide ((unhide PB).trans (hb3.mono (unhide PB).size))
                have S3 := (hb3.block _ (lt_of_heap (unhide PS))).trans (unhide PS)
                have R3 := hide ((hb3.block _ (lt_of_heap (unhide PR))).trans (unhide PR))
                have N3 := (hb3.block _ (lt_of_heap (unhide PN))).trans (unhide PN)
                obtain ⟨_, q5⟩ := unhide HCc _ (unhide HB3)
                have q4 : w3.cell? ⟨wr.heap.size, 4, none⟩ = some (.int .i64 e.time) := cell_of N3 4
                have HS3 := hide S3
                clear hb3 S3 N3 PB PR PN PS s0 g0 s1 g1 s2 g2 s3 g3 s4 g4 s5 g5 s6 g6 s7 g7 x0 x1 x3 x4
                generalize ahd l d e.shard e.place = ah at *
                by_cases hla : e.time + C.t < ah
                · have d9 : decide (e.time + C.t < ah) = true := by simpa using hla
                  obtain ⟨s9, hadd, hnx⟩ := unhide hsum true ⟨v1, v2⟩
                  rw [d9, hadd] at HH
                  rw [hadd] at hnx
                  rw [hovr, if_pos (Or.inl hc0), if_pos (Or.inl hc0), if_pos hc0, if_pos rfl, hc0, hl0] at HH hnx
                  have HNX := hide hnx
                  clear hadd hnx
                  go_wp2
                  go_quiet (fail)
                  have HS4 : Hid ((w3.drewN nq).heap[w.heap.size + 1]? = some (.cells #[.int .i64 1, .int .i64 0, .int .i64 e.value, .int .i64 e.value, .int .i64 e.value, .int .i64 e.value, .int .i64 0, .bool true] 132 (0, 0))) := unhide HS3
                  have HR4 : Hid ((w3.drewN nq).heap[w.heap.size]? = some (.cells #[.int .i64 0, .int .i64 0, .int .i64 0, .int .i64 0, .int .i64 0, .int .i64 0, .int .i64 0, .bool false] 132 (0, 0))) := unhide R3
                  have HB4 := hide (below_drewN (unhide HB3) nq)
                  clear q4 q5 HS3 R3 HB3
                  generalize w3.drewN nq = V5 at *
                  have r6 : V5.cell? ⟨w.heap.size + 1, 6, none⟩ = some (.int .i64 0) := cell_of (unhide HS4) 6
                  have f6 := frozen_of (unhide HS4) 6
                  have hwl : IntKind.i64.wrap (x.lt + 1) = x.lt + 1 := by rw [IntKind.wrap_i64]; omega
                  have P9 := hide (set1 (unhide HS4) 6 (.int .i64 1) (show _ = #[.int .i64 1, .int .i64 0, .int .i64 e.value, .int .i64 e.value, .int .i64 e.value, .int .i64 e.value, .int .i64 1, .bool true] from rfl))
                  have P8 := hide ((Below.heap_setCell V5 ⟨w.heap.size + 1, 6, none⟩ (.int .i64 1) w.heap.size (show w.heap.size ≠ w.heap.size + 1 by omega)).trans (unhide HR4))
                  have P7 := hide (below_set (Nat.le_succ _) (unhide HB4) 6 (.int .i64 1))
                  go_wp2
                  go_roundw
                  case rel => exact ⟨j + 1, T + e.value, by omega, by go_num, rfl, by rw [unhide HH]; exact unhide HNX, by rw [unhide HH]; exact unhide P9, unhide P8, unhide P7⟩
                  case measure => simp [intOf]; omega
                · have d9 : decide (e.time + C.t < ah) = false := by simpa using hla
                  obtain ⟨s9, hadd, hnx⟩ := unhide hsum false ⟨v1, v2⟩
                  rw [d9, hadd] at HH
                  rw [hadd] at hnx
                  rw [hovr, if_pos (Or.inl hc0), if_pos (Or.inl hc0), if_pos hc0, if_neg Bool.false_ne_true, hc0, hl0] at HH hnx
                  have HNX := hide hnx
                  clear hadd hnx
                  go_wp2
                  go_quiet (fail)
                  have HS4 : Hid ((w3.drewN nq).heap[w.heap.size + 1]? = some (.cells #[.int .i64 1, .int .i64 0, .int .i64 e.value, .int .i64 e.value, .int .i64 e.value, .int .i64 e.value, .int .i64 0, .bool true] 132 (0, 0))) := unhide HS3
                  have HR4 : Hid ((w3.drewN nq).heap[w.heap.size]? = some (.cells #[.int .i64 0, .int .i64 0, .int .i64 0, .int .i64 0, .int .i64 0, .int .i64 0, .int .i64 0, .bool false] 132 (0, 0))) := unhide R3
                  have HB4 := hide (below_drewN (unhide HB3) nq)
                  clear q4 q5 HS3 R3 HB3
                  generalize w3.drewN nq = V5 at *
                  go_wp2
                  go_roundw
                  case rel => exact ⟨j + 1, T + e.value, by omega, by go_num, rfl, by rw [unhide HH]; exact unhide HNX, by rw [unhide HH]; exact unhide HS4, unhide HR4, unhide HB4⟩
                  case measure => simp [intOf]; omega
              · have do2 : decide (T + e.value < -1000000) = false := by simpa using ho2
                have hovr : ovr x (T + e.value) = false := by unfold ovr; simp [ho1, ho2, ho]
                have P0 := unhide HS2
                have P1 := set1 P0 5 (.int .i64 e.value) (show _ = #[.int .i64 0, .int .i64 0, .int .i64 e.value, .int .i64 e.value, .int .i64 e.value, .int .i64 e.value, .int .i64 0, .bool false] from rfl)
                have P2 := set1 P1 0 (.int .i64 1) (show _ = #[.int .i64 1, .int .i64 0, .int .i64 e.value, .int .i64 e.value, .int .i64 e.value, .int .i64 e.value, .int .i64 0, .bool false] from rfl)
                have P3 := set1 P2 7 (.bool false) (show _ = #[.int .i64 1, .int .i64 0, .int .i64 e.value, .int .i64 e.value, .int .i64 e.value, .int .i64 e.value, .int .i64 0, .bool false] from rfl)
                have PB := hide (below_set (Nat.le_succ _) (below_set (Nat.le_succ _) (below_set (Nat.le_succ _) (unhide HB2) 5 (.int .i64 e.value)) 0 (.int .i64 1)) 7 (.bool false))
                have PR := hide (set_far 7 (.bool false) (show w.heap.size ≠ w.heap.size + 1 by omega) (set_far 0 (.int .i64 1) (show w.heap.size ≠ w.heap.size + 1 by omega) (set_far 5 (.int .i64 e.value) (show w.heap.size ≠ w.heap.size + 1 by omega) (unhide HR2))))
                have PN := hide (set_far 7 (.bool false) (show wr.heap.size ≠ w.heap.size + 1 from fun e9 => hne1 e9.symm) (set_far 0 (.int .i64 1) (show wr.heap.size ≠ w.heap.size + 1 from fun e9 => hne1 e9.symm) (set_far 5 (.int .i64 e.value) (show wr.heap.size ≠ w.heap.size + 1 from fun e9 => hne1 e9.symm) (unhide HN2))))
                have PS := hide P3
                clear P0 P1 P2 P3 HR2 HN2 HS2 HB2
                go_wp2_with fail
                generalize (((V9.setCell ⟨w.heap.size + 1, 5, none⟩ (.int .i64 e.value)).setCell ⟨w.heap.size + 1, 0, none⟩ (.int .i64 1)).setCell ⟨w.heap.size + 1, 7, none⟩ (.bool false)) = V2 at *
                refine (unhide CB _ (unhide PB)).mono ?_
                rintro e9 w3 ⟨rfl, hb3⟩
                have HB3 := hide ((unhide PB).trans (hb3.mono (unhide PB).size))
                have S3 := (hb3.block _ (lt_of_heap (unhide PS))).trans (unhide PS)
                have R3 := hide ((hb3.block _ (lt_of_heap (unhide PR))).trans (unhide PR))
                have N3 := (hb3.block _ (lt_of_heap (unhide PN))).trans (unhide PN)
                obtain ⟨_, q5⟩ := unhide HCc _ (unhide HB3)
                have q4 : w3.cell? ⟨wr.heap.size, 4, none⟩ = some (.int .i64 e.time) := cell_of N3 4
                have HS3 := hide S3
                clear hb3 S3 N3 PB PR PN PS s0 g0 s1 g1 s2 g2 s3 g3 s4 g4 s5 g5 s6 g6 s7 g7 x0 x1 x3 x4
                generalize ahd l d e.shard e.place = ah at *
                by_cases hla : e.time + C.t < ah
                · have d9 : decide (e.time + C.t < ah) = true := by simpa using hla
                  obtain ⟨s9, hadd, hnx⟩ := unhide hsum true ⟨v1, v2⟩
                  rw [d9, hadd] at HH
                  rw [hadd] at hnx
                  rw [hovr, if_pos (Or.inl hc0), if_pos (Or.inl hc0), if_pos hc0, if_pos rfl, hc0, hl0] at HH hnx
                  have HNX := hide hnx
                  clear hadd hnx
                  go_wp2
                  go_quiet (fail)
                  have HS4 : Hid ((w3.drewN nq).heap[w.heap.size + 1]? = some (.cells #[.int .i64 1, .int .i64 0, .int .i64 e.value, .int .i64 e.value, .int .i64 e.value, .int .i64 e.value, .int .i64 0, .bool false] 132 (0, 0))) := unhide HS3
                  have HR4 : Hid ((w3.drewN nq).heap[w.heap.size]? = some (.cells #[.int .i64 0, .int .i64 0, .int .i64 0, .int .i64 0, .int .i64 0, .int .i64 0, .int .i64 0, .bool false] 132 (0, 0))) := unhide R3
                  have HB4 := hide (below_drewN (unhide HB3) nq)
                  clear q4 q5 HS3 R3 HB3
                  generalize w3.drewN nq = V5 at *
                  have r6 : V5.cell? ⟨w.heap.size + 1, 6, none⟩ = some (.int .i64 0) := cell_of (unhide HS4) 6
                  have f6 := frozen_of (unhide HS4) 6
                  have hwl : IntKind.i64.wrap (x.lt + 1) = x.lt + 1 := by rw [IntKind.wrap_i64]; omega
                  have P9 := hide (set1 (unhide HS4) 6 (.int .i64 1) (show _ = #[.int .i64 1, .int .i64 0, .int .i64 e.value, .int .i64 e.value, .int .i64 e.value, .int .i64 e.value, .int .i64 1, .bool false] from rfl))
                  have P8 := hide ((Below.heap_setCell V5 ⟨w.heap.size + 1, 6, none⟩ (.int .i64 1) w.heap.size (show w.heap.size ≠ w.heap.size + 1 by omega)).trans (unhide HR4))
                  have P7 := hide (below_set (Nat.le_succ _) (unhide HB4) 6 (.int .i64 1))
                  go_wp2
                  go_roundw
                  case rel => exact ⟨j + 1, T + e.value, by omega, by go_num, rfl, by rw [unhide HH]; exact unhide HNX, by rw [unhide HH]; exact unhide P9, unhide P8, unhide P7⟩
                  case measure => simp [intOf]; omega
                · have d9 : decide (e.time + C.t < ah) = false := by simpa using hla
                  obtain ⟨s9, hadd, hnx⟩ := unhide hsum false ⟨v1, v2⟩
                  rw [d9, hadd] at HH
                  rw [hadd] at hnx
                  rw [hovr, if_pos (Or.inl hc0), if_pos (Or.inl hc0), if_pos hc0, if_neg Bool.false_ne_true, hc0, hl0] at HH hnx
                  have HNX := hide hnx
                  clear hadd hnx
                  go_wp2
                  go_quiet (fail)
                  have HS4 : Hid ((w3.drewN nq).heap[w.heap.size + 1]? = some (.cells #[.int .i64 1, .int .i64 0, .int .i64 e.value, .int .i64 e.value, .int .i64 e.value, .int .i64 e.value, .int .i64 0, .bool false] 132 (0, 0))) := unhide HS3
                  have HR4 : Hid ((w3.drewN nq).heap[w.heap.size]? = some (.cells #[.int .i64 0, .int .i64 0, .int .i64 0, .int .i64 0, .int .i64 0, .int .i64 0, .int .i64 0, .bool false] 132 (0, 0))) := unhide R3
                  have HB4 := hide (below_drewN (unhide HB3) nq)
                  clear q4 q5 HS3 R3 HB3
                  generalize w3.drewN nq = V5 at *
                  go_wp2
                  go_roundw
                  case rel => exact ⟨j + 1, T + e.value, by omega, by go_num, rfl, by rw [unhide HH]; exact unhide HNX, by rw [unhide HH]; exact unhide HS4, unhide HR4, unhide HB4⟩
                  case measure => simp [intOf]; omega
          · have d3 : (x.c == 0) = false := by simpa using hc0
            by_cases hlt9 : e.value < x.mn
            · by_cases hgt9 : x.mx < e.value
              · skip
                cases ho : x.o
                · rw [ho] at s7 HS2
                  by_cases ho1 : 1000000 < T + e.value
                  · have hovr : ovr x (T + e.value) = true := by unfold ovr; simp [ho1]
                    have do1 : decide (1000000 < T + e.value) = true := by simpa using ho1
                    have P0 := unhide HS2
                    have P1 := set1 P0 2 (.int .i64 e.value) (show _ = #[.int .i64 (x.c), .int .i64 0, .int .i64 e.value, .int .i64 (x.mx), .int .i64 (x.f), .int .i64 (x.l), .int .i64 (x.lt), .bool false] from rfl)
                    have P2 := set1 P1 3 (.int .i64 e.value) (show _ = #[.int .i64 (x.c), .int .i64 0, .int .i64 e.value, .int .i64 e.value, .int .i64 (x.f), .int .i64 (x.l), .int .i64 (x.lt), .bool false] from rfl)
                    have P3 := set1 P2 5 (.int .i64 e.value) (show _ = #[.int .i64 (x.c), .int .i64 0, .int .i64 e.value, .int .i64 e.value, .int .i64 (x.f), .int .i64 e.value, .int .i64 (x.lt), .bool false] from rfl)
                    have P4 := set1 P3 0 (.int .i64 (x.c + 1)) (show _ = #[.int .i64 (x.c + 1), .int .i64 0, .int .i64 e.value, .int .i64 e.value, .int .i64 (x.f), .int .i64 e.value, .int .i64 (x.lt), .bool false] from rfl)
                    have P5 := set1 P4 7 (.bool true) (show _ = #[.int .i64 (x.c + 1), .int .i64 0, .int .i64 e.value, .int .i64 e.value, .int .i64 (x.f), .int .i64 e.value, .int .i64 (x.lt), .bool true] from rfl)
                    have PB := hide (below_set (Nat.le_succ _) (below_set (Nat.le_succ _) (below_set (Nat.le_succ _) (below_set (Nat.le_succ _) (below_set (Nat.le_succ _) (unhide HB2) 2 (.int .i64 e.value)) 3 (.int .i64 e.value)) 5 (.int .i64 e.value)) 0 (.int .i64 (x.c + 1))) 7 (.bool true))
                    have PR := hide (set_far 7 (.bool true) (show w.heap.size ≠ w.heap.size + 1 by omega) (set_far 0 (.int .i64 (x.c + 1)) (show w.heap.size ≠ w.heap.size + 1 by omega) (set_far 5 (.int .i64 e.value) (show w.heap.size ≠ w.heap.size + 1 by omega) (set_far 3 (.int .i64 e.value) (show w.heap.size ≠ w.heap.size + 1 by omega) (set_far 2 (.int .i64 e.value) (show w.heap.size ≠ w.heap.size + 1 by omega) (unhide HR2))))))
                    have PN := hide (set_far 7 (.bool true) (show wr.heap.size ≠ w.heap.size + 1 from fun e9 => hne1 e9.symm) (set_far 0 (.int .i64 (x.c + 1)) (show wr.heap.size ≠ w.heap.size + 1 from fun e9 => hne1 e9.symm) (set_far 5 (.int .i64 e.value) (show wr.heap.size ≠ w.heap.size + 1 from fun e9 => hne1 e9.symm) (set_far 3 (.int .i64 e.value) (show wr.heap.size ≠ w.heap.size + 1 from fun e9 => hne1 e9.symm) (set_far 2 (.int .i64 e.value) (show wr.heap.size ≠ w.heap.size + 1 from fun e9 => hne1 e9.symm) (unhide HN2))))))
                    have PS := hide P5
                    clear P0 P1 P2 P3 P4 P5 HR2 HN2 HS2 HB2
                    go_wp2_with fail
                    generalize (((((V.setCell ⟨w.heap.size + 1, 2, none⟩ (.int .i64 e.value)).setCell ⟨w.heap.size + 1, 3, none⟩ (.int .i64 e.value)).setCell ⟨w.heap.size + 1, 5, none⟩ (.int .i64 e.value)).setCell ⟨w.heap.size + 1, 0, none⟩ (.int .i64 (x.c + 1))).setCell ⟨w.heap.size + 1, 7, none⟩ (.bool true)) = V2 at *
                    refine (unhide CB _ (unhide PB)).mono ?_
                    rintro e9 w3 ⟨rfl, hb3⟩
                    have HB3 := hide ((unhide PB).trans (hb3.mono (unhide PB).size))
                    have S3 := (hb3.block _ (lt_of_heap (unhide PS))).trans (unhide PS)
                    have R3 := hide ((hb3.block _ (lt_of_heap (unhide PR))).trans (unhide PR))
                    have N3 := (hb3.block _ (lt_of_heap (unhide PN))).trans (unhide PN)
                    obtain ⟨_, q5⟩ := unhide HCc _ (unhide HB3)
                    have q4 : w3.cell? ⟨wr.heap.size, 4, none⟩ = some (.int .i64 e.time) := cell_of N3 4
                    have HS3 := hide S3
                    clear hb3 S3 N3 PB PR PN PS s0 g0 s1 g1 s2 g2 s3 g3 s4 g4 s5 g5 s6 g6 s7 g7 x0 x1 x3 x4
                    generalize ahd l d e.shard e.place = ah at *
                    by_cases hla : e.time + C.t < ah
                    · have d9 : decide (e.time + C.t < ah) = true := by simpa using hla
                      obtain ⟨s9, hadd, hnx⟩ := unhide hsum true ⟨v1, v2⟩
                      rw [d9, hadd] at HH
                      rw [hadd] at hnx
                      rw [hovr, if_pos (Or.inr hlt9), if_pos (Or.inr hgt9), if_neg hc0, if_pos rfl] at HH hnx
                      have HNX := hide hnx
                      clear hadd hnx
                      go_wp2
                      go_quiet (fail)
                      have HS4 : Hid ((w3.drewN nq).heap[w.heap.size + 1]? = some (.cells #[.int .i64 (x.c + 1), .int .i64 0, .int .i64 e.value, .int .i64 e.value, .int .i64 (x.f), .int .i64 e.value, .int .i64 (x.lt), .bool true] 132 (0, 0))) := unhide HS3
                      have HR4 : Hid ((w3.drewN nq).heap[w.heap.size]? = some (.cells #[.int .i64 0, .int .i64 0, .int .i64 0, .int .i64 0, .int .i64 0, .int .i64 0, .int .i64 0, .bool false] 132 (0, 0))) := unhide R3
                      have HB4 := hide (below_drewN (unhide HB3) nq)
                      clear q4 q5 HS3 R3 HB3
                      generalize w3.drewN nq = V5 at *
                      have r6 : V5.cell? ⟨w.heap.size + 1, 6, none⟩ = some (.int .i64 x.lt) := cell_of (unhide HS4) 6
                      have f6 := frozen_of (unhide HS4) 6
                      have hwl : IntKind.i64.wrap (x.lt + 1) = x.lt + 1 := by rw [IntKind.wrap_i64]; omega
                      have P9 := hide (set1 (unhide HS4) 6 (.int .i64 (x.lt + 1)) (show _ = #[.int .i64 (x.c + 1), .int .i64 0, .int .i64 e.value, .int .i64 e.value, .int .i64 (x.f), .int .i64 e.value, .int .i64 (x.lt + 1), .bool true] from rfl))
                      have P8 := hide ((Below.heap_setCell V5 ⟨w.heap.size + 1, 6, none⟩ (.int .i64 (x.lt + 1)) w.heap.size (show w.heap.size ≠ w.heap.size + 1 by omega)).trans (unhide HR4))
                      have P7 := hide (below_set (Nat.le_succ _) (unhide HB4) 6 (.int .i64 (x.lt + 1)))
                      go_wp2
                      go_roundw
                      case rel => exact ⟨j + 1, T + e.value, by omega, by go_num, rfl, by rw [unhide HH]; exact unhide HNX, by rw [unhide HH]; exact unhide P9, unhide P8, unhide P7⟩
                      case measure => simp [intOf]; omega
                    · have d9 : decide (e.time + C.t < ah) = false := by simpa using hla
                      obtain ⟨s9, hadd, hnx⟩ := unhide hsum false ⟨v1, v2⟩
                      rw [d9, hadd] at HH
                      rw [hadd] at hnx
                      rw [hovr, if_pos (Or.inr hlt9), if_pos (Or.inr hgt9), if_neg hc0, if_neg Bool.false_ne_true] at HH hnx
                      have HNX := hide hnx
                      clear hadd hnx
                      go_wp2
                      go_quiet (fail)
                      have HS4 : Hid ((w3.drewN nq).heap[w.heap.size + 1]? = some (.cells #[.int .i64 (x.c + 1), .int .i64 0, .int .i64 e.value, .int .i64 e.value, .int .i64 (x.f), .int .i64 e.value, .int .i64 (x.lt), .bool true] 132 (0, 0))) := unhide HS3
                      have HR4 : Hid ((w3.drewN nq).heap[w.heap.size]? = some (.cells #[.int .i64 0, .int .i64 0, .int .i64 0, .int .i64 0, .int .i64 0, .int .i64 0, .int .i64 0, .bool false] 132 (0, 0))) := unhide R3
                      have HB4 := hide (below_drewN (unhide HB3) nq)
                      clear q4 q5 HS3 R3 HB3
                      generalize w3.drewN nq = V5 at *
                      go_wp2
                      go_roundw
                      case rel => exact ⟨j + 1, T + e.value, by omega, by go_num, rfl, by rw [unhide HH]; exact unhide HNX, by rw [unhide HH]; exact unhide HS4, unhide HR4, unhide HB4⟩
                      case measure => simp [intOf]; omega
                  · have do1 : decide (1000000 < T + e.value) = false := by simpa using ho1
                    by_cases ho2 : T + e.value < -1000000
                    · have hovr : ovr x (T + e.value) = true := by unfold ovr; simp [ho2]
                      have do2 : decide (T + e.value < -1000000) = true := by simpa using ho2
                      have P0 := unhide HS2
                      have P1 := set1 P0 2 (.int .i64 e.value) (show _ = #[.int .i64 (x.c), .int .i64 0, .int .i64 e.value, .int .i64 (x.mx), .int .i64 (x.f), .int .i64 (x.l), .int .i64 (x.lt), .bool false] from rfl)
                      have P2 := set1 P1 3 (.int .i64 e.value) (show _ = #[.int .i64 (x.c), .int .i64 0, .int .i64 e.value, .int .i64 e.value, .int .i64 (x.f), .int .i64 (x.l), .int .i64 (x.lt), .bool false] from rfl)
                      have P3 := set1 P2 5 (.int .i64 e.value) (show _ = #[.int .i64 (x.c), .int .i64 0, .int .i64 e.value, .int .i64 e.value, .int .i64 (x.f), .int .i64 e.value, .int .i64 (x.lt), .bool false] from rfl)
                      have P4 := set1 P3 0 (.int .i64 (x.c + 1)) (show _ = #[.int .i64 (x.c + 1), .int .i64 0, .int .i64 e.value, .int .i64 e.value, .int .i64 (x.f), .int .i64 e.value, .int .i64 (x.lt), .bool false] from rfl)
                      have P5 := set1 P4 7 (.bool true) (show _ = #[.int .i64 (x.c + 1), .int .i64 0, .int .i64 e.value, .int .i64 e.value, .int .i64 (x.f), .int .i64 e.value, .int .i64 (x.lt), .bool true] from rfl)
                      have PB := hide (below_set (Nat.le_succ _) (below_set (Nat.le_succ _) (below_set (Nat.le_succ _) (below_set (Nat.le_succ _) (below_set (Nat.le_succ _) (unhide HB2) 2 (.int .i64 e.value)) 3 (.int .i64 e.value)) 5 (.int .i64 e.value)) 0 (.int .i64 (x.c + 1))) 7 (.bool true))
                      have PR := hide (set_far 7 (.bool true) (show w.heap.size ≠ w.heap.size + 1 by omega) (set_far 0 (.int .i64 (x.c + 1)) (show w.heap.size ≠ w.heap.size + 1 by omega) (set_far 5 (.int .i64 e.value) (show w.heap.size ≠ w.heap.size + 1 by omega) (set_far 3 (.int .i64 e.value) (show w.heap.size ≠ w.heap.size + 1 by omega) (set_far 2 (.int .i64 e.value) (show w.heap.size ≠ w.heap.size + 1 by omega) (unhide HR2))))))
                      have PN := hide (set_far 7 (.bool true) (show wr.heap.size ≠ w.heap.size + 1 from fun e9 => hne1 e9.symm) (set_far 0 (.int .i64 (x.c + 1)) (show wr.heap.size ≠ w.heap.size + 1 from fun e9 => hne1 e9.symm) (set_far 5 (.int .i64 e.value) (show wr.heap.size ≠ w.heap.size + 1 from fun e9 => hne1 e9.symm) (set_far 3 (.int .i64 e.value) (show wr.heap.size ≠ w.heap.size + 1 from fun e9 => hne1 e9.symm) (set_far 2 (.int .i64 e.value) (show wr.heap.size ≠ w.heap.size + 1 from fun e9 => hne1 e9.symm) (unhide HN2))))))
                      have PS := hide P5
                      clear P0 P1 P2 P3 P4 P5 HR2 HN2 HS2 HB2
                      go_wp2_with fail
                      generalize (((((V.setCell ⟨w.heap.size + 1, 2, none⟩ (.int .i64 e.value)).setCell ⟨w.heap.size + 1, 3, none⟩ (.int .i64 e.value)).setCell ⟨w.heap.size + 1, 5, none⟩ (.int .i64 e.value)).setCell ⟨w.heap.size + 1, 0, none⟩ (.int .i64 (x.c + 1))).setCell ⟨w.heap.size + 1, 7, none⟩ (.bool true)) = V2 at *
                      refine (unhide CB _ (unhide PB)).mono ?_
                      rintro e9 w3 ⟨rfl, hb3⟩
                      have HB3 := hide ((unhide PB).trans (hb3.mono (unhide PB).size))
                      have S3 := (hb3.block _ (lt_of_heap (unhide PS))).trans (unhide PS)
                      have R3 := hide ((hb3.block _ (lt_of_heap (unhide PR))).trans (unhide PR))
                      have N3 := (hb3.block _ (lt_of_heap (unhide PN))).trans (unhide PN)
                      obtain ⟨_, q5⟩ := unhide HCc _ (unhide HB3)
                      have q4 : w3.cell? ⟨wr.heap.size, 4, none⟩ = some (.int .i64 e.time) := cell_of N3 4
                      have HS3 := hide S3
                      clear hb3 S3 N3 PB PR PN PS s0 g0 s1 g1 s2 g2 s3 g3 s4 g4 s5 g5 s6 g6 s7 g7 x0 x1 x3 x4
                      generalize ahd l d e.shard e.place = ah at *
                      by_cases hla : e.time + C.t < ah
                      · have d9 : decide (e.time + C.t < ah) = true := by simpa using hla
                        obtain ⟨s9, hadd, hnx⟩ := unhide hsum true ⟨v1, v2⟩
                        rw [d9, hadd] at HH
                        rw [hadd] at hnx
                        rw [hovr, if_pos (Or.inr hlt9), if_pos (Or.inr hgt9), if_neg hc0, if_pos rfl] at HH hnx
                        have HNX := hide hnx
                        clear hadd hnx
                        go_wp2
                        go_quiet (fail)
                        have HS4 : Hid ((w3.drewN nq).heap[w.heap.size + 1]? = some (.cells #[.int .i64 (x.c + 1), .int .i64 0, .int .i64 e.value, .int .i64 e.value, .int .i64 (x.f), .int .i64 e.value, .int .i64 (x.lt), .bool true] 132 (0, 0))) := unhide HS3
                        have HR4 : Hid ((w3.drewN nq).heap[w.heap.size]? = some (.cells #[.int .i64 0, .int .i64 0, .int .i64 0, .int .i64 0, .int .i64 0, .int .i64 0, .int .i64 0, .bool false] 132 (0, 0))) := unhide R3
                        have HB4 := hide (below_drewN (unhide HB3) nq)
                        clear q4 q5 HS3 R3 HB3
                        generalize w3.drewN nq = V5 at *
                        have r6 : V5.cell? ⟨w.heap.size + 1, 6, none⟩ = some (.int .i64 x.lt) := cell_of (unhide HS4) 6
                        have f6 := frozen_of (unhide HS4) 6
                        have hwl : IntKind.i64.wrap (x.lt + 1) = x.lt + 1 := by rw [IntKind.wrap_i64]; omega
                        have P9 := hide (set1 (unhide HS4) 6 (.int .i64 (x.lt + 1)) (show _ = #[.int .i64 (x.c + 1), .int .i64 0, .int .i64 e.value, .int .i64 e.value, .int .i64 (x.f), .int .i64 e.value, .int .i64 (x.lt + 1), .bool true] from rfl))
                        have P8 := hide ((Below.heap_setCell V5 ⟨w.heap.size + 1, 6, none⟩ (.int .i64 (x.lt + 1)) w.heap.size (show w.heap.size ≠ w.heap.size + 1 by omega)).trans (unhide HR4))
                        have P7 := hide (below_set (Nat.le_succ _) (unhide HB4) 6 (.int .i64 (x.lt + 1)))
                        go_wp2
                        go_roundw
                        case rel => exact ⟨j + 1, T + e.value, by omega, by go_num, rfl, by rw [unhide HH]; exact unhide HNX, by rw [unhide HH]; exact unhide P9, unhide P8, unhide P7⟩
                        case measure => simp [intOf]; omega
                      · have d9 : decide (e.time + C.t < ah) = false := by simpa using hla
                        obtain ⟨s9, hadd, hnx⟩ := unhide hsum false ⟨v1, v2⟩
                        rw [d9, hadd] at HH
                        rw [hadd] at hnx
                        rw [hovr, if_pos (Or.inr hlt9), if_pos (Or.inr hgt9), if_neg hc0, if_neg Bool.false_ne_true] at HH hnx
                        have HNX := hide hnx
                        clear hadd hnx
                        go_wp2
                        go_quiet (fail)
                        have HS4 : Hid ((w3.drewN nq).heap[w.heap.size + 1]? = some (.cells #[.int .i64 (x.c + 1), .int .i64 0, .int .i64 e.value, .int .i64 e.value, .int .i64 (x.f), .int .i64 e.value, .int .i64 (x.lt), .bool true] 132 (0, 0))) := unhide HS3
                        have HR4 : Hid ((w3.drewN nq).heap[w.heap.size]? = some (.cells #[.int .i64 0, .int .i64 0, .int .i64 0, .int .i64 0, .int .i64 0, .int .i64 0, .int .i64 0, .bool false] 132 (0, 0))) := unhide R3
                        have HB4 := hide (below_drewN (unhide HB3) nq)
                        clear q4 q5 HS3 R3 HB3
                        generalize w3.drewN nq = V5 at *
                        go_wp2
                        go_roundw
                        case rel => exact ⟨j + 1, T + e.value, by omega, by go_num, rfl, by rw [unhide HH]; exact unhide HNX, by rw [unhide HH]; exact unhide HS4, unhide HR4, unhide HB4⟩
                        case measure => simp [intOf]; omega
                    · have do2 : decide (T + e.value < -1000000) = false := by simpa using ho2
                      have hovr : ovr x (T + e.value) = false := by unfold ovr; simp [ho1, ho2, ho]
                      have P0 := unhide HS2
                      have P1 := set1 P0 2 (.int .i64 e.value) (show _ = #[.int .i64 (x.c), .int .i64 0, .int .i64 e.value, .int .i64 (x.mx), .int .i64 (x.f), .int .i64 (x.l), .int .i64 (x.lt), .bool false] from rfl)
                      have P2 := set1 P1 3 (.int .i64 e.value) (show _ = #[.int .i64 (x.c), .int .i64 0, .int .i64 e.value, .int .i64 e.value, .int .i64 (x.f), .int .i64 (x.l), .int .i64 (x.lt), .bool false] from rfl)
                      have P3 := set1 P2 5 (.int .i64 e.value) (show _ = #[.int .i64 (x.c), .int .i64 0, .int .i64 e.value, .int .i64 e.value, .int .i64 (x.f), .int .i64 e.value, .int .i64 (x.lt), .bool false] from rfl)
                      have P4 := set1 P3 0 (.int .i64 (x.c + 1)) (show _ = #[.int .i64 (x.c + 1), .int .i64 0, .int .i64 e.value, .int .i64 e.value, .int .i64 (x.f), .int .i64 e.value, .int .i64 (x.lt), .bool false] from rfl)
                      have P5 := set1 P4 7 (.bool false) (show _ = #[.int .i64 (x.c + 1), .int .i64 0, .int .i64 e.value, .int .i64 e.value, .int .i64 (x.f), .int .i64 e.value, .int .i64 (x.lt), .bool false] from rfl)
                      have PB := hide (below_set (Nat.le_succ _) (below_set (Nat.le_succ _) (below_set (Nat.le_succ _) (below_set (Nat.le_succ _) (below_set (Nat.le_succ _) (unhide HB2) 2 (.int .i64 e.value)) 3 (.int .i64 e.value)) 5 (.int .i64 e.value)) 0 (.int .i64 (x.c + 1))) 7 (.bool false))
                      have PR := hide (set_far 7 (.bool false) (show w.heap.size ≠ w.heap.size + 1 by omega) (set_far 0 (.int .i64 (x.c + 1)) (show w.heap.size ≠ w.heap.size + 1 by omega) (set_far 5 (.int .i64 e.value) (show w.heap.size ≠ w.heap.size + 1 by omega) (set_far 3 (.int .i64 e.value) (show w.heap.size ≠ w.heap.size + 1 by omega) (set_far 2 (.int .i64 e.value) (show w.heap.size ≠ w.heap.size + 1 by omega) (unhide HR2))))))
                      have PN := hide (set_far 7 (.bool false) (show wr.heap.size ≠ w.heap.size + 1 from fun e9 => hne1 e9.symm) (set_far 0 (.int .i64 (x.c + 1)) (show wr.heap.size ≠ w.heap.size + 1 from fun e9 => hne1 e9.symm) (set_far 5 (.int .i64 e.value) (show wr.heap.size ≠ w.heap.size + 1 from fun e9 => hne1 e9.symm) (set_far 3 (.int .i64 e.value) (show wr.heap.size ≠ w.heap.size + 1 from fun e9 => hne1 e9.symm) (set_far 2 (.int .i64 e.value) (show wr.heap.size ≠ w.heap.size + 1 from fun e9 => hne1 e9.symm) (unhide HN2))))))
                      have PS := hide P5
                      clear P0 P1 P2 P3 P4 P5 HR2 HN2 HS2 HB2
                      go_wp2_with fail
                      generalize (((((V.setCell ⟨w.heap.size + 1, 2, none⟩ (.int .i64 e.value)).setCell ⟨w.heap.size + 1, 3, none⟩ (.int .i64 e.value)).setCell ⟨w.heap.size + 1, 5, none⟩ (.int .i64 e.value)).setCell ⟨w.heap.size + 1, 0, none⟩ (.int .i64 (x.c + 1))).setCell ⟨w.heap.size + 1, 7, none⟩ (.bool false)) = V2 at *
                      refine (unhide CB _ (unhide PB)).mono ?_
                      rintro e9 w3 ⟨rfl, hb3⟩
                      have HB3 := hide ((unhide PB).trans (hb3.mono (unhide PB).size))
                      have S3 := (hb3.block _ (lt_of_heap (unhide PS))).trans (unhide PS)
                      have R3 := hide ((hb3.block _ (lt_of_heap (unhide PR))).trans (unhide PR))
                      have N3 := (hb3.block _ (lt_of_heap (unhide PN))).trans (unhide PN)
                      obtain ⟨_, q5⟩ := unhide HCc _ (unhide HB3)
                      have q4 : w3.cell? ⟨wr.heap.size, 4, none⟩ = some (.int .i64 e.time) := cell_of N3 4
                      have HS3 := hide S3
                      clear hb3 S3 N3 PB PR PN PS s0 g0 s1 g1 s2 g2 s3 g3 s4 g4 s5 g5 s6 g6 s7 g7 x0 x1 x3 x4
                      generalize ahd l d e.shard e.place = ah at *
                      by_cases hla : e.time + C.t < ah
                      · have d9 : decide (e.time + C.t < ah) = true := by simpa using hla
                        obtain ⟨s9, hadd, hnx⟩ := unhide hsum true ⟨v1, v2⟩
                        rw [d9, hadd] at HH
                        rw [hadd] at hnx
                        rw [hovr, if_pos (Or.inr hlt9), if_pos (Or.inr hgt9), if_neg hc0, if_pos rfl] at HH hnx
                        have HNX := hide hnx
                        clear hadd hnx
                        go_wp2
                        go_quiet (fail)
                        have HS4 : Hid ((w3.drewN nq).heap[w.heap.size + 1]? = some (.cells #[.int .i64 (x.c + 1), .int .i64 0, .int .i64 e.value, .int .i64 e.value, .int .i64 (x.f), .int .i64 e.value, .int .i64 (x.lt), .bool false] 132 (0, 0))) := unhide HS3
                        have HR4 : Hid ((w3.drewN nq).heap[w.heap.size]? = some (.cells #[.int .i64 0, .int .i64 0, .int .i64 0, .int .i64 0, .int .i64 0, .int .i64 0, .int .i64 0, .bool false] 132 (0, 0))) := unhide R3
                        have HB4 := hide (below_drewN (unhide HB3) nq)
                        clear q4 q5 HS3 R3 HB3
                        generalize w3.drewN nq = V5 at *
                        have r6 : V5.cell? ⟨w.heap.size + 1, 6, none⟩ = some (.int .i64 x.lt) := cell_of (unhide HS4) 6
                        have f6 := frozen_of (unhide HS4) 6
                        have hwl : IntKind.i64.wrap (x.lt + 1) = x.lt + 1 := by rw [IntKind.wrap_i64]; omega
                        have P9 := hide (set1 (unhide HS4) 6 (.int .i64 (x.lt + 1)) (show _ = #[.int .i64 (x.c + 1), .int .i64 0, .int .i64 e.value, .int .i64 e.value, .int .i64 (x.f), .int .i64 e.value, .int .i64 (x.lt + 1), .bool false] from rfl))
                        have P8 := hide ((Below.heap_setCell V5 ⟨w.heap.size + 1, 6, none⟩ (.int .i64 (x.lt + 1)) w.heap.size (show w.heap.size ≠ w.heap.size + 1 by omega)).trans (unhide HR4))
                        have P7 := hide (below_set (Nat.le_succ _) (unhide HB4) 6 (.int .i64 (x.lt + 1)))
                        go_wp2
                        go_roundw
                        case rel => exact ⟨j + 1, T + e.value, by omega, by go_num, rfl, by rw [unhide HH]; exact unhide HNX, by rw [unhide HH]; exact unhide P9, unhide P8, unhide P7⟩
                        case measure => simp [intOf]; omega
                      · have d9 : decide (e.time + C.t < ah) = false := by simpa using hla
                        obtain ⟨s9, hadd, hnx⟩ := unhide hsum false ⟨v1, v2⟩
                        rw [d9, hadd] at HH
                        rw [hadd] at hnx
                        rw [hovr, if_pos (Or.inr hlt9), if_pos (Or.inr hgt9), if_neg hc0, if_neg Bool.false_ne_true] at HH hnx
                        have HNX := hide hnx
                        clear hadd hnx
                        go_wp2
                        go_quiet (fail)
                        have HS4 : Hid ((w3.drewN nq).heap[w.heap.size + 1]? = some (.cells #[.int .i64 (x.c + 1), .int .i64 0, .int .i64 e.value, .int .i64 e.value, .int .i64 (x.f), .int .i64 e.value, .int .i64 (x.lt), .bool false] 132 (0, 0))) := unhide HS3
                        have HR4 : Hid ((w3.drewN nq).heap[w.heap.size]? = some (.cells #[.int .i64 0, .int .i64 0, .int .i64 0, .int .i64 0, .int .i64 0, .int .i64 0, .int .i64 0, .bool false] 132 (0, 0))) := unhide R3
                        have HB4 := hide (below_drewN (unhide HB3) nq)
                        clear q4 q5 HS3 R3 HB3
                        generalize w3.drewN nq = V5 at *
                        go_wp2
                        go_roundw
                        case rel => exact ⟨j + 1, T + e.value, by omega, by go_num, rfl, by rw [unhide HH]; exact unhide HNX, by rw [unhide HH]; exact unhide HS4, unhide HR4, unhide HB4⟩
                        case measure => simp [intOf]; omega
                · rw [ho] at s7 HS2
                  have hovr : ovr x (T + e.value) = true := by unfold ovr; simp [ho]
                  have P0 := unhide HS2
                  have P1 := set1 P0 2 (.int .i64 e.value) (show _ = #[.int .i64 (x.c), .int .i64 0, .int .i64 e.value, .int .i64 (x.mx), .int .i64 (x.f), .int .i64 (x.l), .int .i64 (x.lt), .bool true] from rfl)
                  have P2 := set1 P1 3 (.int .i64 e.value) (show _ = #[.int .i64 (x.c), .int .i64 0, .int .i64 e.value, .int .i64 e.value, .int .i64 (x.f), .int .i64 (x.l), .int .i64 (x.lt), .bool true] from rfl)
                  have P3 := set1 P2 5 (.int .i64 e.value) (show _ = #[.int .i64 (x.c), .int .i64 0, .int .i64 e.value, .int .i64 e.value, .int .i64 (x.f), .int .i64 e.value, .int .i64 (x.lt), .bool true] from rfl)
                  have P4 := set1 P3 0 (.int .i64 (x.c + 1)) (show _ = #[.int .i64 (x.c + 1), .int .i64 0, .int .i64 e.value, .int .i64 e.value, .int .i64 (x.f), .int .i64 e.value, .int .i64 (x.lt), .bool true] from rfl)
                  have P5 := set1 P4 7 (.bool true) (show _ = #[.int .i64 (x.c + 1), .int .i64 0, .int .i64 e.value, .int .i64 e.value, .int .i64 (x.f), .int .i64 e.value, .int .i64 (x.lt), .bool true] from rfl)
                  have PB := hide (below_set (Nat.le_succ _) (below_set (Nat.le_succ _) (below_set (Nat.le_succ _) (below_set (Nat.le_succ _) (below_set (Nat.le_succ _) (unhide HB2) 2 (.int .i64 e.value)) 3 (.int .i64 e.value)) 5 (.int .i64 e.value)) 0 (.int .i64 (x.c + 1))) 7 (.bool true))
                  have PR := hide (set_far 7 (.bool true) (show w.heap.size ≠ w.heap.size + 1 by omega) (set_far 0 (.int .i64 (x.c + 1)) (show w.heap.size ≠ w.heap.size + 1 by omega) (set_far 5 (.int .i64 e.value) (show w.heap.size ≠ w.heap.size + 1 by omega) (set_far 3 (.int .i64 e.value) (show w.heap.size ≠ w.heap.size + 1 by omega) (set_far 2 (.int .i64 e.value) (show w.heap.size ≠ w.heap.size + 1 by omega) (unhide HR2))))))
                  have PN := hide (set_far 7 (.bool true) (show wr.heap.size ≠ w.heap.size + 1 from fun e9 => hne1 e9.symm) (set_far 0 (.int .i64 (x.c + 1)) (show wr.heap.size ≠ w.heap.size + 1 from fun e9 => hne1 e9.symm) (set_far 5 (.int .i64 e.value) (show wr.heap.size ≠ w.heap.size + 1 from fun e9 => hne1 e9.symm) (set_far 3 (.int .i64 e.value) (show wr.heap.size ≠ w.heap.size + 1 from fun e9 => hne1 e9.symm) (set_far 2 (.int .i64 e.value) (show wr.heap.size ≠ w.heap.size + 1 from fun e9 => hne1 e9.symm) (unhide HN2))))))
                  have PS := hide P5
                  clear P0 P1 P2 P3 P4 P5 HR2 HN2 HS2 HB2
                  go_wp2_with fail
                  generalize (((((V.setCell ⟨w.heap.size + 1, 2, none⟩ (.int .i64 e.value)).setCell ⟨w.heap.size + 1, 3, none⟩ (.int .i64 e.value)).setCell ⟨w.heap.size + 1, 5, none⟩ (.int .i64 e.value)).setCell ⟨w.heap.size + 1, 0, none⟩ (.int .i64 (x.c + 1))).setCell ⟨w.heap.size + 1, 7, none⟩ (.bool true)) = V2 at *
                  refine (unhide CB _ (unhide PB)).mono ?_
                  rintro e9 w3 ⟨rfl, hb3⟩
                  have HB3 := hide ((unhide PB).trans (hb3.mono (unhide PB).size))
                  have S3 := (hb3.block _ (lt_of_heap (unhide PS))).trans (unhide PS)
                  have R3 := hide ((hb3.block _ (lt_of_heap (unhide PR))).trans (unhide PR))
                  have N3 := (hb3.block _ (lt_of_heap (unhide PN))).trans (unhide PN)
                  obtain ⟨_, q5⟩ := unhide HCc _ (unhide HB3)
                  have q4 : w3.cell? ⟨wr.heap.size, 4, none⟩ = some (.int .i64 e.time) := cell_of N3 4
                  have HS3 := hide S3
                  clear hb3 S3 N3 PB PR PN PS s0 g0 s1 g1 s2 g2 s3 g3 s4 g4 s5 g5 s6 g6 s7 g7 x0 x1 x3 x4
                  generalize ahd l d e.shard e.place = ah at *
                  by_cases hla : e.time + C.t < ah
                  · have d9 : decide (e.time + C.t < ah) = true := by simpa using hla
                    obtain ⟨s9, hadd, hnx⟩ := unhide hsum true ⟨v1, v2⟩
                    rw [d9, hadd] at HH
                    rw [hadd] at hnx
                    rw [hovr, if_pos (Or.inr hlt9), if_pos (Or.inr hgt9), if_neg hc0, if_pos rfl] at HH hnx
                    have HNX := hide hnx
                    clear hadd hnx
                    go_wp2
                    go_quiet (fail)
                    have HS4 : Hid ((w3.drewN nq).heap[w.heap.size + 1]? = some (.cells #[.int .i64 (x.c + 1), .int .i64 0, .int .i64 e.value, .int .i64 e.value, .int .i64 (x.f), .int .i64 e.value, .int .i64 (x.lt), .bool true] 132 (0, 0))) := unhide HS3
                    have HR4 : Hid ((w3.drewN nq).heap[w.heap.size]? = some (.cells #[.int .i64 0, .int .i64 0, .int .i64 0, .int .i64 0, .int .i64 0, .int .i64 0, .int .i64 0, .bool false] 132 (0, 0))) := unhide R3
                    have HB4 := hide (below_drewN (unhide HB3) nq)
                    clear q4 q5 HS3 R3 HB3
                    generalize w3.drewN nq = V5 at *
                    have r6 : V5.cell? ⟨w.heap.size + 1, 6, none⟩ = some (.int .i64 x.lt) := cell_of (unhide HS4) 6
                    have f6 := frozen_of (unhide HS4) 6
                    have hwl : IntKind.i64.wrap (x.lt + 1) = x.lt + 1 := by rw [IntKind.wrap_i64]; omega
                    have P9 := hide (set1 (unhide HS4) 6 (.int .i64 (x.lt + 1)) (show _ = #[.int .i64 (x.c + 1), .int .i64 0, .int .i64 e.value, .int .i64 e.value, .int .i64 (x.f), .int .i64 e.value, .int .i64 (x.lt + 1), .bool true] from rfl))
                    have P8 := hide ((Below.heap_setCell V5 ⟨w.heap.size + 1, 6, none⟩ (.int .i64 (x.lt + 1)) w.heap.size (show w.heap.size ≠ w.heap.size + 1 by omega)).trans (unhide HR4))
                    have P7 := hide (below_set (Nat.le_succ _) (unhide HB4) 6 (.int .i64 (x.lt + 1)))
                    go_wp2
                    go_roundw
                    case rel => exact ⟨j + 1, T + e.value, by omega, by go_num, rfl, by rw [unhide HH]; exact unhide HNX, by rw [unhide HH]; exact unhide P9, unhide P8, unhide P7⟩
                    case measure => simp [intOf]; omega
                  · have d9 : decide (e.time + C.t < ah) = false := by simpa using hla
                    obtain ⟨s9, hadd, hnx⟩ := unhide hsum false ⟨v1, v2⟩
                    rw [d9, hadd] at HH
                    rw [hadd] at hnx
                    rw [hovr, if_pos (Or.inr hlt9), if_pos (Or.inr hgt9), if_neg hc0, if_neg Bool.false_ne_true] at HH hnx
                    have HNX := hide hnx
                    clear hadd hnx
                    go_wp2
                    go_quiet (fail)
                    have HS4 : Hid ((w3.drewN nq).heap[w.heap.size + 1]? = some (.cells #[.int .i64 (x.c + 1), .int .i64 0, .int .i64 e.value, .int .i64 e.value, .int .i64 (x.f), .int .i64 e.value, .int .i64 (x.lt), .bool true] 132 (0, 0))) := unhide HS3
                    have HR4 : Hid ((w3.drewN nq).heap[w.heap.size]? = some (.cells #[.int .i64 0, .int .i64 0, .int .i64 0, .int .i64 0, .int .i64 0, .int .i64 0, .int .i64 0, .bool false] 132 (0, 0))) := unhide R3
                    have HB4 := hide (below_drewN (unhide HB3) nq)
                    clear q4 q5 HS3 R3 HB3
                    generalize w3.drewN nq = V5 at *
                    go_wp2
                    go_roundw
                    case rel => exact ⟨j + 1, T + e.value, by omega, by go_num, rfl, by rw [unhide HH]; exact unhide HNX, by rw [unhide HH]; exact unhide HS4, unhide HR4, unhide HB4⟩
                    case measure => simp [intOf]; omega
              · skip
                cases ho : x.o
                · rw [ho] at s7 HS2
                  by_cases ho1 : 1000000 < T + e.value
                  · have hovr : ovr x (T + e.value) = true := by unfold ovr; simp [ho1]
                    have do1 : decide (1000000 < T + e.value) = true := by simpa using ho1
                    have P0 := unhide HS2
                    have P1 := set1 P0 2 (.int .i64 e.value) (show _ = #[.int .i64 (x.c), .int .i64 0, .int .i64 e.value, .int .i64 (x.mx), .int .i64 (x.f), .int .i64 (x.l), .int .i64 (x.lt), .bool false] from rfl)
                    have P2 := set1 P1 5 (.int .i64 e.value) (show _ = #[.int .i64 (x.c), .int .i64 0, .int .i64 e.value, .int .i64 (x.mx), .int .i64 (x.f), .int .i64 e.value, .int .i64 (x.lt), .bool false] from rfl)
                    have P3 := set1 P2 0 (.int .i64 (x.c + 1)) (show _ = #[.int .i64 (x.c + 1), .int .i64 0, .int .i64 e.value, .int .i64 (x.mx), .int .i64 (x.f), .int .i64 e.value, .int .i64 (x.lt), .bool false] from rfl)
                    have P4 := set1 P3 7 (.bool true) (show _ = #[.int .i64 (x.c + 1), .int .i64 0, .int .i64 e.value, .int .i64 (x.mx), .int .i64 (x.f), .int .i64 e.value, .int .i64 (x.lt), .bool true] from rfl)
                    have PB := hide (below_set (Nat.le_succ _) (below_set (Nat.le_succ _) (below_set (Nat.le_succ _) (below_set (Nat.le_succ _) (unhide HB2) 2 (.int .i64 e.value)) 5 (.int .i64 e.value)) 0 (.int .i64 (x.c + 1))) 7 (.bool true))
                    have PR := hide (set_far 7 (.bool true) (show w.heap.size ≠ w.heap.size + 1 by omega) (set_far 0 (.int .i64 (x.c + 1)) (show w.heap.size ≠ w.heap.size + 1 by omega) (set_far 5 (.int .i64 e.value) (show w.heap.size ≠ w.heap.size + 1 by omega) (set_far 2 (.int .i64 e.value) (show w.heap.size ≠ w.heap.size + 1 by omega) (unhide HR2)))))
                    have PN := hide (set_far 7 (.bool true) (show wr.heap.size ≠ w.heap.size + 1 from fun e9 => hne1 e9.symm) (set_far 0 (.int .i64 (x.c + 1)) (show wr.heap.size ≠ w.heap.size + 1 from fun e9 => hne1 e9.symm) (set_far 5 (.int .i64 e.value) (show wr.heap.size ≠ w.heap.size + 1 from fun e9 => hne1 e9.symm) (set_far 2 (.int .i64 e.value) (show wr.heap.size ≠ w.heap.size + 1 from fun e9 => hne1 e9.symm) (unhide HN2)))))
                    have PS := hide P4
                    clear P0 P1 P2 P3 P4 HR2 HN2 HS2 HB2
                    go_wp2_with fail
                    generalize ((((V.setCell ⟨w.heap.size + 1, 2, none⟩ (.int .i64 e.value)).setCell ⟨w.heap.size + 1, 5, none⟩ (.int .i64 e.value)).setCell ⟨w.heap.size + 1, 0, none⟩ (.int .i64 (x.c + 1))).setCell ⟨w.heap.size + 1, 7, none⟩ (.bool true)) = V2 at *
                    refine (unhide CB _ (unhide PB)).mono ?_
                    rintro e9 w3 ⟨rfl, hb3⟩
                    have HB3 := hide ((unhide PB).trans (hb3.mono (unhide PB).size))
                    have S3 := (hb3.block _ (lt_of_heap (unhide PS))).trans (unhide PS)
                    have R3 := hide ((hb3.block _ (lt_of_heap (unhide PR))).trans (unhide PR))
                    have N3 := (hb3.block _ (lt_of_heap (unhide PN))).trans (unhide PN)
                    obtain ⟨_, q5⟩ := unhide HCc _ (unhide HB3)
                    have q4 : w3.cell? ⟨wr.heap.size, 4, none⟩ = some (.int .i64 e.time) := cell_of N3 4
                    have HS3 := hide S3
                    clear hb3 S3 N3 PB PR PN PS s0 g0 s1 g1 s2 g2 s3 g3 s4 g4 s5 g5 s6 g6 s7 g7 x0 x1 x3 x4
                    generalize ahd l d e.shard e.place = ah at *
                    by_cases hla : e.time + C.t < ah
                    · have d9 : decide (e.time + C.t < ah) = true := by simpa using hla
                      obtain ⟨s9, hadd, hnx⟩ := unhide hsum true ⟨v1, v2⟩
                      rw [d9, hadd] at HH
                      rw [hadd] at hnx
                      rw [hovr, if_pos (Or.inr hlt9), if_neg (by omega), if_neg hc0, if_pos rfl] at HH hnx
                      have HNX := hide hnx
                      clear hadd hnx
                      go_wp2
                      go_quiet (fail)
                      have HS4 : Hid ((w3.drewN nq).heap[w.heap.size + 1]? = some (.cells #[.int .i64 (x.c + 1), .int .i64 0, .int .i64 e.value, .int .i64 (x.mx), .int .i64 (x.f), .int .i64 e.value, .int .i64 (x.lt), .bool true] 132 (0, 0))) := unhide HS3
                      have HR4 : Hid ((w3.drewN nq).heap[w.heap.size]? = some (.cells #[.int .i64 0, .int .i64 0, .int .i64 0, .int .i64 0, .int .i64 0, .int .i64 0, .int .i64 0, .bool false] 132 (0, 0))) := unhide R3
                      have HB4 := hide (below_drewN (unhide HB3) nq)
                      clear q4 q5 HS3 R3 HB3
                      generalize w3.drewN nq = V5 at *
                      have r6 : V5.cell? ⟨w.heap.size + 1, 6, none⟩ = some (.int .i64 x.lt) := cell_of (unhide HS4) 6
                      have f6 := frozen_of (unhide HS4) 6
                      have hwl : IntKind.i64.wrap (x.lt + 1) = x.lt + 1 := by rw [IntKind.wrap_i64]; omega
                      have P9 := hide (set1 (unhide HS4) 6 (.int .i64 (x.lt + 1)) (show _ = #[.int .i64 (x.c + 1), .int .i64 0, .int .i64 e.value, .int .i64 (x.mx), .int .i64 (x.f), .int .i64 e.value, .int .i64 (x.lt + 1), .bool true] from rfl))
                      have P8 := hide ((Below.heap_setCell V5 ⟨w.heap.size + 1, 6, none⟩ (.int .i64 (x.lt + 1)) w.heap.size (show w.heap.size ≠ w.heap.size + 1 by omega)).trans (unhide HR4))
                      have P7 := hide (below_set (Nat.le_succ _) (unhide HB4) 6 (.int .i64 (x.lt + 1)))
                      go_wp2
                      go_roundw
                      case rel => exact ⟨j + 1, T + e.value, by omega, by go_num, rfl, by rw [unhide HH]; exact unhide HNX, by rw [unhide HH]; exact unhide P9, unhide P8, unhide P7⟩
                      case measure => simp [intOf]; omega
                    · have d9 : decide (e.time + C.t < ah) = false := by simpa using hla
                      obtain ⟨s9, hadd, hnx⟩ := unhide hsum false ⟨v1, v2⟩
                      rw [d9, hadd] at HH
                      rw [hadd] at hnx
                      rw [hovr, if_pos (Or.inr hlt9), if_neg (by omega), if_neg hc0, if_neg Bool.false_ne_true] at HH hnx
                      have HNX := hide hnx
                      clear hadd hnx
                      go_wp2
                      go_quiet (fail)
                      have HS4 : Hid ((w3.drewN nq).heap[w.heap.size + 1]? = some (.cells #[.int .i64 (x.c + 1), .int .i64 0, .int .i64 e.value, .int .i64 (x.mx), .int .i64 (x.f), .int .i64 e.value, .int .i64 (x.lt), .bool true] 132 (0, 0))) := unhide HS3
                      have HR4 : Hid ((w3.drewN nq).heap[w.heap.size]? = some (.cells #[.int .i64 0, .int .i64 0, .int .i64 0, .int .i64 0, .int .i64 0, .int .i64 0, .int .i64 0, .bool false] 132 (0, 0))) := unhide R3
                      have HB4 := hide (below_drewN (unhide HB3) nq)
                      clear q4 q5 HS3 R3 HB3
                      generalize w3.drewN nq = V5 at *
                      go_wp2
                      go_roundw
                      case rel => exact ⟨j + 1, T + e.value, by omega, by go_num, rfl, by rw [unhide HH]; exact unhide HNX, by rw [unhide HH]; exact unhide HS4, unhide HR4, unhide HB4⟩
                      case measure => simp [intOf]; omega
                  · have do1 : decide (1000000 < T + e.value) = false := by simpa using ho1
                    by_cases ho2 : T + e.value < -1000000
                    · have hovr : ovr x (T + e.value) = true := by unfold ovr; simp [ho2]
                      have do2 : decide (T + e.value < -1000000) = true := by simpa using ho2
                      have P0 := unhide HS2
                      have P1 := set1 P0 2 (.int .i64 e.value) (show _ = #[.int .i64 (x.c), .int .i64 0, .int .i64 e.value, .int .i64 (x.mx), .int .i64 (x.f), .int .i64 (x.l), .int .i64 (x.lt), .bool false] from rfl)
                      have P2 := set1 P1 5 (.int .i64 e.value) (show _ = #[.int .i64 (x.c), .int .i64 0, .int .i64 e.value, .int .i64 (x.mx), .int .i64 (x.f), .int .i64 e.value, .int .i64 (x.lt), .bool false] from rfl)
                      have P3 := set1 P2 0 (.int .i64 (x.c + 1)) (show _ = #[.int .i64 (x.c + 1), .int .i64 0, .int .i64 e.value, .int .i64 (x.mx), .int .i64 (x.f), .int .i64 e.value, .int .i64 (x.lt), .bool false] from rfl)
                      have P4 := set1 P3 7 (.bool true) (show _ = #[.int .i64 (x.c + 1), .int .i64 0, .int .i64 e.value, .int .i64 (x.mx), .int .i64 (x.f), .int .i64 e.value, .int .i64 (x.lt), .bool true] from rfl)
                      have PB := hide (below_set (Nat.le_succ _) (below_set (Nat.le_succ _) (below_set (Nat.le_succ _) (below_set (Nat.le_succ _) (unhide HB2) 2 (.int .i64 e.value)) 5 (.int .i64 e.value)) 0 (.int .i64 (x.c + 1))) 7 (.bool true))
                      have PR := hide (set_far 7 (.bool true) (show w.heap.size ≠ w.heap.size + 1 by omega) (set_far 0 (.int .i64 (x.c + 1)) (show w.heap.size ≠ w.heap.size + 1 by omega) (set_far 5 (.int .i64 e.value) (show w.heap.size ≠ w.heap.size + 1 by omega) (set_far 2 (.int .i64 e.value) (show w.heap.size ≠ w.heap.size + 1 by omega) (unhide HR2)))))
                      have PN := hide (set_far 7 (.bool true) (show wr.heap.size ≠ w.heap.size + 1 from fun e9 => hne1 e9.symm) (set_far 0 (.int .i64 (x.c + 1)) (show wr.heap.size ≠ w.heap.size + 1 from fun e9 => hne1 e9.symm) (set_far 5 (.int .i64 e.value) (show wr.heap.size ≠ w.heap.size + 1 from fun e9 => hne1 e9.symm) (set_far 2 (.int .i64 e.value) (show wr.heap.size ≠ w.heap.size + 1 from fun e9 => hne1 e9.symm) (unhide HN2)))))
                      have PS := hide P4
                      clear P0 P1 P2 P3 P4 HR2 HN2 HS2 HB2
                      go_wp2_with fail
                      generalize ((((V.setCell ⟨w.heap.size + 1, 2, none⟩ (.int .i64 e.value)).setCell ⟨w.heap.size + 1, 5, none⟩ (.int .i64 e.value)).setCell ⟨w.heap.size + 1, 0, none⟩ (.int .i64 (x.c + 1))).setCell ⟨w.heap.size + 1, 7, none⟩ (.bool true)) = V2 at *
                      refine (unhide CB _ (unhide PB)).mono ?_
                      rintro e9 w3 ⟨rfl, hb3⟩
                      have HB3 := hide ((unhide PB).trans (hb3.mono (unhide PB).size))
                      have S3 := (hb3.block _ (lt_of_heap (unhide PS))).trans (unhide PS)
                      have R3 := hide ((hb3.block _ (lt_of_heap (unhide PR))).trans (unhide PR))
                      have N3 := (hb3.block _ (lt_of_heap (unhide PN))).trans (unhide PN)
                      obtain ⟨_, q5⟩ := unhide HCc _ (unhide HB3)
                      have q4 : w3.cell? ⟨wr.heap.size, 4, none⟩ = some (.int .i64 e.time) := cell_of N3 4
                      have HS3 := hide S3
                      clear hb3 S3 N3 PB PR PN PS s0 g0 s1 g1 s2 g2 s3 g3 s4 g4 s5 g5 s6 g6 s7 g7 x0 x1 x3 x4
                      generalize ahd l d e.shard e.place = ah at *
                      by_cases hla : e.time + C.t < ah
                      · have d9 : decide (e.time + C.t < ah) = true := by simpa using hla
                        obtain ⟨s9, hadd, hnx⟩ := unhide hsum true ⟨v1, v2⟩
                        rw [d9, hadd] at HH
                        rw [hadd] at hnx
                        rw [hovr, if_pos (Or.inr hlt9), if_neg (by omega), if_neg hc0, if_pos rfl] at HH hnx
                        have HNX := hide hnx
                        clear hadd hnx
                        go_wp2
                        go_quiet (fail)
                        have HS4 : Hid ((w3.drewN nq).heap[w.heap.size + 1]? = some (.cells #[.int .i64 (x.c + 1), .int .i64 0, .int .i64 e.value, .int .i64 (x.mx), .int .i64 (x.f), .int .i64 e.value, .int .i64 (x.lt), .bool true] 132 (0, 0))) := unhide HS3
                        have HR4 : Hid ((w3.drewN nq).heap[w.heap.size]? = some (.cells #[.int .i64 0, .int .i64 0, .int .i64 0, .int .i64 0, .int .i64 0, .int .i64 0, .int .i64 0, .bool false] 132 (0, 0))) := unhide R3
                        have HB4 := hide (below_drewN (unhide HB3) nq)
                        clear q4 q5 HS3 R3 HB3
                        generalize w3.drewN nq = V5 at *
                        have r6 : V5.cell? ⟨w.heap.size + 1, 6, none⟩ = some (.int .i64 x.lt) := cell_of (unhide HS4) 6
                        have f6 := frozen_of (unhide HS4) 6
                        have hwl : IntKind.i64.wrap (x.lt + 1) = x.lt + 1 := by rw [IntKind.wrap_i64]; omega
                        have P9 := hide (set1 (unhide HS4) 6 (.int .i64 (x.lt + 1)) (show _ = #[.int .i64 (x.c + 1), .int .i64 0, .int .i64 e.value, .int .i64 (x.mx), .int .i64 (x.f), .int .i64 e.value, .int .i64 (x.lt + 1), .bool true] from rfl))
                        have P8 := hide ((Below.heap_setCell V5 ⟨w.heap.size + 1, 6, none⟩ (.int .i64 (x.lt + 1)) w.heap.size (show w.heap.size ≠ w.heap.size + 1 by omega)).trans (unhide HR4))
                        have P7 := hide (below_set (Nat.le_succ _) (unhide HB4) 6 (.int .i64 (x.lt + 1)))
                        go_wp2
                        go_roundw
                        case rel => exact ⟨j + 1, T + e.value, by omega, by go_num, rfl, by rw [unhide HH]; exact unhide HNX, by rw [unhide HH]; exact unhide P9, unhide P8, unhide P7⟩
                        case measure => simp [intOf]; omega
                      · have d9 : decide (e.time + C.t < ah) = false := by simpa using hla
                        obtain ⟨s9, hadd, hnx⟩ := unhide hsum false ⟨v1, v2⟩
                        rw [d9, hadd] at HH
                        rw [hadd] at hnx
                        rw [hovr, if_pos (Or.inr hlt9), if_neg (by omega), if_neg hc0, if_neg Bool.false_ne_true] at HH hnx
                        have HNX := hide hnx
                        clear hadd hnx
                        go_wp2
                        go_quiet (fail)
                        have HS4 : Hid ((w3.drewN nq).heap[w.heap.size + 1]? = some (.cells #[.int .i64 (x.c + 1), .int .i64 0, .int .i64 e.value, .int .i64 (x.mx), .int .i64 (x.f), .int .i64 e.value, .int .i64 (x.lt), .bool true] 132 (0, 0))) := unhide HS3
                        have HR4 : Hid ((w3.drewN nq).heap[w.heap.size]? = some (.cells #[.int .i64 0, .int .i64 0, .int .i64 0, .int .i64 0, .int .i64 0, .int .i64 0, .int .i64 0, .bool false] 132 (0, 0))) := unhide R3
                        have HB4 := hide (below_drewN (unhide HB3) nq)
                        clear q4 q5 HS3 R3 HB3
                        generalize w3.drewN nq = V5 at *
                        go_wp2
                        go_roundw
                        case rel => exact ⟨j + 1, T + e.value, by omega, by go_num, rfl, by rw [unhide HH]; exact unhide HNX, by rw [unhide HH]; exact unhide HS4, unhide HR4, unhide HB4⟩
                        case measure => simp [intOf]; omega
                    · have do2 : decide (T + e.value < -1000000) = false := by simpa using ho2
                      have hovr : ovr x (T + e.value) = false := by unfold ovr; simp [ho1, ho2, ho]
                      have P0 := unhide HS2
                      have P1 := set1 P0 2 (.int .i64 e.value) (show _ = #[.int .i64 (x.c), .int .i64 0, .int .i64 e.value, .int .i64 (x.mx), .int .i64 (x.f), .int .i64 (x.l), .int .i64 (x.lt), .bool false] from rfl)
                      have P2 := set1 P1 5 (.int .i64 e.value) (show _ = #[.int .i64 (x.c), .int .i64 0, .int .i64 e.value, .int .i64 (x.mx), .int .i64 (x.f), .int .i64 e.value, .int .i64 (x.lt), .bool false] from rfl)
                      have P3 := set1 P2 0 (.int .i64 (x.c + 1)) (show _ = #[.int .i64 (x.c + 1), .int .i64 0, .int .i64 e.value, .int .i64 (x.mx), .int .i64 (x.f), .int .i64 e.value, .int .i64 (x.lt), .bool false] from rfl)
                      have P4 := set1 P3 7 (.bool false) (show _ = #[.int .i64 (x.c + 1), .int .i64 0, .int .i64 e.value, .int .i64 (x.mx), .int .i64 (x.f), .int .i64 e.value, .int .i64 (x.lt), .bool false] from rfl)
                      have PB := hide (below_set (Nat.le_succ _) (below_set (Nat.le_succ _) (below_set (Nat.le_succ _) (below_set (Nat.le_succ _) (unhide HB2) 2 (.int .i64 e.value)) 5 (.int .i64 e.value)) 0 (.int .i64 (x.c + 1))) 7 (.bool false))
                      have PR := hide (set_far 7 (.bool false) (show w.heap.size ≠ w.heap.size + 1 by omega) (set_far 0 (.int .i64 (x.c + 1)) (show w.heap.size ≠ w.heap.size + 1 by omega) (set_far 5 (.int .i64 e.value) (show w.heap.size ≠ w.heap.size + 1 by omega) (set_far 2 (.int .i64 e.value) (show w.heap.size ≠ w.heap.size + 1 by omega) (unhide HR2)))))
                      have PN := hide (set_far 7 (.bool false) (show wr.heap.size ≠ w.heap.size + 1 from fun e9 => hne1 e9.symm) (set_far 0 (.int .i64 (x.c + 1)) (show wr.heap.size ≠ w.heap.size + 1 from fun e9 => hne1 e9.symm) (set_far 5 (.int .i64 e.value) (show wr.heap.size ≠ w.heap.size + 1 from fun e9 => hne1 e9.symm) (set_far 2 (.int .i64 e.value) (show wr.heap.size ≠ w.heap.size + 1 from fun e9 => hne1 e9.symm) (unhide HN2)))))
                      have PS := hide P4
                      clear P0 P1 P2 P3 P4 HR2 HN2 HS2 HB2
                      go_wp2_with fail
                      generalize ((((V.setCell ⟨w.heap.size + 1, 2, none⟩ (.int .i64 e.value)).setCell ⟨w.heap.size + 1, 5, none⟩ (.int .i64 e.value)).setCell ⟨w.heap.size + 1, 0, none⟩ (.int .i64 (x.c + 1))).setCell ⟨w.heap.size + 1, 7, none⟩ (.bool false)) = V2 at *
                      refine (unhide CB _ (unhide PB)).mono ?_
                      rintro e9 w3 ⟨rfl, hb3⟩
                      have HB3 := hide ((unhide PB).trans (hb3.mono (unhide PB).size))
                      have S3 := (hb3.block _ (lt_of_heap (unhide PS))).trans (unhide PS)
                      have R3 := hide ((hb3.block _ (lt_of_heap (unhide PR))).trans (unhide PR))
                      have N3 := (hb3.block _ (lt_of_heap (unhide PN))).trans (unhide PN)
                      obtain ⟨_, q5⟩ := unhide HCc _ (unhide HB3)
                      have q4 : w3.cell? ⟨wr.heap.size, 4, none⟩ = some (.int .i64 e.time) := cell_of N3 4
                      have HS3 := hide S3
                      clear hb3 S3 N3 PB PR PN PS s0 g0 s1 g1 s2 g2 s3 g3 s4 g4 s5 g5 s6 g6 s7 g7 x0 x1 x3 x4
                      generalize ahd l d e.shard e.place = ah at *
                      by_cases hla : e.time + C.t < ah
                      · have d9 : decide (e.time + C.t < ah) = true := by simpa using hla
                        obtain ⟨s9, hadd, hnx⟩ := unhide hsum true ⟨v1, v2⟩
                        rw [d9, hadd] at HH
                        rw [hadd] at hnx
                        rw [hovr, if_pos (Or.inr hlt9), if_neg (by omega), if_neg hc0, if_pos rfl] at HH hnx
                        have HNX := hide hnx
                        clear hadd hnx
                        go_wp2
                        go_quiet (fail)
                        have HS4 : Hid ((w3.drewN nq).heap[w.heap.size + 1]? = some (.cells #[.int .i64 (x.c + 1), .int .i64 0, .int .i64 e.value, .int .i64 (x.mx), .int .i64 (x.f), .int .i64 e.value, .int .i64 (x.lt), .bool false] 132 (0, 0))) := unhide HS3
                        have HR4 : Hid ((w3.drewN nq).heap[w.heap.size]? = some (.cells #[.int .i64 0, .int .i64 0, .int .i64 0, .int .i64 0, .int .i64 0, .int .i64 0, .int .i64 0, .bool false] 132 (0, 0))) := unhide R3
                        have HB4 := hide (below_drewN (unhide HB3) nq)
                        clear q4 q5 HS3 R3 HB3
                        generalize w3.drewN nq = V5 at *
                        have r6 : V5.cell? ⟨w.heap.size + 1, 6, none⟩ = some (.int .i64 x.lt) := cell_of (unhide HS4) 6
                        have f6 := frozen_of (unhide HS4) 6
                        have hwl : IntKind.i64.wrap (x.lt + 1) = x.lt + 1 := by rw [IntKind.wrap_i64]; omega
                        have P9 := hide (set1 (unhide HS4) 6 (.int .i64 (x.lt + 1)) (show _ = #[.int .i64 (x.c + 1), .int .i64 0, .int .i64 e.value, .int .i64 (x.mx), .int .i64 (x.f), .int .i64 e.value, .int .i64 (x.lt + 1), .bool false] from rfl))
                        have P8 := hide ((Below.heap_setCell V5 ⟨w.heap.size + 1, 6, none⟩ (.int .i64 (x.lt + 1)) w.heap.size (show w.heap.size ≠ w.heap.size + 1 by omega)).trans (unhide HR4))
                        have P7 := hide (below_set (Nat.le_succ _) (unhide HB4) 6 (.int .i64 (x.lt + 1)))
                        go_wp2
                        go_roundw
                        case rel => exact ⟨j + 1, T + e.value, by omega, by go_num, rfl, by rw [unhide HH]; exact unhide HNX, by rw [unhide HH]; exact unhide P9, unhide P8, unhide P7⟩
                        case measure => simp [intOf]; omega
                      · have d9 : decide (e.time + C.t < ah) = false := by simpa using hla
                        obtain ⟨s9, hadd, hnx⟩ := unhide hsum false ⟨v1, v2⟩
                        rw [d9, hadd] at HH
                        rw [hadd] at hnx
                        rw [hovr, if_pos (Or.inr hlt9), if_neg (by omega), if_neg hc0, if_neg Bool.false_ne_true] at HH hnx
                        have HNX := hide hnx
                        clear hadd hnx
                        go_wp2
                        go_quiet (fail)
                        have HS4 : Hid ((w3.drewN nq).heap[w.heap.size + 1]? = some (.cells #[.int .i64 (x.c + 1), .int .i64 0, .int .i64 e.value, .int .i64 (x.mx), .int .i64 (x.f), .int .i64 e.value, .int .i64 (x.lt), .bool false] 132 (0, 0))) := unhide HS3
                        have HR4 : Hid ((w3.drewN nq).heap[w.heap.size]? = some (.cells #[.int .i64 0, .int .i64 0, .int .i64 0, .int .i64 0, .int .i64 0, .int .i64 0, .int .i64 0, .bool false] 132 (0, 0))) := unhide R3
                        have HB4 := hide (below_drewN (unhide HB3) nq)
                        clear q4 q5 HS3 R3 HB3
                        generalize w3.drewN nq = V5 at *
                        go_wp2
                        go_roundw
                        case rel => exact ⟨j + 1, T + e.value, by omega, by go_num, rfl, by rw [unhide HH]; exact unhide HNX, by rw [unhide HH]; exact unhide HS4, unhide HR4, unhide HB4⟩
                        case measure => simp [intOf]; omega
                · rw [ho] at s7 HS2
                  have hovr : ovr x (T + e.value) = true := by unfold ovr; simp [ho]
                  have P0 := unhide HS2
                  have P1 := set1 P0 2 (.int .i64 e.value) (show _ = #[.int .i64 (x.c), .int .i64 0, .int .i64 e.value, .int .i64 (x.mx), .int .i64 (x.f), .int .i64 (x.l), .int .i64 (x.lt), .bool true] from rfl)
                  have P2 := set1 P1 5 (.int .i64 e.value) (show _ = #[.int .i64 (x.c), .int .i64 0, .int .i64 e.value, .int .i64 (x.mx), .int .i64 (x.f), .int .i64 e.value, .int .i64 (x.lt), .bool true] from rfl)
                  have P3 := set1 P2 0 (.int .i64 (x.c + 1)) (show _ = #[.int .i64 (x.c + 1), .int .i64 0, .int .i64 e.value, .int .i64 (x.mx), .int .i64 (x.f), .int .i64 e.value, .int .i64 (x.lt), .bool true] from rfl)
                  have P4 := set1 P3 7 (.bool true) (show _ = #[.int .i64 (x.c + 1), .int .i64 0, .int .i64 e.value, .int .i64 (x.mx), .int .i64 (x.f), .int .i64 e.value, .int .i64 (x.lt), .bool true] from rfl)
                  have PB := hide (below_set (Nat.le_succ _) (below_set (Nat.le_succ _) (below_set (Nat.le_succ _) (below_set (Nat.le_succ _) (unhide HB2) 2 (.int .i64 e.value)) 5 (.int .i64 e.value)) 0 (.int .i64 (x.c + 1))) 7 (.bool true))
                  have PR := hide (set_far 7 (.bool true) (show w.heap.size ≠ w.heap.size + 1 by omega) (set_far 0 (.int .i64 (x.c + 1)) (show w.heap.size ≠ w.heap.size + 1 by omega) (set_far 5 (.int .i64 e.value) (show w.heap.size ≠ w.heap.size + 1 by omega) (set_far 2 (.int .i64 e.value) (show w.heap.size ≠ w.heap.size + 1 by omega) (unhide HR2)))))
                  have PN := hide (set_far 7 (.bool true) (show wr.heap.size ≠ w.heap.size + 1 from fun e9 => hne1 e9.symm) (set_far 0 (.int .i64 (x.c + 1)) (show wr.heap.size ≠ w.heap.size + 1 from fun e9 => hne1 e9.symm) (set_far 5 (.int .i64 e.value) (show wr.heap.size ≠ w.heap.size + 1 from fun e9 => hne1 e9.symm) (set_far 2 (.int .i64 e.value) (show wr.heap.size ≠ w.heap.size + 1 from fun e9 => hne1 e9.symm) (unhide HN2)))))
                  have PS := hide P4
                  clear P0 P1 P2 P3 P4 HR2 HN2 HS2 HB2
                  go_wp2_with fail
                  generalize ((((V.setCell ⟨w.heap.size + 1, 2, none⟩ (.int .i64 e.value)).setCell ⟨w.heap.size + 1, 5, none⟩ (.int .i64 e.value)).setCell ⟨w.heap.size + 1, 0, none⟩ (.int .i64 (x.c + 1))).setCell ⟨w.heap.size + 1, 7, none⟩ (.bool true)) = V2 at *
                  refine (unhide CB _ (unhide PB)).mono ?_
                  rintro e9 w3 ⟨rfl, hb3⟩
                  have HB3 := hide ((unhide PB).trans (hb3.mono (unhide PB).size))
                  have S3 := (hb3.block _ (lt_of_heap (unhide PS))).trans (unhide PS)
                  have R3 := hide ((hb3.block _ (lt_of_heap (unhide PR))).trans (unhide PR))
                  have N3 := (hb3.block _ (lt_of_heap (unhide PN))).trans (unhide PN)
                  obtain ⟨_, q5⟩ := unhide HCc _ (unhide HB3)
                  have q4 : w3.cell? ⟨wr.heap.size, 4, none⟩ = some (.int .i64 e.time) := cell_of N3 4
                  have HS3 := hide S3
                  clear hb3 S3 N3 PB PR PN PS s0 g0 s1 g1 s2 g2 s3 g3 s4 g4 s5 g5 s6 g6 s7 g7 x0 x1 x3 x4
                  generalize ahd l d e.shard e.place = ah at *
                  by_cases hla : e.time + C.t < ah
                  · have d9 : decide (e.time + C.t < ah) = true := by simpa using hla
                    obtain ⟨s9, hadd, hnx⟩ := unhide hsum true ⟨v1, v2⟩
                    rw [d9, hadd] at HH
                    rw [hadd] at hnx
                    rw [hovr, if_pos (Or.inr hlt9), if_neg (by omega), if_neg hc0, if_pos rfl] at HH hnx
                    have HNX := hide hnx
                    clear hadd hnx
                    go_wp2
                    go_quiet (fail)
                    have HS4 : Hid ((w3.drewN nq).heap[w.heap.size + 1]? = some (.cells #[.int .i64 (x.c + 1), .int .i64 0, .int .i64 e.value, .int .i64 (x.mx), .int .i64 (x.f), .int .i64 e.value, .int .i64 (x.lt), .bool true] 132 (0, 0))) := unhide HS3
                    have HR4 : Hid ((w3.drewN nq).heap[w.heap.size]? = some (.cells #[.int .i64 0, .int .i64 0, .int .i64 0, .int .i64 0, .int .i64 0, .int .i64 0, .int .i64 0, .bool false] 132 (0, 0))) := unhide R3
                    have HB4 := hide (below_drewN (unhide HB3) nq)
                    clear q4 q5 HS3 R3 HB3
                    generalize w3.drewN nq = V5 at *
                    have r6 : V5.cell? ⟨w.heap.size + 1, 6, none⟩ = some (.int .i64 x.lt) := cell_of (unhide HS4) 6
                    have f6 := frozen_of (unhide HS4) 6
                    have hwl : IntKind.i64.wrap (x.lt + 1) = x.lt + 1 := by rw [IntKind.wrap_i64]; omega
                    have P9 := hide (set1 (unhide HS4) 6 (.int .i64 (x.lt + 1)) (show _ = #[.int .i64 (x.c + 1), .int .i64 0, .int .i64 e.value, .int .i64 (x.mx), .int .i64 (x.f), .int .i64 e.value, .int .i64 (x.lt + 1), .bool true] from rfl))
                    have P8 := hide ((Below.heap_setCell V5 ⟨w.heap.size + 1, 6, none⟩ (.int .i64 (x.lt + 1)) w.heap.size (show w.heap.size ≠ w.heap.size + 1 by omega)).trans (unhide HR4))
                    have P7 := hide (below_set (Nat.le_succ _) (unhide HB4) 6 (.int .i64 (x.lt + 1)))
                    go_wp2
                    go_roundw
                    case rel => exact ⟨j + 1, T + e.value, by omega, by go_num, rfl, by rw [unhide HH]; exact unhide HNX, by rw [unhide HH]; exact unhide P9, unhide P8, unhide P7⟩
                    case measure => simp [intOf]; omega
                  · have d9 : decide (e.time + C.t < ah) = false := by simpa using hla
                    obtain ⟨s9, hadd, hnx⟩ := unhide hsum false ⟨v1, v2⟩
                    rw [d9, hadd] at HH
                    rw [hadd] at hnx
                    rw [hovr, if_pos (Or.inr hlt9), if_neg (by omega), if_neg hc0, if_neg Bool.false_ne_true] at HH hnx
                    have HNX := hide hnx
                    clear hadd hnx
                    go_wp2
                    go_quiet (fail)
                    have HS4 : Hid ((w3.drewN nq).heap[w.heap.size + 1]? = some (.cells #[.int .i64 (x.c + 1), .int .i64 0, .int .i64 e.value, .int .i64 (x.mx), .int .i64 (x.f), .int .i64 e.value, .int .i64 (x.lt), .bool true] 132 (0, 0))) := unhide HS3
                    have HR4 : Hid ((w3.drewN nq).heap[w.heap.size]? = some (.cells #[.int .i64 0, .int .i64 0, .int .i64 0, .int .i64 0, .int .i64 0, .int .i64 0, .int .i64 0, .bool false] 132 (0, 0))) := unhide R3
                    have HB4 := hide (below_drewN (unhide HB3) nq)
                    clear q4 q5 HS3 R3 HB3
                    generalize w3.drewN nq = V5 at *
                    go_wp2
                    go_roundw
                    case rel => exact ⟨j + 1, T + e.value, by omega, by go_num, rfl, by rw [unhide HH]; exact unhide HNX, by rw [unhide HH]; exact unhide HS4, unhide HR4, unhide HB4⟩
                    case measure => simp [intOf]; omega
            · by_cases hgt9 : x.mx < e.value
              · skip
                cases ho : x.o
                · rw [ho] at s7 HS2
                  by_cases ho1 : 1000000 < T + e.value
                  · have hovr : ovr x (T + e.value) = true := by unfold ovr; simp [ho1]
                    have do1 : decide (1000000 < T + e.value) = true := by simpa using ho1
                    have P0 := unhide HS2
                    have P1 := set1 P0 3 (.int .i64 e.value) (show _ = #[.int .i64 (x.c), .int .i64 0, .int .i64 (x.mn), .int .i64 e.value, .int .i64 (x.f), .int .i64 (x.l), .int .i64 (x.lt), .bool false] from rfl)
                    have P2 := set1 P1 5 (.int .i64 e.value) (show _ = #[.int .i64 (x.c), .int .i64 0, .int .i64 (x.mn), .int .i64 e.value, .int .i64 (x.f), .int .i64 e.value, .int .i64 (x.lt), .bool false] from rfl)
                    have P3 := set1 P2 0 (.int .i64 (x.c + 1)) (show _ = #[.int .i64 (x.c + 1), .int .i64 0, .int .i64 (x.mn), .int .i64 e.value, .int .i64 (x.f), .int .i64 e.value, .int .i64 (x.lt), .bool false] from rfl)
                    have P4 := set1 P3 7 (.bool true) (show _ = #[.int .i64 (x.c + 1), .int .i64 0, .int .i64 (x.mn), .int .i64 e.value, .int .i64 (x.f), .int .i64 e.value, .int .i64 (x.lt), .bool true] from rfl)
                    have PB := hide (below_set (Nat.le_succ _) (below_set (Nat.le_succ _) (below_set (Nat.le_succ _) (below_set (Nat.le_succ _) (unhide HB2) 3 (.int .i64 e.value)) 5 (.int .i64 e.value)) 0 (.int .i64 (x.c + 1))) 7 (.bool true))
                    have PR := hide (set_far 7 (.bool true) (show w.heap.size ≠ w.heap.size + 1 by omega) (set_far 0 (.int .i64 (x.c + 1)) (show w.heap.size ≠ w.heap.size + 1 by omega) (set_far 5 (.int .i64 e.value) (show w.heap.size ≠ w.heap.size + 1 by omega) (set_far 3 (.int .i64 e.value) (show w.heap.size ≠ w.heap.size + 1 by omega) (unhide HR2)))))
                    have PN := hide (set_far 7 (.bool true) (show wr.heap.size ≠ w.heap.size + 1 from fun e9 => hne1 e9.symm) (set_far 0 (.int .i64 (x.c + 1)) (show wr.heap.size ≠ w.heap.size + 1 from fun e9 => hne1 e9.symm) (set_far 5 (.int .i64 e.value) (show wr.heap.size ≠ w.heap.size + 1 from fun e9 => hne1 e9.symm) (set_far 3 (.int .i64 e.value) (show wr.heap.size ≠ w.heap.size + 1 from fun e9 => hne1 e9.symm) (unhide HN2)))))
                    have PS := hide P4
                    clear P0 P1 P2 P3 P4 HR2 HN2 HS2 HB2
                    go_wp2_with fail
                    generalize ((((V.setCell ⟨w.heap.size + 1, 3, none⟩ (.int .i64 e.value)).setCell ⟨w.heap.size + 1, 5, none⟩ (.int .i64 e.value)).setCell ⟨w.heap.size + 1, 0, none⟩ (.int .i64 (x.c + 1))).setCell ⟨w.heap.size + 1, 7, none⟩ (.bool true)) = V2 at *
                    refine (unhide CB _ (unhide PB)).mono ?_
                    rintro e9 w3 ⟨rfl, hb3⟩
                    have HB3 := hide ((unhide PB).trans (hb3.mono (unhide PB).size))
                    have S3 := (hb3.block _ (lt_of_heap (unhide PS))).trans (unhide PS)
                    have R3 := hide ((hb3.block _ (lt_of_heap (unhide PR))).trans (unhide PR))
                    have N3 := (hb3.block _ (lt_of_heap (unhide PN))).trans (unhide PN)
                    obtain ⟨_, q5⟩ := unhide HCc _ (unhide HB3)
                    have q4 : w3.cell? ⟨wr.heap.size, 4, none⟩ = some (.int .i64 e.time) := cell_of N3 4
                    have HS3 := hide S3
                    clear hb3 S3 N3 PB PR PN PS s0 g0 s1 g1 s2 g2 s3 g3 s4 g4 s5 g5 s6 g6 s7 g7 x0 x1 x3 x4
                    generalize ahd l d e.shard e.place = ah at *
                    by_cases hla : e.time + C.t < ah
                    · have d9 : decide (e.time + C.t < ah) = true := by simpa using hla
                      obtain ⟨s9, hadd, hnx⟩ := unhide hsum true ⟨v1, v2⟩
                      rw [d9, hadd] at HH
                      rw [hadd] at hnx
                      rw [hovr, if_neg (by omega), if_pos (Or.inr hgt9), if_neg hc0, if_pos rfl] at HH hnx
                      have HNX := hide hnx
                      clear hadd hnx
                      go_wp2
                      go_quiet (fail)
                      have HS4 : Hid ((w3.drewN nq).heap[w.heap.size + 1]? = some (.cells #[.int .i64 (x.c + 1), .int .i64 0, .int .i64 (x.mn), .int .i64 e.value, .int .i64 (x.f), .int .i64 e.value, .int .i64 (x.lt), .bool true] 132 (0, 0))) := unhide HS3
                      have HR4 : Hid ((w3.drewN nq).heap[w.heap.size]? = some (.cells #[.int .i64 0, .int .i64 0, .int .i64 0, .int .i64 0, .int .i64 0, .int .i64 0, .int .i64 0, .bool false] 132 (0, 0))) := unhide R3
                      have HB4 := hide (below_drewN (unhide HB3) nq)
                      clear q4 q5 HS3 R3 HB3
                      generalize w3.drewN nq = V5 at *
                      have r6 : V5.cell? ⟨w.heap.size + 1, 6, none⟩ = some (.int .i64 x.lt) := cell_of (unhide HS4) 6
                      have f6 := frozen_of (unhide HS4) 6
                      have hwl : IntKind.i64.wrap (x.lt + 1) = x.lt + 1 := by rw [IntKind.wrap_i64]; omega
                      have P9 := hide (set1 (unhide HS4) 6 (.int .i64 (x.lt + 1)) (show _ = #[.int .i64 (x.c + 1), .int .i64 0, .int .i64 (x.mn), .int .i64 e.value, .int .i64 (x.f), .int .i64 e.value, .int .i64 (x.lt + 1), .bool true] from rfl))
                      have P8 := hide ((Below.heap_setCell V5 ⟨w.heap.size + 1, 6, none⟩ (.int .i64 (x.lt + 1)) w.heap.size (show w.heap.size ≠ w.heap.size + 1 by omega)).trans (unhide HR4))
                      have P7 := hide (below_set (Nat.le_succ _) (unhide HB4) 6 (.int .i64 (x.lt + 1)))
                      go_wp2
                      go_roundw
                      case rel => exact ⟨j + 1, T + e.value, by omega, by go_num, rfl, by rw [unhide HH]; exact unhide HNX, by rw [unhide HH]; exact unhide P9, unhide P8, unhide P7⟩
                      case measure => simp [intOf]; omega
                    · have d9 : decide (e.time + C.t < ah) = false := by simpa using hla
                      obtain ⟨s9, hadd, hnx⟩ := unhide hsum false ⟨v1, v2⟩
                      rw [d9, hadd] at HH
                      rw [hadd] at hnx
                      rw [hovr, if_neg (by omega), if_pos (Or.inr hgt9), if_neg hc0, if_neg Bool.false_ne_true] at HH hnx
                      have HNX := hide hnx
                      clear hadd hnx
                      go_wp2
                      go_quiet (fail)
                      have HS4 : Hid ((w3.drewN nq).heap[w.heap.size + 1]? = some (.cells #[.int .i64 (x.c + 1), .int .i64 0, .int .i64 (x.mn), .int .i64 e.value, .int .i64 (x.f), .int .i64 e.value, .int .i64 (x.lt), .bool true] 132 (0, 0))) := unhide HS3
                      have HR4 : Hid ((w3.drewN nq).heap[w.heap.size]? = some (.cells #[.int .i64 0, .int .i64 0, .int .i64 0, .int .i64 0, .int .i64 0, .int .i64 0, .int .i64 0, .bool false] 132 (0, 0))) := unhide R3
                      have HB4 := hide (below_drewN (unhide HB3) nq)
                      clear q4 q5 HS3 R3 HB3
                      generalize w3.drewN nq = V5 at *
                      go_wp2
                      go_roundw
                      case rel => exact ⟨j + 1, T + e.value, by omega, by go_num, rfl, by rw [unhide HH]; exact unhide HNX, by rw [unhide HH]; exact unhide HS4, unhide HR4, unhide HB4⟩
                      case measure => simp [intOf]; omega
                  · have do1 : decide (1000000 < T + e.value) = false := by simpa using ho1
                    by_cases ho2 : T + e.value < -1000000
                    · have hovr : ovr x (T + e.value) = true := by unfold ovr; simp [ho2]
                      have do2 : decide (T + e.value < -1000000) = true := by simpa using ho2
                      have P0 := unhide HS2
                      have P1 := set1 P0 3 (.int .i64 e.value) (show _ = #[.int .i64 (x.c), .int .i64 0, .int .i64 (x.mn), .int .i64 e.value, .int .i64 (x.f), .int .i64 (x.l), .int .i64 (x.lt), .bool false] from rfl)
                      have P2 := set1 P1 5 (.int .i64 e.value) (show _ = #[.int .i64 (x.c), .int .i64 0, .int .i64 (x.mn), .int .i64 e.value, .int .i64 (x.f), .int .i64 e.value, .int .i64 (x.lt), .bool false] from rfl)
                      have P3 := set1 P2 0 (.int .i64 (x.c + 1)) (show _ = #[.int .i64 (x.c + 1), .int .i64 0, .int .i64 (x.mn), .int .i64 e.value, .int .i64 (x.f), .int .i64 e.value, .int .i64 (x.lt), .bool false] from rfl)
                      have P4 := set1 P3 7 (.bool true) (show _ = #[.int .i64 (x.c + 1), .int .i64 0, .int .i64 (x.mn), .int .i64 e.value, .int .i64 (x.f), .int .i64 e.value, .int .i64 (x.lt), .bool true] from rfl)
                      have PB := hide (below_set (Nat.le_succ _) (below_set (Nat.le_succ _) (below_set (Nat.le_succ _) (below_set (Nat.le_succ _) (unhide HB2) 3 (.int .i64 e.value)) 5 (.int .i64 e.value)) 0 (.int .i64 (x.c + 1))) 7 (.bool true))
                      have PR := hide (set_far 7 (.bool true) (show w.heap.size ≠ w.heap.size + 1 by omega) (set_far 0 (.int .i64 (x.c + 1)) (show w.heap.size ≠ w.heap.size + 1 by omega) (set_far 5 (.int .i64 e.value) (show w.heap.size ≠ w.heap.size + 1 by omega) (set_far 3 (.int .i64 e.value) (show w.heap.size ≠ w.heap.size + 1 by omega) (unhide HR2)))))
                      have PN := hide (set_far 7 (.bool true) (show wr.heap.size ≠ w.heap.size + 1 from fun e9 => hne1 e9.symm) (set_far 0 (.int .i64 (x.c + 1)) (show wr.heap.size ≠ w.heap.size + 1 from fun e9 => hne1 e9.symm) (set_far 5 (.int .i64 e.value) (show wr.heap.size ≠ w.heap.size + 1 from fun e9 => hne1 e9.symm) (set_far 3 (.int .i64 e.value) (show wr.heap.size ≠ w.heap.size + 1 from fun e9 => hne1 e9.symm) (unhide HN2)))))
                      have PS := hide P4
                      clear P0 P1 P2 P3 P4 HR2 HN2 HS2 HB2
                      go_wp2_with fail
                      generalize ((((V.setCell ⟨w.heap.size + 1, 3, none⟩ (.int .i64 e.value)).setCell ⟨w.heap.size + 1, 5, none⟩ (.int .i64 e.value)).setCell ⟨w.heap.size + 1, 0, none⟩ (.int .i64 (x.c + 1))).setCell ⟨w.heap.size + 1, 7, none⟩ (.bool true)) = V2 at *
                      refine (unhide CB _ (unhide PB)).mono ?_
                      rintro e9 w3 ⟨rfl, hb3⟩
                      have HB3 := hide ((unhide PB).trans (hb3.mono (unhide PB).size))
                      have S3 := (hb3.block _ (lt_of_heap (unhide PS))).trans (unhide PS)
                      have R3 := hide ((hb3.block _ (lt_of_heap (unhide PR))).trans (unhide PR))
                      have N3 := (hb3.block _ (lt_of_heap (unhide PN))).trans (unhide PN)
                      obtain ⟨_, q5⟩ := unhide HCc _ (unhide HB3)
                      have q4 : w3.cell? ⟨wr.heap.size, 4, none⟩ = some (.int .i64 e.time) := cell_of N3 4
                      have HS3 := hide S3
                      clear hb3 S3 N3 PB PR PN PS s0 g0 s1 g1 s2 g2 s3 g3 s4 g4 s5 g5 s6 g6 s7 g7 x0 x1 x3 x4
                      generalize ahd l d e.shard e.place = ah at *
                      by_cases hla : e.time + C.t < ah
                      · have d9 : decide (e.time + C.t < ah) = true := by simpa using hla
                        obtain ⟨s9, hadd, hnx⟩ := unhide hsum true ⟨v1, v2⟩
                        rw [d9, hadd] at HH
                        rw [hadd] at hnx
                        rw [hovr, if_neg (by omega), if_pos (Or.inr hgt9), if_neg hc0, if_pos rfl] at HH hnx
                        have HNX := hide hnx
                        clear hadd hnx
                        go_wp2
                        go_quiet (fail)
                        have HS4 : Hid ((w3.drewN nq).heap[w.heap.size + 1]? = some (.cells #[.int .i64 (x.c + 1), .int .i64 0, .int .i64 (x.mn), .int .i64 e.value, .int .i64 (x.f), .int .i64 e.value, .int .i64 (x.lt), .bool true] 132 (0, 0))) := unhide HS3
                        have HR4 : Hid ((w3.drewN nq).heap[w.heap.size]? = some (.cells #[.int .i64 0, .int .i64 0, .int .i64 0, .int .i64 0, .int .i64 0, .int .i64 0, .int .i64 0, .bool false] 132 (0, 0))) := unhide R3
                        have HB4 := hide (below_drewN (unhide HB3) nq)
                        clear q4 q5 HS3 R3 HB3
                        generalize w3.drewN nq = V5 at *
                        have r6 : V5.cell? ⟨w.heap.size + 1, 6, none⟩ = some (.int .i64 x.lt) := cell_of (unhide HS4) 6
                        have f6 := frozen_of (unhide HS4) 6
                        have hwl : IntKind.i64.wrap (x.lt + 1) = x.lt + 1 := by rw [IntKind.wrap_i64]; omega
                        have P9 := hide (set1 (unhide HS4) 6 (.int .i64 (x.lt + 1)) (show _ = #[.int .i64 (x.c + 1), .int .i64 0, .int .i64 (x.mn), .int .i64 e.value, .int .i64 (x.f), .int .i64 e.value, .int .i64 (x.lt + 1), .bool true] from rfl))
                        have P8 := hide ((Below.heap_setCell V5 ⟨w.heap.size + 1, 6, none⟩ (.int .i64 (x.lt + 1)) w.heap.size (show w.heap.size ≠ w.heap.size + 1 by omega)).trans (unhide HR4))
                        have P7 := hide (below_set (Nat.le_succ _) (unhide HB4) 6 (.int .i64 (x.lt + 1)))
                        go_wp2
                        go_roundw
                        case rel => exact ⟨j + 1, T + e.value, by omega, by go_num, rfl, by rw [unhide HH]; exact unhide HNX, by rw [unhide HH]; exact unhide P9, unhide P8, unhide P7⟩
                        case measure => simp [intOf]; omega
                      · have d9 : decide (e.time + C.t < ah) = false := by simpa using hla
                        obtain ⟨s9, hadd, hnx⟩ := unhide hsum false ⟨v1, v2⟩
                        rw [d9, hadd] at HH
                        rw [hadd] at hnx
                        rw [hovr, if_neg (by omega), if_pos (Or.inr hgt9), if_neg hc0, if_neg Bool.false_ne_true] at HH hnx
                        have HNX := hide hnx
                        clear hadd hnx
                        go_wp2
                        go_quiet (fail)
                        have HS4 : Hid ((w3.drewN nq).heap[w.heap.size + 1]? = some (.cells #[.int .i64 (x.c + 1), .int .i64 0, .int .i64 (x.mn), .int .i64 e.value, .int .i64 (x.f), .int .i64 e.value, .int .i64 (x.lt), .bool true] 132 (0, 0))) := unhide HS3
                        have HR4 : Hid ((w3.drewN nq).heap[w.heap.size]? = some (.cells #[.int .i64 0, .int .i64 0, .int .i64 0, .int .i64 0, .int .i64 0, .int .i64 0, .int .i64 0, .bool false] 132 (0, 0))) := unhide R3
                        have HB4 := hide (below_drewN (unhide HB3) nq)
                        clear q4 q5 HS3 R3 HB3
                        generalize w3.drewN nq = V5 at *
                        go_wp2
                        go_roundw
                        case rel => exact ⟨j + 1, T + e.value, by omega, by go_num, rfl, by rw [unhide HH]; exact unhide HNX, by rw [unhide HH]; exact unhide HS4, unhide HR4, unhide HB4⟩
                        case measure => simp [intOf]; omega
                    · have do2 : decide (T + e.value < -1000000) = false := by simpa using ho2
                      have hovr : ovr x (T + e.value) = false := by unfold ovr; simp [ho1, ho2, ho]
                      have P0 := unhide HS2
                      have P1 := set1 P0 3 (.int .i64 e.value) (show _ = #[.int .i64 (x.c), .int .i64 0, .int .i64 (x.mn), .int .i64 e.value, .int .i64 (x.f), .int .i64 (x.l), .int .i64 (x.lt), .bool false] from rfl)
                      have P2 := set1 P1 5 (.int .i64 e.value) (show _ = #[.int .i64 (x.c), .int .i64 0, .int .i64 (x.mn), .int .i64 e.value, .int .i64 (x.f), .int .i64 e.value, .int .i64 (x.lt), .bool false] from rfl)
                      have P3 := set1 P2 0 (.int .i64 (x.c + 1)) (show _ = #[.int .i64 (x.c + 1), .int .i64 0, .int .i64 (x.mn), .int .i64 e.value, .int .i64 (x.f), .int .i64 e.value, .int .i64 (x.lt), .bool false] from rfl)
                      have P4 := set1 P3 7 (.bool false) (show _ = #[.int .i64 (x.c + 1), .int .i64 0, .int .i64 (x.mn), .int .i64 e.value, .int .i64 (x.f), .int .i64 e.value, .int .i64 (x.lt), .bool false] from rfl)
                      have PB := hide (below_set (Nat.le_succ _) (below_set (Nat.le_succ _) (below_set (Nat.le_succ _) (below_set (Nat.le_succ _) (unhide HB2) 3 (.int .i64 e.value)) 5 (.int .i64 e.value)) 0 (.int .i64 (x.c + 1))) 7 (.bool false))
                      have PR := hide (set_far 7 (.bool false) (show w.heap.size ≠ w.heap.size + 1 by omega) (set_far 0 (.int .i64 (x.c + 1)) (show w.heap.size ≠ w.heap.size + 1 by omega) (set_far 5 (.int .i64 e.value) (show w.heap.size ≠ w.heap.size + 1 by omega) (set_far 3 (.int .i64 e.value) (show w.heap.size ≠ w.heap.size + 1 by omega) (unhide HR2)))))
                      have PN := hide (set_far 7 (.bool false) (show wr.heap.size ≠ w.heap.size + 1 from fun e9 => hne1 e9.symm) (set_far 0 (.int .i64 (x.c + 1)) (show wr.heap.size ≠ w.heap.size + 1 from fun e9 => hne1 e9.symm) (set_far 5 (.int .i64 e.value) (show wr.heap.size ≠ w.heap.size + 1 from fun e9 => hne1 e9.symm) (set_far 3 (.int .i64 e.value) (show wr.heap.size ≠ w.heap.size + 1 from fun e9 => hne1 e9.symm) (unhide HN2)))))
                      have PS := hide P4
                      clear P0 P1 P2 P3 P4 HR2 HN2 HS2 HB2
                      go_wp2_with fail
                      generalize ((((V.setCell ⟨w.heap.size + 1, 3, none⟩ (.int .i64 e.value)).setCell ⟨w.heap.size + 1, 5, none⟩ (.int .i64 e.value)).setCell ⟨w.heap.size + 1, 0, none⟩ (.int .i64 (x.c + 1))).setCell ⟨w.heap.size + 1, 7, none⟩ (.bool false)) = V2 at *
                      refine (unhide CB _ (unhide PB)).mono ?_
                      rintro e9 w3 ⟨rfl, hb3⟩
                      have HB3 := hide ((unhide PB).trans (hb3.mono (unhide PB).size))
                      have S3 := (hb3.block _ (lt_of_heap (unhide PS))).trans (unhide PS)
                      have R3 := hide ((hb3.block _ (lt_of_heap (unhide PR))).trans (unhide PR))
                      have N3 := (hb3.block _ (lt_of_heap (unhide PN))).trans (unhide PN)
                      obtain ⟨_, q5⟩ := unhide HCc _ (unhide HB3)
                      have q4 : w3.cell? ⟨wr.heap.size, 4, none⟩ = some (.int .i64 e.time) := cell_of N3 4
                      have HS3 := hide S3
                      clear hb3 S3 N3 PB PR PN PS s0 g0 s1 g1 s2 g2 s3 g3 s4 g4 s5 g5 s6 g6 s7 g7 x0 x1 x3 x4
                      generalize ahd l d e.shard e.place = ah at *
                      by_cases hla : e.time + C.t < ah
                      · have d9 : decide (e.time + C.t < ah) = true := by simpa using hla
                        obtain ⟨s9, hadd, hnx⟩ := unhide hsum true ⟨v1, v2⟩
                        rw [d9, hadd] at HH
                        rw [hadd] at hnx
                        rw [hovr, if_neg (by omega), if_pos (Or.inr hgt9), if_neg hc0, if_pos rfl] at HH hnx
                        have HNX := hide hnx
                        clear hadd hnx
                        go_wp2
                        go_quiet (fail)
                        have HS4 : Hid ((w3.drewN nq).heap[w.heap.size + 1]? = some (.cells #[.int .i64 (x.c + 1), .int .i64 0, .int .i64 (x.mn), .int .i64 e.value, .int .i64 (x.f), .int .i64 e.value, .int .i64 (x.lt), .bool false] 132 (0, 0))) := unhide HS3
                        have HR4 : Hid ((w3.drewN nq).heap[w.heap.size]? = some (.cells #[.int .i64 0, .int .i64 0, .int .i64 0, .int .i64 0, .int .i64 0, .int .i64 0, .int .i64 0, .bool false] 132 (0, 0))) := unhide R3
                        have HB4 := hide (below_drewN (unhide HB3) nq)
                        clear q4 q5 HS3 R3 HB3
                        generalize w3.drewN nq = V5 at *
                        have r6 : V5.cell? ⟨w.heap.size + 1, 6, none⟩ = some (.int .i64 x.lt) := cell_of (unhide HS4) 6
                        have f6 := frozen_of (unhide HS4) 6
                        have hwl : IntKind.i64.wrap (x.lt + 1) = x.lt + 1 := by rw [IntKind.wrap_i64]; omega
                        have P9 := hide (set1 (unhide HS4) 6 (.int .i64 (x.lt + 1)) (show _ = #[.int .i64 (x.c + 1), .int .i64 0, .int .i64 (x.mn), .int .i64 e.value, .int .i64 (x.f), .int .i64 e.value, .int .i64 (x.lt + 1), .bool false] from rfl))
                        have P8 := hide ((Below.heap_setCell V5 ⟨w.heap.size + 1, 6, none⟩ (.int .i64 (x.lt + 1)) w.heap.size (show w.heap.size ≠ w.heap.size + 1 by omega)).trans (unhide HR4))
                        have P7 := hide (below_set (Nat.le_succ _) (unhide HB4) 6 (.int .i64 (x.lt + 1)))
                        go_wp2
                        go_roundw
                        case rel => exact ⟨j + 1, T + e.value, by omega, by go_num, rfl, by rw [unhide HH]; exact unhide HNX, by rw [unhide HH]; exact unhide P9, unhide P8, unhide P7⟩
                        case measure => simp [intOf]; omega
                      · have d9 : decide (e.time + C.t < ah) = false := by simpa using hla
                        obtain ⟨s9, hadd, hnx⟩ := unhide hsum false ⟨v1, v2⟩
                        rw [d9, hadd] at HH
                        rw [hadd] at hnx
                        rw [hovr, if_neg (by omega), if_pos (Or.inr hgt9), if_neg hc0, if_neg Bool.false_ne_true] at HH hnx
                        have HNX := hide hnx
                        clear hadd hnx
                        go_wp2
                        go_quiet (fail)
                        have HS4 : Hid ((w3.drewN nq).heap[w.heap.size + 1]? = some (.cells #[.int .i64 (x.c + 1), .int .i64 0, .int .i64 (x.mn), .int .i64 e.value, .int .i64 (x.f), .int .i64 e.value, .int .i64 (x.lt), .bool false] 132 (0, 0))) := unhide HS3
                        have HR4 : Hid ((w3.drewN nq).heap[w.heap.size]? = some (.cells #[.int .i64 0, .int .i64 0, .int .i64 0, .int .i64 0, .int .i64 0, .int .i64 0, .int .i64 0, .bool false] 132 (0, 0))) := unhide R3
                        have HB4 := hide (below_drewN (unhide HB3) nq)
                        clear q4 q5 HS3 R3 HB3
                        generalize w3.drewN nq = V5 at *
                        go_wp2
                        go_roundw
                        case rel => exact ⟨j + 1, T + e.value, by omega, by go_num, rfl, by rw [unhide HH]; exact unhide HNX, by rw [unhide HH]; exact unhide HS4, unhide HR4, unhide HB4⟩
                        case measure => simp [intOf]; omega
                · rw [ho] at s7 HS2
                  have hovr : ovr x (T + e.value) = true := by unfold ovr; simp [ho]
                  have P0 := unhide HS2
                  have P1 := set1 P0 3 (.int .i64 e.value) (show _ = #[.int .i64 (x.c), .int .i64 0, .int .i64 (x.mn), .int .i64 e.value, .int .i64 (x.f), .int .i64 (x.l), .int .i64 (x.lt), .bool true] from rfl)
                  have P2 := set1 P1 5 (.int .i64 e.value) (show _ = #[.int .i64 (x.c), .int .i64 0, .int .i64 (x.mn), .int .i64 e.value, .int .i64 (x.f), .int .i64 e.value, .int .i64 (x.lt), .bool true] from rfl)
                  have P3 := set1 P2 0 (.int .i64 (x.c + 1)) (show _ = #[.int .i64 (x.c + 1), .int .i64 0, .int .i64 (x.mn), .int .i64 e.value, .int .i64 (x.f), .int .i64 e.value, .int .i64 (x.lt), .bool true] from rfl)
                  have P4 := set1 P3 7 (.bool true) (show _ = #[.int .i64 (x.c + 1), .int .i64 0, .int .i64 (x.mn), .int .i64 e.value, .int .i64 (x.f), .int .i64 e.value, .int .i64 (x.lt), .bool true] from rfl)
                  have PB := hide (below_set (Nat.le_succ _) (below_set (Nat.le_succ _) (below_set (Nat.le_succ _) (below_set (Nat.le_succ _) (unhide HB2) 3 (.int .i64 e.value)) 5 (.int .i64 e.value)) 0 (.int .i64 (x.c + 1))) 7 (.bool true))
                  have PR := hide (set_far 7 (.bool true) (show w.heap.size ≠ w.heap.size + 1 by omega) (set_far 0 (.int .i64 (x.c + 1)) (show w.heap.size ≠ w.heap.size + 1 by omega) (set_far 5 (.int .i64 e.value) (show w.heap.size ≠ w.heap.size + 1 by omega) (set_far 3 (.int .i64 e.value) (show w.heap.size ≠ w.heap.size + 1 by omega) (unhide HR2)))))
                  have PN := hide (set_far 7 (.bool true) (show wr.heap.size ≠ w.heap.size + 1 from fun e9 => hne1 e9.symm) (set_far 0 (.int .i64 (x.c + 1)) (show wr.heap.size ≠ w.heap.size + 1 from fun e9 => hne1 e9.symm) (set_far 5 (.int .i64 e.value) (show wr.heap.size ≠ w.heap.size + 1 from fun e9 => hne1 e9.symm) (set_far 3 (.int .i64 e.value) (show wr.heap.size ≠ w.heap.size + 1 from fun e9 => hne1 e9.symm) (unhide HN2)))))
                  have PS := hide P4
                  clear P0 P1 P2 P3 P4 HR2 HN2 HS2 HB2
                  go_wp2_with fail
                  generalize ((((V.setCell ⟨w.heap.size + 1, 3, none⟩ (.int .i64 e.value)).setCell ⟨w.heap.size + 1, 5, none⟩ (.int .i64 e.value)).setCell ⟨w.heap.size + 1, 0, none⟩ (.int .i64 (x.c + 1))).setCell ⟨w.heap.size + 1, 7, none⟩ (.bool true)) = V2 at *
                  refine (unhide CB _ (unhide PB)).mono ?_
                  rintro e9 w3 ⟨rfl, hb3⟩
                  have HB3 := hide ((unhide PB).trans (hb3.mono (unhide PB).size))
                  have S3 := (hb3.block _ (lt_of_heap (unhide PS))).trans (unhide PS)
                  have R3 := hide ((hb3.block _ (lt_of_heap (unhide PR))).trans (unhide PR))
                  have N3 := (hb3.block _ (lt_of_heap (unhide PN))).trans (unhide PN)
                  obtain ⟨_, q5⟩ := unhide HCc _ (unhide HB3)
                  have q4 : w3.cell? ⟨wr.heap.size, 4, none⟩ = some (.int .i64 e.time) := cell_of N3 4
                  have HS3 := hide S3
                  clear hb3 S3 N3 PB PR PN PS s0 g0 s1 g1 s2 g2 s3 g3 s4 g4 s5 g5 s6 g6 s7 g7 x0 x1 x3 x4
                  generalize ahd l d e.shard e.place = ah at *
                  by_cases hla : e.time + C.t < ah
                  · have d9 : decide (e.time + C.t < ah) = true := by simpa using hla
                    obtain ⟨s9, hadd, hnx⟩ := unhide hsum true ⟨v1, v2⟩
                    rw [d9, hadd] at HH
                    rw [hadd] at hnx
                    rw [hovr, if_neg (by omega), if_pos (Or.inr hgt9), if_neg hc0, if_pos rfl] at HH hnx
                    have HNX := hide hnx
                    clear hadd hnx
                    go_wp2
                    go_quiet (fail)
                    have HS4 : Hid ((w3.drewN nq).heap[w.heap.size + 1]? = some (.cells #[.int .i64 (x.c + 1), .int .i64 0, .int .i64 (x.mn), .int .i64 e.value, .int .i64 (x.f), .int .i64 e.value, .int .i64 (x.lt), .bool true] 132 (0, 0))) := unhide HS3
                    have HR4 : Hid ((w3.drewN nq).heap[w.heap.size]? = some (.cells #[.int .i64 0, .int .i64 0, .int .i64 0, .int .i64 0, .int .i64 0, .int .i64 0, .int .i64 0, .bool false] 132 (0, 0))) := unhide R3
                    have HB4 := hide (below_drewN (unhide HB3) nq)
                    clear q4 q5 HS3 R3 HB3
                    generalize w3.drewN nq = V5 at *
                    have r6 : V5.cell? ⟨w.heap.size + 1, 6, none⟩ = some (.int .i64 x.lt) := cell_of (unhide HS4) 6
                    have f6 := frozen_of (unhide HS4) 6
                    have hwl : IntKind.i64.wrap (x.lt + 1) = x.lt + 1 := by rw [IntKind.wrap_i64]; omega
                    have P9 := hide (set1 (unhide HS4) 6 (.int .i64 (x.lt + 1)) (show _ = #[.int .i64 (x.c + 1), .int .i64 0, .int .i64 (x.mn), .int .i64 e.value, .int .i64 (x.f), .int .i64 e.value, .int .i64 (x.lt + 1), .bool true] from rfl))
                    have P8 := hide ((Below.heap_setCell V5 ⟨w.heap.size + 1, 6, none⟩ (.int .i64 (x.lt + 1)) w.heap.size (show w.heap.size ≠ w.heap.size + 1 by omega)).trans (unhide HR4))
                    have P7 := hide (below_set (Nat.le_succ _) (unhide HB4) 6 (.int .i64 (x.lt + 1)))
                    go_wp2
                    go_roundw
                    case rel => exact ⟨j + 1, T + e.value, by omega, by go_num, rfl, by rw [unhide HH]; exact unhide HNX, by rw [unhide HH]; exact unhide P9, unhide P8, unhide P7⟩
                    case measure => simp [intOf]; omega
                  · have d9 : decide (e.time + C.t < ah) = false := by simpa using hla
                    obtain ⟨s9, hadd, hnx⟩ := unhide hsum false ⟨v1, v2⟩
                    rw [d9, hadd] at HH
                    rw [hadd] at hnx
                    rw [hovr, if_neg (by omega), if_pos (Or.inr hgt9), if_neg hc0, if_neg Bool.false_ne_true] at HH hnx
                    have HNX := hide hnx
                    clear hadd hnx
                    go_wp2
                    go_quiet (fail)
                    have HS4 : Hid ((w3.drewN nq).heap[w.heap.size + 1]? = some (.cells #[.int .i64 (x.c + 1), .int .i64 0, .int .i64 (x.mn), .int .i64 e.value, .int .i64 (x.f), .int .i64 e.value, .int .i64 (x.lt), .bool true] 132 (0, 0))) := unhide HS3
                    have HR4 : Hid ((w3.drewN nq).heap[w.heap.size]? = some (.cells #[.int .i64 0, .int .i64 0, .int .i64 0, .int .i64 0, .int .i64 0, .int .i64 0, .int .i64 0, .bool false] 132 (0, 0))) := unhide R3
                    have HB4 := hide (below_drewN (unhide HB3) nq)
                    clear q4 q5 HS3 R3 HB3
                    generalize w3.drewN nq = V5 at *
                    go_wp2
                    go_roundw
                    case rel => exact ⟨j + 1, T + e.value, by omega, by go_num, rfl, by rw [unhide HH]; exact unhide HNX, by rw [unhide HH]; exact unhide HS4, unhide HR4, unhide HB4⟩
                    case measure => simp [intOf]; omega
              · skip
                cases ho : x.o
                · rw [ho] at s7 HS2
                  by_cases ho1 : 1000000 < T + e.value
                  · have hovr : ovr x (T + e.value) = true := by unfold ovr; simp [ho1]
                    have do1 : decide (1000000 < T + e.value) = true := by simpa using ho1
                    have P0 := unhide HS2
                    have P1 := set1 P0 5 (.int .i64 e.value) (show _ = #[.int .i64 (x.c), .int .i64 0, .int .i64 (x.mn), .int .i64 (x.mx), .int .i64 (x.f), .int .i64 e.value, .int .i64 (x.lt), .bool false] from rfl)
                    have P2 := set1 P1 0 (.int .i64 (x.c + 1)) (show _ = #[.int .i64 (x.c + 1), .int .i64 0, .int .i64 (x.mn), .int .i64 (x.mx), .int .i64 (x.f), .int .i64 e.value, .int .i64 (x.lt), .bool false] from rfl)
                    have P3 := set1 P2 7 (.bool true) (show _ = #[.int .i64 (x.c + 1), .int .i64 0, .int .i64 (x.mn), .int .i64 (x.mx), .int .i64 (x.f), .int .i64 e.value, .int .i64 (x.lt), .bool true] from rfl)
                    have PB := hide (below_set (Nat.le_succ _) (below_set (Nat.le_succ _) (below_set (Nat.le_succ _) (unhide HB2) 5 (.int .i64 e.value)) 0 (.int .i64 (x.c + 1))) 7 (.bool true))
                    have PR := hide (set_far 7 (.bool true) (show w.heap.size ≠ w.heap.size + 1 by omega) (set_far 0 (.int .i64 (x.c + 1)) (show w.heap.size ≠ w.heap.size + 1 by omega) (set_far 5 (.int .i64 e.value) (show w.heap.size ≠ w.heap.size + 1 by omega) (unhide HR2))))
                    have PN := hide (set_far 7 (.bool true) (show wr.heap.size ≠ w.heap.size + 1 from fun e9 => hne1 e9.symm) (set_far 0 (.int .i64 (x.c + 1)) (show wr.heap.size ≠ w.heap.size + 1 from fun e9 => hne1 e9.symm) (set_far 5 (.int .i64 e.value) (show wr.heap.size ≠ w.heap.size + 1 from fun e9 => hne1 e9.symm) (unhide HN2))))
                    have PS := hide P3
                    clear P0 P1 P2 P3 HR2 HN2 HS2 HB2
                    go_wp2_with fail
                    generalize (((V.setCell ⟨w.heap.size + 1, 5, none⟩ (.int .i64 e.value)).setCell ⟨w.heap.size + 1, 0, none⟩ (.int .i64 (x.c + 1))).setCell ⟨w.heap.size + 1, 7, none⟩ (.bool true)) = V2 at *
                    refine (unhide CB _ (unhide PB)).mono ?_
                    rintro e9 w3 ⟨rfl, hb3⟩
                    have HB3 := hide ((unhide PB).trans (hb3.mono (unhide PB).size))
                    have S3 := (hb3.block _ (lt_of_heap (unhide PS))).trans (unhide PS)
                    have R3 := hide ((hb3.block _ (lt_of_heap (unhide PR))).trans (unhide PR))
                    have N3 := (hb3.block _ (lt_of_heap (unhide PN))).trans (unhide PN)
                    obtain ⟨_, q5⟩ := unhide HCc _ (unhide HB3)
                    have q4 : w3.cell? ⟨wr.heap.size, 4, none⟩ = some (.int .i64 e.time) := cell_of N3 4
                    have HS3 := hide S3
                    clear hb3 S3 N3 PB PR PN PS s0 g0 s1 g1 s2 g2 s3 g3 s4 g4 s5 g5 s6 g6 s7 g7 x0 x1 x3 x4
                    generalize ahd l d e.shard e.place = ah at *
                    by_cases hla : e.time + C.t < ah
                    · have d9 : decide (e.time + C.t < ah) = true := by simpa using hla
                      obtain ⟨s9, hadd, hnx⟩ := unhide hsum true ⟨v1, v2⟩
                      rw [d9, hadd] at HH
                      rw [hadd] at hnx
                      rw [hovr, if_neg (by omega), if_neg (by omega), if_neg hc0, if_pos rfl] at HH hnx
                      have HNX := hide hnx
                      clear hadd hnx
                      go_wp2
                      go_quiet (fail)
                      have HS4 : Hid ((w3.drewN nq).heap[w.heap.size + 1]? = some (.cells #[.int .i64 (x.c + 1), .int .i64 0, .int .i64 (x.mn), .int .i64 (x.mx), .int .i64 (x.f), .int .i64 e.value, .int .i64 (x.lt), .bool true] 132 (0, 0))) := unhide HS3
                      have HR4 : Hid ((w3.drewN nq).heap[w.heap.size]? = some (.cells #[.int .i64 0, .int .i64 0, .int .i64 0, .int .i64 0, .int .i64 0, .int .i64 0, .int .i64 0, .bool false] 132 (0, 0))) := unhide R3
                      have HB4 := hide (below_drewN (unhide HB3) nq)
                      clear q4 q5 HS3 R3 HB3
                      generalize w3.drewN nq = V5 at *
                      have r6 : V5.cell? ⟨w.heap.size + 1, 6, none⟩ = some (.int .i64 x.lt) := cell_of (unhide HS4) 6
                      have f6 := frozen_of (unhide HS4) 6
                      have hwl : IntKind.i64.wrap (x.lt + 1) = x.lt + 1 := by rw [IntKind.wrap_i64]; omega
                      have P9 := hide (set1 (unhide HS4) 6 (.int .i64 (x.lt + 1)) (show _ = #[.int .i64 (x.c + 1), .int .i64 0, .int .i64 (x.mn), .int .i64 (x.mx), .int .i64 (x.f), .int .i64 e.value, .int .i64 (x.lt + 1), .bool true] from rfl))
                      have P8 := hide ((Below.heap_setCell V5 ⟨w.heap.size + 1, 6, none⟩ (.int .i64 (x.lt + 1)) w.heap.size (show w.heap.size ≠ w.heap.size + 1 by omega)).trans (unhide HR4))
                      have P7 := hide (below_set (Nat.le_succ _) (unhide HB4) 6 (.int .i64 (x.lt + 1)))
                      go_wp2
                      go_roundw
                      case rel => exact ⟨j + 1, T + e.value, by omega, by go_num, rfl, by rw [unhide HH]; exact unhide HNX, by rw [unhide HH]; exact unhide P9, unhide P8, unhide P7⟩
                      case measure => simp [intOf]; omega
                    · have d9 : decide (e.time + C.t < ah) = false := by simpa using hla
                      obtain ⟨s9, hadd, hnx⟩ := unhide hsum false ⟨v1, v2⟩
                      rw [d9, hadd] at HH
                      rw [hadd] at hnx
                      rw [hovr, if_neg (by omega), if_neg (by omega), if_neg hc0, if_neg Bool.false_ne_true] at HH hnx
                      have HNX := hide hnx
                      clear hadd hnx
                      go_wp2
                      go_quiet (fail)
                      have HS4 : Hid ((w3.drewN nq).heap[w.heap.size + 1]? = some (.cells #[.int .i64 (x.c + 1), .int .i64 0, .int .i64 (x.mn), .int .i64 (x.mx), .int .i64 (x.f), .int .i64 e.value, .int .i64 (x.lt), .bool true] 132 (0, 0))) := unhide HS3
                      have HR4 : Hid ((w3.drewN nq).heap[w.heap.size]? = some (.cells #[.int .i64 0, .int .i64 0, .int .i64 0, .int .i64 0, .int .i64 0, .int .i64 0, .int .i64 0, .bool false] 132 (0, 0))) := unhide R3
                      have HB4 := hide (below_drewN (unhide HB3) nq)
                      clear q4 q5 HS3 R3 HB3
                      generalize w3.drewN nq = V5 at *
                      go_wp2
                      go_roundw
                      case rel => exact ⟨j + 1, T + e.value, by omega, by go_num, rfl, by rw [unhide HH]; exact unhide HNX, by rw [unhide HH]; exact unhide HS4, unhide HR4, unhide HB4⟩
                      case measure => simp [intOf]; omega
                  · have do1 : decide (1000000 < T + e.value) = false := by simpa using ho1
                    by_cases ho2 : T + e.value < -1000000
                    · have hovr : ovr x (T + e.value) = true := by unfold ovr; simp [ho2]
                      have do2 : decide (T + e.value < -1000000) = true := by simpa using ho2
                      have P0 := unhide HS2
                      have P1 := set1 P0 5 (.int .i64 e.value) (show _ = #[.int .i64 (x.c), .int .i64 0, .int .i64 (x.mn), .int .i64 (x.mx), .int .i64 (x.f), .int .i64 e.value, .int .i64 (x.lt), .bool false] from rfl)
                      have P2 := set1 P1 0 (.int .i64 (x.c + 1)) (show _ = #[.int .i64 (x.c + 1), .int .i64 0, .int .i64 (x.mn), .int .i64 (x.mx), .int .i64 (x.f), .int .i64 e.value, .int .i64 (x.lt), .bool false] from rfl)
                      have P3 := set1 P2 7 (.bool true) (show _ = #[.int .i64 (x.c + 1), .int .i64 0, .int .i64 (x.mn), .int .i64 (x.mx), .int .i64 (x.f), .int .i64 e.value, .int .i64 (x.lt), .bool true] from rfl)
                      have PB := hide (below_set (Nat.le_succ _) (below_set (Nat.le_succ _) (below_set (Nat.le_succ _) (unhide HB2) 5 (.int .i64 e.value)) 0 (.int .i64 (x.c + 1))) 7 (.bool true))
                      have PR := hide (set_far 7 (.bool true) (show w.heap.size ≠ w.heap.size + 1 by omega) (set_far 0 (.int .i64 (x.c + 1)) (show w.heap.size ≠ w.heap.size + 1 by omega) (set_far 5 (.int .i64 e.value) (show w.heap.size ≠ w.heap.size + 1 by omega) (unhide HR2))))
                      have PN := hide (set_far 7 (.bool true) (show wr.heap.size ≠ w.heap.size + 1 from fun e9 => hne1 e9.symm) (set_far 0 (.int .i64 (x.c + 1)) (show wr.heap.size ≠ w.heap.size + 1 from fun e9 => hne1 e9.symm) (set_far 5 (.int .i64 e.value) (show wr.heap.size ≠ w.heap.size + 1 from fun e9 => hne1 e9.symm) (unhide HN2))))
                      have PS := hide P3
                      clear P0 P1 P2 P3 HR2 HN2 HS2 HB2
                      go_wp2_with fail
                      generalize (((V.setCell ⟨w.heap.size + 1, 5, none⟩ (.int .i64 e.value)).setCell ⟨w.heap.size + 1, 0, none⟩ (.int .i64 (x.c + 1))).setCell ⟨w.heap.size + 1, 7, none⟩ (.bool true)) = V2 at *
                      refine (unhide CB _ (unhide PB)).mono ?_
                      rintro e9 w3 ⟨rfl, hb3⟩
                      have HB3 := hide ((unhide PB).trans (hb3.mono (unhide PB).size))
                      have S3 := (hb3.block _ (lt_of_heap (unhide PS))).trans (unhide PS)
                      have R3 := hide ((hb3.block _ (lt_of_heap (unhide PR))).trans (unhide PR))
                      have N3 := (hb3.block _ (lt_of_heap (unhide PN))).trans (unhide PN)
                      obtain ⟨_, q5⟩ := unhide HCc _ (unhide HB3)
                      have q4 : w3.cell? ⟨wr.heap.size, 4, none⟩ = some (.int .i64 e.time) := cell_of N3 4
                      have HS3 := hide S3
                      clear hb3 S3 N3 PB PR PN PS s0 g0 s1 g1 s2 g2 s3 g3 s4 g4 s5 g5 s6 g6 s7 g7 x0 x1 x3 x4
                      generalize ahd l d e.shard e.place = ah at *
                      by_cases hla : e.time + C.t < ah
                      · have d9 : decide (e.time + C.t < ah) = true := by simpa using hla
                        obtain ⟨s9, hadd, hnx⟩ := unhide hsum true ⟨v1, v2⟩
                        rw [d9, hadd] at HH
                        rw [hadd] at hnx
                        rw [hovr, if_neg (by omega), if_neg (by omega), if_neg hc0, if_pos rfl] at HH hnx
                        have HNX := hide hnx
                        clear hadd hnx
                        go_wp2
                        go_quiet (fail)
                        have HS4 : Hid ((w3.drewN nq).heap[w.heap.size + 1]? = some (.cells #[.int .i64 (x.c + 1), .int .i64 0, .int .i64 (x.mn), .int .i64 (x.mx), .int .i64 (x.f), .int .i64 e.value, .int .i64 (x.lt), .bool true] 132 (0, 0))) := unhide HS3
                        have HR4 : Hid ((w3.drewN nq).heap[w.heap.size]? = some (.cells #[.int .i64 0, .int .i64 0, .int .i64 0, .int .i64 0, .int .i64 0, .int .i64 0, .int .i64 0, .bool false] 132 (0, 0))) := unhide R3
                        have HB4 := hide (below_drewN (unhide HB3) nq)
                        clear q4 q5 HS3 R3 HB3
                        generalize w3.drewN nq = V5 at *
                        have r6 : V5.cell? ⟨w.heap.size + 1, 6, none⟩ = some (.int .i64 x.lt) := cell_of (unhide HS4) 6
                        have f6 := frozen_of (unhide HS4) 6
                        have hwl : IntKind.i64.wrap (x.lt + 1) = x.lt + 1 := by rw [IntKind.wrap_i64]; omega
                        have P9 := hide (set1 (unhide HS4) 6 (.int .i64 (x.lt + 1)) (show _ = #[.int .i64 (x.c + 1), .int .i64 0, .int .i64 (x.mn), .int .i64 (x.mx), .int .i64 (x.f), .int .i64 e.value, .int .i64 (x.lt + 1), .bool true] from rfl))
                        have P8 := hide ((Below.heap_setCell V5 ⟨w.heap.size + 1, 6, none⟩ (.int .i64 (x.lt + 1)) w.heap.size (show w.heap.size ≠ w.heap.size + 1 by omega)).trans (unhide HR4))
                        have P7 := hide (below_set (Nat.le_succ _) (unhide HB4) 6 (.int .i64 (x.lt + 1)))
                        go_wp2
                        go_roundw
                        case rel => exact ⟨j + 1, T + e.value, by omega, by go_num, rfl, by rw [unhide HH]; exact unhide HNX, by rw [unhide HH]; exact unhide P9, unhide P8, unhide P7⟩
                        case measure => simp [intOf]; omega
                      · have d9 : decide (e.time + C.t < ah) = false := by simpa using hla
                        obtain ⟨s9, hadd, hnx⟩ := unhide hsum false ⟨v1, v2⟩
                        rw [d9, hadd] at HH
                        rw [hadd] at hnx
                        rw [hovr, if_neg (by omega), if_neg (by omega), if_neg hc0, if_neg Bool.false_ne_true] at HH hnx
                        have HNX := hide hnx
                        clear hadd hnx
                        go_wp2
                        go_quiet (fail)
                        have HS4 : Hid ((w3.drewN nq).heap[w.heap.size + 1]? = some (.cells #[.int .i64 (x.c + 1), .int .i64 0, .int .i64 (x.mn), .int .i64 (x.mx), .int .i64 (x.f), .int .i64 e.value, .int .i64 (x.lt), .bool true] 132 (0, 0))) := unhide HS3
                        have HR4 : Hid ((w3.drewN nq).heap[w.heap.size]? = some (.cells #[.int .i64 0, .int .i64 0, .int .i64 0, .int .i64 0, .int .i64 0, .int .i64 0, .int .i64 0, .bool false] 132 (0, 0))) := unhide R3
                        have HB4 := hide (below_drewN (unhide HB3) nq)
                        clear q4 q5 HS3 R3 HB3
                        generalize w3.drewN nq = V5 at *
                        go_wp2
                        go_roundw
                        case rel => exact ⟨j + 1, T + e.value, by omega, by go_num, rfl, by rw [unhide HH]; exact unhide HNX, by rw [unhide HH]; exact unhide HS4, unhide HR4, unhide HB4⟩
                        case measure => simp [intOf]; omega
                    · have do2 : decide (T + e.value < -1000000) = false := by simpa using ho2
                      have hovr : ovr x (T + e.value) = false := by unfold ovr; simp [ho1, ho2, ho]
                      have P0 := unhide HS2
                      have P1 := set1 P0 5 (.int .i64 e.value) (show _ = #[.int .i64 (x.c), .int .i64 0, .int .i64 (x.mn), .int .i64 (x.mx), .int .i64 (x.f), .int .i64 e.value, .int .i64 (x.lt), .bool false] from rfl)
                      have P2 := set1 P1 0 (.int .i64 (x.c + 1)) (show _ = #[.int .i64 (x.c + 1), .int .i64 0, .int .i64 (x.mn), .int .i64 (x.mx), .int .i64 (x.f), .int .i64 e.value, .int .i64 (x.lt), .bool false] from rfl)
                      have P3 := set1 P2 7 (.bool false) (show _ = #[.int .i64 (x.c + 1), .int .i64 0, .int .i64 (x.mn), .int .i64 (x.mx), .int .i64 (x.f), .int .i64 e.value, .int .i64 (x.lt), .bool false] from rfl)
                      have PB := hide (below_set (Nat.le_succ _) (below_set (Nat.le_succ _) (below_set (Nat.le_succ _) (unhide HB2) 5 (.int .i64 e.value)) 0 (.int .i64 (x.c + 1))) 7 (.bool false))
                      have PR := hide (set_far 7 (.bool false) (show w.heap.size ≠ w.heap.size + 1 by omega) (set_far 0 (.int .i64 (x.c + 1)) (show w.heap.size ≠ w.heap.size + 1 by omega) (set_far 5 (.int .i64 e.value) (show w.heap.size ≠ w.heap.size + 1 by omega) (unhide HR2))))
                      have PN := hide (set_far 7 (.bool false) (show wr.heap.size ≠ w.heap.size + 1 from fun e9 => hne1 e9.symm) (set_far 0 (.int .i64 (x.c + 1)) (show wr.heap.size ≠ w.heap.size + 1 from fun e9 => hne1 e9.symm) (set_far 5 (.int .i64 e.value) (show wr.heap.size ≠ w.heap.size + 1 from fun e9 => hne1 e9.symm) (unhide HN2))))
                      have PS := hide P3
                      clear P0 P1 P2 P3 HR2 HN2 HS2 HB2
                      go_wp2_with fail
                      generalize (((V.setCell ⟨w.heap.size + 1, 5, none⟩ (.int .i64 e.value)).setCell ⟨w.heap.size + 1, 0, none⟩ (.int .i64 (x.c + 1))).setCell ⟨w.heap.size + 1, 7, none⟩ (.bool false)) = V2 at *
                      refine (unhide CB _ (unhide PB)).mono ?_
                      rintro e9 w3 ⟨rfl, hb3⟩
                      have HB3 := hide ((unhide PB).trans (hb3.mono (unhide PB).size))
                      have S3 := (hb3.block _ (lt_of_heap (unhide PS))).trans (unhide PS)
                      have R3 := hide ((hb3.block _ (lt_of_heap (unhide PR))).trans (unhide PR))
                      have N3 := (hb3.block _ (lt_of_heap (unhide PN))).trans (unhide PN)
                      obtain ⟨_, q5⟩ := unhide HCc _ (unhide HB3)
                      have q4 : w3.cell? ⟨wr.heap.size, 4, none⟩ = some (.int .i64 e.time) := cell_of N3 4
                      have HS3 := hide S3
                      clear hb3 S3 N3 PB PR PN PS s0 g0 s1 g1 s2 g2 s3 g3 s4 g4 s5 g5 s6 g6 s7 g7 x0 x1 x3 x4
                      generalize ahd l d e.shard e.place = ah at *
                      by_cases hla : e.time + C.t < ah
                      · have d9 : decide (e.time + C.t < ah) = true := by simpa using hla
                        obtain ⟨s9, hadd, hnx⟩ := unhide hsum true ⟨v1, v2⟩
                        rw [d9, hadd] at HH
                        rw [hadd] at hnx
                        rw [hovr, if_neg (by omega), if_neg (by omega), if_neg hc0, if_pos rfl] at HH hnx
                        have HNX := hide hnx
                        clear hadd hnx
                        go_wp2
                        go_quiet (fail)
                        have HS4 : Hid ((w3.drewN nq).heap[w.heap.size + 1]? = some (.cells #[.int .i64 (x.c + 1), .int .i64 0, .int .i64 (x.mn), .int .i64 (x.mx), .int .i64 (x.f), .int .i64 e.value, .int .i64 (x.lt), .bool false] 132 (0, 0))) := unhide HS3
                        have HR4 : Hid ((w3.drewN nq).heap[w.heap.size]? = some (.cells #[.int .i64 0, .int .i64 0, .int .i64 0, .int .i64 0, .int .i64 0, .int .i64 0, .int .i64 0, .bool false] 132 (0, 0))) := unhide R3
                        have HB4 := hide (below_drewN (unhide HB3) nq)
                        clear q4 q5 HS3 R3 HB3
                        generalize w3.drewN nq = V5 at *
                        have r6 : V5.cell? ⟨w.heap.size + 1, 6, none⟩ = some (.int .i64 x.lt) := cell_of (unhide HS4) 6
                        have f6 := frozen_of (unhide HS4) 6
                        have hwl : IntKind.i64.wrap (x.lt + 1) = x.lt + 1 := by rw [IntKind.wrap_i64]; omega
                        have P9 := hide (set1 (unhide HS4) 6 (.int .i64 (x.lt + 1)) (show _ = #[.int .i64 (x.c + 1), .int .i64 0, .int .i64 (x.mn), .int .i64 (x.mx), .int .i64 (x.f), .int .i64 e.value, .int .i64 (x.lt + 1), .bool false] from rfl))
                        have P8 := hide ((Below.heap_setCell V5 ⟨w.heap.size + 1, 6, none⟩ (.int .i64 (x.lt + 1)) w.heap.size (show w.heap.size ≠ w.heap.size + 1 by omega)).trans (unhide HR4))
                        have P7 := hide (below_set (Nat.le_succ _) (unhide HB4) 6 (.int .i64 (x.lt + 1)))
                        go_wp2
                        go_roundw
                        case rel => exact ⟨j + 1, T + e.value, by omega, by go_num, rfl, by rw [unhide HH]; exact unhide HNX, by rw [unhide HH]; exact unhide P9, unhide P8, unhide P7⟩
                        case measure => simp [intOf]; omega
                      · have d9 : decide (e.time + C.t < ah) = false := by simpa using hla
                        obtain ⟨s9, hadd, hnx⟩ := unhide hsum false ⟨v1, v2⟩
                        rw [d9, hadd] at HH
                        rw [hadd] at hnx
                        rw [hovr, if_neg (by omega), if_neg (by omega), if_neg hc0, if_neg Bool.false_ne_true] at HH hnx
                        have HNX := hide hnx
                        clear hadd hnx
                        go_wp2
                        go_quiet (fail)
                        have HS4 : Hid ((w3.drewN nq).heap[w.heap.size + 1]? = some (.cells #[.int .i64 (x.c + 1), .int .i64 0, .int .i64 (x.mn), .int .i64 (x.mx), .int .i64 (x.f), .int .i64 e.value, .int .i64 (x.lt), .bool false] 132 (0, 0))) := unhide HS3
                        have HR4 : Hid ((w3.drewN nq).heap[w.heap.size]? = some (.cells #[.int .i64 0, .int .i64 0, .int .i64 0, .int .i64 0, .int .i64 0, .int .i64 0, .int .i64 0, .bool false] 132 (0, 0))) := unhide R3
                        have HB4 := hide (below_drewN (unhide HB3) nq)
                        clear q4 q5 HS3 R3 HB3
                        generalize w3.drewN nq = V5 at *
                        go_wp2
                        go_roundw
                        case rel => exact ⟨j + 1, T + e.value, by omega, by go_num, rfl, by rw [unhide HH]; exact unhide HNX, by rw [unhide HH]; exact unhide HS4, unhide HR4, unhide HB4⟩
                        case measure => simp [intOf]; omega
                · rw [ho] at s7 HS2
                  have hovr : ovr x (T + e.value) = true := by unfold ovr; simp [ho]
                  have P0 := unhide HS2
                  have P1 := set1 P0 5 (.int .i64 e.value) (show _ = #[.int .i64 (x.c), .int .i64 0, .int .i64 (x.mn), .int .i64 (x.mx), .int .i64 (x.f), .int .i64 e.value, .int .i64 (x.lt), .bool true] from rfl)
                  have P2 := set1 P1 0 (.int .i64 (x.c + 1)) (show _ = #[.int .i64 (x.c + 1), .int .i64 0, .int .i64 (x.mn), .int .i64 (x.mx), .int .i64 (x.f), .int .i64 e.value, .int .i64 (x.lt), .bool true] from rfl)
                  have P3 := set1 P2 7 (.bool true) (show _ = #[.int .i64 (x.c + 1), .int .i64 0, .int .i64 (x.mn), .int .i64 (x.mx), .int .i64 (x.f), .int .i64 e.value, .int .i64 (x.lt), .bool true] from rfl)
                  have PB := hide (below_set (Nat.le_succ _) (below_set (Nat.le_succ _) (below_set (Nat.le_succ _) (unhide HB2) 5 (.int .i64 e.value)) 0 (.int .i64 (x.c + 1))) 7 (.bool true))
                  have PR := hide (set_far 7 (.bool true) (show w.heap.size ≠ w.heap.size + 1 by omega) (set_far 0 (.int .i64 (x.c + 1)) (show w.heap.size ≠ w.heap.size + 1 by omega) (set_far 5 (.int .i64 e.value) (show w.heap.size ≠ w.heap.size + 1 by omega) (unhide HR2))))
                  have PN := hide (set_far 7 (.bool true) (show wr.heap.size ≠ w.heap.size + 1 from fun e9 => hne1 e9.symm) (set_far 0 (.int .i64 (x.c + 1)) (show wr.heap.size ≠ w.heap.size + 1 from fun e9 => hne1 e9.symm) (set_far 5 (.int .i64 e.value) (show wr.heap.size ≠ w.heap.size + 1 from fun e9 => hne1 e9.symm) (unhide HN2))))
                  have PS := hide P3
                  clear P0 P1 P2 P3 HR2 HN2 HS2 HB2
                  go_wp2_with fail
                  generalize (((V.setCell ⟨w.heap.size + 1, 5, none⟩ (.int .i64 e.value)).setCell ⟨w.heap.size + 1, 0, none⟩ (.int .i64 (x.c + 1))).setCell ⟨w.heap.size + 1, 7, none⟩ (.bool true)) = V2 at *
                  refine (unhide CB _ (unhide PB)).mono ?_
                  rintro e9 w3 ⟨rfl, hb3⟩
                  have HB3 := hide ((unhide PB).trans (hb3.mono (unhide PB).size))
                  have S3 := (hb3.block _ (lt_of_heap (unhide PS))).trans (unhide PS)
                  have R3 := hide ((hb3.block _ (lt_of_heap (unhide PR))).trans (unhide PR))
                  have N3 := (hb3.block _ (lt_of_heap (unhide PN))).trans (unhide PN)
                  obtain ⟨_, q5⟩ := unhide HCc _ (unhide HB3)
                  have q4 : w3.cell? ⟨wr.heap.size, 4, none⟩ = some (.int .i64 e.time) := cell_of N3 4
                  have HS3 := hide S3
                  clear hb3 S3 N3 PB PR PN PS s0 g0 s1 g1 s2 g2 s3 g3 s4 g4 s5 g5 s6 g6 s7 g7 x0 x1 x3 x4
                  generalize ahd l d e.shard e.place = ah at *
                  by_cases hla : e.time + C.t < ah
                  · have d9 : decide (e.time + C.t < ah) = true := by simpa using hla
                    obtain ⟨s9, hadd, hnx⟩ := unhide hsum true ⟨v1, v2⟩
                    rw [d9, hadd] at HH
                    rw [hadd] at hnx
                    rw [hovr, if_neg (by omega), if_neg (by omega), if_neg hc0, if_pos rfl] at HH hnx
                    have HNX := hide hnx
                    clear hadd hnx
                    go_wp2
                    go_quiet (fail)
                    have HS4 : Hid ((w3.drewN nq).heap[w.heap.size + 1]? = some (.cells #[.int .i64 (x.c + 1), .int .i64 0, .int .i64 (x.mn), .int .i64 (x.mx), .int .i64 (x.f), .int .i64 e.value, .int .i64 (x.lt), .bool true] 132 (0, 0))) := unhide HS3
                    have HR4 : Hid ((w3.drewN nq).heap[w.heap.size]? = some (.cells #[.int .i64 0, .int .i64 0, .int .i64 0, .int .i64 0, .int .i64 0, .int .i64 0, .int .i64 0, .bool false] 132 (0, 0))) := unhide R3
                    have HB4 := hide (below_drewN (unhide HB3) nq)
                    clear q4 q5 HS3 R3 HB3
                    generalize w3.drewN nq = V5 at *
                    have r6 : V5.cell? ⟨w.heap.size + 1, 6, none⟩ = some (.int .i64 x.lt) := cell_of (unhide HS4) 6
                    have f6 := frozen_of (unhide HS4) 6
                    have hwl : IntKind.i64.wrap (x.lt + 1) = x.lt + 1 := by rw [IntKind.wrap_i64]; omega
                    have P9 := hide (set1 (unhide HS4) 6 (.int .i64 (x.lt + 1)) (show _ = #[.int .i64 (x.c + 1), .int .i64 0, .int .i64 (x.mn), .int .i64 (x.mx), .int .i64 (x.f), .int .i64 e.value, .int .i64 (x.lt + 1), .bool true] from rfl))
                    have P8 := hide ((Below.heap_setCell V5 ⟨w.heap.size + 1, 6, none⟩ (.int .i64 (x.lt + 1)) w.heap.size (show w.heap.size ≠ w.heap.size + 1 by omega)).trans (unhide HR4))
                    have P7 := hide (below_set (Nat.le_succ _) (unhide HB4) 6 (.int .i64 (x.lt + 1)))
                    go_wp2
                    go_roundw
                    case rel => exact ⟨j + 1, T + e.value, by omega, by go_num, rfl, by rw [unhide HH]; exact unhide HNX, by rw [unhide HH]; exact unhide P9, unhide P8, unhide P7⟩
                    case measure => simp [intOf]; omega
                  · have d9 : decide (e.time + C.t < ah) = false := by simpa using hla
                    obtain ⟨s9, hadd, hnx⟩ := unhide hsum false ⟨v1, v2⟩
                    rw [d9, hadd] at HH
                    rw [hadd] at hnx
                    rw [hovr, if_neg (by omega), if_neg (by omega), if_neg hc0, if_neg Bool.false_ne_true] at HH hnx
                    have HNX := hide hnx
                    clear hadd hnx
                    go_wp2
                    go_quiet (fail)
                    have HS4 : Hid ((w3.drewN nq).heap[w.heap.size + 1]? = some (.cells #[.int .i64 (x.c + 1), .int .i64 0, .int .i64 (x.mn), .int .i64 (x.mx), .int .i64 (x.f), .int .i64 e.value, .int .i64 (x.lt), .bool true] 132 (0, 0))) := unhide HS3
                    have HR4 : Hid ((w3.drewN nq).heap[w.heap.size]? = some (.cells #[.int .i64 0, .int .i64 0, .int .i64 0, .int .i64 0, .int .i64 0, .int .i64 0, .int .i64 0, .bool false] 132 (0, 0))) := unhide R3
                    have HB4 := hide (below_drewN (unhide HB3) nq)
                    clear q4 q5 HS3 R3 HB3
                    generalize w3.drewN nq = V5 at *
                    go_wp2
                    go_roundw
                    case rel => exact ⟨j + 1, T + e.value, by omega, by go_num, rfl, by rw [unhide HH]; exact unhide HNX, by rw [unhide HH]; exact unhide HS4, unhide HR4, unhide HB4⟩
                    case measure => simp [intOf]; omega
    · have e : j = R.length := by omega
      subst e
      have HS := hide hS
      have HB7 := hide hB
      have l0 : wr.cell? ⟨w.heap.size + 1, 0, none⟩ = some (.int .i64 (Q R.length).c) := cell_of hb 0
      have l1 : wr.cell? ⟨w.heap.size + 1, 1, none⟩ = some (.int .i64 0) := cell_of hb 1
      have l2 : wr.cell? ⟨w.heap.size + 1, 2, none⟩ = some (.int .i64 (Q R.length).mn) := cell_of hb 2
      have l3 : wr.cell? ⟨w.heap.size + 1, 3, none⟩ = some (.int .i64 (Q R.length).mx) := cell_of hb 3
      have l4 : wr.cell? ⟨w.heap.size + 1, 4, none⟩ = some (.int .i64 (Q R.length).f) := cell_of hb 4
      have l5 : wr.cell? ⟨w.heap.size + 1, 5, none⟩ = some (.int .i64 (Q R.length).l) := cell_of hb 5
      have l6 : wr.cell? ⟨w.heap.size + 1, 6, none⟩ = some (.int .i64 (Q R.length).lt) := cell_of hb 6
      have l7 : wr.cell? ⟨w.heap.size + 1, 7, none⟩ = some (.bool (Q R.length).o) := cell_of hb 7
      have g1 := frozen_of hb 1
      have y0 := cell_of hr 0
      have z0 := frozen_of hr 0
      have y1 := cell_of hr 1
      have z1 := frozen_of hr 1
      have y2 := cell_of hr 2
      have z2 := frozen_of hr 2
      have y3 := cell_of hr 3
      have z3 := frozen_of hr 3
      have y4 := cell_of hr 4
      have z4 := frozen_of hr 4
      have y5 := cell_of hr 5
      have z5 := frozen_of hr 5
      have y6 := cell_of hr 6
      have z6 := frozen_of hr 6
      have y7 := cell_of hr 7
      have z7 := frozen_of hr 7
      simp only [List.getElem?_toArray, List.getElem?_cons_zero, List.getElem?_cons_succ] at y0 y1 y2 y3 y4 y5 y6 y7
      have hE0 := hS.end
      cases ho : (Q R.length).o
      · rw [ho] at l7
        have HS1 : Hid ((Q R.length).s = T) := by unfold Hid; rw [hE0, ho]; simp
        have HO := hide ho
        have S8 := hide (set8_new (o0 := .int .i64 (Q R.length).c) (o1 := .int .i64 T) (o2 := .int .i64 (Q R.length).mn) (o3 := .int .i64 (Q R.length).mx) (o4 := .int .i64 (Q R.length).f) (o5 := .int .i64 (Q R.length).l) (o6 := .int .i64 (Q R.length).lt) (o7 := .bool false) (below_set (Nat.le_succ _) hB 1 (.int .i64 T)) (Nat.le_refl _) ((Below.heap_setCell _ _ _ _ (show w.heap.size ≠ w.heap.size + 1 by omega)).trans hr))
        clear hb hr hB hE0 ho
        go_wp2
        obtain ⟨hx, hB⟩ := unhide S8
        have x0 := cell_of hx 0
        have x1 := cell_of hx 1
        have x2 := cell_of hx 2
        have x3 := cell_of hx 3
        have x4 := cell_of hx 4
        have x5 := cell_of hx 5
        have x6 := cell_of hx 6
        have x7 := cell_of hx 7
        simp only [List.getElem?_toArray, List.getElem?_cons_zero, List.getElem?_cons_succ] at x0 x1 x2 x3 x4 x5 x6 x7
        refine bodyPost_ret (v := .agg #[.int .i64 (Q R.length).c, .int .i64 T, .int .i64 (Q R.length).mn, .int .i64 (Q R.length).mx, .int .i64 (Q R.length).f, .int .i64 (Q R.length).l, .int .i64 (Q R.length).lt, .bool false]) ?_ rfl ⟨by rw [unhide HS1, unhide HO], hB⟩
        simp [results, Try.results71, go_sem, x0, x1, x2, x3, x4, x5, x6, x7]
      · rw [ho] at l7
        have HS1 : Hid ((Q R.length).s = 0) := by unfold Hid; rw [hE0, ho]; simp
        have HO := hide ho
        have S8 := hide (set8_new (o0 := .int .i64 (Q R.length).c) (o1 := .int .i64 0) (o2 := .int .i64 (Q R.length).mn) (o3 := .int .i64 (Q R.length).mx) (o4 := .int .i64 (Q R.length).f) (o5 := .int .i64 (Q R.length).l) (o6 := .int .i64 (Q R.length).lt) (o7 := .bool true) hB (Nat.le_refl _) hr)
        clear hb hr hB hE0 ho
        go_wp2
        obtain ⟨hx, hB⟩ := unhide S8
        have x0 := cell_of hx 0
        have x1 := cell_of hx 1
        have x2 := cell_of hx 2
        have x3 := cell_of hx 3
        have x4 := cell_of hx 4
        have x5 := cell_of hx 5
        have x6 := cell_of hx 6
        have x7 := cell_of hx 7
        simp only [List.getElem?_toArray, List.getElem?_cons_zero, List.getElem?_cons_succ] at x0 x1 x2 x3 x4 x5 x6 x7
        refine bodyPost_ret (v := .agg #[.int .i64 (Q R.length).c, .int .i64 0, .int .i64 (Q R.length).mn, .int .i64 (Q R.length).mx, .int .i64 (Q R.length).f, .int .i64 (Q R.length).l, .int .i64 (Q R.length).lt, .bool true]) ?_ rfl ⟨by rw [unhide HS1, unhide HO], hB⟩
        simp [results, Try.results71, go_sem, x0, x1, x2, x3, x4, x5, x6, x7]

end Go.Proofs.Ytpnkmnmchdabkaa
