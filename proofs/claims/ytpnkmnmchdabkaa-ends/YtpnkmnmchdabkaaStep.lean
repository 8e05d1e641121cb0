import Derived.Test.YtpnkmnmchdabkaaM26
import Derived.Test.YtpnkmnmchdabkaaMerges
import Derived.Test.YtpnkmnmchdabkaaPutsYes
import Derived.Test.YtpnkmnmchdabkaaHired
namespace Go.Proofs.Ytpnkmnmchdabkaa
open Go.RowKit
attribute [local go_sem ↓] Go.wp_at_zero Go.wp_at_succ

theorem StepPost.trans {B : Bd} {N : Nat} {w V w' : World} {cb gb : Nat} {C : Cfg} {E : List En} {e : Ending} (hb : Below N w V) (h : StepPost B N V cb gb C E e w') : StepPost B N w cb gb C E e w' := by
  obtain ⟨he, ρ', now', l', E', hC, hB, hr⟩ := h
  exact ⟨he, ρ', now', l', E', hC, hb.trans hB, hr⟩

set_option maxRecDepth 100000 in
set_option maxHeartbeats 1000000 in
theorem step_1 {B : Bd} {N : Nat} {w : World} {ρ : Nat → Nat} {cb gb : Nat} {C : Cfg} {now : Rest} {l : List Sh} {E : List En} (h : Crew true B N w ρ cb gb C now l E l.length) (hN : N ≤ w.heap.size) (o : St) (ho : o.ok) (d1 : (o.kind == 1) = true) :
    Calls Try.prog 9 #[.pointer (some ⟨cb, 0, none⟩), .agg o.arr] w (StepPost B N w cb gb C E) := by
  have hcb := lt_of_heap h.ent2.choose_spec.1
  have hlen := h.inv.len
  have hpos := h.inv.pos
  have hval := h.val
  rw [validB_iff] at hval
  have HPK : Hid (∀ W : World, Calls Try.prog 13 #[.int .i64 o.a, .int .i64 C.a] W fun e w' => e = .returned (.int .i64 (pickN o.a C.a)) ∧ w' = W) := fun W => pick_at o.a C.a W ho.a.1 ho.a.2 (by omega) (by omega)
  have HPP : Hid (∀ W : World, Calls Try.prog 13 #[.int .i64 o.b, .int .i64 l.length] W fun e w' => e = .returned (.int .i64 (pickN o.b l.length)) ∧ w' = W) := fun W => pick_at o.b l.length W ho.b.1 ho.b.2 (by omega) (by omega)
  have hbox : Below w.heap.size w (w.alloc (.cells o.arr 34)) := (Below.refl _ _).alloc (Nat.le_refl _) _
  have hnew := heap_alloc_new w (.cells o.arr 34)
  have hz1 : (w.alloc (.cells o.arr 34)).heap.size = w.heap.size + 1 := by simp
  have R1 := h.below hbox
  have HO := hide ho
  generalize pickN o.a C.a = k1 at *
  generalize pickN o.b l.length = k2 at *
  clear hval ho h
  unfold St.arr at hbox hnew R1 hz1 ⊢
  obtain ⟨ea, ecap, c0, c6, _, c8, _, hcb2, _⟩ := crew_cells R1.ent2
  have HR1 := hide R1
  have HB1 := hide hbox
  have HNW := hide hnew
  clear R1 hbox hnew
  go_enter Try.func9, Try.ntmps9
  go_wp2
  generalize World.alloc w _ = U at *
  have a1 := cell_of (unhide HNW) 1
  have a2 := cell_of (unhide HNW) 2
  simp at a1 a2
  go_quiet ((go_at_call 13; exact Calls.quiet_of_same (unhide HPK _)))
  have R3 := hide ((unhide HR1).below (below_drewN (Below.refl _ U) nq))
  have hB3 := hide (below_drewN (unhide HB1) nq)
  have hz3 : (U.drewN nq).heap.size = U.heap.size := rfl
  have hN3 : Hid ((U.drewN nq).heap[w.heap.size]? = some (.cells #[.int .i64 o.kind, .int .i64 o.a, .int .i64 o.b, .int .i64 o.c, .string o.s, .bool o.lost] 34 (0, 0))) := unhide HNW
  clear a1 a2 c0 c6 c8 HR1 HB1 HNW
  generalize U.drewN nq = W at *
  obtain ⟨ea, ecap, c0, c6, _, c8, _, hcb3, _⟩ := crew_cells (unhide R3).ent2
  have a2 := cell_of (unhide hN3) 2
  simp at a2
  go_wp2
  go_quiet ((go_at_call 13; exact Calls.quiet_of_same (unhide HPP _)))
  have R4 := hide ((unhide R3).below (below_drewN (Below.refl _ W) nq))
  have hB4 := hide ((below_drewN (unhide hB3) nq).mono hN)
  have hz4 : (W.drewN nq).heap.size = W.heap.size := rfl
  have hN4 : Hid ((W.drewN nq).heap[w.heap.size]? = some (.cells #[.int .i64 o.kind, .int .i64 o.a, .int .i64 o.b, .int .i64 o.c, .string o.s, .bool o.lost] 34 (0, 0))) := unhide hN3
  clear a2 c0 c6 c8 R3 hB3 hN3 HPK HPP
  generalize W.drewN nq = V at *
  obtain ⟨ea, ecap, c0, c6, _, c8, _, hcb4, _⟩ := crew_cells (unhide R4).ent2
  have a0 := cell_of (unhide hN4) 0
  have a1 := cell_of (unhide hN4) 1
  have a2 := cell_of (unhide hN4) 2
  have a3 := cell_of (unhide hN4) 3
  have a4 := cell_of (unhide hN4) 4
  have a5 := cell_of (unhide hN4) 5
  simp at a0 a1 a2 a3 a4 a5
  have hNV : N ≤ V.heap.size := by omega
  have HC := hide (puts_any (unhide R4) hNV o (unhide HO))
  unfold St.arr at HC
  clear c0 c6 c8
  go_wp2_with (go_at_call 22; refine (unhide HC).mono ?_; rintro e w3 ⟨rfl, hp⟩)
  go_ret
  exact StepPost.trans (unhide hB4) ⟨rfl, hp⟩

set_option maxRecDepth 100000 in
set_option maxHeartbeats 1000000 in
theorem step_2 {B : Bd} {N : Nat} {w : World} {ρ : Nat → Nat} {cb gb : Nat} {C : Cfg} {now : Rest} {l : List Sh} {E : List En} (h : Crew true B N w ρ cb gb C now l E l.length) (hN : N ≤ w.heap.size) (o : St) (ho : o.ok) (d1 : (o.kind == 1) = false) (d2 : (o.kind == 2) = true) :
    Calls Try.prog 9 #[.pointer (some ⟨cb, 0, none⟩), .agg o.arr] w (StepPost B N w cb gb C E) := by
  have hcb := lt_of_heap h.ent2.choose_spec.1
  have hlen := h.inv.len
  have hpos := h.inv.pos
  have hval := h.val
  rw [validB_iff] at hval
  have HPK : Hid (∀ W : World, Calls Try.prog 13 #[.int .i64 o.a, .int .i64 C.a] W fun e w' => e = .returned (.int .i64 (pickN o.a C.a)) ∧ w' = W) := fun W => pick_at o.a C.a W ho.a.1 ho.a.2 (by omega) (by omega)
  have HPP : Hid (∀ W : World, Calls Try.prog 13 #[.int .i64 o.b, .int .i64 l.length] W fun e w' => e = .returned (.int .i64 (pickN o.b l.length)) ∧ w' = W) := fun W => pick_at o.b l.length W ho.b.1 ho.b.2 (by omega) (by omega)
  have hbox : Below w.heap.size w (w.alloc (.cells o.arr 34)) := (Below.refl _ _).alloc (Nat.le_refl _) _
  have hnew := heap_alloc_new w (.cells o.arr 34)
  have hz1 : (w.alloc (.cells o.arr 34)).heap.size = w.heap.size + 1 := by simp
  have R1 := h.below hbox
  have HO := hide ho
  generalize pickN o.a C.a = k1 at *
  generalize pickN o.b l.length = k2 at *
  clear hval ho h
  unfold St.arr at hbox hnew R1 hz1 ⊢
  obtain ⟨ea, ecap, c0, c6, _, c8, _, hcb2, _⟩ := crew_cells R1.ent2
  have HR1 := hide R1
  have HB1 := hide hbox
  have HNW := hide hnew
  clear R1 hbox hnew
  go_enter Try.func9, Try.ntmps9
  go_wp2
  generalize World.alloc w _ = U at *
  have a1 := cell_of (unhide HNW) 1
  have a2 := cell_of (unhide HNW) 2
  simp at a1 a2
  go_quiet ((go_at_call 13; exact Calls.quiet_of_same (unhide HPK _)))
  have R3 := hide ((unhide HR1).below (below_drewN (Below.refl _ U) nq))
  have hB3 := hide (below_drewN (unhide HB1) nq)
  have hz3 : (U.drewN nq).heap.size = U.heap.size := rfl
  have hN3 : Hid ((U.drewN nq).heap[w.heap.size]? = some (.cells #[.int .i64 o.kind, .int .i64 o.a, .int .i64 o.b, .int .i64 o.c, .string o.s, .bool o.lost] 34 (0, 0))) := unhide HNW
  clear a1 a2 c0 c6 c8 HR1 HB1 HNW
  generalize U.drewN nq = W at *
  obtain ⟨ea, ecap, c0, c6, _, c8, _, hcb3, _⟩ := crew_cells (unhide R3).ent2
  have a2 := cell_of (unhide hN3) 2
  simp at a2
  go_wp2
  go_quiet ((go_at_call 13; exact Calls.quiet_of_same (unhide HPP _)))
  have R4 := hide ((unhide R3).below (below_drewN (Below.refl _ W) nq))
  have hB4 := hide ((below_drewN (unhide hB3) nq).mono hN)
  have hz4 : (W.drewN nq).heap.size = W.heap.size := rfl
  have hN4 : Hid ((W.drewN nq).heap[w.heap.size]? = some (.cells #[.int .i64 o.kind, .int .i64 o.a, .int .i64 o.b, .int .i64 o.c, .string o.s, .bool o.lost] 34 (0, 0))) := unhide hN3
  clear a2 c0 c6 c8 R3 hB3 hN3 HPK HPP
  generalize W.drewN nq = V at *
  obtain ⟨ea, ecap, c0, c6, _, c8, _, hcb4, _⟩ := crew_cells (unhide R4).ent2
  have a0 := cell_of (unhide hN4) 0
  have a1 := cell_of (unhide hN4) 1
  have a2 := cell_of (unhide hN4) 2
  have a3 := cell_of (unhide hN4) 3
  have a4 := cell_of (unhide hN4) 4
  have a5 := cell_of (unhide hN4) 5
  simp at a0 a1 a2 a3 a4 a5
  have hNV : N ≤ V.heap.size := by omega
  have HC := hide (splits_any (unhide R4) hNV o (unhide HO))
  unfold St.arr at HC
  clear c0 c6 c8
  go_wp2_with (go_at_call 23; refine (unhide HC).mono ?_; rintro e w3 ⟨rfl, hp⟩)
  go_ret
  exact StepPost.trans (unhide hB4) ⟨rfl, hp⟩

set_option maxRecDepth 100000 in
set_option maxHeartbeats 1000000 in
theorem step_3 {B : Bd} {N : Nat} {w : World} {ρ : Nat → Nat} {cb gb : Nat} {C : Cfg} {now : Rest} {l : List Sh} {E : List En} (h : Crew true B N w ρ cb gb C now l E l.length) (hN : N ≤ w.heap.size) (o : St) (ho : o.ok) (d1 : (o.kind == 1) = false) (d2 : (o.kind == 2) = false) (d3 : (o.kind == 3) = true) :
    Calls Try.prog 9 #[.pointer (some ⟨cb, 0, none⟩), .agg o.arr] w (StepPost B N w cb gb C E) := by
  have hcb := lt_of_heap h.ent2.choose_spec.1
  have hlen := h.inv.len
  have hpos := h.inv.pos
  have hval := h.val
  rw [validB_iff] at hval
  have HPK : Hid (∀ W : World, Calls Try.prog 13 #[.int .i64 o.a, .int .i64 C.a] W fun e w' => e = .returned (.int .i64 (pickN o.a C.a)) ∧ w' = W) := fun W => pick_at o.a C.a W ho.a.1 ho.a.2 (by omega) (by omega)
  have HPP : Hid (∀ W : World, Calls Try.prog 13 #[.int .i64 o.b, .int .i64 l.length] W fun e w' => e = .returned (.int .i64 (pickN o.b l.length)) ∧ w' = W) := fun W => pick_at o.b l.length W ho.b.1 ho.b.2 (by omega) (by omega)
  have hbox : Below w.heap.size w (w.alloc (.cells o.arr 34)) := (Below.refl _ _).alloc (Nat.le_refl _) _
  have hnew := heap_alloc_new w (.cells o.arr 34)
  have hz1 : (w.alloc (.cells o.arr 34)).heap.size = w.heap.size + 1 := by simp
  have R1 := h.below hbox
  have HO := hide ho
  generalize pickN o.a C.a = k1 at *
  generalize pickN o.b l.length = k2 at *
  clear hval ho h
  unfold St.arr at hbox hnew R1 hz1 ⊢
  obtain ⟨ea, ecap, c0, c6, _, c8, _, hcb2, _⟩ := crew_cells R1.ent2
  have HR1 := hide R1
  have HB1 := hide hbox
  have HNW := hide hnew
  clear R1 hbox hnew
  go_enter Try.func9, Try.ntmps9
  go_wp2
  generalize World.alloc w _ = U at *
  have a1 := cell_of (unhide HNW) 1
  have a2 := cell_of (unhide HNW) 2
  simp at a1 a2
  go_quiet ((go_at_call 13; exact Calls.quiet_of_same (unhide HPK _)))
  have R3 := hide ((unhide HR1).below (below_drewN (Below.refl _ U) nq))
  have hB3 := hide (below_drewN (unhide HB1) nq)
  have hz3 : (U.drewN nq).heap.size = U.heap.size := rfl
  have hN3 : Hid ((U.drewN nq).heap[w.heap.size]? = some (.cells #[.int .i64 o.kind, .int .i64 o.a, .int .i64 o.b, .int .i64 o.c, .string o.s, .bool o.lost] 34 (0, 0))) := unhide HNW
  clear a1 a2 c0 c6 c8 HR1 HB1 HNW
  generalize U.drewN nq = W at *
  obtain ⟨ea, ecap, c0, c6, _, c8, _, hcb3, _⟩ := crew_cells (unhide R3).ent2
  have a2 := cell_of (unhide hN3) 2
  simp at a2
  go_wp2
  go_quiet ((go_at_call 13; exact Calls.quiet_of_same (unhide HPP _)))
  have R4 := hide ((unhide R3).below (below_drewN (Below.refl _ W) nq))
  have hB4 := hide ((below_drewN (unhide hB3) nq).mono hN)
  have hz4 : (W.drewN nq).heap.size = W.heap.size := rfl
  have hN4 : Hid ((W.drewN nq).heap[w.heap.size]? = some (.cells #[.int .i64 o.kind, .int .i64 o.a, .int .i64 o.b, .int .i64 o.c, .string o.s, .bool o.lost] 34 (0, 0))) := unhide hN3
  clear a2 c0 c6 c8 R3 hB3 hN3 HPK HPP
  generalize W.drewN nq = V at *
  obtain ⟨ea, ecap, c0, c6, _, c8, _, hcb4, _⟩ := crew_cells (unhide R4).ent2
  have a0 := cell_of (unhide hN4) 0
  have a1 := cell_of (unhide hN4) 1
  have a2 := cell_of (unhide hN4) 2
  have a3 := cell_of (unhide hN4) 3
  have a4 := cell_of (unhide hN4) 4
  have a5 := cell_of (unhide hN4) 5
  simp at a0 a1 a2 a3 a4 a5
  have hNV : N ≤ V.heap.size := by omega
  have HC := hide (merges_any (unhide R4) hNV o (unhide HO))
  unfold St.arr at HC
  clear c0 c6 c8
  go_wp2_with (go_at_call 24; refine (unhide HC).mono ?_; rintro e w3 ⟨rfl, hp⟩)
  go_ret
  exact StepPost.trans (unhide hB4) ⟨rfl, hp⟩

set_option maxRecDepth 100000 in
set_option maxHeartbeats 1000000 in
theorem step_4 {B : Bd} {N : Nat} {w : World} {ρ : Nat → Nat} {cb gb : Nat} {C : Cfg} {now : Rest} {l : List Sh} {E : List En} (h : Crew true B N w ρ cb gb C now l E l.length) (hN : N ≤ w.heap.size) (o : St) (ho : o.ok) (d1 : (o.kind == 1) = false) (d2 : (o.kind == 2) = false) (d3 : (o.kind == 3) = false) (d4 : (o.kind == 4) = true) :
    Calls Try.prog 9 #[.pointer (some ⟨cb, 0, none⟩), .agg o.arr] w (StepPost B N w cb gb C E) := by
  have hcb := lt_of_heap h.ent2.choose_spec.1
  have hlen := h.inv.len
  have hpos := h.inv.pos
  have hval := h.val
  rw [validB_iff] at hval
  have HPK : Hid (∀ W : World, Calls Try.prog 13 #[.int .i64 o.a, .int .i64 C.a] W fun e w' => e = .returned (.int .i64 (pickN o.a C.a)) ∧ w' = W) := fun W => pick_at o.a C.a W ho.a.1 ho.a.2 (by omega) (by omega)
  have HPP : Hid (∀ W : World, Calls Try.prog 13 #[.int .i64 o.b, .int .i64 l.length] W fun e w' => e = .returned (.int .i64 (pickN o.b l.length)) ∧ w' = W) := fun W => pick_at o.b l.length W ho.b.1 ho.b.2 (by omega) (by omega)
  have hbox : Below w.heap.size w (w.alloc (.cells o.arr 34)) := (Below.refl _ _).alloc (Nat.le_refl _) _
  have hnew := heap_alloc_new w (.cells o.arr 34)
  have hz1 : (w.alloc (.cells o.arr 34)).heap.size = w.heap.size + 1 := by simp
  have R1 := h.below hbox
  have HO := hide ho
  generalize pickN o.a C.a = k1 at *
  generalize pickN o.b l.length = k2 at *
  clear hval ho h
  unfold St.arr at hbox hnew R1 hz1 ⊢
  obtain ⟨ea, ecap, c0, c6, _, c8, _, hcb2, _⟩ := crew_cells R1.ent2
  have HR1 := hide R1
  have HB1 := hide hbox
  have HNW := hide hnew
  clear R1 hbox hnew
  go_enter Try.func9, Try.ntmps9
  go_wp2
  generalize World.alloc w _ = U at *
  have a1 := cell_of (unhide HNW) 1
  have a2 := cell_of (unhide HNW) 2
  simp at a1 a2
  go_quiet ((go_at_call 13; exact Calls.quiet_of_same (unhide HPK _)))
  have R3 := hide ((unhide HR1).below (below_drewN (Below.refl _ U) nq))
  have hB3 := hide (below_drewN (unhide HB1) nq)
  have hz3 : (U.drewN nq).heap.size = U.heap.size := rfl
  have hN3 : Hid ((U.drewN nq).heap[w.heap.size]? = some (.cells #[.int .i64 o.kind, .int .i64 o.a, .int .i64 o.b, .int .i64 o.c, .string o.s, .bool o.lost] 34 (0, 0))) := unhide HNW
  clear a1 a2 c0 c6 c8 HR1 HB1 HNW
  generalize U.drewN nq = W at *
  obtain ⟨ea, ecap, c0, c6, _, c8, _, hcb3, _⟩ := crew_cells (unhide R3).ent2
  have a2 := cell_of (unhide hN3) 2
  simp at a2
  go_wp2
  go_quiet ((go_at_call 13; exact Calls.quiet_of_same (unhide HPP _)))
  have R4 := hide ((unhide R3).below (below_drewN (Below.refl _ W) nq))
  have hB4 := hide ((below_drewN (unhide hB3) nq).mono hN)
  have hz4 : (W.drewN nq).heap.size = W.heap.size := rfl
  have hN4 : Hid ((W.drewN nq).heap[w.heap.size]? = some (.cells #[.int .i64 o.kind, .int .i64 o.a, .int .i64 o.b, .int .i64 o.c, .string o.s, .bool o.lost] 34 (0, 0))) := unhide hN3
  clear a2 c0 c6 c8 R3 hB3 hN3 HPK HPP
  generalize W.drewN nq = V at *
  obtain ⟨ea, ecap, c0, c6, _, c8, _, hcb4, _⟩ := crew_cells (unhide R4).ent2
  have a0 := cell_of (unhide hN4) 0
  have a1 := cell_of (unhide hN4) 1
  have a2 := cell_of (unhide hN4) 2
  have a3 := cell_of (unhide hN4) 3
  have a4 := cell_of (unhide hN4) 4
  have a5 := cell_of (unhide hN4) 5
  simp at a0 a1 a2 a3 a4 a5
  have hNV : N ≤ V.heap.size := by omega
  have HC := hide (gTick_any V ρ gb C now l (unhide R4).grp (unhide R4).fits (unhide R4).inv)
  clear c0 c8
  go_wp2_with (go_at_call 25; refine (unhide HC).mono ?_; rintro e w3 ⟨rfl, hp⟩)
  go_ret
  obtain ⟨ρ', ev, q1, q2, q3, q4, q5, q6, q7, q8, q9⟩ := (unhide R4).post hNV hp
  exact ⟨rfl, ρ', _, l, E, ⟨⟨ev, q2, q3, q4⟩, q5, q1, (unhide R4).inv, q6, q7, (unhide R4).cnt, (unhide R4).tot, (unhide R4).rng, (unhide R4).val, (unhide R4).wok.tick⟩, (unhide hB4).trans (q8.below hNV (fun k _ hm => (unhide R4).low.1 k (by unfold mine at hm; omega))), Or.inl rfl⟩

set_option maxRecDepth 100000 in
set_option maxHeartbeats 1000000 in
theorem step_5 {B : Bd} {N : Nat} {w : World} {ρ : Nat → Nat} {cb gb : Nat} {C : Cfg} {now : Rest} {l : List Sh} {E : List En} (h : Crew true B N w ρ cb gb C now l E l.length) (hN : N ≤ w.heap.size) (o : St) (ho : o.ok) (d1 : (o.kind == 1) = false) (d2 : (o.kind == 2) = false) (d3 : (o.kind == 3) = false) (d4 : (o.kind == 4) = false) (d5 : (o.kind == 5) = true) :
    Calls Try.prog 9 #[.pointer (some ⟨cb, 0, none⟩), .agg o.arr] w (StepPost B N w cb gb C E) := by
  have hcb := lt_of_heap h.ent2.choose_spec.1
  have hlen := h.inv.len
  have hpos := h.inv.pos
  have hval := h.val
  rw [validB_iff] at hval
  have HPK : Hid (∀ W : World, Calls Try.prog 13 #[.int .i64 o.a, .int .i64 C.a] W fun e w' => e = .returned (.int .i64 (pickN o.a C.a)) ∧ w' = W) := fun W => pick_at o.a C.a W ho.a.1 ho.a.2 (by omega) (by omega)
  have HPP : Hid (∀ W : World, Calls Try.prog 13 #[.int .i64 o.b, .int .i64 l.length] W fun e w' => e = .returned (.int .i64 (pickN o.b l.length)) ∧ w' = W) := fun W => pick_at o.b l.length W ho.b.1 ho.b.2 (by omega) (by omega)
  have hbox : Below w.heap.size w (w.alloc (.cells o.arr 34)) := (Below.refl _ _).alloc (Nat.le_refl _) _
  have hnew := heap_alloc_new w (.cells o.arr 34)
  have hz1 : (w.alloc (.cells o.arr 34)).heap.size = w.heap.size + 1 := by simp
  have R1 := h.below hbox
  have HO := hide ho
  have hk1 := pickN_lt o.a C.a (by omega)
  have hk2 := pickN_lt o.b l.length (by omega)
  generalize pickN o.a C.a = k1 at *
  generalize pickN o.b l.length = k2 at *
  clear hval ho h
  unfold St.arr at hbox hnew R1 hz1 ⊢
  obtain ⟨ea, ecap, c0, c6, _, c8, _, hcb2, _⟩ := crew_cells R1.ent2
  have HR1 := hide R1
  have HB1 := hide hbox
  have HNW := hide hnew
  clear R1 hbox hnew
  go_enter Try.func9, Try.ntmps9
  go_wp2
  generalize World.alloc w _ = U at *
  have a1 := cell_of (unhide HNW) 1
  have a2 := cell_of (unhide HNW) 2
  simp at a1 a2
  go_quiet ((go_at_call 13; exact Calls.quiet_of_same (unhide HPK _)))
  have R3 := hide ((unhide HR1).below (below_drewN (Below.refl _ U) nq))
  have hB3 := hide (below_drewN (unhide HB1) nq)
  have hz3 : (U.drewN nq).heap.size = U.heap.size := rfl
  have hN3 : Hid ((U.drewN nq).heap[w.heap.size]? = some (.cells #[.int .i64 o.kind, .int .i64 o.a, .int .i64 o.b, .int .i64 o.c, .string o.s, .bool o.lost] 34 (0, 0))) := unhide HNW
  clear a1 a2 c0 c6 c8 HR1 HB1 HNW
  generalize U.drewN nq = W at *
  obtain ⟨ea, ecap, c0, c6, _, c8, _, hcb3, _⟩ := crew_cells (unhide R3).ent2
  have a2 := cell_of (unhide hN3) 2
  simp at a2
  go_wp2
  go_quiet ((go_at_call 13; exact Calls.quiet_of_same (unhide HPP _)))
  have R4 := hide ((unhide R3).below (below_drewN (Below.refl _ W) nq))
  have hB4 := hide ((below_drewN (unhide hB3) nq).mono hN)
  have hz4 : (W.drewN nq).heap.size = W.heap.size := rfl
  have hN4 : Hid ((W.drewN nq).heap[w.heap.size]? = some (.cells #[.int .i64 o.kind, .int .i64 o.a, .int .i64 o.b, .int .i64 o.c, .string o.s, .bool o.lost] 34 (0, 0))) := unhide hN3
  clear a2 c0 c6 c8 R3 hB3 hN3 HPK HPP
  generalize W.drewN nq = V at *
  obtain ⟨ea, ecap, c0, c6, _, c8, _, hcb4, _⟩ := crew_cells (unhide R4).ent2
  have a0 := cell_of (unhide hN4) 0
  have a1 := cell_of (unhide hN4) 1
  have a2 := cell_of (unhide hN4) 2
  have a3 := cell_of (unhide hN4) 3
  have a4 := cell_of (unhide hN4) 4
  have a5 := cell_of (unhide hN4) 5
  simp at a0 a1 a2 a3 a4 a5
  have hNV : N ≤ V.heap.size := by omega
  have HC := hide (kRenew (unhide R4).grp (unhide R4).fits (unhide R4).inv (unhide R4).wok k1 (by omega))
  clear c0 c8
  go_wp2_with (go_at_call 26; refine (unhide HC).mono ?_; rintro e w3 ⟨⟨a, b, rfl⟩, hp⟩)
  go_ret
  obtain ⟨now', q1, q2, _⟩ := (unhide R4).lease hNV hp
  exact ⟨rfl, ρ, now', l, E, q1, (unhide hB4).trans q2, Or.inl rfl⟩

set_option maxRecDepth 100000 in
set_option maxHeartbeats 1000000 in
theorem step_6 {B : Bd} {N : Nat} {w : World} {ρ : Nat → Nat} {cb gb : Nat} {C : Cfg} {now : Rest} {l : List Sh} {E : List En} (h : Crew true B N w ρ cb gb C now l E l.length) (hB : B.n ≤ 9223372036854775807) (hN : N ≤ w.heap.size) (o : St) (ho : o.ok) (d1 : (o.kind == 1) = false) (d2 : (o.kind == 2) = false) (d3 : (o.kind == 3) = false) (d4 : (o.kind == 4) = false) (d5 : (o.kind == 5) = false) (d6 : (o.kind == 6) = true) :
    Calls Try.prog 9 #[.pointer (some ⟨cb, 0, none⟩), .agg o.arr] w (StepPost B N w cb gb C E) := by
  have hcb := lt_of_heap h.ent2.choose_spec.1
  have hlen := h.inv.len
  have hpos := h.inv.pos
  have hval := h.val
  rw [validB_iff] at hval
  have HPK : Hid (∀ W : World, Calls Try.prog 13 #[.int .i64 o.a, .int .i64 C.a] W fun e w' => e = .returned (.int .i64 (pickN o.a C.a)) ∧ w' = W) := fun W => pick_at o.a C.a W ho.a.1 ho.a.2 (by omega) (by omega)
  have HPP : Hid (∀ W : World, Calls Try.prog 13 #[.int .i64 o.b, .int .i64 l.length] W fun e w' => e = .returned (.int .i64 (pickN o.b l.length)) ∧ w' = W) := fun W => pick_at o.b l.length W ho.b.1 ho.b.2 (by omega) (by omega)
  have hbox : Below w.heap.size w (w.alloc (.cells o.arr 34)) := (Below.refl _ _).alloc (Nat.le_refl _) _
  have hnew := heap_alloc_new w (.cells o.arr 34)
  have hz1 : (w.alloc (.cells o.arr 34)).heap.size = w.heap.size + 1 := by simp
  have R1 := h.below hbox
  have HO := hide ho
  have hk1 := pickN_lt o.a C.a (by omega)
  have hk2 := pickN_lt o.b l.length (by omega)
  generalize pickN o.a C.a = k1 at *
  generalize pickN o.b l.length = k2 at *
  clear hval ho h
  unfold St.arr at hbox hnew R1 hz1 ⊢
  obtain ⟨ea, ecap, c0, c6, _, c8, _, hcb2, _⟩ := crew_cells R1.ent2
  have HR1 := hide R1
  have HB1 := hide hbox
  have HNW := hide hnew
  clear R1 hbox hnew
  go_enter Try.func9, Try.ntmps9
  go_wp2
  generalize World.alloc w _ = U at *
  have a1 := cell_of (unhide HNW) 1
  have a2 := cell_of (unhide HNW) 2
  simp at a1 a2
  go_quiet ((go_at_call 13; exact Calls.quiet_of_same (unhide HPK _)))
  have R3 := hide ((unhide HR1).below (below_drewN (Below.refl _ U) nq))
  have hB3 := hide (below_drewN (unhide HB1) nq)
  have hz3 : (U.drewN nq).heap.size = U.heap.size := rfl
  have hN3 : Hid ((U.drewN nq).heap[w.heap.size]? = some (.cells #[.int .i64 o.kind, .int .i64 o.a, .int .i64 o.b, .int .i64 o.c, .string o.s, .bool o.lost] 34 (0, 0))) := unhide HNW
  clear a1 a2 c0 c6 c8 HR1 HB1 HNW
  generalize U.drewN nq = W at *
  obtain ⟨ea, ecap, c0, c6, _, c8, _, hcb3, _⟩ := crew_cells (unhide R3).ent2
  have a2 := cell_of (unhide hN3) 2
  simp at a2
  go_wp2
  go_quiet ((go_at_call 13; exact Calls.quiet_of_same (unhide HPP _)))
  have R4 := hide ((unhide R3).below (below_drewN (Below.refl _ W) nq))
  have hB4 := hide ((below_drewN (unhide hB3) nq).mono hN)
  have hz4 : (W.drewN nq).heap.size = W.heap.size := rfl
  have hN4 : Hid ((W.drewN nq).heap[w.heap.size]? = some (.cells #[.int .i64 o.kind, .int .i64 o.a, .int .i64 o.b, .int .i64 o.c, .string o.s, .bool o.lost] 34 (0, 0))) := unhide hN3
  clear a2 c0 c6 c8 R3 hB3 hN3 HPK HPP
  generalize W.drewN nq = V at *
  obtain ⟨ea, ecap, c0, c6, _, c8, _, hcb4, _⟩ := crew_cells (unhide R4).ent2
  have a0 := cell_of (unhide hN4) 0
  have a1 := cell_of (unhide hN4) 1
  have a2 := cell_of (unhide hN4) 2
  have a3 := cell_of (unhide hN4) 3
  have a4 := cell_of (unhide hN4) 4
  have a5 := cell_of (unhide hN4) 5
  simp at a0 a1 a2 a3 a4 a5
  have hNV : N ≤ V.heap.size := by omega
  have HC := hide (kTake (unhide R4).grp (unhide R4).fits (unhide R4).inv hB (unhide R4).wok k1 (by omega))
  clear c0 c8
  go_wp2_with (go_at_call 27; refine (unhide HC).mono ?_; rintro e w3 ⟨⟨a, b, rfl⟩, hp⟩)
  go_ret
  obtain ⟨now', q1, q2, _⟩ := (unhide R4).lease hNV hp
  exact ⟨rfl, ρ, now', l, E, q1, (unhide hB4).trans q2, Or.inl rfl⟩

set_option maxRecDepth 100000 in
set_option maxHeartbeats 1000000 in
theorem step_7 {B : Bd} {N : Nat} {w : World} {ρ : Nat → Nat} {cb gb : Nat} {C : Cfg} {now : Rest} {l : List Sh} {E : List En} (h : Crew true B N w ρ cb gb C now l E l.length) (hB : B.n ≤ 9223372036854775807) (hN : N ≤ w.heap.size) (o : St) (ho : o.ok) (d1 : (o.kind == 1) = false) (d2 : (o.kind == 2) = false) (d3 : (o.kind == 3) = false) (d4 : (o.kind == 4) = false) (d5 : (o.kind == 5) = false) (d6 : (o.kind == 6) = false) (d7 : (o.kind == 7) = true) :
    Calls Try.prog 9 #[.pointer (some ⟨cb, 0, none⟩), .agg o.arr] w (StepPost B N w cb gb C E) := by
  have hcb := lt_of_heap h.ent2.choose_spec.1
  have hlen := h.inv.len
  have hpos := h.inv.pos
  have hval := h.val
  rw [validB_iff] at hval
  have HPK : Hid (∀ W : World, Calls Try.prog 13 #[.int .i64 o.a, .int .i64 C.a] W fun e w' => e = .returned (.int .i64 (pickN o.a C.a)) ∧ w' = W) := fun W => pick_at o.a C.a W ho.a.1 ho.a.2 (by omega) (by omega)
  have HPP : Hid (∀ W : World, Calls Try.prog 13 #[.int .i64 o.b, .int .i64 l.length] W fun e w' => e = .returned (.int .i64 (pickN o.b l.length)) ∧ w' = W) := fun W => pick_at o.b l.length W ho.b.1 ho.b.2 (by omega) (by omega)
  have hbox : Below w.heap.size w (w.alloc (.cells o.arr 34)) := (Below.refl _ _).alloc (Nat.le_refl _) _
  have hnew := heap_alloc_new w (.cells o.arr 34)
  have hz1 : (w.alloc (.cells o.arr 34)).heap.size = w.heap.size + 1 := by simp
  have R1 := h.below hbox
  have HO := hide ho
  have hk1 := pickN_lt o.a C.a (by omega)
  have hk2 := pickN_lt o.b l.length (by omega)
  generalize pickN o.a C.a = k1 at *
  generalize pickN o.b l.length = k2 at *
  clear hval ho h
  unfold St.arr at hbox hnew R1 hz1 ⊢
  obtain ⟨ea, ecap, c0, c6, _, c8, _, hcb2, _⟩ := crew_cells R1.ent2
  have HR1 := hide R1
  have HB1 := hide hbox
  have HNW := hide hnew
  clear R1 hbox hnew
  go_enter Try.func9, Try.ntmps9
  go_wp2
  generalize World.alloc w _ = U at *
  have a1 := cell_of (unhide HNW) 1
  have a2 := cell_of (unhide HNW) 2
  simp at a1 a2
  go_quiet ((go_at_call 13; exact Calls.quiet_of_same (unhide HPK _)))
  have R3 := hide ((unhide HR1).below (below_drewN (Below.refl _ U) nq))
  have hB3 := hide (below_drewN (unhide HB1) nq)
  have hz3 : (U.drewN nq).heap.size = U.heap.size := rfl
  have hN3 : Hid ((U.drewN nq).heap[w.heap.size]? = some (.cells #[.int .i64 o.kind, .int .i64 o.a, .int .i64 o.b, .int .i64 o.c, .string o.s, .bool o.lost] 34 (0, 0))) := unhide HNW
  clear a1 a2 c0 c6 c8 HR1 HB1 HNW
  generalize U.drewN nq = W at *
  obtain ⟨ea, ecap, c0, c6, _, c8, _, hcb3, _⟩ := crew_cells (unhide R3).ent2
  have a2 := cell_of (unhide hN3) 2
  simp at a2
  go_wp2
  go_quiet ((go_at_call 13; exact Calls.quiet_of_same (unhide HPP _)))
  have R4 := hide ((unhide R3).below (below_drewN (Below.refl _ W) nq))
  have hB4 := hide ((below_drewN (unhide hB3) nq).mono hN)
  have hz4 : (W.drewN nq).heap.size = W.heap.size := rfl
  have hN4 : Hid ((W.drewN nq).heap[w.heap.size]? = some (.cells #[.int .i64 o.kind, .int .i64 o.a, .int .i64 o.b, .int .i64 o.c, .string o.s, .bool o.lost] 34 (0, 0))) := unhide hN3
  clear a2 c0 c6 c8 R3 hB3 hN3 HPK HPP
  generalize W.drewN nq = V at *
  obtain ⟨ea, ecap, c0, c6, _, c8, _, hcb4, _⟩ := crew_cells (unhide R4).ent2
  have a0 := cell_of (unhide hN4) 0
  have a1 := cell_of (unhide hN4) 1
  have a2 := cell_of (unhide hN4) 2
  have a3 := cell_of (unhide hN4) 3
  have a4 := cell_of (unhide hN4) 4
  have a5 := cell_of (unhide hN4) 5
  simp at a0 a1 a2 a3 a4 a5
  have hNV : N ≤ V.heap.size := by omega
  have HC := hide (kSteal (unhide R4).grp (unhide R4).fits (unhide R4).inv hB (unhide R4).wok k1 (by omega) k2 (by omega))
  clear c0 c8
  go_wp2_with (go_at_call 28; refine (unhide HC).mono ?_; rintro e w3 ⟨⟨a, rfl⟩, hp⟩)
  go_ret
  obtain ⟨now', q1, q2, _⟩ := (unhide R4).lease hNV hp
  exact ⟨rfl, ρ, now', l, E, q1, (unhide hB4).trans q2, Or.inl rfl⟩

set_option maxRecDepth 100000 in
set_option maxHeartbeats 1000000 in
theorem step_8 {B : Bd} {N : Nat} {w : World} {ρ : Nat → Nat} {cb gb : Nat} {C : Cfg} {now : Rest} {l : List Sh} {E : List En} (h : Crew true B N w ρ cb gb C now l E l.length) (hN : N ≤ w.heap.size) (o : St) (ho : o.ok) (d1 : (o.kind == 1) = false) (d2 : (o.kind == 2) = false) (d3 : (o.kind == 3) = false) (d4 : (o.kind == 4) = false) (d5 : (o.kind == 5) = false) (d6 : (o.kind == 6) = false) (d7 : (o.kind == 7) = false) (d8 : (o.kind == 8) = true) :
    Calls Try.prog 9 #[.pointer (some ⟨cb, 0, none⟩), .agg o.arr] w (StepPost B N w cb gb C E) := by
  have hcb := lt_of_heap h.ent2.choose_spec.1
  have hlen := h.inv.len
  have hpos := h.inv.pos
  have hval := h.val
  rw [validB_iff] at hval
  have HPK : Hid (∀ W : World, Calls Try.prog 13 #[.int .i64 o.a, .int .i64 C.a] W fun e w' => e = .returned (.int .i64 (pickN o.a C.a)) ∧ w' = W) := fun W => pick_at o.a C.a W ho.a.1 ho.a.2 (by omega) (by omega)
  have HPP : Hid (∀ W : World, Calls Try.prog 13 #[.int .i64 o.b, .int .i64 l.length] W fun e w' => e = .returned (.int .i64 (pickN o.b l.length)) ∧ w' = W) := fun W => pick_at o.b l.length W ho.b.1 ho.b.2 (by omega) (by omega)
  have hbox : Below w.heap.size w (w.alloc (.cells o.arr 34)) := (Below.refl _ _).alloc (Nat.le_refl _) _
  have hnew := heap_alloc_new w (.cells o.arr 34)
  have hz1 : (w.alloc (.cells o.arr 34)).heap.size = w.heap.size + 1 := by simp
  have R1 := h.below hbox
  have HO := hide ho
  have hk1 := pickN_lt o.a C.a (by omega)
  have hk2 := pickN_lt o.b l.length (by omega)
  generalize pickN o.a C.a = k1 at *
  generalize pickN o.b l.length = k2 at *
  clear hval ho h
  unfold St.arr at hbox hnew R1 hz1 ⊢
  obtain ⟨ea, ecap, c0, c6, _, c8, _, hcb2, _⟩ := crew_cells R1.ent2
  have HR1 := hide R1
  have HB1 := hide hbox
  have HNW := hide hnew
  clear R1 hbox hnew
  go_enter Try.func9, Try.ntmps9
  go_wp2
  generalize World.alloc w _ = U at *
  have a1 := cell_of (unhide HNW) 1
  have a2 := cell_of (unhide HNW) 2
  simp at a1 a2
  go_quiet ((go_at_call 13; exact Calls.quiet_of_same (unhide HPK _)))
  have R3 := hide ((unhide HR1).below (below_drewN (Below.refl _ U) nq))
  have hB3 := hide (below_drewN (unhide HB1) nq)
  have hz3 : (U.drewN nq).heap.size = U.heap.size := rfl
  have hN3 : Hid ((U.drewN nq).heap[w.heap.size]? = some (.cells #[.int .i64 o.kind, .int .i64 o.a, .int .i64 o.b, .int .i64 o.c, .string o.s, .bool o.lost] 34 (0, 0))) := unhide HNW
  clear a1 a2 c0 c6 c8 HR1 HB1 HNW
  generalize U.drewN nq = W at *
  obtain ⟨ea, ecap, c0, c6, _, c8, _, hcb3, _⟩ := crew_cells (unhide R3).ent2
  have a2 := cell_of (unhide hN3) 2
  simp at a2
  go_wp2
  go_quiet ((go_at_call 13; exact Calls.quiet_of_same (unhide HPP _)))
  have R4 := hide ((unhide R3).below (below_drewN (Below.refl _ W) nq))
  have hB4 := hide ((below_drewN (unhide hB3) nq).mono hN)
  have hz4 : (W.drewN nq).heap.size = W.heap.size := rfl
  have hN4 : Hid ((W.drewN nq).heap[w.heap.size]? = some (.cells #[.int .i64 o.kind, .int .i64 o.a, .int .i64 o.b, .int .i64 o.c, .string o.s, .bool o.lost] 34 (0, 0))) := unhide hN3
  clear a2 c0 c6 c8 R3 hB3 hN3 HPK HPP
  generalize W.drewN nq = V at *
  obtain ⟨ea, ecap, c0, c6, _, c8, _, hcb4, _⟩ := crew_cells (unhide R4).ent2
  have a0 := cell_of (unhide hN4) 0
  have a1 := cell_of (unhide hN4) 1
  have a2 := cell_of (unhide hN4) 2
  have a3 := cell_of (unhide hN4) 3
  have a4 := cell_of (unhide hN4) 4
  have a5 := cell_of (unhide hN4) 5
  simp at a0 a1 a2 a3 a4 a5
  have hNV : N ≤ V.heap.size := by omega
  have HC := hide (kCrash (unhide R4).grp (unhide R4).fits (unhide R4).inv (unhide R4).wok k1 (by omega))
  clear c0 c8
  go_wp2_with (go_at_call 29; refine (unhide HC).mono ?_; rintro e w3 ⟨⟨a, rfl⟩, hp⟩)
  go_ret
  obtain ⟨now', q1, q2, _⟩ := (unhide R4).lease hNV hp
  exact ⟨rfl, ρ, now', l, E, q1, (unhide hB4).trans q2, Or.inl rfl⟩

set_option maxRecDepth 100000 in
set_option maxHeartbeats 1000000 in
theorem step_9 {B : Bd} {N : Nat} {w : World} {ρ : Nat → Nat} {cb gb : Nat} {C : Cfg} {now : Rest} {l : List Sh} {E : List En} (h : Crew true B N w ρ cb gb C now l E l.length) (hN : N ≤ w.heap.size) (o : St) (ho : o.ok) (d1 : (o.kind == 1) = false) (d2 : (o.kind == 2) = false) (d3 : (o.kind == 3) = false) (d4 : (o.kind == 4) = false) (d5 : (o.kind == 5) = false) (d6 : (o.kind == 6) = false) (d7 : (o.kind == 7) = false) (d8 : (o.kind == 8) = false) (d9 : (o.kind == 9) = true) :
    Calls Try.prog 9 #[.pointer (some ⟨cb, 0, none⟩), .agg o.arr] w (StepPost B N w cb gb C E) := by
  have hcb := lt_of_heap h.ent2.choose_spec.1
  have hlen := h.inv.len
  have hpos := h.inv.pos
  have hval := h.val
  rw [validB_iff] at hval
  have HPK : Hid (∀ W : World, Calls Try.prog 13 #[.int .i64 o.a, .int .i64 C.a] W fun e w' => e = .returned (.int .i64 (pickN o.a C.a)) ∧ w' = W) := fun W => pick_at o.a C.a W ho.a.1 ho.a.2 (by omega) (by omega)
  have HPP : Hid (∀ W : World, Calls Try.prog 13 #[.int .i64 o.b, .int .i64 l.length] W fun e w' => e = .returned (.int .i64 (pickN o.b l.length)) ∧ w' = W) := fun W => pick_at o.b l.length W ho.b.1 ho.b.2 (by omega) (by omega)
  have hbox : Below w.heap.size w (w.alloc (.cells o.arr 34)) := (Below.refl _ _).alloc (Nat.le_refl _) _
  have hnew := heap_alloc_new w (.cells o.arr 34)
  have hz1 : (w.alloc (.cells o.arr 34)).heap.size = w.heap.size + 1 := by simp
  have R1 := h.below hbox
  have HO := hide ho
  have hk1 := pickN_lt o.a C.a (by omega)
  have hk2 := pickN_lt o.b l.length (by omega)
  generalize pickN o.a C.a = k1 at *
  generalize pickN o.b l.length = k2 at *
  clear hval ho h
  unfold St.arr at hbox hnew R1 hz1 ⊢
  obtain ⟨ea, ecap, c0, c6, _, c8, _, hcb2, _⟩ := crew_cells R1.ent2
  have HR1 := hide R1
  have HB1 := hide hbox
  have HNW := hide hnew
  clear R1 hbox hnew
  go_enter Try.func9, Try.ntmps9
  go_wp2
  generalize World.alloc w _ = U at *
  have a1 := cell_of (unhide HNW) 1
  have a2 := cell_of (unhide HNW) 2
  simp at a1 a2
  go_quiet ((go_at_call 13; exact Calls.quiet_of_same (unhide HPK _)))
  have R3 := hide ((unhide HR1).below (below_drewN (Below.refl _ U) nq))
  have hB3 := hide (below_drewN (unhide HB1) nq)
  have hz3 : (U.drewN nq).heap.size = U.heap.size := rfl
  have hN3 : Hid ((U.drewN nq).heap[w.heap.size]? = some (.cells #[.int .i64 o.kind, .int .i64 o.a, .int .i64 o.b, .int .i64 o.c, .string o.s, .bool o.lost] 34 (0, 0))) := unhide HNW
  clear a1 a2 c0 c6 c8 HR1 HB1 HNW
  generalize U.drewN nq = W at *
  obtain ⟨ea, ecap, c0, c6, _, c8, _, hcb3, _⟩ := crew_cells (unhide R3).ent2
  have a2 := cell_of (unhide hN3) 2
  simp at a2
  go_wp2
  go_quiet ((go_at_call 13; exact Calls.quiet_of_same (unhide HPP _)))
  have R4 := hide ((unhide R3).below (below_drewN (Below.refl _ W) nq))
  have hB4 := hide ((below_drewN (unhide hB3) nq).mono hN)
  have hz4 : (W.drewN nq).heap.size = W.heap.size := rfl
  have hN4 : Hid ((W.drewN nq).heap[w.heap.size]? = some (.cells #[.int .i64 o.kind, .int .i64 o.a, .int .i64 o.b, .int .i64 o.c, .string o.s, .bool o.lost] 34 (0, 0))) := unhide hN3
  clear a2 c0 c6 c8 R3 hB3 hN3 HPK HPP
  generalize W.drewN nq = V at *
  obtain ⟨ea, ecap, c0, c6, _, c8, _, hcb4, _⟩ := crew_cells (unhide R4).ent2
  have a0 := cell_of (unhide hN4) 0
  have a1 := cell_of (unhide hN4) 1
  have a2 := cell_of (unhide hN4) 2
  have a3 := cell_of (unhide hN4) 3
  have a4 := cell_of (unhide hN4) 4
  have a5 := cell_of (unhide hN4) 5
  simp at a0 a1 a2 a3 a4 a5
  have hNV : N ≤ V.heap.size := by omega
  have HC := hide (kFetch (unhide R4).grp (unhide R4).fits (unhide R4).inv (unhide R4).wok k1 (by omega) k2 (by omega))
  clear c0 c8
  go_wp2_with (go_at_call 30; refine (unhide HC).mono ?_; rintro e w3 ⟨⟨a, b, rfl⟩, hp⟩)
  go_ret
  obtain ⟨now', q1, q2, _⟩ := (unhide R4).lease hNV hp
  exact ⟨rfl, ρ, now', l, E, q1, (unhide hB4).trans q2, Or.inl rfl⟩

set_option maxRecDepth 100000 in
set_option maxHeartbeats 1000000 in
theorem step_10 {B : Bd} {N : Nat} {w : World} {ρ : Nat → Nat} {cb gb : Nat} {C : Cfg} {now : Rest} {l : List Sh} {E : List En} (h : Crew true B N w ρ cb gb C now l E l.length) (hN : N ≤ w.heap.size) (o : St) (ho : o.ok) (d1 : (o.kind == 1) = false) (d2 : (o.kind == 2) = false) (d3 : (o.kind == 3) = false) (d4 : (o.kind == 4) = false) (d5 : (o.kind == 5) = false) (d6 : (o.kind == 6) = false) (d7 : (o.kind == 7) = false) (d8 : (o.kind == 8) = false) (d9 : (o.kind == 9) = false) (d10 : (o.kind == 10) = true) :
    Calls Try.prog 9 #[.pointer (some ⟨cb, 0, none⟩), .agg o.arr] w (StepPost B N w cb gb C E) := by
  have hcb := lt_of_heap h.ent2.choose_spec.1
  have hlen := h.inv.len
  have hpos := h.inv.pos
  have hval := h.val
  rw [validB_iff] at hval
  have HPK : Hid (∀ W : World, Calls Try.prog 13 #[.int .i64 o.a, .int .i64 C.a] W fun e w' => e = .returned (.int .i64 (pickN o.a C.a)) ∧ w' = W) := fun W => pick_at o.a C.a W ho.a.1 ho.a.2 (by omega) (by omega)
  have HPP : Hid (∀ W : World, Calls Try.prog 13 #[.int .i64 o.b, .int .i64 l.length] W fun e w' => e = .returned (.int .i64 (pickN o.b l.length)) ∧ w' = W) := fun W => pick_at o.b l.length W ho.b.1 ho.b.2 (by omega) (by omega)
  have hbox : Below w.heap.size w (w.alloc (.cells o.arr 34)) := (Below.refl _ _).alloc (Nat.le_refl _) _
  have hnew := heap_alloc_new w (.cells o.arr 34)
  have hz1 : (w.alloc (.cells o.arr 34)).heap.size = w.heap.size + 1 := by simp
  have hlow := h.fits w.heap.size (Nat.le_refl _)
  have R1 := h.below hbox
  have HO := hide ho
  have hk1 := pickN_lt o.a C.a (by omega)
  have hk2 := pickN_lt o.b l.length (by omega)
  generalize pickN o.a C.a = k1 at *
  generalize pickN o.b l.length = k2 at *
  clear hval ho h
  unfold St.arr at hbox hnew R1 hz1 ⊢
  obtain ⟨ea, ecap, c0, c6, _, c8, _, hcb2, _⟩ := crew_cells R1.ent2
  have HR1 := hide R1
  have HB1 := hide hbox
  have HNW := hide hnew
  clear R1 hbox hnew
  go_enter Try.func9, Try.ntmps9
  go_wp2
  generalize World.alloc w _ = U at *
  have a1 := cell_of (unhide HNW) 1
  have a2 := cell_of (unhide HNW) 2
  simp at a1 a2
  go_quiet ((go_at_call 13; exact Calls.quiet_of_same (unhide HPK _)))
  have R3 := hide ((unhide HR1).below (below_drewN (Below.refl _ U) nq))
  have hB3 := hide (below_drewN (unhide HB1) nq)
  have hz3 : (U.drewN nq).heap.size = U.heap.size := rfl
  have hN3 : Hid ((U.drewN nq).heap[w.heap.size]? = some (.cells #[.int .i64 o.kind, .int .i64 o.a, .int .i64 o.b, .int .i64 o.c, .string o.s, .bool o.lost] 34 (0, 0))) := unhide HNW
  clear a1 a2 c0 c6 c8 HR1 HB1 HNW
  generalize U.drewN nq = W at *
  obtain ⟨ea, ecap, c0, c6, _, c8, _, hcb3, _⟩ := crew_cells (unhide R3).ent2
  have a2 := cell_of (unhide hN3) 2
  simp at a2
  go_wp2
  go_quiet ((go_at_call 13; exact Calls.quiet_of_same (unhide HPP _)))
  have R4 := hide ((unhide R3).below (below_drewN (Below.refl _ W) nq))
  have hB4 := hide ((below_drewN (unhide hB3) nq).mono hN)
  have hz4 : (W.drewN nq).heap.size = W.heap.size := rfl
  have hN4 : Hid ((W.drewN nq).heap[w.heap.size]? = some (.cells #[.int .i64 o.kind, .int .i64 o.a, .int .i64 o.b, .int .i64 o.c, .string o.s, .bool o.lost] 34 (0, 0))) := unhide hN3
  clear a2 c0 c6 c8 R3 hB3 hN3 HPK HPP
  generalize W.drewN nq = V at *
  obtain ⟨ea, ecap, c0, c6, _, c8, _, hcb4, _⟩ := crew_cells (unhide R4).ent2
  have a0 := cell_of (unhide hN4) 0
  have a1 := cell_of (unhide hN4) 1
  have a2 := cell_of (unhide hN4) 2
  have a3 := cell_of (unhide hN4) 3
  have a4 := cell_of (unhide hN4) 4
  have a5 := cell_of (unhide hN4) 5
  simp at a0 a1 a2 a3 a4 a5
  have hNV : N ≤ V.heap.size := by omega
  have R5 := hide ((unhide R4).below (Below.refl _ V).drew)
  have HC := hide (kCommit (unhide R5).grp (unhide R5).fits (unhide R5).inv (unhide R5).wok k1 (by omega) k2 (by omega) o.lost)
  have hzz : Hid (¬ mine ρ w.heap.size ∧ ¬ mine ρ cb) := ⟨fun hm => by have := (unhide R4).low.1 w.heap.size (by unfold mine at hm; omega); unfold mine at hm; have h9 := hlow; omega, fun hm => by unfold mine at hm; rw [(unhide R4).tag] at hm; omega⟩
  have hlw : w.heap.size < V.heap.size := lt_of_heap (unhide hN4)
  clear c0 c8
  go_wp2_with fail
  go_region_held3 (fun w' => w'.cell? ⟨w.heap.size, 5, none⟩ = some (.bool o.lost) ∧ w'.cell? ⟨cb, 6, none⟩ = some (.pointer (some ⟨gb, 0, none⟩))) (first | go_keep | trivial) ((go_at_call 31; refine (unhide HC).mono ?_; rintro e w3 ⟨⟨a, rfl⟩, hp⟩; have hpk := hp.choose_spec.2.2.1; have d5 := (hpk.cell (p := ⟨w.heap.size, 5, none⟩) hlw (unhide hzz).1).trans a5; have d6 := (hpk.cell (p := ⟨cb, 6, none⟩) hcb4 (unhide hzz).2).trans c6))
  go_wp2
  go_ret
  obtain ⟨now', q1, q2, _⟩ := (unhide R5).lease hNV hp
  exact ⟨rfl, ρ, now', l, E, q1, ((unhide hB4).drew).trans q2, Or.inl rfl⟩

set_option maxRecDepth 100000 in
set_option maxHeartbeats 1000000 in
theorem step_11 {B : Bd} {N : Nat} {w : World} {ρ : Nat → Nat} {cb gb : Nat} {C : Cfg} {now : Rest} {l : List Sh} {E : List En} (h : Crew true B N w ρ cb gb C now l E l.length) (hN : N ≤ w.heap.size) (o : St) (ho : o.ok) (d1 : (o.kind == 1) = false) (d2 : (o.kind == 2) = false) (d3 : (o.kind == 3) = false) (d4 : (o.kind == 4) = false) (d5 : (o.kind == 5) = false) (d6 : (o.kind == 6) = false) (d7 : (o.kind == 7) = false) (d8 : (o.kind == 8) = false) (d9 : (o.kind == 9) = false) (d10 : (o.kind == 10) = false) (d11 : (o.kind == 11) = true) :
    Calls Try.prog 9 #[.pointer (some ⟨cb, 0, none⟩), .agg o.arr] w (StepPost B N w cb gb C E) := by
  have hcb := lt_of_heap h.ent2.choose_spec.1
  have hlen := h.inv.len
  have hpos := h.inv.pos
  have hval := h.val
  rw [validB_iff] at hval
  have HPK : Hid (∀ W : World, Calls Try.prog 13 #[.int .i64 o.a, .int .i64 C.a] W fun e w' => e = .returned (.int .i64 (pickN o.a C.a)) ∧ w' = W) := fun W => pick_at o.a C.a W ho.a.1 ho.a.2 (by omega) (by omega)
  have HPP : Hid (∀ W : World, Calls Try.prog 13 #[.int .i64 o.b, .int .i64 l.length] W fun e w' => e = .returned (.int .i64 (pickN o.b l.length)) ∧ w' = W) := fun W => pick_at o.b l.length W ho.b.1 ho.b.2 (by omega) (by omega)
  have hbox : Below w.heap.size w (w.alloc (.cells o.arr 34)) := (Below.refl _ _).alloc (Nat.le_refl _) _
  have hnew := heap_alloc_new w (.cells o.arr 34)
  have hz1 : (w.alloc (.cells o.arr 34)).heap.size = w.heap.size + 1 := by simp
  have R1 := h.below hbox
  have HO := hide ho
  have hk1 := pickN_lt o.a C.a (by omega)
  generalize pickN o.a C.a = k1 at *
  generalize pickN o.b l.length = k2 at *
  clear hval ho h
  unfold St.arr at hbox hnew R1 hz1 ⊢
  obtain ⟨ea, ecap, c0, c6, _, c8, _, hcb2, _⟩ := crew_cells R1.ent2
  have HR1 := hide R1
  have HB1 := hide hbox
  have HNW := hide hnew
  clear R1 hbox hnew
  go_enter Try.func9, Try.ntmps9
  go_wp2
  generalize World.alloc w _ = U at *
  have a1 := cell_of (unhide HNW) 1
  have a2 := cell_of (unhide HNW) 2
  simp at a1 a2
  go_quiet ((go_at_call 13; exact Calls.quiet_of_same (unhide HPK _)))
  have R3 := hide ((unhide HR1).below (below_drewN (Below.refl _ U) nq))
  have hB3 := hide (below_drewN (unhide HB1) nq)
  have hz3 : (U.drewN nq).heap.size = U.heap.size := rfl
  have hN3 : Hid ((U.drewN nq).heap[w.heap.size]? = some (.cells #[.int .i64 o.kind, .int .i64 o.a, .int .i64 o.b, .int .i64 o.c, .string o.s, .bool o.lost] 34 (0, 0))) := unhide HNW
  clear a1 a2 c0 c6 c8 HR1 HB1 HNW
  generalize U.drewN nq = W at *
  obtain ⟨ea, ecap, c0, c6, _, c8, _, hcb3, _⟩ := crew_cells (unhide R3).ent2
  have a2 := cell_of (unhide hN3) 2
  simp at a2
  go_wp2
  go_quiet ((go_at_call 13; exact Calls.quiet_of_same (unhide HPP _)))
  have R4 := hide ((unhide R3).below (below_drewN (Below.refl _ W) nq))
  have hB4 := hide ((below_drewN (unhide hB3) nq).mono hN)
  have hz4 : (W.drewN nq).heap.size = W.heap.size := rfl
  have hN4 : Hid ((W.drewN nq).heap[w.heap.size]? = some (.cells #[.int .i64 o.kind, .int .i64 o.a, .int .i64 o.b, .int .i64 o.c, .string o.s, .bool o.lost] 34 (0, 0))) := unhide hN3
  clear a2 c0 c6 c8 R3 hB3 hN3 HPK HPP
  generalize W.drewN nq = V at *
  obtain ⟨ea, ecap, c0, c6, _, c8, _, hcb4, _⟩ := crew_cells (unhide R4).ent2
  have a0 := cell_of (unhide hN4) 0
  have a1 := cell_of (unhide hN4) 1
  have a2 := cell_of (unhide hN4) 2
  have a3 := cell_of (unhide hN4) 3
  have a4 := cell_of (unhide hN4) 4
  have a5 := cell_of (unhide hN4) 5
  simp at a0 a1 a2 a3 a4 a5
  have hNV : N ≤ V.heap.size := by omega
  have HC := hide (works_any (unhide R4) hNV k1 (by omega))
  clear c0 c8
  go_wp2_with (go_at_call 32; refine (unhide HC).mono ?_; rintro e w3 ⟨rfl, now', q1, q2⟩)
  go_ret
  exact ⟨rfl, ρ, now', l, E, q1.next, (unhide hB4).trans q2, Or.inl rfl⟩

set_option maxRecDepth 100000 in
set_option maxHeartbeats 1000000 in
theorem step_12 {B : Bd} {N : Nat} {w : World} {ρ : Nat → Nat} {cb gb : Nat} {C : Cfg} {now : Rest} {l : List Sh} {E : List En} (h : Crew true B N w ρ cb gb C now l E l.length) (hN : N ≤ w.heap.size) (o : St) (ho : o.ok) (d1 : (o.kind == 1) = false) (d2 : (o.kind == 2) = false) (d3 : (o.kind == 3) = false) (d4 : (o.kind == 4) = false) (d5 : (o.kind == 5) = false) (d6 : (o.kind == 6) = false) (d7 : (o.kind == 7) = false) (d8 : (o.kind == 8) = false) (d9 : (o.kind == 9) = false) (d10 : (o.kind == 10) = false) (d11 : (o.kind == 11) = false) :
    Calls Try.prog 9 #[.pointer (some ⟨cb, 0, none⟩), .agg o.arr] w (StepPost B N w cb gb C E) := by
  have hcb := lt_of_heap h.ent2.choose_spec.1
  have hlen := h.inv.len
  have hpos := h.inv.pos
  have hval := h.val
  rw [validB_iff] at hval
  have HPK : Hid (∀ W : World, Calls Try.prog 13 #[.int .i64 o.a, .int .i64 C.a] W fun e w' => e = .returned (.int .i64 (pickN o.a C.a)) ∧ w' = W) := fun W => pick_at o.a C.a W ho.a.1 ho.a.2 (by omega) (by omega)
  have HPP : Hid (∀ W : World, Calls Try.prog 13 #[.int .i64 o.b, .int .i64 l.length] W fun e w' => e = .returned (.int .i64 (pickN o.b l.length)) ∧ w' = W) := fun W => pick_at o.b l.length W ho.b.1 ho.b.2 (by omega) (by omega)
  have hbox : Below w.heap.size w (w.alloc (.cells o.arr 34)) := (Below.refl _ _).alloc (Nat.le_refl _) _
  have hnew := heap_alloc_new w (.cells o.arr 34)
  have hz1 : (w.alloc (.cells o.arr 34)).heap.size = w.heap.size + 1 := by simp
  have R1 := h.below hbox
  have HO := hide ho
  generalize pickN o.a C.a = k1 at *
  generalize pickN o.b l.length = k2 at *
  clear hval ho h
  unfold St.arr at hbox hnew R1 hz1 ⊢
  obtain ⟨ea, ecap, c0, c6, _, c8, _, hcb2, _⟩ := crew_cells R1.ent2
  have HR1 := hide R1
  have HB1 := hide hbox
  have HNW := hide hnew
  clear R1 hbox hnew
  go_enter Try.func9, Try.ntmps9
  go_wp2
  generalize World.alloc w _ = U at *
  have a1 := cell_of (unhide HNW) 1
  have a2 := cell_of (unhide HNW) 2
  simp at a1 a2
  go_quiet ((go_at_call 13; exact Calls.quiet_of_same (unhide HPK _)))
  have R3 := hide ((unhide HR1).below (below_drewN (Below.refl _ U) nq))
  have hB3 := hide (below_drewN (unhide HB1) nq)
  have hz3 : (U.drewN nq).heap.size = U.heap.size := rfl
  have hN3 : Hid ((U.drewN nq).heap[w.heap.size]? = some (.cells #[.int .i64 o.kind, .int .i64 o.a, .int .i64 o.b, .int .i64 o.c, .string o.s, .bool o.lost] 34 (0, 0))) := unhide HNW
  clear a1 a2 c0 c6 c8 HR1 HB1 HNW
  generalize U.drewN nq = W at *
  obtain ⟨ea, ecap, c0, c6, _, c8, _, hcb3, _⟩ := crew_cells (unhide R3).ent2
  have a2 := cell_of (unhide hN3) 2
  simp at a2
  go_wp2
  go_quiet ((go_at_call 13; exact Calls.quiet_of_same (unhide HPP _)))
  have R4 := hide ((unhide R3).below (below_drewN (Below.refl _ W) nq))
  have hB4 := hide ((below_drewN (unhide hB3) nq).mono hN)
  have hz4 : (W.drewN nq).heap.size = W.heap.size := rfl
  have hN4 : Hid ((W.drewN nq).heap[w.heap.size]? = some (.cells #[.int .i64 o.kind, .int .i64 o.a, .int .i64 o.b, .int .i64 o.c, .string o.s, .bool o.lost] 34 (0, 0))) := unhide hN3
  clear a2 c0 c6 c8 R3 hB3 hN3 HPK HPP
  generalize W.drewN nq = V at *
  obtain ⟨ea, ecap, c0, c6, _, c8, _, hcb4, _⟩ := crew_cells (unhide R4).ent2
  have a0 := cell_of (unhide hN4) 0
  have a1 := cell_of (unhide hN4) 1
  have a2 := cell_of (unhide hN4) 2
  have a3 := cell_of (unhide hN4) 3
  have a4 := cell_of (unhide hN4) 4
  have a5 := cell_of (unhide hN4) 5
  simp at a0 a1 a2 a3 a4 a5
  have hNV : N ≤ V.heap.size := by omega
  clear c0 c6 c8
  go_wp2
  go_ret
  exact ⟨rfl, ρ, now, l, E, (unhide R4).next, unhide hB4, Or.inl rfl⟩


theorem step_any {B : Bd} {N : Nat} {w : World} {ρ : Nat → Nat} {cb gb : Nat} {C : Cfg} {now : Rest} {l : List Sh} {E : List En} (h : Crew true B N w ρ cb gb C now l E l.length) (hB : B.n ≤ 9223372036854775807) (hN : N ≤ w.heap.size) (o : St) (ho : o.ok) :
    Calls Try.prog 9 #[.pointer (some ⟨cb, 0, none⟩), .agg o.arr] w (StepPost B N w cb gb C E) := by
  cases d1 : (o.kind == 1)
  rotate_left
  · exact step_1 h hN o ho d1
  cases d2 : (o.kind == 2)
  rotate_left
  · exact step_2 h hN o ho d1 d2
  cases d3 : (o.kind == 3)
  rotate_left
  · exact step_3 h hN o ho d1 d2 d3
  cases d4 : (o.kind == 4)
  rotate_left
  · exact step_4 h hN o ho d1 d2 d3 d4
  cases d5 : (o.kind == 5)
  rotate_left
  · exact step_5 h hN o ho d1 d2 d3 d4 d5
  cases d6 : (o.kind == 6)
  rotate_left
  · exact step_6 h hB hN o ho d1 d2 d3 d4 d5 d6
  cases d7 : (o.kind == 7)
  rotate_left
  · exact step_7 h hB hN o ho d1 d2 d3 d4 d5 d6 d7
  cases d8 : (o.kind == 8)
  rotate_left
  · exact step_8 h hN o ho d1 d2 d3 d4 d5 d6 d7 d8
  cases d9 : (o.kind == 9)
  rotate_left
  · exact step_9 h hN o ho d1 d2 d3 d4 d5 d6 d7 d8 d9
  cases d10 : (o.kind == 10)
  rotate_left
  · exact step_10 h hN o ho d1 d2 d3 d4 d5 d6 d7 d8 d9 d10
  cases d11 : (o.kind == 11)
  · exact step_12 h hN o ho d1 d2 d3 d4 d5 d6 d7 d8 d9 d10 d11
  · exact step_11 h hN o ho d1 d2 d3 d4 d5 d6 d7 d8 d9 d10 d11

end Go.Proofs.Ytpnkmnmchdabkaa
