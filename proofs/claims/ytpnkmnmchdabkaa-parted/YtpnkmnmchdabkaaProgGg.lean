import Derived.Test.YtpnkmnmchdabkaaProgGf
namespace Go.Proofs.Ytpnkmnmchdabkaa
open Go.RowKit
attribute [local go_sem ↓] Go.wp_at_zero Go.wp_at_succ

/-- A store into a block that is new. -/
theorem GSP.setNew {w W : World} {ρ : Nat → Nat} {gb : Nat} {C : Cfg} {now : Rest} {sv : Value} {m : List Cs} {g cap : Nat} {ls : List Le} {P : List Pl} (hW : GSP w ρ gb C now sv m g cap ls P W) (hf : Fits w ρ) {b i : Nat} (hb : w.heap.size ≤ b) (u : Value) : GSP w ρ gb C now sv m g cap ls P (W.setCell ⟨b, i, none⟩ u) := by
  have hz : ρ b = 0 := hf b hb
  have hk : Keeps (fun k => k = b) W (W.setCell ⟨b, i, none⟩ u) := Keeps.setCell (S := fun k => k = b) (Keeps.refl _ W) (by exact Or.inl rfl) _
  have hG : GrpL W ρ gb C (now.up ls P) sv m g cap P := hW.1
  refine ⟨⟨hG.G.keeps hk (fun k e => Or.inl (by subst e; unfold mine; omega)) (fun _ _ => rfl) hG.le, hG.hw, hG.hm, hG.hl, hG.le, fun k hk' => hG.fits k (by simpa [World.setCell] using hk')⟩, ?_⟩
  exact Keeps.setCell hW.2 (Or.inr hb) _
/-- A block of four cells, written over. -/
theorem four_set {V : World} {b : Nat} {u0 u1 u2 u3 : Value} {t : TypeId} (h : V.heap[b]? = some (.cells #[u0, u1, u2, u3] t (0, 0))) (v0 v1 v2 v3 : Value) :
    ((((V.setCell ⟨b, 0, none⟩ v0).setCell ⟨b, 1, none⟩ v1).setCell ⟨b, 2, none⟩ v2).setCell ⟨b, 3, none⟩ v3).heap[b]? = some (.cells #[v0, v1, v2, v3] t (0, 0)) := by
  have M1 := heap_setCell_same (i := 0) h v0
  have M2 := heap_setCell_same (i := 1) M1 v1
  have M3 := heap_setCell_same (i := 2) M2 v2
  have M4 := heap_setCell_same (i := 3) M3 v3
  simpa using M4
theorem four_cells {V : World} {b : Nat} {u0 u1 u2 u3 : Value} {t : TypeId} (h : V.heap[b]? = some (.cells #[u0, u1, u2, u3] t (0, 0))) :
    V.cell? ⟨b, 0, none⟩ = some u0 ∧ V.cell? ⟨b, 1, none⟩ = some u1 ∧ V.cell? ⟨b, 2, none⟩ = some u2 ∧ V.cell? ⟨b, 3, none⟩ = some u3 ∧ V.frozen? ⟨b, 0, none⟩ = false ∧ V.frozen? ⟨b, 1, none⟩ = false ∧ V.frozen? ⟨b, 2, none⟩ = false ∧ V.frozen? ⟨b, 3, none⟩ = false :=
  ⟨cell_of h 0, cell_of h 1, cell_of h 2, cell_of h 3, frozen_of h 0, frozen_of h 1, frozen_of h 2, frozen_of h 3⟩

set_option maxRecDepth 100000 in
set_option maxHeartbeats 2000000 in
theorem findHold_any {w : World} {ρ : Nat → Nat} {gb : Nat} {C : Cfg} {now : Rest} {sv : Value} {m : List Cs} {g cap : Nat} {ls : List Le} {P : List Pl} (h : GS w ρ gb C now sv m g cap ls P) (i : Nat) (hi : i < now.n) (k : Nat) (hk : k < m.length) (p : Pl) (hp : P[i * 16 + k]? = some p) :
    Calls Try.prog 58 #[.pointer (some ⟨gb, 0, none⟩), .int .i64 i, .int .i64 k] w fun e w' => e = .returned (if p.held = true then .tuple #[.pointer (some ⟨g, i * 128, none⟩), .agg #[.int .i64 p.h.sh, .int .i64 p.h.ep, .int .i64 p.h.at_, .int .i64 p.h.bf], .int .i64 0] else .tuple #[.pointer none, .agg #[.int .i64 0, .int .i64 0, .int .i64 0, .int .i64 0], .int .i64 13]) ∧ GSP w ρ gb C now sv m g cap ls P w' := by
  have h0 : 0 < m.length := by omega
  have h16 : m.length ≤ 16 := GrpL.le h
  have k16 : k < 16 := by omega
  have hA := h.alloc (.cells #[.int .i64 0, .int .i64 0, .int .i64 0, .int .i64 0] 75)
  have HK := hide (hasWorker_any hA.1 i)
  rw [show decide (0 ≤ (i : Int) ∧ (i : Int) < now.n) = true by simp; omega] at HK
  have HL := hide (gHas_any hA.1 h0 k)
  rw [show decide (0 ≤ (k : Int) ∧ (k : Int) < m.length) = true by simp; omega] at HL
  have c88 : (w.alloc (.cells #[.int .i64 0, .int .i64 0, .int .i64 0, .int .i64 0] 75)).cell? ⟨gb, 88, none⟩ = some (.slice (some ⟨g, 0, none⟩) now.n cap) := hA.1.wcell
  have H1 : Hid (Calls Try.prog 55 #[.pointer (some ⟨g, i * 128, none⟩), .int .i64 k] (w.alloc (.cells #[.int .i64 0, .int .i64 0, .int .i64 0, .int .i64 0] 75)) fun e w' => e = .returned (.tuple #[if p.held = true then .agg #[.int .i64 p.h.sh, .int .i64 p.h.ep, .int .i64 p.h.at_, .int .i64 p.h.bf] else .agg #[.int .i64 0, .int .i64 0, .int .i64 0, .int .i64 0], .bool p.held]) ∧ GSP (w.alloc (.cells #[.int .i64 0, .int .i64 0, .int .i64 0, .int .i64 0] 75)) ρ gb C now sv m g cap ls P w') := gHold_any (now := now.up ls P) hA.1 i k k16 p hp
  have N0 := heap_alloc_new w (.cells #[.int .i64 0, .int .i64 0, .int .i64 0, .int .i64 0] 75)
  have HA := hide hA
  have HN := hide N0
  have HFit := hide h.fits
  have hz : Hid (¬ mine ρ w.heap.size) := fun hm => by have := h.fits _ (Nat.le_refl _); unfold mine at hm; omega
  clear h hp hA N0
  cases hh : p.held
  · rw [hh] at H1
    simp only [Bool.false_eq_true, if_false] at H1 ⊢
    go_enter Try.func58, Try.ntmps58
    go_wp2_with (first | (go_at_call 48; refine (unhide HK).mono ?_; rintro e w1 ⟨rfl, rfl⟩) | (go_at_call 54; refine (unhide HL).mono ?_; rintro e w1 ⟨rfl, rfl⟩))
    generalize w.alloc (.cells #[.int .i64 0, .int .i64 0, .int .i64 0, .int .i64 0] 75) = W at *
    refine (unhide H1).mono ?_
    rintro e w1 ⟨rfl, q1⟩
    have hN1 := (q1.2.block _ (lt_of_heap (unhide HN)) (unhide hz)).trans (unhide HN)
    have hN2 := (Below.heap_alloc w1 (.cells #[.int .i64 0, .int .i64 0, .int .i64 0, .int .i64 0] 75) _ (lt_of_heap hN1)).trans hN1
    have hH := heap_alloc_new w1 (.cells #[.int .i64 0, .int .i64 0, .int .i64 0, .int .i64 0] 75)
    have Q1 := hide (((unhide HA).trans q1).alloc (w1 := w1) (.cells #[.int .i64 0, .int .i64 0, .int .i64 0, .int .i64 0] 75))
    have hlt1 := hide (lt_of_heap hN1)
    clear q1 hN1
    obtain ⟨r0, r1, r2, r3, f0, f1, f2, f3⟩ := four_cells hN2
    obtain ⟨t0, t1, t2, t3, _⟩ := four_cells hH
    have HN2 := hide hN2
    clear hN2 hH
    go_wp2
    have M := four_set (unhide HN2) (.int .i64 0) (.int .i64 0) (.int .i64 0) (.int .i64 0)
    have HQ := hide ((((( unhide Q1).setNew (unhide HFit) (b := w.heap.size) (i := 0) (Nat.le_refl _) (.int .i64 0)).setNew (unhide HFit) (b := w.heap.size) (i := 1) (Nat.le_refl _) (.int .i64 0)).setNew (unhide HFit) (b := w.heap.size) (i := 2) (Nat.le_refl _) (.int .i64 0)).setNew (unhide HFit) (b := w.heap.size) (i := 3) (Nat.le_refl _) (.int .i64 0))
    generalize ((((w1.alloc (.cells #[.int .i64 0, .int .i64 0, .int .i64 0, .int .i64 0] 75)).setCell ⟨w.heap.size, 0, none⟩ (.int .i64 0)).setCell ⟨w.heap.size, 1, none⟩ (.int .i64 0)).setCell ⟨w.heap.size, 2, none⟩ (.int .i64 0)).setCell ⟨w.heap.size, 3, none⟩ (.int .i64 0) = U at *
    obtain ⟨m0, m1, m2, m3, _⟩ := four_cells M
    refine bodyPost_ret (v := .tuple #[.pointer none, .agg #[.int .i64 0, .int .i64 0, .int .i64 0, .int .i64 0], .int .i64 13]) ?_ rfl ⟨rfl, unhide HQ⟩
    simp [results, Try.results58, go_sem, m0, m1, m2, m3]
  · rw [hh] at H1
    simp only [if_true] at H1 ⊢
    go_enter Try.func58, Try.ntmps58
    go_wp2_with (first | (go_at_call 48; refine (unhide HK).mono ?_; rintro e w1 ⟨rfl, rfl⟩) | (go_at_call 54; refine (unhide HL).mono ?_; rintro e w1 ⟨rfl, rfl⟩))
    generalize w.alloc (.cells #[.int .i64 0, .int .i64 0, .int .i64 0, .int .i64 0] 75) = W at *
    refine (unhide H1).mono ?_
    rintro e w1 ⟨rfl, q1⟩
    have hN1 := (q1.2.block _ (lt_of_heap (unhide HN)) (unhide hz)).trans (unhide HN)
    have hN2 := (Below.heap_alloc w1 (.cells #[.int .i64 p.h.sh, .int .i64 p.h.ep, .int .i64 p.h.at_, .int .i64 p.h.bf] 75) _ (lt_of_heap hN1)).trans hN1
    have hH := heap_alloc_new w1 (.cells #[.int .i64 p.h.sh, .int .i64 p.h.ep, .int .i64 p.h.at_, .int .i64 p.h.bf] 75)
    have Q1 := hide (((unhide HA).trans q1).alloc (w1 := w1) (.cells #[.int .i64 p.h.sh, .int .i64 p.h.ep, .int .i64 p.h.at_, .int .i64 p.h.bf] 75))
    have hlt1 := hide (lt_of_heap hN1)
    clear q1 hN1
    obtain ⟨r0, r1, r2, r3, f0, f1, f2, f3⟩ := four_cells hN2
    obtain ⟨t0, t1, t2, t3, _⟩ := four_cells hH
    have HN2 := hide hN2
    clear hN2 hH
    go_wp2_with fail
    have hne : w.heap.size ≠ w1.heap.size := by have := unhide hlt1; omega
    generalize w1.alloc (.cells #[.int .i64 p.h.sh, .int .i64 p.h.ep, .int .i64 p.h.at_, .int .i64 p.h.bf] 75) = V at *
    go_region_held3 (fun w' => w'.cell? ⟨w1.heap.size, 0, none⟩ = some (.int .i64 p.h.sh) ∧ w'.cell? ⟨w1.heap.size, 1, none⟩ = some (.int .i64 p.h.ep) ∧ w'.cell? ⟨w1.heap.size, 2, none⟩ = some (.int .i64 p.h.at_) ∧ w'.cell? ⟨w1.heap.size, 3, none⟩ = some (.int .i64 p.h.bf)) (first | go_keep | trivial) (fail)
    go_wp2
    have M := four_set (unhide HN2) (.int .i64 p.h.sh) (.int .i64 p.h.ep) (.int .i64 p.h.at_) (.int .i64 p.h.bf)
    have HQ := hide (((((unhide Q1).setNew (unhide HFit) (b := w.heap.size) (i := 0) (Nat.le_refl _) (.int .i64 p.h.sh)).setNew (unhide HFit) (b := w.heap.size) (i := 1) (Nat.le_refl _) (.int .i64 p.h.ep)).setNew (unhide HFit) (b := w.heap.size) (i := 2) (Nat.le_refl _) (.int .i64 p.h.at_)).setNew (unhide HFit) (b := w.heap.size) (i := 3) (Nat.le_refl _) (.int .i64 p.h.bf))
    generalize (((V.setCell ⟨w.heap.size, 0, none⟩ (.int .i64 p.h.sh)).setCell ⟨w.heap.size, 1, none⟩ (.int .i64 p.h.ep)).setCell ⟨w.heap.size, 2, none⟩ (.int .i64 p.h.at_)).setCell ⟨w.heap.size, 3, none⟩ (.int .i64 p.h.bf) = U at *
    obtain ⟨m0, m1, m2, m3, _⟩ := four_cells (V := U.drew) M
    refine bodyPost_ret (v := .tuple #[.pointer (some ⟨g, i * 128, none⟩), .agg #[.int .i64 p.h.sh, .int .i64 p.h.ep, .int .i64 p.h.at_, .int .i64 p.h.bf], .int .i64 0]) ?_ rfl ⟨rfl, (unhide HQ).trans ((unhide HQ).1.below (Below.refl _ _).drew)⟩
    simp [results, Try.results58, go_sem, m0, m1, m2, m3]


end Go.Proofs.Ytpnkmnmchdabkaa
