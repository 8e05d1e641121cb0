import Derived.Test.YtpnkmnmchdabkaaGreatM17
namespace Go.Proofs.YtpnkmnmchdabkaaGreat
open Go.RowKit
attribute [local go_sem ↓] Go.wp_at_zero Go.wp_at_succ

/-- A list that came out and that the caller wrote over: where it lies, and with which mark. -/
structure Ke where
  a : Option Addr
  n : Nat
  cap : Nat
  m : Int
def entV (x : Ke) : Value := .slice x.a x.n x.cap
def entM (x : Ke) : Value := .int .i64 x.m

/-- It holds what the caller wrote. -/
def HoldsAll (w : World) (size : Nat) (pat : Int → List Value) (x : Ke) : Prop := ∀ k, k < x.n → ∃ b, x.a = some ⟨b, 0, none⟩ ∧ b < w.heap.size ∧ ∀ j u, (pat x.m)[j]? = some u → w.cell? ⟨b, k * size + j, none⟩ = some u

/-- The rows of such lists, and of their marks. -/
structure KRows (w : World) (te : TypeId) (size : Nat) (pat : Int → List Value) (v mv : Value) (L : List Ke) : Prop where
  row : w.ownsRow 0 te 1 v L.length (L.map entV)
  ms : w.ownsRow 0 3 1 mv L.length (L.map entM)
  all : ∀ x ∈ L, HoldsAll w size pat x ∧ x.n ≤ 1000000000
  len : L.length ≤ 1000000000

theorem row_at {w : World} {te : TypeId} {v : Value} {n : Nat} {xs : List Value} (h : w.ownsRow 0 te 1 v n xs) (i : Nat) (u : Value) (hi : xs[i]? = some u) : ∃ g cap, v = .slice (some ⟨g, 0, none⟩) n cap ∧ g < w.heap.size ∧ w.cell? ⟨g, i, none⟩ = some u := by
  have hlt := (List.getElem?_eq_some_iff.1 hi).1
  have h1 := h.1
  obtain ⟨g, cap, cur, hv, _, hg, _, _, _, ht⟩ := ownsRow_shape h (by omega)
  refine ⟨g, cap, hv, lt_of_heap hg, ?_⟩
  have := h.cells (g := g) (by rw [hv]; rfl) i u hi
  rwa [show (⟨g, 0, none⟩ : Addr).add i = ⟨g, i, none⟩ by unfold Addr.add; split <;> simp_all] at this

theorem KRows.at {w : World} {te : TypeId} {size : Nat} {pat : Int → List Value} {v mv : Value} {L : List Ke} (h : KRows w te size pat v mv L) (i : Nat) (x : Ke) (hi : L[i]? = some x) :
    ∃ g c g' c', v = .slice (some ⟨g, 0, none⟩) L.length c ∧ g < w.heap.size ∧ w.cell? ⟨g, i, none⟩ = some (.slice x.a x.n x.cap) ∧ mv = .slice (some ⟨g', 0, none⟩) L.length c' ∧ g' < w.heap.size ∧ w.cell? ⟨g', i, none⟩ = some (.int .i64 x.m) ∧ HoldsAll w size pat x ∧ x.n ≤ 1000000000 := by
  obtain ⟨g, c, e1, e2, e3⟩ := row_at h.row i (entV x) (by simp [hi])
  obtain ⟨g', c', e4, e5, e6⟩ := row_at h.ms i (entM x) (by simp [hi])
  have hx := h.all x (List.mem_of_getElem? hi)
  exact ⟨g, c, g', c', e1, e2, e3, e4, e5, e6, hx.1, hx.2⟩

def patI (m : Int) : List Value := [.int .i64 m]
def patS (m : Int) : List Value := [.int .i64 m, .int .i64 0, .bool false, .slice none 0 0, .int .i64 0]
def patH (m : Int) : List Value := [.int .i64 m, .int .i64 0, .int .i64 0, .int .i64 0]

set_option maxRecDepth 100000 in
set_option maxHeartbeats 4000000 in
theorem kept_any {w : World} {wb : Nat} {sv iv hv m1 m2 m3 : Value} {Ls Li Lh : List Ke} (hwb : wb < w.heap.size) (hS : KRows w 98 5 patS sv m2 Ls) (hI : KRows w 34 1 patI iv m1 Li) (hH : KRows w 81 4 patH hv m3 Lh)
    (c1 : w.cell? ⟨wb, 1, none⟩ = some sv) (c2 : w.cell? ⟨wb, 2, none⟩ = some iv) (c3 : w.cell? ⟨wb, 3, none⟩ = some hv) (c4 : w.cell? ⟨wb, 4, none⟩ = some m1) (c5 : w.cell? ⟨wb, 5, none⟩ = some m2) (c6 : w.cell? ⟨wb, 6, none⟩ = some m3) :
    Calls Tryz.prog 11 #[.pointer (some ⟨wb, 0, none⟩)] w fun e w' => e = .returned (.bool true) ∧ Below w.heap.size w w' := by
  obtain ⟨ia, ic, rfl⟩ := ownsRow_len hI.row
  obtain ⟨sa, sc, rfl⟩ := ownsRow_len hS.row
  obtain ⟨ha, hc, rfl⟩ := ownsRow_len hH.row
  obtain ⟨ia', ic', rfl⟩ := ownsRow_len hI.ms
  obtain ⟨sa', sc', rfl⟩ := ownsRow_len hS.ms
  obtain ⟨ha', hc', rfl⟩ := ownsRow_len hH.ms
  have hlI := hI.len
  have hlS := hS.len
  have hlH := hH.len
  have HI := hide hI
  have HS := hide hS
  have HH := hide hH
  clear hI hS hH
  go_enter Tryz.func11, Tryz.ntmps11
  go_wp2
  go_loopw [3] (fun i wr => ∃ j : Nat, j ≤ Li.length ∧ i = .int .i64 j ∧ Below w.heap.size w wr) (fun i _ => Li.length - (intOf i).toNat)
  case atStart => exact ⟨0, Nat.zero_le _, rfl, Below.refl _ _⟩
  case round =>
    obtain ⟨j, hj, rfl, hB⟩ := hrel
    have k2 := (hB.cell (p := ⟨wb, 2, none⟩) hwb).trans c2
    have HB := hide hB
    clear hB
    by_cases hlt : j < Li.length
    · obtain ⟨x, hx⟩ : ∃ x, Li[j]? = some x := ⟨Li[j], List.getElem?_eq_getElem hlt⟩
      obtain ⟨g, cc, g', cc', e1, hg, hc1, e2, hg', hc2, hall, hxn⟩ := (unhide HI).at j x hx
      injection e1 with e1 e1'
      injection e2 with e2 e2'
      subst e1 e2
      have HX := hide hall
      clear hall hx e1' e2'
      go_wp2
      go_loopw [4] (fun i wq => ∃ t : Nat, t ≤ x.n ∧ i = .int .i64 t ∧ Below w.heap.size w wq) (fun i _ => x.n - (intOf i).toNat)
      case atStart => exact ⟨0, Nat.zero_le _, rfl, unhide HB⟩
      case round =>
        obtain ⟨t, ht, rfl, hBq⟩ := hrel
        have q2 := (hBq.cell (p := ⟨wb, 2, none⟩) hwb).trans c2
        have q4 := (hBq.cell (p := ⟨wb, 4, none⟩) hwb).trans c4
        have qg := (hBq.cell (p := ⟨g, j, none⟩) hg).trans hc1
        have qm := (hBq.cell (p := ⟨g', j, none⟩) hg').trans hc2
        by_cases hlt2 : t < x.n
        · obtain ⟨b, hb1, hb2, hb3⟩ := unhide HX t hlt2
          have qb := (hBq.cell (p := ⟨b, t, none⟩) hb2).trans (by simpa using hb3 0 (.int .i64 x.m) rfl)
          rw [hb1] at qg
          have HQ := hide hBq
          clear hb3 hBq k2 hb1
          go_wp2
          go_quiet (fail)
          go_wp2
          go_roundw
          case rel => exact ⟨t + 1, by omega, by go_num, (unhide HQ).trans ⟨rfl, rfl, rfl, Nat.le_refl _, fun _ _ => rfl⟩⟩
          case measure => simp [intOf]; omega
        · have HQ := hide hBq
          clear hBq k2
          go_wp2
          go_roundw
          case rel => exact ⟨j + 1, by omega, by go_num, unhide HQ⟩
          case measure => simp [intOf]; omega
    · go_wp2
      clear k2
      go_loopw [5] (fun i wr => ∃ j : Nat, j ≤ Ls.length ∧ i = .int .i64 j ∧ Below w.heap.size w wr) (fun i _ => Ls.length - (intOf i).toNat)
      case atStart => exact ⟨0, Nat.zero_le _, rfl, unhide HB⟩
      case round =>
        obtain ⟨j, hj, rfl, hB⟩ := hrel
        have k2 := (hB.cell (p := ⟨wb, 1, none⟩) hwb).trans c1
        clear HB
        have HB := hide hB
        clear hB
        by_cases hlt : j < Ls.length
        · obtain ⟨x, hx⟩ : ∃ x, Ls[j]? = some x := ⟨Ls[j], List.getElem?_eq_getElem hlt⟩
          obtain ⟨g, cc, g', cc', e1, hg, hc1, e2, hg', hc2, hall, hxn⟩ := (unhide HS).at j x hx
          injection e1 with e1 e1'
          injection e2 with e2 e2'
          subst e1 e2
          have HX := hide hall
          clear hall hx e1' e2'
          go_wp2
          go_loopw [6] (fun i wq => ∃ t : Nat, t ≤ x.n ∧ i = .int .i64 t ∧ Below w.heap.size w wq) (fun i _ => x.n - (intOf i).toNat)
          case atStart => exact ⟨0, Nat.zero_le _, rfl, unhide HB⟩
          case round =>
            obtain ⟨t, ht, rfl, hBq⟩ := hrel
            have q2 := (hBq.cell (p := ⟨wb, 1, none⟩) hwb).trans c1
            have q4 := (hBq.cell (p := ⟨wb, 5, none⟩) hwb).trans c5
            have qg := (hBq.cell (p := ⟨g, j, none⟩) hg).trans hc1
            have qm := (hBq.cell (p := ⟨g', j, none⟩) hg').trans hc2
            by_cases hlt2 : t < x.n
            · obtain ⟨b, hb1, hb2, hb3⟩ := unhide HX t hlt2
              have qb0 := (hBq.cell (p := ⟨b, t * 5, none⟩) hb2).trans (by simpa using hb3 0 (.int .i64 x.m) rfl)
              have qb1 := (hBq.cell (p := ⟨b, t * 5 + 1, none⟩) hb2).trans (hb3 1 (.int .i64 0) rfl)
              have qb2 := (hBq.cell (p := ⟨b, t * 5 + 2, none⟩) hb2).trans (hb3 2 (.bool false) rfl)
              have qb3 := (hBq.cell (p := ⟨b, t * 5 + 3, none⟩) hb2).trans (hb3 3 (.slice none 0 0) rfl)
              have qb4 := (hBq.cell (p := ⟨b, t * 5 + 4, none⟩) hb2).trans (hb3 4 (.int .i64 0) rfl)
              rw [hb1] at qg
              have hwl := hBq.size
              have n1 : wb < wr.heap.size := by omega
              have n2 : g' < wr.heap.size := by omega
              have HQ := hide hBq
              clear hb3 hBq k2 hb1
              go_wp2
              have hnew := heap_alloc_new wr (.cells #[.int .i64 x.m, .int .i64 0, .bool false, .slice none 0 0, .int .i64 0] 100)
              have HZ : Hid (Below w.heap.size w (wr.alloc (.cells #[.int .i64 x.m, .int .i64 0, .bool false, .slice none 0 0, .int .i64 0] 100))) := (unhide HQ).alloc hwl _
              have z5 : (wr.alloc (.cells #[.int .i64 x.m, .int .i64 0, .bool false, .slice none 0 0, .int .i64 0] 100)).cell? ⟨wb, 5, none⟩ = _ := (World.cell?_of_block (w := wr) (Below.heap_alloc _ _ _ n1)).trans q4
              have zm : (wr.alloc (.cells #[.int .i64 x.m, .int .i64 0, .bool false, .slice none 0 0, .int .i64 0] 100)).cell? ⟨g', j, none⟩ = _ := (World.cell?_of_block (w := wr) (Below.heap_alloc _ _ _ n2)).trans qm
              generalize wr.alloc (.cells #[.int .i64 x.m, .int .i64 0, .bool false, .slice none 0 0, .int .i64 0] 100) = Z at *
              have z0 := cell_of hnew 0
              have z1 := cell_of hnew 1
              have z2 := cell_of hnew 2
              have z3 := cell_of hnew 3
              have z4 := cell_of hnew 4
              simp at z0 z1 z2 z3 z4
              generalize wr.heap.size = nb at *
              clear hnew q2 q4 qg qm qb0 qb1 qb2 qb3 qb4 HQ
              go_quiet (fail)
              go_wp2
              go_roundw
              case rel => exact ⟨t + 1, by omega, by go_num, (unhide HZ).trans ⟨rfl, rfl, rfl, Nat.le_refl _, fun _ _ => rfl⟩⟩
              case measure => simp [intOf]; omega
            · have HQ := hide hBq
              clear hBq k2
              go_wp2
              go_roundw
              case rel => exact ⟨j + 1, by omega, by go_num, unhide HQ⟩
              case measure => simp [intOf]; omega
        · go_wp2
          clear k2
          go_loopw [8] (fun i wr => ∃ j : Nat, j ≤ Lh.length ∧ i = .int .i64 j ∧ Below w.heap.size w wr) (fun i _ => Lh.length - (intOf i).toNat)
          case atStart => exact ⟨0, Nat.zero_le _, rfl, unhide HB⟩
          case round =>
            obtain ⟨j, hj, rfl, hB⟩ := hrel
            have k2 := (hB.cell (p := ⟨wb, 3, none⟩) hwb).trans c3
            clear HB
            have HB := hide hB
            clear hB
            by_cases hlt : j < Lh.length
            · obtain ⟨x, hx⟩ : ∃ x, Lh[j]? = some x := ⟨Lh[j], List.getElem?_eq_getElem hlt⟩
              obtain ⟨g, cc, g', cc', e1, hg, hc1, e2, hg', hc2, hall, hxn⟩ := (unhide HH).at j x hx
              injection e1 with e1 e1'
              injection e2 with e2 e2'
              subst e1 e2
              have HX := hide hall
              clear hall hx e1' e2'
              go_wp2
              go_loopw [9] (fun i wq => ∃ t : Nat, t ≤ x.n ∧ i = .int .i64 t ∧ Below w.heap.size w wq) (fun i _ => x.n - (intOf i).toNat)
              case atStart => exact ⟨0, Nat.zero_le _, rfl, unhide HB⟩
              case round =>
                obtain ⟨t, ht, rfl, hBq⟩ := hrel
                have q2 := (hBq.cell (p := ⟨wb, 3, none⟩) hwb).trans c3
                have q4 := (hBq.cell (p := ⟨wb, 6, none⟩) hwb).trans c6
                have qg := (hBq.cell (p := ⟨g, j, none⟩) hg).trans hc1
                have qm := (hBq.cell (p := ⟨g', j, none⟩) hg').trans hc2
                by_cases hlt2 : t < x.n
                · obtain ⟨b, hb1, hb2, hb3⟩ := unhide HX t hlt2
                  have qb0 := (hBq.cell (p := ⟨b, t * 4, none⟩) hb2).trans (by simpa using hb3 0 (.int .i64 x.m) rfl)
                  have qb1 := (hBq.cell (p := ⟨b, t * 4 + 1, none⟩) hb2).trans (hb3 1 (.int .i64 0) rfl)
                  have qb2 := (hBq.cell (p := ⟨b, t * 4 + 2, none⟩) hb2).trans (hb3 2 (.int .i64 0) rfl)
                  have qb3 := (hBq.cell (p := ⟨b, t * 4 + 3, none⟩) hb2).trans (hb3 3 (.int .i64 0) rfl)
                  rw [hb1] at qg
                  have hwl := hBq.size
                  have n1 : wb < wr.heap.size := by omega
                  have n2 : g' < wr.heap.size := by omega
                  have HQ := hide hBq
                  clear hb3 hBq k2 hb1
                  go_wp2
                  have hnew := heap_alloc_new wr (.cells #[.int .i64 x.m, .int .i64 0, .int .i64 0, .int .i64 0] 102)
                  have HZ : Hid (Below w.heap.size w (wr.alloc (.cells #[.int .i64 x.m, .int .i64 0, .int .i64 0, .int .i64 0] 102))) := (unhide HQ).alloc hwl _
                  have z5 : (wr.alloc (.cells #[.int .i64 x.m, .int .i64 0, .int .i64 0, .int .i64 0] 102)).cell? ⟨wb, 6, none⟩ = _ := (World.cell?_of_block (w := wr) (Below.heap_alloc _ _ _ n1)).trans q4
                  have zm : (wr.alloc (.cells #[.int .i64 x.m, .int .i64 0, .int .i64 0, .int .i64 0] 102)).cell? ⟨g', j, none⟩ = _ := (World.cell?_of_block (w := wr) (Below.heap_alloc _ _ _ n2)).trans qm
                  generalize wr.alloc (.cells #[.int .i64 x.m, .int .i64 0, .int .i64 0, .int .i64 0] 102) = Z at *
                  have z0 := cell_of hnew 0
                  have z1 := cell_of hnew 1
                  have z2 := cell_of hnew 2
                  have z3 := cell_of hnew 3
                  simp at z0 z1 z2 z3
                  generalize wr.heap.size = nb at *
                  clear hnew q2 q4 qg qm qb0 qb1 qb2 qb3 HQ
                  go_quiet (fail)
                  go_wp2
                  go_roundw
                  case rel => exact ⟨t + 1, by omega, by go_num, (unhide HZ).trans ⟨rfl, rfl, rfl, Nat.le_refl _, fun _ _ => rfl⟩⟩
                  case measure => simp [intOf]; omega
                · have HQ := hide hBq
                  clear hBq k2
                  go_wp2
                  go_roundw
                  case rel => exact ⟨j + 1, by omega, by go_num, unhide HQ⟩
                  case measure => simp [intOf]; omega
            · go_wp2
              go_ret
              exact ⟨rfl, unhide HB⟩

end Go.Proofs.YtpnkmnmchdabkaaGreat
