import Derived.Test.YtpnkmnmchdabkaaProgGh
namespace Go.Proofs.Ytpnkmnmchdabkaa
open Go.RowKit
attribute [local go_sem ↓] Go.wp_at_zero Go.wp_at_succ

/-- The row of a shard's records, as a walk wants it. -/
theorem LogAt.recAt {w : World} {ρ : Nat → Nat} {sv : Value} {m : List Cs} (h : LogAt w ρ sv m) {k : Nat} {s : Cs} (hk : m[k]? = some s) {p : Nat} {r : Rc} (hp : s.s.rl[p]? = some r) :
    ∃ rb rc, s.rv = .slice (some ⟨rb, 0, none⟩) s.s.cnt rc ∧ rb < w.heap.size ∧ ∀ j, j < 10 → w.cell? ⟨rb, p * 10 + j, none⟩ = (rcCells r)[j]? := by
  have hlt := (List.getElem?_eq_some_iff.1 hp).1
  have hc : s.s.cnt = s.s.rl.length := rfl
  have hrow := h.rcv k s hk
  obtain ⟨rb, rc, cur, hv, _, hg, _⟩ := ownsRow_shape hrow (by omega)
  rw [hv] at hrow
  refine ⟨rb, rc, hv, lt_of_heap hg, fun j hj => ?_⟩
  rw [World.ownsRow.cellAt hrow (p * 10 + j) (by omega), rcRow_get _ p j hj r hp]

set_option maxRecDepth 100000 in
set_option maxHeartbeats 2000000 in
theorem gRecord_any {w : World} {ρ : Nat → Nat} {gb : Nat} {C : Cfg} {now : Rest} {sv : Value} {m : List Cs} {g cap : Nat} {ls : List Le} {P : List Pl} (h : GS w ρ gb C now sv m g cap ls P) (k : Nat) (s : Cs) (hk : m[k]? = some s) (p : Nat) (r : Rc) (hp : s.s.rl[p]? = some r) :
    Calls Try.prog 112 #[.pointer (some ⟨gb, 7, none⟩), .int .i64 k, .int .i64 p] w fun e w' => e = .returned (.agg (recArr r.kb r.v r.t)) ∧ Below w.heap.size w w' := by
  have hG : GrpL w ρ gb C (now.up ls P) sv m g cap P := h
  have hkl := (List.getElem?_eq_some_iff.1 hk).1
  have hpl : p < s.s.cnt := (List.getElem?_eq_some_iff.1 hp).1
  have HC : Hid (∀ W, Below w.heap.size w W → Calls Try.prog 59 #[.pointer (some ⟨gb, 7, none⟩), .int .i64 k] W fun e w' => e = .returned (.int .i64 s.s.cnt) ∧ W = w') := fun W hb => gCount_any (h.below hb).1 k s hk
  obtain ⟨bs, cp, hsv, hbs, hbsl, hcap, hcm, ff, cc⟩ := hG.G.log.shape (by omega)
  obtain ⟨a0, a1, a2, a3, a4⟩ := cc k s hk
  obtain ⟨rb, rc, hrv, hrb, hcell⟩ := hG.G.log.recAt hk hp
  have c7 := hG.tcell.2.1
  have hgb := lt_of_heap hG.G.blk
  rw [hrv] at a4
  rw [hsv] at c7
  have x0 : w.cell? ⟨rb, p * 10, none⟩ = some (.int .u8 (byteAt r.kb 0)) := hcell 0 (by omega)
  have x1 : w.cell? ⟨rb, p * 10 + 1, none⟩ = some (.int .u8 (byteAt r.kb 1)) := hcell 1 (by omega)
  have x2 : w.cell? ⟨rb, p * 10 + 2, none⟩ = some (.int .u8 (byteAt r.kb 2)) := hcell 2 (by omega)
  have x3 : w.cell? ⟨rb, p * 10 + 3, none⟩ = some (.int .u8 (byteAt r.kb 3)) := hcell 3 (by omega)
  have x4 : w.cell? ⟨rb, p * 10 + 4, none⟩ = some (.int .u8 (byteAt r.kb 4)) := hcell 4 (by omega)
  have x5 : w.cell? ⟨rb, p * 10 + 5, none⟩ = some (.int .u8 (byteAt r.kb 5)) := hcell 5 (by omega)
  have x6 : w.cell? ⟨rb, p * 10 + 6, none⟩ = some (.int .u8 (byteAt r.kb 6)) := hcell 6 (by omega)
  have x7 : w.cell? ⟨rb, p * 10 + 7, none⟩ = some (.int .u8 (byteAt r.kb 7)) := hcell 7 (by omega)
  have x8 : w.cell? ⟨rb, p * 10 + 8, none⟩ = some (.int .i64 r.v) := hcell 8 (by omega)
  have x9 : w.cell? ⟨rb, p * 10 + 9, none⟩ = some (.int .i64 r.t) := hcell 9 (by omega)
  clear h hG cc ff hcell a0 a1 a2 a3 hk hp hsv hrv
  go_enter Try.func112, Try.ntmps112
  go_wp2_with fail
  have N0 := heap_alloc_new w (.cells #[.int .u8 0, .int .u8 0, .int .u8 0, .int .u8 0, .int .u8 0, .int .u8 0, .int .u8 0, .int .u8 0, .int .i64 0, .int .i64 0] 145)
  have B0 := (Below.refl w.heap.size w).alloc (Nat.le_refl _) (.cells #[.int .u8 0, .int .u8 0, .int .u8 0, .int .u8 0, .int .u8 0, .int .u8 0, .int .u8 0, .int .u8 0, .int .i64 0, .int .i64 0] 145)
  generalize w.alloc (.cells #[.int .u8 0, .int .u8 0, .int .u8 0, .int .u8 0, .int .u8 0, .int .u8 0, .int .u8 0, .int .u8 0, .int .i64 0, .int .i64 0] 145) = W at *
  refine (unhide HC _ B0).mono ?_
  rintro e w1 ⟨rfl, rfl⟩
  have c7' := (B0.cell (p := ⟨gb, 7, none⟩) hgb).trans c7
  have a4' := (B0.cell (p := ⟨bs, k * 5 + 4, none⟩) hbsl).trans a4
  have y0 := (B0.cell (p := ⟨rb, p * 10, none⟩) hrb).trans x0
  have y1 := (B0.cell (p := ⟨rb, p * 10 + 1, none⟩) hrb).trans x1
  have y2 := (B0.cell (p := ⟨rb, p * 10 + 2, none⟩) hrb).trans x2
  have y3 := (B0.cell (p := ⟨rb, p * 10 + 3, none⟩) hrb).trans x3
  have y4 := (B0.cell (p := ⟨rb, p * 10 + 4, none⟩) hrb).trans x4
  have y5 := (B0.cell (p := ⟨rb, p * 10 + 5, none⟩) hrb).trans x5
  have y6 := (B0.cell (p := ⟨rb, p * 10 + 6, none⟩) hrb).trans x6
  have y7 := (B0.cell (p := ⟨rb, p * 10 + 7, none⟩) hrb).trans x7
  have y8 := (B0.cell (p := ⟨rb, p * 10 + 8, none⟩) hrb).trans x8
  have y9 := (B0.cell (p := ⟨rb, p * 10 + 9, none⟩) hrb).trans x9
  obtain ⟨z0, z1, z2, z3, z4, z5, z6, z7, z8, z9⟩ := load10 N0
  have fz := fun j => frozen_of N0 j
  have f0 := fz 0
  have f1 := fz 1
  have f2 := fz 2
  have f3 := fz 3
  have f4 := fz 4
  have f5 := fz 5
  have f6 := fz 6
  have f7 := fz 7
  have f8 := fz 8
  have f9 := fz 9
  have q1 : ¬ ((p : Int) < 0) := by omega
  have q2 : (p : Int) < (s.s.cnt : Int) := by omega
  have q3 : (k : Int) < (m.length : Int) := by omega
  have HN0 := hide N0
  have HB0 := hide B0
  clear N0 B0 HC x0 x1 x2 x3 x4 x5 x6 x7 x8 x9 c7 a4 fz
  go_wp2
  have M := set10_heap (unhide HN0) (.int .u8 (byteAt r.kb 0)) (.int .u8 (byteAt r.kb 1)) (.int .u8 (byteAt r.kb 2)) (.int .u8 (byteAt r.kb 3)) (.int .u8 (byteAt r.kb 4)) (.int .u8 (byteAt r.kb 5)) (.int .u8 (byteAt r.kb 6)) (.int .u8 (byteAt r.kb 7)) (.int .i64 r.v) (.int .i64 r.t)
  have B := set10_below (unhide HB0) (Nat.le_refl _) (.int .u8 (byteAt r.kb 0)) (.int .u8 (byteAt r.kb 1)) (.int .u8 (byteAt r.kb 2)) (.int .u8 (byteAt r.kb 3)) (.int .u8 (byteAt r.kb 4)) (.int .u8 (byteAt r.kb 5)) (.int .u8 (byteAt r.kb 6)) (.int .u8 (byteAt r.kb 7)) (.int .i64 r.v) (.int .i64 r.t)
  unfold set10 at M B
  generalize (((((((((W.setCell ⟨w.heap.size, 0, none⟩ (.int .u8 (byteAt r.kb 0))).setCell ⟨w.heap.size, 1, none⟩ (.int .u8 (byteAt r.kb 1))).setCell ⟨w.heap.size, 2, none⟩ (.int .u8 (byteAt r.kb 2))).setCell ⟨w.heap.size, 3, none⟩ (.int .u8 (byteAt r.kb 3))).setCell ⟨w.heap.size, 4, none⟩ (.int .u8 (byteAt r.kb 4))).setCell ⟨w.heap.size, 5, none⟩ (.int .u8 (byteAt r.kb 5))).setCell ⟨w.heap.size, 6, none⟩ (.int .u8 (byteAt r.kb 6))).setCell ⟨w.heap.size, 7, none⟩ (.int .u8 (byteAt r.kb 7))).setCell ⟨w.heap.size, 8, none⟩ (.int .i64 r.v)).setCell ⟨w.heap.size, 9, none⟩ (.int .i64 r.t) = U at M B ⊢
  obtain ⟨m0, m1, m2, m3, m4, m5, m6, m7, m8, m9⟩ := load10 M
  refine bodyPost_ret (v := .agg (recArr r.kb r.v r.t)) ?_ rfl ⟨rfl, B⟩
  unfold recArr
  simp [results, Try.results112, go_sem, m0, m1, m2, m3, m4, m5, m6, m7, m8, m9]

set_option maxHeartbeats 400000 in
theorem later_any (a b : Int) (w : World) :
    Calls Try.prog 113 #[.int .i64 a, .int .i64 b] w fun e w' => e = .returned (.int .i64 (if b < a then a else b)) ∧ w = w' := by
  by_cases h : b < a
  · rw [if_pos h]
    go_enter Try.func113, Try.ntmps113
    go_wp2
    go_ret
    exact ⟨rfl, rfl⟩
  · rw [if_neg h]
    go_enter Try.func113, Try.ntmps113
    go_wp2
    go_ret
    exact ⟨rfl, rfl⟩
/-- The later of two times. -/
def lat (a b : Int) : Int := if b < a then a else b
/-- The greatest watermark of these. -/
def topOf (wm : List Int) (par : List Int) : Int := par.foldl (fun a p => lat a ((wm[p.toNat]?).getD 0)) (-1)
theorem topOf_take (wm par : List Int) (j : Nat) (hj : j < par.length) : topOf wm (par.take (j + 1)) = lat (topOf wm (par.take j)) ((wm[par[j].toNat]?).getD 0) := by
  unfold topOf
  rw [List.take_succ_eq_append_getElem hj, List.foldl_append]
  rfl

set_option maxRecDepth 100000 in
set_option maxHeartbeats 1000000 in
theorem amongst_any (wm : List Int) (hwm : wm.length = 16) (par : List Int) (q qc : Nat) (w : World) (hr : ∀ p ∈ par, 0 ≤ p ∧ p < 16) (hl : par.length ≤ 2) (hrow : w.ownsRow 0 3 1 (.slice (some ⟨q, 0, none⟩) par.length qc) par.length (par.map (Value.int .i64))) :
    Calls Try.prog 111 #[.agg (stA wm), .slice (some ⟨q, 0, none⟩) par.length qc] w fun e w' => e = .returned (.int .i64 (topOf wm par)) ∧ Below w.heap.size w w' := by
  have HL := fun a b w => hide (later_any a b w)
  have HR := hide hr
  have HS : Hid ((w.alloc (.cells (stA wm) 171)).heap[w.heap.size]? = some (.cells (stA wm) 171 (0, 0))) := heap_alloc_new w _
  have HW := hide hrow
  have hql := (hrow.lt q rfl).2
  have HZ := fun (n : Int) w => hide (sinkHas_any n w)
  clear hr hrow
  unfold stA at HS
  unfold stA
  go_enter Try.func111, Try.ntmps111
  go_wp2
  go_loopw [5, 6] (fun t i wr => ∃ j : Nat, j ≤ par.length ∧ i = .int .i64 j ∧ t = .int .i64 (topOf wm (par.take j)) ∧ wr.heap[w.heap.size]? = some (.cells (List.map (Value.int .i64) wm).toArray 171 (0, 0)) ∧ Below w.heap.size w wr) (fun _ i _ => par.length - (intOf i).toNat)
  case atStart => exact ⟨0, Nat.zero_le _, rfl, rfl, unhide HS, (Below.refl _ w).alloc (Nat.le_refl _) _⟩
  case round =>
    obtain ⟨j, hj, rfl, rfl, hH, hB⟩ := hrel
    by_cases hlt : j < par.length
    · have hmem := unhide HR par[j] (List.getElem_mem hlt)
      obtain ⟨k, hk⟩ : ∃ k : Nat, par[j] = (k : Int) := ⟨par[j].toNat, by omega⟩
      have dc : wr.cell? ⟨q, j, none⟩ = some (.int .i64 k) := by
        rw [hB.cell (p := ⟨q, j, none⟩) hql, World.ownsRow.cellAt (unhide HW) j (by omega)]
        simp [hlt, hk]
      have HT := hide (topOf_take wm par j hlt)
      rw [hk] at HT
      have hk16 : k < wm.length := by omega
      have e9 : (wm[(k : Int).toNat]?).getD 0 = wm[k] := by rw [show ((k : Int)).toNat = k by omega, List.getElem?_eq_getElem hk16]; rfl
      rw [e9] at HT
      have ds : wr.cell? ⟨w.heap.size, k, none⟩ = some (.int .i64 wm[k]) := by rw [cell_of hH]; simp [hk16]
      generalize wm[k] = v at *
      have hz := HZ k
      rw [hasS16 (show k < 16 by omega)] at hz
      have HH := hide hH
      have HB := hide hB
      have k16 : k < 16 := by omega
      clear hH hB hk e9
      go_wp2_with (first | (go_at_call 91; refine (unhide (hz _)).mono ?_; rintro e w1 ⟨rfl, rfl⟩) | (go_at_call 113; refine (unhide (HL _ _ _)).mono ?_; rintro e w1 ⟨rfl, rfl⟩))
      go_roundw
      case rel => exact ⟨j + 1, by omega, by go_num, by rw [unhide HT]; rfl, unhide HH, unhide HB⟩
      case measure => simp [intOf]; omega
    · have e : j = par.length := by omega
      subst e
      rw [List.take_length]
      have HB := hide hB
      clear hH hB
      go_wp2
      go_ret
      exact ⟨rfl, unhide HB⟩

end Go.Proofs.Ytpnkmnmchdabkaa
