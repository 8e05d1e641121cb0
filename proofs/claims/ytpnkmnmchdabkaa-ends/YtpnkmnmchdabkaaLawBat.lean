import Derived.Test.YtpnkmnmchdabkaaM43
import Derived.Test.YtpnkmnmchdabkaaM45
namespace Go.Proofs.Ytpnkmnmchdabkaa
open Go.RowKit
attribute [local go_sem ↓] Go.wp_at_zero Go.wp_at_succ
attribute [local go_sem ↓] zvSum ldU_shut stU_shut
attribute [local go_sem] stU_new

/-- A list of numbers, as a walk reads it. -/
def IntR (w : World) (a : Option Addr) (Z : List Int) : Prop := ∀ (j : Nat) (z : Int), Z[j]? = some z → ∃ b, a = some ⟨b, 0, none⟩ ∧ b < w.heap.size ∧ w.cell? ⟨b, j, none⟩ = some (.int .i64 z)
theorem intR_of {w : World} {B : Nat} {a : Option Addr} {c : Nat} {Z : List Int} (h : w.ownsRow B 3 1 (.slice a Z.length c) Z.length (Z.map (Value.int .i64))) : IntR w a Z := by
  intro j z hj
  have hl := (List.getElem?_eq_some_iff.1 hj).1
  obtain ⟨g2, c2, cur, e2, _, hg, _⟩ := ownsRow_shape h (by omega)
  injection e2 with e2
  subst e2
  refine ⟨g2, rfl, lt_of_heap hg, ?_⟩
  rw [World.ownsRow.cellAt h j (by omega)]
  simp [hj]
theorem IntR.below {w w' : World} {a : Option Addr} {Z : List Int} (h : IntR w a Z) (hb : Below w.heap.size w w') : IntR w' a Z := by
  intro j z hj
  obtain ⟨b, h1, h2, h3⟩ := h j z hj
  exact ⟨b, h1, by have := hb.size; omega, (hb.cell (p := ⟨b, j, none⟩) h2).trans h3⟩

theorem row_cell {w : World} {b k i : Nat} {v : Option Value} (cs : Array Value) (hk : k ≠ b) (h : w.cell? ⟨k, i, none⟩ = v) : (w.setRow b cs).cell? ⟨k, i, none⟩ = v :=
  (World.cell?_of_block (w := w) (a := ⟨k, i, none⟩) (setRow_other hk)).trans h

set_option maxRecDepth 100000 in
set_option maxHeartbeats 4000000 in
theorem batch_of {l : List Sh} {U : List Mk} {w : World} {cb gb lb mb lcap mcap : Nat} (key : ByteArray) (R : List En) (Z : List Int) (S : Int → Su) (hZ : Z.length ≤ 1000001)
    (h0 : ∀ W, Below w.heap.size w W → W.cell? ⟨cb, 6, none⟩ = some (.pointer (some ⟨gb, 0, none⟩)) ∧ cb < W.heap.size)
    (h1 : Calls Try.prog 67 #[.pointer (some ⟨cb, 0, none⟩), .slice (some ⟨mb, 0, none⟩) U.length mcap, .string key] w fun e w' => ∃ a cp, e = .returned (.tuple #[.slice a R.length cp, .bool true]) ∧ w'.ownsRow w.heap.size 59 5 (.slice a R.length cp) R.length (entCells R) ∧ Below w.heap.size w w')
    (h2 : ∀ (W : World) (ra : Option Addr) (rc : Nat), Below w.heap.size w W → EnR W ra R → Calls Try.prog 68 #[.pointer (some ⟨cb, 0, none⟩), .slice ra R.length rc] W fun e w' => ∃ v, e = .returned v ∧ w'.ownsRow W.heap.size 3 1 v Z.length (Z.map (Value.int .i64)) ∧ Below W.heap.size W w')
    (h3 : ∀ W, Below w.heap.size w W → Calls Try.prog 69 #[.pointer (some ⟨gb, 0, none⟩), .string key] W fun e w' => ∃ v, e = .returned (.tuple #[v, .int .i64 0]) ∧ w'.ownsRow W.heap.size 3 1 v Z.length (Z.map (Value.int .i64)) ∧ Below W.heap.size W w')
    (h4 : ∀ (W : World) (z : Int), z ∈ Z → Below w.heap.size w W → Calls Try.prog 70 #[.pointer (some ⟨gb, 0, none⟩), .string key, .int .i64 z] W fun e w' => e = .returned (.tuple #[suV (S z), .int .i64 0]) ∧ Below W.heap.size W w')
    (h5 : ∀ (W : World) (z : Int) (ra : Option Addr) (rc : Nat), z ∈ Z → Below w.heap.size w W → EnR W ra R → Calls Try.prog 71 #[.pointer (some ⟨cb, 0, none⟩), .slice (some ⟨lb, 0, none⟩) l.length lcap, .slice (some ⟨mb, 0, none⟩) U.length mcap, .slice ra R.length rc, .int .i64 z] W fun e w' => e = .returned (suV (S z)) ∧ Below W.heap.size W w') :
    Calls Try.prog 38 #[.pointer (some ⟨cb, 0, none⟩), .slice (some ⟨lb, 0, none⟩) l.length lcap, .slice (some ⟨mb, 0, none⟩) U.length mcap, .string key] w fun e w' => e = .returned (.bool true) ∧ Below w.heap.size w w' := by
  have H0 := hide h0
  have H1 := hide h1
  have H2 := hide h2
  have H3 := hide h3
  have H4 := hide h4
  have H5 := hide h5
  clear h0 h1 h2 h3 h4 h5
  simp only [suV_A] at H4 H5
  go_enter Try.func38, Try.ntmps38
  go_wp2_with fail
  refine (unhide H1).mono ?_
  rintro e w1 ⟨ra, rc, rfl, hrow1, hb1⟩
  have HE1 := hide (enR_of hrow1)
  have HB1 := hide hb1
  clear hrow1 hb1 H1
  go_wp2_with fail
  refine (unhide H2 w1 ra rc (unhide HB1) (unhide HE1)).mono ?_
  rintro e w2 ⟨v2, rfl, hrow2, hb2⟩
  obtain ⟨wa, wc, rfl⟩ := ownsRow_len hrow2
  have HZ2 := hide (intR_of hrow2)
  have HE2 := hide ((unhide HE1).below hb2)
  have HB2 := hide ((unhide HB1).trans (hb2.mono (unhide HB1).size))
  obtain ⟨c6, hcb⟩ := unhide H0 w2 (unhide HB2)
  clear hrow2 hb2 H2 HE1 HB1
  go_wp2_with fail
  refine (unhide H3 w2 (unhide HB2)).mono ?_
  rintro e w3 ⟨v3, rfl, hrow3, hb3⟩
  obtain ⟨ga, gc, rfl⟩ := ownsRow_len hrow3
  have HG3 := hide (intR_of hrow3)
  have HZ3 := hide ((unhide HZ2).below hb3)
  have HE3 := hide ((unhide HE2).below hb3)
  have HB3 := hide ((unhide HB2).trans (hb3.mono (unhide HB2).size))
  clear hrow3 hb3 H3 HE2 HB2 HZ2 c6
  have hzz : ((Z.length : Int) == (Z.length : Int)) = true := by simp
  go_wp2
  go_loopw [14] (fun i wr => ∃ j : Nat, j ≤ Z.length ∧ i = .int .i64 j ∧ Below w3.heap.size w3 wr) (fun i _ => Z.length - (intOf i).toNat)
  case atStart => exact ⟨0, Nat.zero_le _, rfl, Below.refl _ _⟩
  case round =>
    obtain ⟨j, hj, rfl, hB⟩ := hrel
    have HBw := hide ((unhide HB3).trans (hB.mono (unhide HB3).size))
    by_cases hlt : j < Z.length
    · obtain ⟨z, hz⟩ : ∃ z, Z[j]? = some z := ⟨Z[j], List.getElem?_eq_getElem hlt⟩
      obtain ⟨wb, hwa, hwb, cw⟩ := ((unhide HZ3).below hB) j z hz
      obtain ⟨gb2, hga, hgb2, cg⟩ := ((unhide HG3).below hB) j z hz
      have HEr := hide ((unhide HE3).below hB)
      have hzm := hide (List.mem_of_getElem? hz)
      obtain ⟨c6, hcb⟩ := unhide H0 wr (unhide HBw)
      subst hwa
      subst hga
      have HV := hide hB
      clear hB hz
      generalize hVV : wr = V at *
      clear hVV
      have hcA : Hid (Calls Try.prog 70 #[.pointer (some ⟨gb, 0, none⟩), .string key, .int .i64 z] (V.alloc (.cells (suA su0) 132)).drew fun e w' => e = .returned (.tuple #[.agg (suA (S z)), .int .i64 0]) ∧ Below (V.alloc (.cells (suA su0) 132)).drew.heap.size (V.alloc (.cells (suA su0) 132)).drew w') := unhide H4 _ z (unhide hzm) (((unhide HBw).alloc (unhide HBw).size _).drew)
      have hcB : Hid (Calls Try.prog 70 #[.pointer (some ⟨gb, 0, none⟩), .string key, .int .i64 z] V.drew fun e w' => e = .returned (.tuple #[.agg (suA (S z)), .int .i64 0]) ∧ Below V.drew.heap.size V.drew w') := unhide H4 _ z (unhide hzm) (unhide HBw).drew
      have hnA := hide (heap_alloc_new V (.cells (suA su0) 132))
      have a6 : (V.alloc (.cells (suA su0) 132)).drew.cell? ⟨cb, 6, none⟩ = some (.pointer (some ⟨gb, 0, none⟩)) := (World.cell?_of_block (w := V) (a := ⟨cb, 6, none⟩) (Below.heap_alloc _ _ _ hcb)).trans c6
      have aw : (V.alloc (.cells (suA su0) 132)).drew.cell? ⟨wb, j, none⟩ = some (.int .i64 z) := (World.cell?_of_block (w := V) (a := ⟨wb, j, none⟩) (Below.heap_alloc _ _ _ hwb)).trans cw
      have hA : Hid (cb < (V.alloc (.cells (suA su0) 132)).drew.heap.size ∧ wb < (V.alloc (.cells (suA su0) 132)).drew.heap.size ∧ V.heap.size < (V.alloc (.cells (suA su0) 132)).drew.heap.size) := by unfold Hid; simp; omega
      have hV2 : Hid (cb ≠ V.heap.size ∧ wb ≠ V.heap.size) := ⟨by omega, by omega⟩
      have hVs : Hid (cb < V.drew.heap.size ∧ wb < V.drew.heap.size) := ⟨hcb, hwb⟩
      have A6 := hide a6
      have AW := hide aw
      have C6 := hide c6
      have CW := hide cw
      have CG := hide cg
      clear a6 aw cg
      go_wp2_with fail
      go_region_held3 (fun w' => w'.cell? ⟨cb, 6, none⟩ = some (.pointer (some ⟨gb, 0, none⟩)) ∧ w'.cell? ⟨wb, j, none⟩ = some (.int .i64 z)) (first | go_keep | trivial | exact ⟨d2, d3⟩) (first | (go_at_call 70; refine (unhide hcA).mono ?_; rintro e w4 ⟨rfl, hbA⟩; have d0 := (hbA.cell (p := ⟨cb, 6, none⟩) (unhide hA).1).trans (unhide A6); have d1 := (hbA.cell (p := ⟨wb, j, none⟩) (unhide hA).2.1).trans (unhide AW); have n1 := (hbA.block V.heap.size (unhide hA).2.2).trans (unhide hnA); have hst := stU_is (y := S z) n1; have d2 := row_cell (suA (S z)) (unhide hV2).1 d0; have d3 := row_cell (suA (S z)) (unhide hV2).2 d1) | (go_at_call 70; refine (unhide hcB).mono ?_; rintro e w4 ⟨rfl, hbB⟩; have d0 := (hbB.cell (p := ⟨cb, 6, none⟩) (unhide hVs).1).trans (unhide C6); have d1 := (hbB.cell (p := ⟨wb, j, none⟩) (unhide hVs).2).trans (unhide CW)))
      all_goals
        first
        | (have nU := setRow_same (cs' := suA (S z)) n1
           have bU : Below V.heap.size V (w4.setRow V.heap.size (suA (S z))) := setRow_below ((((Below.refl V.heap.size V).alloc (Nat.le_refl _) (.cells (suA su0) 132)).drew).trans (hbA.mono (Nat.le_of_lt (unhide hA).2.2))) (Nat.le_refl _) _
           clear hbA d0 d1 n1 hst d2 d3
           generalize w4.setRow V.heap.size (suA (S z)) = U1 at *
           generalize hXe : V.heap.size = X1 at nU ⊢)
        | (have nU := heap_alloc_new w4 (.cells (suA (S z)) 132)
           have bU : Below V.heap.size V (w4.alloc (.cells (suA (S z)) 132)) := (((Below.refl V.heap.size V).drew).trans hbB).alloc hbB.size _
           clear hbB d0 d1
           generalize w4.alloc (.cells (suA (S z)) 132) = U1 at *
           generalize hXe : w4.heap.size = X1 at nU ⊢)
        have HBu := hide ((unhide HBw).trans (bU.mono (unhide HBw).size))
        have HVu := hide ((unhide HV).trans (bU.mono (unhide HV).size))
        have HEu := hide ((unhide HEr).below bU)
        have cw1 := (bU.cell (p := ⟨wb, j, none⟩) hwb).trans (unhide CW)
        have CG1 := hide ((bU.cell (p := ⟨gb2, j, none⟩) hgb2).trans (unhide CG))
        have hwb1 : wb < U1.heap.size := by have := bU.size; omega
        have hgb1 : gb2 < U1.heap.size := by have := bU.size; omega
        have NU := hide nU
        clear hXe hcA hcB hnA A6 AW C6 CW CG bU nU c6 cw hA hVs hV2 HEr HV HBw
        go_wp2_with fail
        refine (unhide H5 U1 z ra rc (unhide hzm) (unhide HBu) (unhide HEu)).mono ?_
        rintro e w5 ⟨rfl, hb5⟩
        have NU5 := hide ((hb5.block X1 (lt_of_heap (unhide NU))).trans (unhide NU))
        have HV5 := hide ((unhide HVu).trans (hb5.mono (unhide HVu).size))
        have cw5 := (hb5.cell (p := ⟨wb, j, none⟩) hwb1).trans cw1
        have cg5 := (hb5.cell (p := ⟨gb2, j, none⟩) hgb1).trans (unhide CG1)
        have hw5 : wb < w5.heap.size ∧ gb2 < w5.heap.size := by have := hb5.size; omega
        clear hb5 cw1 CG1 NU HBu HVu HEu
        have NB := hide (heap_alloc_new w5 (.cells (suA (S z)) 132))
        have NX := hide ((Below.heap_alloc w5 (.cells (suA (S z)) 132) X1 (lt_of_heap (unhide NU5))).trans (unhide NU5))
        have CW6 := (World.cell?_of_block (w := w5) (a := ⟨wb, j, none⟩) (Below.heap_alloc w5 (.cells (suA (S z)) 132) _ hw5.1)).trans cw5
        have CG6 := (World.cell?_of_block (w := w5) (a := ⟨gb2, j, none⟩) (Below.heap_alloc w5 (.cells (suA (S z)) 132) _ hw5.2)).trans cg5
        have HV6 := hide ((unhide HV5).alloc (unhide HV5).size (.cells (suA (S z)) 132))
        clear cw5 cg5 NU5 HV5
        go_wp2_with fail
        generalize w5.alloc (.cells (suA (S z)) 132) = V6 at *
        generalize w5.heap.size = X2 at *
        have p0 : V6.cell? ⟨X1, 0, none⟩ = some (.int .i64 (S z).c) := cell_of (unhide NX) 0
        have r0 : V6.cell? ⟨X2, 0, none⟩ = some (.int .i64 (S z).c) := cell_of (unhide NB) 0
        have p1 : V6.cell? ⟨X1, 1, none⟩ = some (.int .i64 (S z).s) := cell_of (unhide NX) 1
        have r1 : V6.cell? ⟨X2, 1, none⟩ = some (.int .i64 (S z).s) := cell_of (unhide NB) 1
        have p2 : V6.cell? ⟨X1, 2, none⟩ = some (.int .i64 (S z).mn) := cell_of (unhide NX) 2
        have r2 : V6.cell? ⟨X2, 2, none⟩ = some (.int .i64 (S z).mn) := cell_of (unhide NB) 2
        have p3 : V6.cell? ⟨X1, 3, none⟩ = some (.int .i64 (S z).mx) := cell_of (unhide NX) 3
        have r3 : V6.cell? ⟨X2, 3, none⟩ = some (.int .i64 (S z).mx) := cell_of (unhide NB) 3
        have p4 : V6.cell? ⟨X1, 4, none⟩ = some (.int .i64 (S z).f) := cell_of (unhide NX) 4
        have r4 : V6.cell? ⟨X2, 4, none⟩ = some (.int .i64 (S z).f) := cell_of (unhide NB) 4
        have p5 : V6.cell? ⟨X1, 5, none⟩ = some (.int .i64 (S z).l) := cell_of (unhide NX) 5
        have r5 : V6.cell? ⟨X2, 5, none⟩ = some (.int .i64 (S z).l) := cell_of (unhide NB) 5
        have p6 : V6.cell? ⟨X1, 6, none⟩ = some (.int .i64 (S z).lt) := cell_of (unhide NX) 6
        have r6 : V6.cell? ⟨X2, 6, none⟩ = some (.int .i64 (S z).lt) := cell_of (unhide NB) 6
        have p7 : V6.cell? ⟨X1, 7, none⟩ = some (.bool (S z).o) := cell_of (unhide NX) 7
        have r7 : V6.cell? ⟨X2, 7, none⟩ = some (.bool (S z).o) := cell_of (unhide NB) 7
        clear NB NX
        generalize (S z).c = sc at *
        generalize (S z).s = ss at *
        generalize (S z).mn = sn at *
        generalize (S z).mx = sx at *
        generalize (S z).f = sf at *
        generalize (S z).l = sl at *
        generalize (S z).lt = st at *
        generalize (S z).o = so at *
        have q0 : (z == z) = true := by simp
        have q1 : (sc == sc) = true := by simp
        have q2 : (ss == ss) = true := by simp
        have q3 : (sn == sn) = true := by simp
        have q4 : (sx == sx) = true := by simp
        have q5 : (sf == sf) = true := by simp
        have q6 : (sl == sl) = true := by simp
        have q7 : (st == st) = true := by simp
        have q8 : (so == so) = true := by simp
        go_quiet (fail)
        have HV7 := hide (below_drewN (unhide HV6) nq)
        go_wp2
        go_roundw
        case rel => exact ⟨j + 1, by omega, by go_num, unhide HV7⟩
        case measure => simp [intOf]; omega
    · go_wp2
      go_ret
      exact ⟨rfl, unhide HBw⟩

end Go.Proofs.Ytpnkmnmchdabkaa
