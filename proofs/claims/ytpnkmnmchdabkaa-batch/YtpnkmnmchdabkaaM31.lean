import Derived.Test.YtpnkmnmchdabkaaProgWb
import Derived.ChangeKeysEq
namespace Go.Proofs.Ytpnkmnmchdabkaa
open Go.RowKit
attribute [local go_sem ↓] Go.wp_at_zero Go.wp_at_succ
attribute [local go_sem ↓] zvWm ldW_shut stW_shut
attribute [local go_sem] stW_new

set_option maxRecDepth 100000 in
set_option maxHeartbeats 2000000 in
theorem sinkMark_any {w : World} {ρ : Nat → Nat} {gb : Nat} {C : Cfg} {now : Rest} {sv : Value} {m : List Cs} {g cap : Nat} {ls : List Le} {P : List Pl} (h : GS w ρ gb C now sv m g cap ls P) (hI : Inv (m.map (·.s))) (d : Nat → Nat) (hd : ∀ k, d k ≤ 32) (hdn : ∀ k, k < 16 → dnP now.dn k = (d k : Int)) (hdc : ∀ (k : Nat) (s : Cs), m[k]? = some s → d k ≤ s.s.rl.length) (k : Nat) (hk : k < 16) (ep : Int) (hep : now.dn[k * 2 + 1]? = some ep) :
    Calls Try.prog 72 #[.pointer (some ⟨gb, 8, none⟩), .pointer (some ⟨gb, 7, none⟩), .int .i64 k] w fun e w' => e = .returned (.agg #[.int .i64 (d k), .int .i64 ep, .int .i64 (((wmUp (m.map (·.s)) d m.length)[k]?).getD 0)]) ∧ Below w.heap.size w w' := by
  have HW : Hid (∀ W, Below w.heap.size w W → Calls Try.prog 102 #[.pointer (some ⟨gb, 8, none⟩), .pointer (some ⟨gb, 7, none⟩)] W fun e w' => ∃ v, e = .returned (.tuple #[v, .agg (stA (wmUp (m.map (·.s)) d m.length))]) ∧ w'.ownsRow W.heap.size 164 11 v (fdUp (m.map (·.s)) d m.length).length (fdRow (fdUp (m.map (·.s)) d m.length)) ∧ Below W.heap.size W w') := fun W hb => walk_any (h.below hb).1 hI d hd hdn hdc
  have HZ := fun w => hide (sinkHas_any k w)
  rw [hasS16 hk] at HZ
  have hL := wmUp_len (m.map (·.s)) d m.length
  generalize wmUp (m.map (·.s)) d m.length = U at HW hL ⊢
  have hG : GrpL w ρ gb C (now.up ls P) sv m g cap P := h
  have d0 : w.cell? ⟨gb, 8 + k * 2, none⟩ = some (.int .i64 (d k)) := by rw [← hdn k hk]; exact hG.dcell (k * 2) _ (dnP_get hG.G.dnL hk)
  have d1 : w.cell? ⟨gb, 8 + k * 2 + 1, none⟩ = some (.int .i64 ep) := hG.dcell (k * 2 + 1) _ hep
  have hgb := lt_of_heap hG.G.blk
  have hkU : k < U.length := by omega
  obtain ⟨u, hU⟩ : ∃ u, U[k]? = some u := ⟨U[k], List.getElem?_eq_getElem hkU⟩
  have hUk : (U[k]?).getD 0 = u := by rw [hU]; rfl
  rw [hUk]
  have q1 : ¬ ((k : Int) < 0) := by omega
  have q2 : (k : Int) < 16 := by omega
  clear h hI hd hdn hdc hG hep
  go_enter Try.func72, Try.ntmps72
  go_wp2_with (first | (go_at_call 91; refine (unhide (HZ _)).mono ?_; rintro e w1 ⟨rfl, rfl⟩))
  have N0 := heap_alloc_new w (.cells #[.int .i64 0, .int .i64 0, .int .i64 0] 45)
  have B0 := (Below.refl w.heap.size w).alloc (Nat.le_refl _) (.cells #[.int .i64 0, .int .i64 0, .int .i64 0] 45)
  have sz0 : (w.alloc (.cells #[.int .i64 0, .int .i64 0, .int .i64 0] 45)).heap.size = w.heap.size + 1 := by simp
  generalize w.alloc (.cells #[.int .i64 0, .int .i64 0, .int .i64 0] 45) = W0 at *
  refine (unhide HW _ B0).mono ?_
  rintro e w1 ⟨v, rfl, _, hb1⟩
  have N1 := (hb1.block _ (lt_of_heap N0)).trans N0
  have B1 := B0.trans (hb1.mono B0.size)
  have z0 := st0_len
  have s1 := lt_of_heap N1
  have N2 : (w1.alloc (.cells (stA U) 171)).heap[w.heap.size]? = _ := (Below.heap_alloc _ _ _ s1).trans N1
  have N3 := heap_alloc_new w1 (.cells (stA U) 171)
  have B2 := B1.alloc B1.size (.cells (stA U) 171)
  clear hb1 N0 B0 HW N1 B1
  have c0 := (B2.cell (p := ⟨gb, 8 + k * 2, none⟩) hgb).trans d0
  have c1 := (B2.cell (p := ⟨gb, 8 + k * 2 + 1, none⟩) hgb).trans d1
  have c2 : (w1.alloc (.cells (stA U) 171)).cell? ⟨w1.heap.size, k, none⟩ = some (.int .i64 u) := by
    rw [cell_of N3]
    unfold stA
    simp [hU]
  go_wp2_with fail
  have HB2 := hide B2
  have HN2 := hide N2
  clear B2 N3 d0 d1
  have f0 := frozen_of (unhide HN2) 0
  have f1 := frozen_of (unhide HN2) 1
  have f2 := frozen_of (unhide HN2) 2
  generalize w1.alloc (.cells (stA U) 171) = W at *
  have g0 := cell_of (unhide HN2) 0
  have g1 := cell_of (unhide HN2) 1
  have g2 := cell_of (unhide HN2) 2
  simp at g0 g1 g2
  generalize hb1 : w1.heap.size = b1 at *
  have hn1 : w.heap.size ≠ gb := by omega
  have hn2 : w.heap.size ≠ b1 := by omega
  go_region_held3 (fun w' => w'.cell? ⟨gb, 8 + k * 2, none⟩ = some (.int .i64 (d k)) ∧ w'.cell? ⟨gb, 8 + k * 2 + 1, none⟩ = some (.int .i64 ep) ∧ w'.cell? ⟨b1, k, none⟩ = some (.int .i64 u)) (first | go_keep | trivial) (fail)
  have M1 := heap_setCell_same (i := 0) (unhide HN2) (.int .i64 (d k))
  have M2 := heap_setCell_same (i := 1) M1 (.int .i64 ep)
  have M3 := heap_setCell_same (i := 2) M2 (.int .i64 u)
  have B3 : Hid (Below w.heap.size w (((W.setCell ⟨w.heap.size, 0, none⟩ (.int .i64 (d k))).setCell ⟨w.heap.size, 1, none⟩ (.int .i64 ep)).setCell ⟨w.heap.size, 2, none⟩ (.int .i64 u)).drew) := ((((unhide HB2).setCell (p := ⟨w.heap.size, 0, none⟩) (Nat.le_refl _) _).setCell (p := ⟨w.heap.size, 1, none⟩) (Nat.le_refl _) _).setCell (p := ⟨w.heap.size, 2, none⟩) (Nat.le_refl _) _).drew
  have r0 := cell_of M3 0
  have r1 := cell_of M3 1
  have r2 := cell_of M3 2
  simp at r0 r1 r2
  clear M1 M2 M3
  generalize hV : ((W.setCell ⟨w.heap.size, 0, none⟩ (.int .i64 (d k))).setCell ⟨w.heap.size, 1, none⟩ (.int .i64 ep)).setCell ⟨w.heap.size, 2, none⟩ (.int .i64 u) = V at *
  clear hV
  have x0 : V.drew.cell? ⟨w.heap.size, 0, none⟩ = some (.int .i64 (d k)) := r0
  have x1 : V.drew.cell? ⟨w.heap.size, 1, none⟩ = some (.int .i64 ep) := r1
  have x2 : V.drew.cell? ⟨w.heap.size, 2, none⟩ = some (.int .i64 u) := r2
  generalize V.drew = V1 at *
  go_wp2
  refine bodyPost_ret (v := .agg #[.int .i64 (d k), .int .i64 ep, .int .i64 u]) ?_ rfl ⟨rfl, unhide B3⟩
  simp [results, Try.results72, go_sem, x0, x1, x2]

/-- What the sink has folded, as whole numbers. -/
def dnN (dn : List Int) (k : Nat) : Nat := (dnP dn k).toNat

set_option maxRecDepth 100000 in
set_option maxHeartbeats 2000000 in
theorem gMark_any {w : World} {ρ : Nat → Nat} {gb : Nat} {C : Cfg} {now : Rest} {sv : Value} {m : List Cs} {g cap : Nat} {ls : List Le} {P : List Pl} (h : GS w ρ gb C now sv m g cap ls P) (hI : Inv (m.map (·.s))) (d : Nat → Nat) (hd : ∀ k, d k ≤ 32) (hdn : ∀ k, k < 16 → dnP now.dn k = (d k : Int)) (hdc : ∀ (k : Nat) (s : Cs), m[k]? = some s → d k ≤ s.s.rl.length) (k : Nat) (hk : k < m.length) :
    Calls Try.prog 40 #[.pointer (some ⟨gb, 0, none⟩), .int .i64 k] w fun e w' => e = .returned (.tuple #[.agg #[.int .i64 (d k), .int .i64 (epP now.dn k), .int .i64 (((wmUp (m.map (·.s)) d m.length)[k]?).getD 0)], .int .i64 0]) ∧ Below w.heap.size w w' := by
  have h16 : m.length ≤ 16 := GrpL.le h
  have hG : GrpL w ρ gb C (now.up ls P) sv m g cap P := h
  have HL : Hid (Calls Try.prog 54 #[.pointer (some ⟨gb, 7, none⟩), .int .i64 k] (w.alloc (.cells #[.int .i64 0, .int .i64 0, .int .i64 0] 45)) fun e w' => e = .returned (.bool true) ∧ (w.alloc (.cells #[.int .i64 0, .int .i64 0, .int .i64 0] 45)) = w') := by
    have := gHas_any (h.alloc (.cells #[.int .i64 0, .int .i64 0, .int .i64 0] 45)).1 (by omega) k
    rw [show decide (0 ≤ (k : Int) ∧ (k : Int) < m.length) = true by simp; omega] at this
    exact this
  have HO : Hid (Calls Try.prog 72 #[.pointer (some ⟨gb, 8, none⟩), .pointer (some ⟨gb, 7, none⟩), .int .i64 k] (w.alloc (.cells #[.int .i64 0, .int .i64 0, .int .i64 0] 45)).drew fun e w' => e = .returned (.agg #[.int .i64 (d k), .int .i64 (epP now.dn k), .int .i64 (((wmUp (m.map (·.s)) d m.length)[k]?).getD 0)]) ∧ Below (w.alloc (.cells #[.int .i64 0, .int .i64 0, .int .i64 0] 45)).drew.heap.size (w.alloc (.cells #[.int .i64 0, .int .i64 0, .int .i64 0] 45)).drew w') :=
    sinkMark_any (((h.alloc _).1.below (Below.refl _ _).drew)).1 hI d hd hdn hdc k (by omega) _ (epP_get hG.G.dnL (by omega))
  generalize ((wmUp (m.map (·.s)) d m.length)[k]?).getD 0 = u at *
  generalize epP now.dn k = ep at *
  clear h hI hd hdn hdc hG
  go_enter Try.func40, Try.ntmps40
  go_wp2_with fail
  refine (unhide HL).mono ?_
  rintro e w1 ⟨rfl, rfl⟩
  go_wp2_with fail
  have N0 := heap_alloc_new w (.cells #[.int .i64 0, .int .i64 0, .int .i64 0] 45)
  have B0 := (Below.refl w.heap.size w).alloc (Nat.le_refl _) (.cells #[.int .i64 0, .int .i64 0, .int .i64 0] 45)
  generalize w.alloc (.cells #[.int .i64 0, .int .i64 0, .int .i64 0] 45) = W at *
  have ND : W.drew.heap[w.heap.size]? = some (.cells #[.int .i64 0, .int .i64 0, .int .i64 0] 45 (0, 0)) := N0
  have BD := hide B0.drew
  have HND := hide ND
  clear N0 B0 ND
  go_region_held3 (fun _ => True) (trivial) ((go_at_call 72; refine (unhide HO).mono ?_; rintro e w1 ⟨rfl, hb⟩; have N1 := (hb.block _ (lt_of_heap (unhide HND))).trans (unhide HND); have k0 := cell_of N1 0; have k1 := cell_of N1 1; have k2 := cell_of N1 2; simp at k0 k1 k2; have f0 := frozen_of N1 0; have f1 := frozen_of N1 1; have f2 := frozen_of N1 2))
  have M1 := heap_setCell_same (i := 0) N1 (.int .i64 (d k))
  have M2 := heap_setCell_same (i := 1) M1 (.int .i64 ep)
  have M3 := heap_setCell_same (i := 2) M2 (.int .i64 u)
  have B3 : Hid (Below w.heap.size w (((w1.setCell ⟨w.heap.size, 0, none⟩ (.int .i64 (d k))).setCell ⟨w.heap.size, 1, none⟩ (.int .i64 ep)).setCell ⟨w.heap.size, 2, none⟩ (.int .i64 u))) := ((((unhide BD).trans (hb.mono (unhide BD).size)).setCell (p := ⟨w.heap.size, 0, none⟩) (Nat.le_refl _) _).setCell (p := ⟨w.heap.size, 1, none⟩) (Nat.le_refl _) _).setCell (p := ⟨w.heap.size, 2, none⟩) (Nat.le_refl _) _
  have r0 := cell_of M3 0
  have r1 := cell_of M3 1
  have r2 := cell_of M3 2
  simp at r0 r1 r2
  clear M1 M2 M3 N1 k0 k1 k2 f0 f1 f2 hb
  generalize ((w1.setCell ⟨w.heap.size, 0, none⟩ (.int .i64 (d k))).setCell ⟨w.heap.size, 1, none⟩ (.int .i64 ep)).setCell ⟨w.heap.size, 2, none⟩ (.int .i64 u) = V at *
  go_wp2
  refine bodyPost_ret (v := .tuple #[.agg #[.int .i64 (d k), .int .i64 ep, .int .i64 u], .int .i64 0]) ?_ rfl ⟨rfl, unhide B3⟩
  simp [results, Try.results40, go_sem, r0, r1, r2]

end Go.Proofs.Ytpnkmnmchdabkaa
namespace Go.Proofs.Ytpnkmnmchdabkaa
open Go.RowKit

/-- Is it the same key? -/
def sameK (a b : List UInt8) : Bool := decide (byteAt a 0 = byteAt b 0) && (decide (byteAt a 1 = byteAt b 1) && (decide (byteAt a 2 = byteAt b 2) && (decide (byteAt a 3 = byteAt b 3) && (decide (byteAt a 4 = byteAt b 4) && (decide (byteAt a 5 = byteAt b 5) && (decide (byteAt a 6 = byteAt b 6) && decide (byteAt a 7 = byteAt b 7)))))))
/-- What is folded of a key, among the first n. -/
def fdKey (kb : List UInt8) (F : List (Rc × Int)) (n : Nat) : List (Rc × Int) := (F.take n).filter (fun x => sameK x.1.kb kb)
theorem fdKey_succ (kb : List UInt8) (F : List (Rc × Int)) (n : Nat) (x : Rc × Int) (h : F[n]? = some x) : fdKey kb F (n + 1) = fdKey kb F n ++ (if sameK x.1.kb kb = true then [x] else []) := by
  have hi := (List.getElem?_eq_some_iff.1 h).1
  have he : F[n] = x := (List.getElem?_eq_some_iff.1 h).2
  unfold fdKey
  rw [List.take_succ_eq_append_getElem hi, List.filter_append, he]
  by_cases hk : sameK x.1.kb kb = true <;> simp [hk]
theorem fdKey_le (kb : List UInt8) (F : List (Rc × Int)) (n : Nat) : (fdKey kb F n).length ≤ F.length := by
  unfold fdKey
  have h1 := List.length_filter_le (fun x => sameK x.1.kb kb) (F.take n)
  rw [List.length_take] at h1
  omega
theorem fdRow_get (l : List (Rc × Int)) (i j : Nat) (hj : j < 11) (s : Rc × Int) (h : l[i]? = some s) : (fdRow l)[i * 11 + j]? = (fdCells s)[j]? := by
  induction l generalizing i with
  | nil => simp at h
  | cons x r ih =>
    cases i with
    | zero =>
      simp at h; subst h
      simp only [fdRow, Nat.zero_mul, Nat.zero_add]
      rw [List.getElem?_append_left (by simpa [fdCells, rcCells, recArr] using hj)]
    | succ i =>
      simp at h
      simp only [fdRow]
      rw [List.getElem?_append_right (by simp only [fdCells, rcCells, recArr, List.length_append, List.length_cons, List.length_nil]; omega), ← ih i h]
      congr 1
      simp only [fdCells, rcCells, recArr, List.length_append, List.length_cons, List.length_nil]; omega

end Go.Proofs.Ytpnkmnmchdabkaa
namespace Go.Proofs.Ytpnkmnmchdabkaa
open Go.RowKit

theorem key_eq (a b : List UInt8) (w : World) : (Op.equalIn 10000 143 (.agg #[.int .u8 (byteAt a 0), .int .u8 (byteAt a 1), .int .u8 (byteAt a 2), .int .u8 (byteAt a 3), .int .u8 (byteAt a 4), .int .u8 (byteAt a 5), .int .u8 (byteAt a 6), .int .u8 (byteAt a 7)]) (.agg #[.int .u8 (byteAt b 0), .int .u8 (byteAt b 1), .int .u8 (byteAt b 2), .int .u8 (byteAt b 3), .int .u8 (byteAt b 4), .int .u8 (byteAt b 5), .int .u8 (byteAt b 6), .int .u8 (byteAt b 7)])).run Try.prog w = .ok (sameK a b) w := by
  have hu := Try.underlying143
  obtain ⟨i, hi⟩ : ∃ i, Try.prog.info? 5 = some i := Option.isSome_iff_exists.1 (by kernel_rfl)
  have hc : Try.prog.cellsOf 5 = 1 := by kernel_rfl
  have hb := Try.underlying5
  rw [run_equalIn_array w 9999 _ _ hu hi, hc, show List.range 8 = [0, 1, 2, 3, 4, 5, 6, 7] from rfl]
  simp [Op.eqItems, go_sem]
  unfold sameK
  repeat' split
  all_goals simp [*]

end Go.Proofs.Ytpnkmnmchdabkaa
namespace Go.Proofs.Ytpnkmnmchdabkaa
open Go.RowKit
attribute [local go_sem ↓] Go.wp_at_zero Go.wp_at_succ
attribute [local go_sem ↓] zvWm ldW_shut stW_shut
attribute [local go_sem] stW_new key_eq

theorem new_twoF (w : World) (o o' : Obj) : ((w.alloc o).alloc o').heap[w.heap.size + 1]? = some o' := by
  have := heap_alloc_new (w.alloc o) o'
  rwa [show (w.alloc o).heap.size = w.heap.size + 1 by simp] at this

set_option maxRecDepth 100000 in
set_option maxHeartbeats 4000000 in
theorem foldedOf_any {w : World} {ρ : Nat → Nat} {gb : Nat} {C : Cfg} {now : Rest} {sv : Value} {m : List Cs} {g cap : Nat} {ls : List Le} {P : List Pl} (h : GS w ρ gb C now sv m g cap ls P) (hI : Inv (m.map (·.s))) (d : Nat → Nat) (hd : ∀ k, d k ≤ 32) (hdn : ∀ k, k < 16 → dnP now.dn k = (d k : Int)) (hdc : ∀ (k : Nat) (s : Cs), m[k]? = some s → d k ≤ s.s.rl.length) (kb : List UInt8) :
    Calls Try.prog 96 #[.pointer (some ⟨gb, 8, none⟩), .pointer (some ⟨gb, 7, none⟩), .agg #[.int .u8 (byteAt kb 0), .int .u8 (byteAt kb 1), .int .u8 (byteAt kb 2), .int .u8 (byteAt kb 3), .int .u8 (byteAt kb 4), .int .u8 (byteAt kb 5), .int .u8 (byteAt kb 6), .int .u8 (byteAt kb 7)]] w fun e w' => ∃ v, e = .returned v ∧ w'.ownsRow w.heap.size 164 11 v (fdKey kb (fdUp (m.map (·.s)) d m.length) (fdUp (m.map (·.s)) d m.length).length).length (fdRow (fdKey kb (fdUp (m.map (·.s)) d m.length) (fdUp (m.map (·.s)) d m.length).length)) ∧ Below w.heap.size w w' := by
  obtain ⟨i0, hi0, hz0, hz1, hz2⟩ := info_parts infoFd
  have HW : Hid (∀ o, Calls Try.prog 102 #[.pointer (some ⟨gb, 8, none⟩), .pointer (some ⟨gb, 7, none⟩)] (w.alloc o) fun e w' => ∃ v, e = .returned (.tuple #[v, .agg (stA (wmUp (m.map (·.s)) d m.length))]) ∧ w'.ownsRow (w.alloc o).heap.size 164 11 v (fdUp (m.map (·.s)) d m.length).length (fdRow (fdUp (m.map (·.s)) d m.length)) ∧ Below (w.alloc o).heap.size (w.alloc o) w') := fun o => walk_any (h.alloc o).1 hI d hd hdn hdc
  have hFl : (fdUp (m.map (·.s)) d m.length).length ≤ 512 := by have := fdUp_le (l := m.map (·.s)) hd m.length; have := GrpL.le h; omega
  have z0 := st0_len
  have s0 := stA_size z0
  have hU := wmUp_len (m.map (·.s)) d m.length
  generalize fdUp (m.map (·.s)) d m.length = F at *
  generalize wmUp (m.map (·.s)) d m.length = U at *
  clear h hI hd hdn hdc
  go_enter Try.func96, Try.ntmps96
  go_wp2_with fail
  refine (unhide HW _).mono ?_
  rintro e w1 ⟨v, rfl, hv, hb1⟩
  obtain ⟨va, vcap, rfl⟩ := ownsRow_len hv
  obtain ⟨hky, hB1, hs1⟩ := below_new hb1
  have HV := hide hv
  have HB1 := hide hB1
  have HKy := hide hky
  clear hv hb1 hB1 hky HW
  go_wp2
  have HI0 : Hid (((w1.alloc (.cells (stA U) 171)).alloc (.cells #[] 164)).ownsRow w1.heap.size 164 11 (.slice (some ⟨w1.heap.size + 1, 0, none⟩) 0 0) 0 []) := ⟨rfl, .inr ⟨w1.heap.size + 1, 0, #[], rfl, Nat.le_succ _, new_twoF w1 _ _, Nat.le_refl _, by unfold maxLen; omega, rfl, rfl⟩⟩
  have HB0 : Hid (Below w1.heap.size w1 ((w1.alloc (.cells (stA U) 171)).alloc (.cells #[] 164))) := ((Below.refl _ w1).alloc (Nat.le_refl _) _).alloc (by simp) _
  go_loopw [9, 10] (fun p q wr => ∃ (j cp : Nat) (a : Option Addr), j ≤ F.length ∧ q = .int .i64 j ∧ p = .slice a (fdKey kb F j).length cp ∧ wr.ownsRow w1.heap.size 164 11 (.slice a (fdKey kb F j).length cp) (fdKey kb F j).length (fdRow (fdKey kb F j)) ∧ Below w1.heap.size w1 wr) (fun _ q _ => F.length - (intOf q).toNat)
  case atStart => exact ⟨0, 0, some ⟨w1.heap.size + 1, 0, none⟩, Nat.zero_le _, rfl, rfl, unhide HI0, unhide HB0⟩
  case round =>
    obtain ⟨j, cp, a, hj, rfl, rfl, hown, hB⟩ := hrel
    by_cases hlt : j < F.length
    · obtain ⟨fb, cap', cur, hv2, _, hfg, _⟩ := ownsRow_shape (unhide HV) (by omega)
      injection hv2 with e1 e2 e3
      subst e1
      subst e3
      clear e2
      have hfl := lt_of_heap hfg
      obtain ⟨x, hx⟩ : ∃ x, F[j]? = some x := ⟨F[j], List.getElem?_eq_getElem hlt⟩
      have hc : ∀ i, i < 11 → wr.cell? ⟨fb, j * 11 + i, none⟩ = (fdCells x)[i]? := fun i hi => by
        rw [hB.cell (p := ⟨fb, j * 11 + i, none⟩) hfl, World.ownsRow.cellAt (unhide HV) (j * 11 + i) (by omega), fdRow_get F j i hi x hx]
      have y0 := hc 0 (by omega)
      have y1 := hc 1 (by omega)
      have y2 := hc 2 (by omega)
      have y3 := hc 3 (by omega)
      have y4 := hc 4 (by omega)
      have y5 := hc 5 (by omega)
      have y6 := hc 6 (by omega)
      have y7 := hc 7 (by omega)
      have y8 := hc 8 (by omega)
      have y9 := hc 9 (by omega)
      have y10 := hc 10 (by omega)
      simp [fdCells, rcCells, recArr] at y0 y1 y2 y3 y4 y5 y6 y7 y8 y9 y10
      have k0 : wr.cell? ⟨w.heap.size, 0, none⟩ = some (.int .u8 (byteAt kb 0)) := (hB.cell (p := ⟨w.heap.size, 0, none⟩) hs1).trans (cell_of (unhide HKy) 0)
      have k1 : wr.cell? ⟨w.heap.size, 1, none⟩ = some (.int .u8 (byteAt kb 1)) := (hB.cell (p := ⟨w.heap.size, 1, none⟩) hs1).trans (cell_of (unhide HKy) 1)
      have k2 : wr.cell? ⟨w.heap.size, 2, none⟩ = some (.int .u8 (byteAt kb 2)) := (hB.cell (p := ⟨w.heap.size, 2, none⟩) hs1).trans (cell_of (unhide HKy) 2)
      have k3 : wr.cell? ⟨w.heap.size, 3, none⟩ = some (.int .u8 (byteAt kb 3)) := (hB.cell (p := ⟨w.heap.size, 3, none⟩) hs1).trans (cell_of (unhide HKy) 3)
      have k4 : wr.cell? ⟨w.heap.size, 4, none⟩ = some (.int .u8 (byteAt kb 4)) := (hB.cell (p := ⟨w.heap.size, 4, none⟩) hs1).trans (cell_of (unhide HKy) 4)
      have k5 : wr.cell? ⟨w.heap.size, 5, none⟩ = some (.int .u8 (byteAt kb 5)) := (hB.cell (p := ⟨w.heap.size, 5, none⟩) hs1).trans (cell_of (unhide HKy) 5)
      have k6 : wr.cell? ⟨w.heap.size, 6, none⟩ = some (.int .u8 (byteAt kb 6)) := (hB.cell (p := ⟨w.heap.size, 6, none⟩) hs1).trans (cell_of (unhide HKy) 6)
      have k7 : wr.cell? ⟨w.heap.size, 7, none⟩ = some (.int .u8 (byteAt kb 7)) := (hB.cell (p := ⟨w.heap.size, 7, none⟩) hs1).trans (cell_of (unhide HKy) 7)
      have HS := hide (fdKey_succ kb F j x hx)
      have hle := fdKey_le kb F j
      have HO := hide hown
      have HB := hide hB
      have HGL := hide (fun q hq => hown.lt q hq)
      have hws := hB.size
      clear hown hB hc hx hfg
      cases hsk : sameK x.1.kb kb
      · rw [hsk] at HS
        have HSK := hide hsk
        have HDr : Hid (∀ n, Below w1.heap.size w1 (wr.drewN n)) := fun n => below_drewN (unhide HB) n
        have HOr : Hid (∀ n, (wr.drewN n).ownsRow w1.heap.size 164 11 (.slice a (fdKey kb F j).length cp) (fdKey kb F j).length (fdRow (fdKey kb F j))) := fun n => ownsRow_of_block (unhide HO) fun q hq => rfl
        go_wp2
        go_quiet (fail)
        go_wp2
        go_roundw
        case rel =>
          refine ⟨j + 1, cp, a, by omega, by go_num, ?_, ?_, unhide HDr nq⟩
          · rw [unhide HS]; simp
          · rw [unhide HS]; simpa using unhide HOr nq
        case measure => simp [intOf]; omega
      · rw [hsk] at HS
        have HDr : Hid (∀ n, Below w1.heap.size w1 (wr.drewN n)) := fun n => below_drewN (unhide HB) n
        have HOr : Hid (∀ n, (wr.drewN n).ownsRow w1.heap.size 164 11 (.slice a (fdKey kb F j).length cp) (fdKey kb F j).length (fdRow (fdKey kb F j))) := fun n => ownsRow_of_block (unhide HO) fun q hq => rfl
        go_wp2
        go_quiet (fail)
        have OD := hide (unhide HOr nq)
        have BD := hide (unhide HDr nq)
        have hGD := hide (fun q hq => (unhide OD).lt q hq)
        have hzD : w1.heap.size ≤ (wr.drewN nq).heap.size := hws
        have Y0 : (wr.drewN nq).cell? ⟨fb, j * 11, none⟩ = _ := y0
        have Y1 : (wr.drewN nq).cell? ⟨fb, j * 11 + 1, none⟩ = _ := y1
        have Y2 : (wr.drewN nq).cell? ⟨fb, j * 11 + 2, none⟩ = _ := y2
        have Y3 : (wr.drewN nq).cell? ⟨fb, j * 11 + 3, none⟩ = _ := y3
        have Y4 : (wr.drewN nq).cell? ⟨fb, j * 11 + 4, none⟩ = _ := y4
        have Y5 : (wr.drewN nq).cell? ⟨fb, j * 11 + 5, none⟩ = _ := y5
        have Y6 : (wr.drewN nq).cell? ⟨fb, j * 11 + 6, none⟩ = _ := y6
        have Y7 : (wr.drewN nq).cell? ⟨fb, j * 11 + 7, none⟩ = _ := y7
        have Y8 : (wr.drewN nq).cell? ⟨fb, j * 11 + 8, none⟩ = _ := y8
        have Y9 : (wr.drewN nq).cell? ⟨fb, j * 11 + 9, none⟩ = _ := y9
        have Y10 : (wr.drewN nq).cell? ⟨fb, j * 11 + 10, none⟩ = _ := y10
        clear y0 y1 y2 y3 y4 y5 y6 y7 y8 y9 y10 k0 k1 k2 k3 k4 k5 k6 k7 HOr HDr HO HB HGL
        generalize wr.drewN nq = V at *
        generalize hFF : fdKey kb F j = G at *
        clear hFF
        go_wp2_with (at_builtin; go_must (refine wpList_append_lies _ rfl _ _ _ rfl w1.heap.size 164 i0 _ 11 32 Try.underlying161 hi0 hz0 hz1 hz2 rfl (by omega) _ G.length (fdRow G) rfl ?own ⟨V.heap.size, 0, none⟩ 1 1 (fdCells x) rfl rfl ?news ?one (by omega) ?h63 ?bytes ?base (V.heap.size + 1) ?hH ?next))
        case own => exact (unhide OD).alloc _
        case news => exact World.news_of_block (heap_alloc_new V _)
        case one =>
          intro u hu
          simp [fdCells, rcCells, recArr] at hu
          rcases hu with rfl | rfl | rfl | rfl | rfl | rfl | rfl | rfl | rfl | rfl | rfl <;> rfl
        case h63 => unfold maxLen; omega
        case bytes => omega
        case base => simp; omega
        case hH => simp
        case next =>
          intro g2 cap2 w6 hown6 hgrow6 hat hlt6
          have hB6 : Hid (Below w1.heap.size w1 w6) := ((unhide BD).alloc hzD _).grown hgrow6 (by simp; omega) (fun q hq => (unhide hGD q hq).1)
          have HN := hide hown6
          clear hown6 hgrow6 hat
          go_wp2
          go_roundw
          case rel =>
            refine ⟨j + 1, cap2, some ⟨g2, 0, none⟩, by omega, by go_num, ?_, ?_, unhide hB6⟩
            · rw [unhide HS]; simp
            · rw [unhide HS, if_pos trivial, fdRow_append]
              simpa [fdRow] using unhide HN
          case measure => simp [intOf]; omega
    · have e : j = F.length := by omega
      subst e
      have HO := hide hown
      have HB := hide ((unhide HB1).trans (hB.mono (unhide HB1).size))
      have hsz := (unhide HB1).size
      clear hown hB
      go_wp2
      go_ret
      exact ⟨_, rfl, ownsRow_base (unhide HO) hsz, unhide HB⟩

end Go.Proofs.Ytpnkmnmchdabkaa
