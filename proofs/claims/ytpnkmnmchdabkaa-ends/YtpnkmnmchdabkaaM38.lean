import Derived.Test.YtpnkmnmchdabkaaM30
import Derived.ChangeKeysEq
import Derived.Test.YtpnkmnmchdabkaaM00
namespace Go.Proofs.Ytpnkmnmchdabkaa
open Go.RowKit

/-- Is it the same key? -/
def sameK (a b : List UInt8) : Bool := decide (byteAt a 0 = byteAt b 0) && (decide (byteAt a 1 = byteAt b 1) && (decide (byteAt a 2 = byteAt b 2) && (decide (byteAt a 3 = byteAt b 3) && (decide (byteAt a 4 = byteAt b 4) && (decide (byteAt a 5 = byteAt b 5) && (decide (byteAt a 6 = byteAt b 6) && decide (byteAt a 7 = byteAt b 7)))))))
/-- What is folded of a key, among the first n. -/
def fdKey (kb : List UInt8) (F : List (Rc × Int)) (n : Nat) : List (Rc × Int) := (F.take n).filter (fun x => sameK x.1.kb kb)
theorem fdKey_succ (kb : List UInt8) (F : List (Rc × Int)) (n : Nat) (x : Rc × Int) (h : F[n]? = some x) : fdKey kb F (n + 1) = fdKey kb F n ++ (if sameK x.1.kb kb = true then [x] else []) := by
  have hi := (List.getElem?_eq_some_iff.1 h).1
  have he : F[n] = x := (List.getElem?_eq_some_iff.1 h).2
  unfold fdKey
  rw [List.take_succ_eq_append_getElem hi, List.filter_append, he]
  by_cases hk : sameK x.1.kb kb = true <;> simp [hk]
theorem fdKey_le (kb : List UInt8) (F : List (Rc × Int)) (n : Nat) : (fdKey kb F n).length ≤ F.length := by
  unfold fdKey
  have h1 := List.length_filter_le (fun x => sameK x.1.kb kb) (F.take n)
  rw [List.length_take] at h1
  omega
theorem fdRow_get (l : List (Rc × Int)) (i j : Nat) (hj : j < 11) (s : Rc × Int) (h : l[i]? = some s) : (fdRow l)[i * 11 + j]? = (fdCells s)[j]? := by
  induction l generalizing i with
  | nil => simp at h
  | cons x r ih =>
    cases i with
    | zero =>
      simp at h; subst h
      simp only [fdRow, Nat.zero_mul, Nat.zero_add]
      rw [List.getElem?_append_left (by simpa [fdCells, rcCells, recArr] using hj)]
    | succ i =>
      simp at h
      simp only [fdRow]
      rw [List.getElem?_append_right (by simp only [fdCells, rcCells, recArr, List.length_append, List.length_cons, List.length_nil]; omega), ← ih i h]
      congr 1
      simp only [fdCells, rcCells, recArr, List.length_append, List.length_cons, List.length_nil]; omega

end Go.Proofs.Ytpnkmnmchdabkaa
namespace Go.Proofs.Ytpnkmnmchdabkaa
open Go.RowKit

theorem key_eq (a b : List UInt8) (w : World) : (Op.equalIn 10000 143 (.agg #[.int .u8 (byteAt a 0), .int .u8 (byteAt a 1), .int .u8 (byteAt a 2), .int .u8 (byteAt a 3), .int .u8 (byteAt a 4), .int .u8 (byteAt a 5), .int .u8 (byteAt a 6), .int .u8 (byteAt a 7)]) (.agg #[.int .u8 (byteAt b 0), .int .u8 (byteAt b 1), .int .u8 (byteAt b 2), .int .u8 (byteAt b 3), .int .u8 (byteAt b 4), .int .u8 (byteAt b 5), .int .u8 (byteAt b 6), .int .u8 (byteAt b 7)])).run Try.prog w = .ok (sameK a b) w := by
  have hu := Try.underlying143
  obtain ⟨i, hi⟩ : ∃ i, Try.prog.info? 5 = some i := Option.isSome_iff_exists.1 (by kernel_rfl)
  have hc : Try.prog.cellsOf 5 = 1 := by kernel_rfl
  have hb := Try.underlying5
  rw [run_equalIn_array w 9999 _ _ hu hi, hc, show List.range 8 = [0, 1, 2, 3, 4, 5, 6, 7] from rfl]
  simp [Op.eqItems, go_sem]
  unfold sameK
  repeat' split
  all_goals simp [*]

end Go.Proofs.Ytpnkmnmchdabkaa
namespace Go.Proofs.Ytpnkmnmchdabkaa
open Go.RowKit
attribute [local go_sem ↓] Go.wp_at_zero Go.wp_at_succ
attribute [local go_sem ↓] zvWm ldW_shut stW_shut
attribute [local go_sem] stW_new key_eq

theorem new_twoF (w : World) (o o' : Obj) : ((w.alloc o).alloc o').heap[w.heap.size + 1]? = some o' := by
  have := heap_alloc_new (w.alloc o) o'
  rwa [show (w.alloc o).heap.size = w.heap.size + 1 by simp] at this

set_option maxRecDepth 100000 in
set_option maxHeartbeats 4000000 in
theorem foldedOf_any {w : World} {ρ : Nat → Nat} {gb : Nat} {C : Cfg} {now : Rest} {sv : Value} {m : List Cs} {g cap : Nat} {ls : List Le} {P : List Pl} (h : GS w ρ gb C now sv m g cap ls P) (hI : Inv (m.map (·.s))) (d : Nat → Nat) (hd : ∀ k, d k ≤ 32) (hdn : ∀ k, k < 16 → dnP now.dn k = (d k : Int)) (hdc : ∀ (k : Nat) (s : Cs), m[k]? = some s → d k ≤ s.s.rl.length) (kb : List UInt8) :
    Calls Try.prog 96 #[.pointer (some ⟨gb, 8, none⟩), .pointer (some ⟨gb, 7, none⟩), .agg #[.int .u8 (byteAt kb 0), .int .u8 (byteAt kb 1), .int .u8 (byteAt kb 2), .int .u8 (byteAt kb 3), .int .u8 (byteAt kb 4), .int .u8 (byteAt kb 5), .int .u8 (byteAt kb 6), .int .u8 (byteAt kb 7)]] w fun e w' => ∃ v, e = .returned v ∧ w'.ownsRow w.heap.size 164 11 v (fdKey kb (fdUp (m.map (·.s)) d m.length) (fdUp (m.map (·.s)) d m.length).length).length (fdRow (fdKey kb (fdUp (m.map (·.s)) d m.length) (fdUp (m.map (·.s)) d m.length).length)) ∧ Below w.heap.size w w' := by
  obtain ⟨i0, hi0, hz0, hz1, hz2⟩ := info_parts infoFd
  have HW : Hid (∀ o, Calls Try.prog 102 #[.pointer (some ⟨gb, 8, none⟩), .pointer (some ⟨gb, 7, none⟩)] (w.alloc o) fun e w' => ∃ v, e = .returned (.tuple #[v, .agg (stA (wmUp (m.map (·.s)) d m.length))]) ∧ w'.ownsRow (w.alloc o).heap.size 164 11 v (fdUp (m.map (·.s)) d m.length).length (fdRow (fdUp (m.map (·.s)) d m.length)) ∧ Below (w.alloc o).heap.size (w.alloc o) w') := fun o => walk_any (h.alloc o).1 hI d hd hdn hdc
  have hFl : (fdUp (m.map (·.s)) d m.length).length ≤ 512 := by have := fdUp_le (l := m.map (·.s)) hd m.length; have := GrpL.le h; omega
  have z0 := st0_len
  have s0 := stA_size z0
  have hU := wmUp_len (m.map (·.s)) d m.length
  generalize fdUp (m.map (·.s)) d m.length = F at *
  generalize wmUp (m.map (·.s)) d m.length = U at *
  clear h hI hd hdn hdc
  go_enter Try.func96, Try.ntmps96
  go_wp2_with fail
  refine (unhide HW _).mono ?_
  rintro e w1 ⟨v, rfl, hv, hb1⟩
  obtain ⟨va, vcap, rfl⟩ := ownsRow_len hv
  obtain ⟨hky, hB1, hs1⟩ := below_new hb1
  have HV := hide hv
  have HB1 := hide hB1
  have HKy := hide hky
  clear hv hb1 hB1 hky HW
  go_wp2
  have HI0 : Hid (((w1.alloc (.cells (stA U) 171)).alloc (.cells #[] 164)).ownsRow w1.heap.size 164 11 (.slice (some ⟨w1.heap.size + 1, 0, none⟩) 0 0) 0 []) := ⟨rfl, .inr ⟨w1.heap.size + 1, 0, #[], rfl, Nat.le_succ _, new_twoF w1 _ _, Nat.le_refl _, by unfold maxLen; omega, rfl, rfl⟩⟩
  have HB0 : Hid (Below w1.heap.size w1 ((w1.alloc (.cells (stA U) 171)).alloc (.cells #[] 164))) := ((Below.refl _ w1).alloc (Nat.le_refl _) _).alloc (by simp) _
  go_loopw [9, 10] (fun p q wr => ∃ (j cp : Nat) (a : Option Addr), j ≤ F.length ∧ q = .int .i64 j ∧ p = .slice a (fdKey kb F j).length cp ∧ wr.ownsRow w1.heap.size 164 11 (.slice a (fdKey kb F j).length cp) (fdKey kb F j).length (fdRow (fdKey kb F j)) ∧ Below w1.heap.size w1 wr) (fun _ q _ => F.length - (intOf q).toNat)
  case atStart => exact ⟨0, 0, some ⟨w1.heap.size + 1, 0, none⟩, Nat.zero_le _, rfl, rfl, unhide HI0, unhide HB0⟩
  case round =>
    obtain ⟨j, cp, a, hj, rfl, rfl, hown, hB⟩ := hrel
    by_cases hlt : j < F.length
    · obtain ⟨fb, cap', cur, hv2, _, hfg, _⟩ := ownsRow_shape (unhide HV) (by omega)
      injection hv2 with e1 e2 e3
      subst e1
      subst e3
      clear e2
      have hfl := lt_of_heap hfg
      obtain ⟨x, hx⟩ : ∃ x, F[j]? = some x := ⟨F[j], List.getElem?_eq_getElem hlt⟩
      have hc : ∀ i, i < 11 → wr.cell? ⟨fb, j * 11 + i, none⟩ = (fdCells x)[i]? := fun i hi => by
        rw [hB.cell (p := ⟨fb, j * 11 + i, none⟩) hfl, World.ownsRow.cellAt (unhide HV) (j * 11 + i) (by omega), fdRow_get F j i hi x hx]
      have y0 := hc 0 (by omega)
      have y1 := hc 1 (by omega)
      have y2 := hc 2 (by omega)
      have y3 := hc 3 (by omega)
      have y4 := hc 4 (by omega)
      have y5 := hc 5 (by omega)
      have y6 := hc 6 (by omega)
      have y7 := hc 7 (by omega)
      have y8 := hc 8 (by omega)
      have y9 := hc 9 (by omega)
      have y10 := hc 10 (by omega)
      simp [fdCells, rcCells, recArr] at y0 y1 y2 y3 y4 y5 y6 y7 y8 y9 y10
      have k0 : wr.cell? ⟨w.heap.size, 0, none⟩ = some (.int .u8 (byteAt kb 0)) := (hB.cell (p := ⟨w.heap.size, 0, none⟩) hs1).trans (cell_of (unhide HKy) 0)
      have k1 : wr.cell? ⟨w.heap.size, 1, none⟩ = some (.int .u8 (byteAt kb 1)) := (hB.cell (p := ⟨w.heap.size, 1, none⟩) hs1).trans (cell_of (unhide HKy) 1)
      have k2 : wr.cell? ⟨w.heap.size, 2, none⟩ = some (.int .u8 (byteAt kb 2)) := (hB.cell (p := ⟨w.heap.size, 2, none⟩) hs1).trans (cell_of (unhide HKy) 2)
      have k3 : wr.cell? ⟨w.heap.size, 3, none⟩ = some (.int .u8 (byteAt kb 3)) := (hB.cell (p := ⟨w.heap.size, 3, none⟩) hs1).trans (cell_of (unhide HKy) 3)
      have k4 : wr.cell? ⟨w.heap.size, 4, none⟩ = some (.int .u8 (byteAt kb 4)) := (hB.cell (p := ⟨w.heap.size, 4, none⟩) hs1).trans (cell_of (unhide HKy) 4)
      have k5 : wr.cell? ⟨w.heap.size, 5, none⟩ = some (.int .u8 (byteAt kb 5)) := (hB.cell (p := ⟨w.heap.size, 5, none⟩) hs1).trans (cell_of (unhide HKy) 5)
      have k6 : wr.cell? ⟨w.heap.size, 6, none⟩ = some (.int .u8 (byteAt kb 6)) := (hB.cell (p := ⟨w.heap.size, 6, none⟩) hs1).trans (cell_of (unhide HKy) 6)
      have k7 : wr.cell? ⟨w.heap.size, 7, none⟩ = some (.int .u8 (byteAt kb 7)) := (hB.cell (p := ⟨w.heap.size, 7, none⟩) hs1).trans (cell_of (unhide HKy) 7)
      have HS := hide (fdKey_succ kb F j x hx)
      have hle := fdKey_le kb F j
      have HO := hide hown
      have HB := hide hB
      have HGL := hide (fun q hq => hown.lt q hq)
      have hws := hB.size
      clear hown hB hc hx hfg
      cases hsk : sameK x.1.kb kb
      · rw [hsk] at HS
        have HSK := hide hsk
        have HDr : Hid (∀ n, Below w1.heap.size w1 (wr.drewN n)) := fun n => below_drewN (unhide HB) n
        have HOr : Hid (∀ n, (wr.drewN n).ownsRow w1.heap.size 164 11 (.slice a (fdKey kb F j).length cp) (fdKey kb F j).length (fdRow (fdKey kb F j))) := fun n => ownsRow_of_block (unhide HO) fun q hq => rfl
        go_wp2
        go_quiet (fail)
        go_wp2
        go_roundw
        case rel =>
          refine ⟨j + 1, cp, a, by omega, by go_num, ?_, ?_, unhide HDr nq⟩
          · rw [unhide HS]; simp
          · rw [unhide HS]; simpa using unhide HOr nq
        case measure => simp [intOf]; omega
      · rw [hsk] at HS
        have HDr : Hid (∀ n, Below w1.heap.size w1 (wr.drewN n)) := fun n => below_drewN (unhide HB) n
        have HOr : Hid (∀ n, (wr.drewN n).ownsRow w1.heap.size 164 11 (.slice a (fdKey kb F j).length cp) (fdKey kb F j).length (fdRow (fdKey kb F j))) := fun n => ownsRow_of_block (unhide HO) fun q hq => rfl
        go_wp2
        go_quiet (fail)
        have OD := hide (unhide HOr nq)
        have BD := hide (unhide HDr nq)
        have hGD := hide (fun q hq => (unhide OD).lt q hq)
        have hzD : w1.heap.size ≤ (wr.drewN nq).heap.size := hws
        have Y0 : (wr.drewN nq).cell? ⟨fb, j * 11, none⟩ = _ := y0
        have Y1 : (wr.drewN nq).cell? ⟨fb, j * 11 + 1, none⟩ = _ := y1
        have Y2 : (wr.drewN nq).cell? ⟨fb, j * 11 + 2, none⟩ = _ := y2
        have Y3 : (wr.drewN nq).cell? ⟨fb, j * 11 + 3, none⟩ = _ := y3
        have Y4 : (wr.drewN nq).cell? ⟨fb, j * 11 + 4, none⟩ = _ := y4
        have Y5 : (wr.drewN nq).cell? ⟨fb, j * 11 + 5, none⟩ = _ := y5
        have Y6 : (wr.drewN nq).cell? ⟨fb, j * 11 + 6, none⟩ = _ := y6
        have Y7 : (wr.drewN nq).cell? ⟨fb, j * 11 + 7, none⟩ = _ := y7
        have Y8 : (wr.drewN nq).cell? ⟨fb, j * 11 + 8, none⟩ = _ := y8
        have Y9 : (wr.drewN nq).cell? ⟨fb, j * 11 + 9, none⟩ = _ := y9
        have Y10 : (wr.drewN nq).cell? ⟨fb, j * 11 + 10, none⟩ = _ := y10
        clear y0 y1 y2 y3 y4 y5 y6 y7 y8 y9 y10 k0 k1 k2 k3 k4 k5 k6 k7 HOr HDr HO HB HGL
        generalize wr.drewN nq = V at *
        generalize hFF : fdKey kb F j = G at *
        clear hFF
        go_wp2_with (at_builtin; go_must (refine wpList_append_lies _ rfl _ _ _ rfl w1.heap.size 164 i0 _ 11 32 Try.underlying161 hi0 hz0 hz1 hz2 rfl (by omega) _ G.length (fdRow G) rfl ?own ⟨V.heap.size, 0, none⟩ 1 1 (fdCells x) rfl rfl ?news ?one (by omega) ?h63 ?bytes ?base (V.heap.size + 1) ?hH ?next))
        case own => exact (unhide OD).alloc _
        case news => exact World.news_of_block (heap_alloc_new V _)
        case one =>
          intro u hu
          simp [fdCells, rcCells, recArr] at hu
          rcases hu with rfl | rfl | rfl | rfl | rfl | rfl | rfl | rfl | rfl | rfl | rfl <;> rfl
        case h63 => unfold maxLen; omega
        case bytes => omega
        case base => simp; omega
        case hH => simp
        case next =>
          intro g2 cap2 w6 hown6 hgrow6 hat hlt6
          have hB6 : Hid (Below w1.heap.size w1 w6) := ((unhide BD).alloc hzD _).grown hgrow6 (by simp; omega) (fun q hq => (unhide hGD q hq).1)
          have HN := hide hown6
          clear hown6 hgrow6 hat
          go_wp2
          go_roundw
          case rel =>
            refine ⟨j + 1, cap2, some ⟨g2, 0, none⟩, by omega, by go_num, ?_, ?_, unhide hB6⟩
            · rw [unhide HS]; simp
            · rw [unhide HS, if_pos trivial, fdRow_append]
              simpa [fdRow] using unhide HN
          case measure => simp [intOf]; omega
    · have e : j = F.length := by omega
      subst e
      have HO := hide hown
      have HB := hide ((unhide HB1).trans (hB.mono (unhide HB1).size))
      have hsz := (unhide HB1).size
      clear hown hB
      go_wp2
      go_ret
      exact ⟨_, rfl, ownsRow_base (unhide HO) hsz, unhide HB⟩

end Go.Proofs.Ytpnkmnmchdabkaa
namespace Go.Proofs.Ytpnkmnmchdabkaa

/-- A number more, in a list in rising order, if it is not there. -/
def ins (x : Int) : List Int → List Int
  | [] => [x]
  | y :: r => if x < y then x :: y :: r else if x = y then y :: r else y :: ins x r
def Ris (L : List Int) : Prop := L.Pairwise (· < ·)
theorem mem_ins {x y : Int} {L : List Int} : y ∈ ins x L ↔ y = x ∨ y ∈ L := by
  induction L with
  | nil => simp [ins]
  | cons z r ih =>
    unfold ins
    split
    · simp
    · split
      · rename_i h; subst h; simp
      · rw [List.mem_cons, ih, List.mem_cons]
        constructor
        · rintro (h | h | h)
          · exact Or.inr (Or.inl h)
          · exact Or.inl h
          · exact Or.inr (Or.inr h)
        · rintro (h | h | h)
          · exact Or.inr (Or.inl h)
          · exact Or.inl h
          · exact Or.inr (Or.inr h)
theorem Ris.ins {x : Int} {L : List Int} (h : Ris L) : Ris (ins x L) := by
  unfold Ris at h ⊢
  induction L with
  | nil => simp [Go.Proofs.Ytpnkmnmchdabkaa.ins]
  | cons z r ih =>
    rw [List.pairwise_cons] at h
    unfold Go.Proofs.Ytpnkmnmchdabkaa.ins
    split
    · rename_i hx
      rw [List.pairwise_cons, List.pairwise_cons]
      refine ⟨fun a ha => ?_, h.1, h.2⟩
      rcases List.mem_cons.1 ha with rfl | ha
      · exact hx
      · have := h.1 a ha; omega
    · split
      · rw [List.pairwise_cons]; exact h
      · rw [List.pairwise_cons]
        refine ⟨fun a ha => ?_, ih h.2⟩
        rcases mem_ins.1 ha with rfl | ha
        · omega
        · exact h.1 a ha
theorem ins_at {x : Int} : ∀ (L : List Int) (p : Nat), p ≤ L.length → (∀ (j : Nat) (y : Int), p ≤ j → L[j]? = some y → x < y) → (∀ (j : Nat) (y : Int), j < p → L[j]? = some y → y < x) → ins x L = L.take p ++ x :: L.drop p
  | [], p, _, _, _ => by simp [ins]
  | y :: r, 0, _, h1, _ => by
    have := h1 0 y (Nat.le_refl _) rfl
    simp [ins, this]
  | y :: r, p + 1, hp, h1, h2 => by
    have h := h2 0 y (by omega) rfl
    have ih := ins_at r p (by simpa using hp) (fun j z hj hz => h1 (j + 1) z (by omega) (by simpa using hz)) (fun j z hj hz => h2 (j + 1) z (by omega) (by simpa using hz))
    unfold ins
    rw [if_neg (by omega), if_neg (by omega), ih]
    simp
theorem ins_same {x : Int} : ∀ (L : List Int), Ris L → x ∈ L → ins x L = L
  | [], _, h => by simp at h
  | y :: r, hr, h => by
    unfold Ris at hr
    rw [List.pairwise_cons] at hr
    unfold ins
    rcases List.mem_cons.1 h with rfl | h
    · simp
    · have := hr.1 x h
      rw [if_neg (by omega), if_neg (by omega), ins_same r hr.2 h]
theorem ins_snoc {x y : Int} : ∀ (L : List Int), Ris (L ++ [y]) → (∃ z ∈ L, x ≤ z) → ins x (L ++ [y]) = ins x L ++ [y]
  | [], _, ⟨z, h, _⟩ => by simp at h
  | a :: r, hr, ⟨z, hz, hxz⟩ => by
    unfold Ris at hr
    rw [List.cons_append, List.pairwise_cons] at hr
    rw [List.cons_append]
    unfold ins
    split
    · rfl
    · split
      · rfl
      · rw [List.cons_append]
        congr 1
        refine ins_snoc r hr.2 ⟨z, ?_, hxz⟩
        rcases List.mem_cons.1 hz with rfl | hz
        · omega
        · exact hz
theorem ins_last {x : Int} : ∀ (L : List Int), (∀ z ∈ L, z < x) → ins x L = L ++ [x]
  | [], _ => rfl
  | a :: r, h => by
    have h0 := h a (by simp)
    unfold ins
    rw [if_neg (by omega), if_neg (by omega), ins_last r (fun z hz => h z (by simp [hz])), List.cons_append]
theorem ris_at {L : List Int} (h : Ris L) {i j : Nat} {a b : Int} (hij : i < j) (hi : L[i]? = some a) (hj : L[j]? = some b) : a < b := by
  obtain ⟨h1, rfl⟩ := List.getElem?_eq_some_iff.1 hi
  obtain ⟨h2, rfl⟩ := List.getElem?_eq_some_iff.1 hj
  exact List.pairwise_iff_getElem.1 h i j h1 h2 hij
/-- In rising order, from 0 to a million: so no more than that. -/
def Sts (L : List Int) : Prop := Ris L ∧ ∀ y ∈ L, 0 ≤ y ∧ y ≤ 1000000
theorem sts_get {L : List Int} (h : Ris L) (h0 : ∀ y ∈ L, 0 ≤ y) : ∀ (i : Nat) (a : Int), L[i]? = some a → (i : Int) ≤ a
  | 0, a, hi => h0 a (List.mem_of_getElem? hi)
  | i + 1, a, hi => by
    have hl := (List.getElem?_eq_some_iff.1 hi).1
    have hp : L[i]? = some L[i] := List.getElem?_eq_getElem (by omega)
    have := sts_get h h0 i _ hp
    have := ris_at h (Nat.lt_succ_self i) hp hi
    omega
theorem Sts.len {L : List Int} (h : Sts L) : L.length ≤ 1000001 := by
  by_cases h0 : L.length = 0
  · omega
  · have hp : L[L.length - 1]? = some L[L.length - 1] := List.getElem?_eq_getElem (by omega)
    have := sts_get h.1 (fun y hy => (h.2 y hy).1) _ _ hp
    have := (h.2 _ (List.mem_of_getElem? hp)).2
    omega
theorem Sts.ins {x : Int} {L : List Int} (h : Sts L) (hx : 0 ≤ x ∧ x ≤ 1000000) : Sts (ins x L) :=
  ⟨h.1.ins, fun y hy => by
    rcases mem_ins.1 hy with rfl | hy
    · exact hx
    · exact h.2 y hy⟩
theorem sts_nil : Sts [] := ⟨List.Pairwise.nil, by simp⟩

/-- Does a window hold a time? As the program asks. -/
def hldW (wd s t : Int) : Bool := decide (0 ≤ s ∧ s ≤ t ∧ t - s < wd)
/-- The windows of a time, from s on downward. -/
def addO (wd sl t : Int) : Nat → Int → List Int → List Int
  | 0, _, L => L
  | f + 1, s, L => if hldW wd s t = true then addO wd sl t f (s - sl) (ins s L) else L
def addT (wd sl t : Int) (L : List Int) : List Int := addO wd sl t (t.toNat + 1) (t - t % sl) L
/-- Where the windows begin that hold some times. -/
def stsOf (wd sl : Int) (ts : List Int) : List Int := ts.foldl (fun L t => addT wd sl t L) []
theorem addO_end {wd sl t : Int} {f : Nat} {s : Int} {L : List Int} (h : hldW wd s t = false) : addO wd sl t f s L = L := by
  cases f with
  | zero => rfl
  | succ f => unfold addO; rw [h]; simp
theorem Sts.addO {wd sl t : Int} (ht : t ≤ 1000000) : ∀ (f : Nat) (s : Int) (L : List Int), Sts L → Sts (addO wd sl t f s L)
  | 0, _, _, h => h
  | f + 1, s, L, h => by
    unfold Go.Proofs.Ytpnkmnmchdabkaa.addO
    split
    · rename_i hh
      unfold hldW at hh
      simp only [decide_eq_true_eq] at hh
      exact Sts.addO ht f _ _ (h.ins ⟨hh.1, by omega⟩)
    · exact h
theorem Sts.addT {wd sl t : Int} (ht : t ≤ 1000000) {L : List Int} (h : Sts L) : Sts (addT wd sl t L) := Sts.addO ht _ _ _ h
theorem stsOf_take {wd sl : Int} {ts : List Int} {j : Nat} {t : Int} (h : ts[j]? = some t) : stsOf wd sl (ts.take (j + 1)) = addT wd sl t (stsOf wd sl (ts.take j)) := by
  obtain ⟨h1, rfl⟩ := List.getElem?_eq_some_iff.1 h
  unfold stsOf
  rw [List.take_succ_eq_append_getElem h1, List.foldl_append]
  rfl
theorem sts_of {wd sl : Int} {ts : List Int} (h : ∀ t ∈ ts, t ≤ 1000000) : ∀ j, j ≤ ts.length → Sts (stsOf wd sl (ts.take j))
  | 0, _ => by simpa [stsOf] using sts_nil
  | j + 1, hj => by
    have hp : ts[j]? = some ts[j] := List.getElem?_eq_getElem (by omega)
    rw [stsOf_take hp]
    exact Sts.addT (h _ (List.mem_of_getElem? hp)) (sts_of h j (by omega))
/-- All of them are multiples of Slide. -/
theorem addO_mul {wd sl t : Int} : ∀ (f : Nat) (s : Int) (L : List Int), s % sl = 0 → (∀ y ∈ L, y % sl = 0) → ∀ y ∈ addO wd sl t f s L, y % sl = 0
  | 0, _, _, _, h => h
  | f + 1, s, L, hs, h => by
    unfold addO
    split
    · refine addO_mul f _ _ ?_ fun y hy => ?_
      · rw [Int.sub_emod, hs, Int.emod_self]; simp
      · rcases mem_ins.1 hy with rfl | hy
        · exact hs
        · exact h y hy
    · exact h
theorem stsOf_mul {wd sl : Int} {ts : List Int} : ∀ j, j ≤ ts.length → ∀ y ∈ stsOf wd sl (ts.take j), y % sl = 0
  | 0, _ => by simp [stsOf]
  | j + 1, hj => by
    have hp : ts[j]? = some ts[j] := List.getElem?_eq_getElem (by omega)
    rw [stsOf_take hp]
    refine addO_mul _ _ _ ?_ (stsOf_mul j (by omega))
    rw [Int.sub_emod, Int.emod_emod_of_dvd _ (Int.dvd_refl _)]
    simp

/-- The row as the program moves it up. -/
def sft (L : List Int) (x : Int) (i : Nat) : List Int := (L ++ [x]).take (i + 1) ++ L.drop i
theorem sft_len {L : List Int} {x : Int} {i : Nat} (h : i ≤ L.length) : (sft L x i).length = L.length + 1 := by
  unfold sft
  rw [List.length_append, List.length_take, List.length_append, List.length_drop]
  simp
  omega
theorem sft_top (L : List Int) (x : Int) : sft L x L.length = L ++ [x] := by
  unfold sft
  rw [List.take_of_length_le (by simp)]
  simp
theorem sft_get {L : List Int} {x : Int} {i j : Nat} {y : Int} (hj : j ≤ i) (h : L[j]? = some y) : (sft L x i)[j]? = some y := by
  have hl := (List.getElem?_eq_some_iff.1 h).1
  unfold sft
  rw [List.getElem?_append_left (by rw [List.length_take, List.length_append]; simp; omega), List.getElem?_take, if_pos (by omega), List.getElem?_append_left hl, h]
theorem sft_set {L : List Int} {x : Int} {i : Nat} {y : Int} (h : L[i]? = some y) : (sft L x (i + 1)).set (i + 1) y = sft L x i := by
  have hl := (List.getElem?_eq_some_iff.1 h).1
  have he := (List.getElem?_eq_some_iff.1 h).2
  refine List.ext_getElem? fun j => ?_
  rw [List.getElem?_set]
  unfold sft
  split
  · rename_i e; subst e
    rw [if_pos (by rw [List.length_append, List.length_take, List.length_append, List.length_drop]; simp; omega)]
    rw [List.getElem?_append_right (by rw [List.length_take, List.length_append]; simp; omega), List.length_take, List.length_append, List.getElem?_drop]
    rw [show i + (i + 1 - min (i + 1) (L.length + [x].length)) = i by simp; omega, h]
  · by_cases hj : j ≤ i
    · rw [List.getElem?_append_left (by rw [List.length_take, List.length_append]; simp; omega), List.getElem?_append_left (by rw [List.length_take, List.length_append]; simp; omega), List.getElem?_take, List.getElem?_take, if_pos (by omega), if_pos (by omega)]
    · rw [List.getElem?_append_right (by rw [List.length_take, List.length_append]; simp; omega), List.getElem?_append_right (by rw [List.length_take, List.length_append]; simp; omega), List.length_take, List.length_take, List.length_append, List.getElem?_drop, List.getElem?_drop]
      congr 1
      simp
      omega
theorem sft_end {L : List Int} {x : Int} {p : Nat} (h : p ≤ L.length) : (sft L x p).set p x = L.take p ++ x :: L.drop p := by
  refine List.ext_getElem? fun j => ?_
  rw [List.getElem?_set]
  split
  · rename_i e; subst e
    rw [if_pos (by rw [sft_len h]; omega), List.getElem?_append_right (by rw [List.length_take]; omega), List.length_take]
    rw [show p - min p L.length = 0 by omega]
    simp
  · unfold sft
    by_cases hj : j < p
    · rw [List.getElem?_append_left (by rw [List.length_take, List.length_append]; simp; omega), List.getElem?_append_left (by rw [List.length_take]; omega), List.getElem?_take, List.getElem?_take, if_pos (by omega), if_pos hj, List.getElem?_append_left (by omega)]
    · rw [List.getElem?_append_right (by rw [List.length_take, List.length_append]; simp; omega), List.getElem?_append_right (by rw [List.length_take]; omega), List.length_take, List.length_take, List.length_append, List.getElem?_drop]
      rw [show j - min p L.length = (j - (p + 1)) + 1 by omega, List.getElem?_cons_succ, List.getElem?_drop]
      congr 1
      simp
      omega

end Go.Proofs.Ytpnkmnmchdabkaa
