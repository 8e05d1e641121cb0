import Derived.Test.YtpnkmnmchdabkaaM00
import Derived.Test.YtpnkmnmchdabkaaM07
namespace Go.Proofs.Ytpnkmnmchdabkaa

/-- A number more, in a list in rising order, if it is not there. -/
def ins (x : Int) : List Int → List Int
  | [] => [x]
  | y :: r => if x < y then x :: y :: r else if x = y then y :: r else y :: ins x r
def Ris (L : List Int) : Prop := L.Pairwise (· < ·)
theorem mem_ins {x y : Int} {L : List Int} : y ∈ ins x L ↔ y = x ∨ y ∈ L := by
  induction L with
  | nil => simp [ins]
  | cons z r ih =>
    unfold ins
    split
    · simp
    · split
      · rename_i h; subst h; simp
      · rw [List.mem_cons, ih, List.mem_cons]
        constructor
        · rintro (h | h | h)
          · exact Or.inr (Or.inl h)
          · exact Or.inl h
          · exact Or.inr (Or.inr h)
        · rintro (h | h | h)
          · exact Or.inr (Or.inl h)
          · exact Or.inl h
          · exact Or.inr (Or.inr h)
theorem Ris.ins {x : Int} {L : List Int} (h : Ris L) : Ris (ins x L) := by
  unfold Ris at h ⊢
  induction L with
  | nil => simp [Go.Proofs.Ytpnkmnmchdabkaa.ins]
  | cons z r ih =>
    rw [List.pairwise_cons] at h
    unfold Go.Proofs.Ytpnkmnmchdabkaa.ins
    split
    · rename_i hx
      rw [List.pairwise_cons, List.pairwise_cons]
      refine ⟨fun a ha => ?_, h.1, h.2⟩
      rcases List.mem_cons.1 ha with rfl | ha
      · exact hx
      · have := h.1 a ha; omega
    · split
      · rw [List.pairwise_cons]; exact h
      · rw [List.pairwise_cons]
        refine ⟨fun a ha => ?_, ih h.2⟩
        rcases mem_ins.1 ha with rfl | ha
        · omega
        · exact h.1 a ha
theorem ins_at {x : Int} : ∀ (L : List Int) (p : Nat), p ≤ L.length → (∀ (j : Nat) (y : Int), p ≤ j → L[j]? = some y → x < y) → (∀ (j : Nat) (y : Int), j < p → L[j]? = some y → y < x) → ins x L = L.take p ++ x :: L.drop p
  | [], p, _, _, _ => by simp [ins]
  | y :: r, 0, _, h1, _ => by
    have := h1 0 y (Nat.le_refl _) rfl
    simp [ins, this]
  | y :: r, p + 1, hp, h1, h2 => by
    have h := h2 0 y (by omega) rfl
    have ih := ins_at r p (by simpa using hp) (fun j z hj hz => h1 (j + 1) z (by omega) (by simpa using hz)) (fun j z hj hz => h2 (j + 1) z (by omega) (by simpa using hz))
    unfold ins
    rw [if_neg (by omega), if_neg (by omega), ih]
    simp
theorem ins_same {x : Int} : ∀ (L : List Int), Ris L → x ∈ L → ins x L = L
  | [], _, h => by simp at h
  | y :: r, hr, h => by
    unfold Ris at hr
    rw [List.pairwise_cons] at hr
    unfold ins
    rcases List.mem_cons.1 h with rfl | h
    · simp
    · have := hr.1 x h
      rw [if_neg (by omega), if_neg (by omega), ins_same r hr.2 h]
theorem ins_snoc {x y : Int} : ∀ (L : List Int), Ris (L ++ [y]) → (∃ z ∈ L, x ≤ z) → ins x (L ++ [y]) = ins x L ++ [y]
  | [], _, ⟨z, h, _⟩ => by simp at h
  | a :: r, hr, ⟨z, hz, hxz⟩ => by
    unfold Ris at hr
    rw [List.cons_append, List.pairwise_cons] at hr
    rw [List.cons_append]
    unfold ins
    split
    · rfl
    · split
      · rfl
      · rw [List.cons_append]
        congr 1
        refine ins_snoc r hr.2 ⟨z, ?_, hxz⟩
        rcases List.mem_cons.1 hz with rfl | hz
        · omega
        · exact hz
theorem ins_last {x : Int} : ∀ (L : List Int), (∀ z ∈ L, z < x) → ins x L = L ++ [x]
  | [], _ => rfl
  | a :: r, h => by
    have h0 := h a (by simp)
    unfold ins
    rw [if_neg (by omega), if_neg (by omega), ins_last r (fun z hz => h z (by simp [hz])), List.cons_append]
theorem ris_at {L : List Int} (h : Ris L) {i j : Nat} {a b : Int} (hij : i < j) (hi : L[i]? = some a) (hj : L[j]? = some b) : a < b := by
  obtain ⟨h1, rfl⟩ := List.getElem?_eq_some_iff.1 hi
  obtain ⟨h2, rfl⟩ := List.getElem?_eq_some_iff.1 hj
  exact List.pairwise_iff_getElem.1 h i j h1 h2 hij
/-- In rising order, from 0 to a million: so no more than that. -/
def Sts (L : List Int) : Prop := Ris L ∧ ∀ y ∈ L, 0 ≤ y ∧ y ≤ 1000000
theorem sts_get {L : List Int} (h : Ris L) (h0 : ∀ y ∈ L, 0 ≤ y) : ∀ (i : Nat) (a : Int), L[i]? = some a → (i : Int) ≤ a
  | 0, a, hi => h0 a (List.mem_of_getElem? hi)
  | i + 1, a, hi => by
    have hl := (List.getElem?_eq_some_iff.1 hi).1
    have hp : L[i]? = some L[i] := List.getElem?_eq_getElem (by omega)
    have := sts_get h h0 i _ hp
    have := ris_at h (Nat.lt_succ_self i) hp hi
    omega
theorem Sts.len {L : List Int} (h : Sts L) : L.length ≤ 1000001 := by
  by_cases h0 : L.length = 0
  · omega
  · have hp : L[L.length - 1]? = some L[L.length - 1] := List.getElem?_eq_getElem (by omega)
    have := sts_get h.1 (fun y hy => (h.2 y hy).1) _ _ hp
    have := (h.2 _ (List.mem_of_getElem? hp)).2
    omega
theorem Sts.ins {x : Int} {L : List Int} (h : Sts L) (hx : 0 ≤ x ∧ x ≤ 1000000) : Sts (ins x L) :=
  ⟨h.1.ins, fun y hy => by
    rcases mem_ins.1 hy with rfl | hy
    · exact hx
    · exact h.2 y hy⟩
theorem sts_nil : Sts [] := ⟨List.Pairwise.nil, by simp⟩

/-- Does a window hold a time? As the program asks. -/
def hldW (wd s t : Int) : Bool := decide (0 ≤ s ∧ s ≤ t ∧ t - s < wd)
/-- The windows of a time, from s on downward. -/
def addO (wd sl t : Int) : Nat → Int → List Int → List Int
  | 0, _, L => L
  | f + 1, s, L => if hldW wd s t = true then addO wd sl t f (s - sl) (ins s L) else L
def addT (wd sl t : Int) (L : List Int) : List Int := addO wd sl t (t.toNat + 1) (t - t % sl) L
/-- Where the windows begin that hold some times. -/
def stsOf (wd sl : Int) (ts : List Int) : List Int := ts.foldl (fun L t => addT wd sl t L) []
theorem addO_end {wd sl t : Int} {f : Nat} {s : Int} {L : List Int} (h : hldW wd s t = false) : addO wd sl t f s L = L := by
  cases f with
  | zero => rfl
  | succ f => unfold addO; rw [h]; simp
theorem Sts.addO {wd sl t : Int} (ht : t ≤ 1000000) : ∀ (f : Nat) (s : Int) (L : List Int), Sts L → Sts (addO wd sl t f s L)
  | 0, _, _, h => h
  | f + 1, s, L, h => by
    unfold Go.Proofs.Ytpnkmnmchdabkaa.addO
    split
    · rename_i hh
      unfold hldW at hh
      simp only [decide_eq_true_eq] at hh
      exact Sts.addO ht f _ _ (h.ins ⟨hh.1, by omega⟩)
    · exact h
theorem Sts.addT {wd sl t : Int} (ht : t ≤ 1000000) {L : List Int} (h : Sts L) : Sts (addT wd sl t L) := Sts.addO ht _ _ _ h
theorem stsOf_take {wd sl : Int} {ts : List Int} {j : Nat} {t : Int} (h : ts[j]? = some t) : stsOf wd sl (ts.take (j + 1)) = addT wd sl t (stsOf wd sl (ts.take j)) := by
  obtain ⟨h1, rfl⟩ := List.getElem?_eq_some_iff.1 h
  unfold stsOf
  rw [List.take_succ_eq_append_getElem h1, List.foldl_append]
  rfl
theorem sts_of {wd sl : Int} {ts : List Int} (h : ∀ t ∈ ts, t ≤ 1000000) : ∀ j, j ≤ ts.length → Sts (stsOf wd sl (ts.take j))
  | 0, _ => by simpa [stsOf] using sts_nil
  | j + 1, hj => by
    have hp : ts[j]? = some ts[j] := List.getElem?_eq_getElem (by omega)
    rw [stsOf_take hp]
    exact Sts.addT (h _ (List.mem_of_getElem? hp)) (sts_of h j (by omega))
/-- All of them are multiples of Slide. -/
theorem addO_mul {wd sl t : Int} : ∀ (f : Nat) (s : Int) (L : List Int), s % sl = 0 → (∀ y ∈ L, y % sl = 0) → ∀ y ∈ addO wd sl t f s L, y % sl = 0
  | 0, _, _, _, h => h
  | f + 1, s, L, hs, h => by
    unfold addO
    split
    · refine addO_mul f _ _ ?_ fun y hy => ?_
      · rw [Int.sub_emod, hs, Int.emod_self]; simp
      · rcases mem_ins.1 hy with rfl | hy
        · exact hs
        · exact h y hy
    · exact h
theorem stsOf_mul {wd sl : Int} {ts : List Int} : ∀ j, j ≤ ts.length → ∀ y ∈ stsOf wd sl (ts.take j), y % sl = 0
  | 0, _ => by simp [stsOf]
  | j + 1, hj => by
    have hp : ts[j]? = some ts[j] := List.getElem?_eq_getElem (by omega)
    rw [stsOf_take hp]
    refine addO_mul _ _ _ ?_ (stsOf_mul j (by omega))
    rw [Int.sub_emod, Int.emod_emod_of_dvd _ (Int.dvd_refl _)]
    simp

/-- The row as the program moves it up. -/
def sft (L : List Int) (x : Int) (i : Nat) : List Int := (L ++ [x]).take (i + 1) ++ L.drop i
theorem sft_len {L : List Int} {x : Int} {i : Nat} (h : i ≤ L.length) : (sft L x i).length = L.length + 1 := by
  unfold sft
  rw [List.length_append, List.length_take, List.length_append, List.length_drop]
  simp
  omega
theorem sft_top (L : List Int) (x : Int) : sft L x L.length = L ++ [x] := by
  unfold sft
  rw [List.take_of_length_le (by simp)]
  simp
theorem sft_get {L : List Int} {x : Int} {i j : Nat} {y : Int} (hj : j ≤ i) (h : L[j]? = some y) : (sft L x i)[j]? = some y := by
  have hl := (List.getElem?_eq_some_iff.1 h).1
  unfold sft
  rw [List.getElem?_append_left (by rw [List.length_take, List.length_append]; simp; omega), List.getElem?_take, if_pos (by omega), List.getElem?_append_left hl, h]
theorem sft_set {L : List Int} {x : Int} {i : Nat} {y : Int} (h : L[i]? = some y) : (sft L x (i + 1)).set (i + 1) y = sft L x i := by
  have hl := (List.getElem?_eq_some_iff.1 h).1
  have he := (List.getElem?_eq_some_iff.1 h).2
  refine List.ext_getElem? fun j => ?_
  rw [List.getElem?_set]
  unfold sft
  split
  · rename_i e; subst e
    rw [if_pos (by rw [List.length_append, List.length_take, List.length_append, List.length_drop]; simp; omega)]
    rw [List.getElem?_append_right (by rw [List.length_take, List.length_append]; simp; omega), List.length_take, List.length_append, List.getElem?_drop]
    rw [show i + (i + 1 - min (i + 1) (L.length + [x].length)) = i by simp; omega, h]
  · by_cases hj : j ≤ i
    · rw [List.getElem?_append_left (by rw [List.length_take, List.length_append]; simp; omega), List.getElem?_append_left (by rw [List.length_take, List.length_append]; simp; omega), List.getElem?_take, List.getElem?_take, if_pos (by omega), if_pos (by omega)]
    · rw [List.getElem?_append_right (by rw [List.length_take, List.length_append]; simp; omega), List.getElem?_append_right (by rw [List.length_take, List.length_append]; simp; omega), List.length_take, List.length_take, List.length_append, List.getElem?_drop, List.getElem?_drop]
      congr 1
      simp
      omega
theorem sft_end {L : List Int} {x : Int} {p : Nat} (h : p ≤ L.length) : (sft L x p).set p x = L.take p ++ x :: L.drop p := by
  refine List.ext_getElem? fun j => ?_
  rw [List.getElem?_set]
  split
  · rename_i e; subst e
    rw [if_pos (by rw [sft_len h]; omega), List.getElem?_append_right (by rw [List.length_take]; omega), List.length_take]
    rw [show p - min p L.length = 0 by omega]
    simp
  · unfold sft
    by_cases hj : j < p
    · rw [List.getElem?_append_left (by rw [List.length_take, List.length_append]; simp; omega), List.getElem?_append_left (by rw [List.length_take]; omega), List.getElem?_take, List.getElem?_take, if_pos (by omega), if_pos hj, List.getElem?_append_left (by omega)]
    · rw [List.getElem?_append_right (by rw [List.length_take, List.length_append]; simp; omega), List.getElem?_append_right (by rw [List.length_take]; omega), List.length_take, List.length_take, List.length_append, List.getElem?_drop]
      rw [show j - min p L.length = (j - (p + 1)) + 1 by omega, List.getElem?_cons_succ, List.getElem?_drop]
      congr 1
      simp
      omega

end Go.Proofs.Ytpnkmnmchdabkaa
namespace Go.Proofs.Ytpnkmnmchdabkaa
open Go.RowKit
attribute [local go_sem ↓] Go.wp_at_zero Go.wp_at_succ

/-- A set of starts in memory: its block, its row. -/
def SetAt (B sb b : Nat) (L : List Int) (w : World) : Prop := ∃ v, w.heap[sb]? = some (.cells #[v] 178 (0, 0)) ∧ w.ownsRow B 3 1 v L.length (L.map (Value.int .i64)) ∧ v.ownBlock ≠ some sb ∧ B ≤ sb ∧ v.ownBlock ≠ some b ∧ sb ≠ b
/-- While the row is moved up. -/
def SetMv (B sb b g cap : Nat) (L : List Int) (w wr : World) : Prop := wr.heap[sb]? = some (.cells #[.slice (some ⟨g, 0, none⟩) L.length cap] 178 (0, 0)) ∧ wr.ownsRow B 3 1 (.slice (some ⟨g, 0, none⟩) L.length cap) L.length (L.map (Value.int .i64)) ∧ g ≠ sb ∧ B ≤ sb ∧ B ≤ g ∧ Below B w wr ∧ g ≠ b ∧ sb ≠ b ∧ wr.heap[b]? = w.heap[b]?
theorem SetMv.set {B sb b g cap : Nat} {L : List Int} {w wr : World} (h : SetMv B sb b g cap L w wr) (i : Nat) (x : Int) {M : List Int} (hM : L.set i x = M) : SetMv B sb b g cap M w (wr.setCell ⟨g, i, none⟩ (.int .i64 x)) := by
  obtain ⟨h1, h2, h3, h4, h5, h6, h7, h8, h9⟩ := h
  have hl : M.length = L.length := by rw [← hM]; simp
  have := (World.ownsRow.stored h2 i (.int .i64 x)).1
  rw [← List.map_set, hM] at this
  refine ⟨?_, by rw [hl]; exact this, h3, h4, h5, h6.setCell (p := ⟨g, i, none⟩) h5 _, h7, h8, (Below.heap_setCell _ _ _ _ (fun e => h7 e.symm)).trans h9⟩
  rw [Below.heap_setCell _ _ _ _ (fun e => h3 e.symm), hl]
  exact h1
theorem SetMv.drew {B sb b g cap : Nat} {L : List Int} {w wr : World} (h : SetMv B sb b g cap L w wr) : SetMv B sb b g cap L w wr.drew := by
  obtain ⟨h1, h2, h3, h4, h5, h6, h7, h8, h9⟩ := h
  exact ⟨h1, h2, h3, h4, h5, h6.drew, h7, h8, h9⟩
theorem SetMv.at {B sb b g cap : Nat} {L : List Int} {w wr : World} (h : SetMv B sb b g cap L w wr) : SetAt B sb b L wr := by
  obtain ⟨h1, h2, h3, h4, h5, h6, h7, h8, h9⟩ := h
  refine ⟨_, h1, h2, fun e => ?_, h4, fun e => ?_, h8⟩
  · have h9 : some g = some sb := e
    injection h9 with h9
    exact h3 h9
  · have h9 : some g = some b := e
    injection h9 with h9
    exact h7 h9
theorem SetMv.cells {B sb b g cap : Nat} {L : List Int} {w wr : World} (h : SetMv B sb b g cap L w wr) (hL : 0 < L.length) : wr.cell? ⟨sb, 0, none⟩ = some (.slice (some ⟨g, 0, none⟩) L.length cap) ∧ wr.frozen? ⟨sb, 0, none⟩ = false ∧ (∀ j, wr.frozen? ⟨g, j, none⟩ = false) ∧ ∀ (j : Nat) (y : Int), L[j]? = some y → wr.cell? ⟨g, j, none⟩ = some (.int .i64 y) := by
  obtain ⟨h1, h2, h3, h4, h5, h6, h7, h8, h9⟩ := h
  obtain ⟨g2, c2, cur, e, _, hg, _⟩ := ownsRow_shape h2 hL
  injection e with e
  injection e with e
  injection e with e
  subst e
  refine ⟨cell_of h1 0, frozen_of h1 0, fun j => frozen_of hg j, fun j y hj => ?_⟩
  have hl := (List.getElem?_eq_some_iff.1 hj).1
  rw [World.ownsRow.cellAt h2 j (by omega)]
  simp [hj]

set_option maxRecDepth 100000 in
set_option maxHeartbeats 4000000 in
theorem setAdd_any (B sb b : Nat) (L : List Int) (x : Int) (w : World) (hL : Sts L) (hbl : b < w.heap.size) (h : SetAt B sb b L w) :
    Calls Try.prog 115 #[.pointer (some ⟨sb, 0, none⟩), .int .i64 x] w fun e w' => e = .returned (.tuple #[]) ∧ SetAt B sb b (ins x L) w' ∧ Below B w w' ∧ w'.heap[b]? = w.heap[b]? := by
  obtain ⟨i0, hi0, hz0, hz1, hz2⟩ := info_parts info3
  obtain ⟨v, hsb, hrow, hne, hB, hnb, hsbb⟩ := h
  obtain ⟨va, vc, rfl⟩ := ownsRow_len hrow
  have hlen := hL.len
  have c0 : w.cell? ⟨sb, 0, none⟩ = some (.slice va L.length vc) := cell_of hsb 0
  have f0 := frozen_of hsb 0
  have hsl := lt_of_heap hsb
  have HC : Hid (∀ (j : Nat) (y : Int), L[j]? = some y → ∃ lb, va = some ⟨lb, 0, none⟩ ∧ w.cell? ⟨lb, j, none⟩ = some (.int .i64 y)) := fun j y hj => by
    have hl := (List.getElem?_eq_some_iff.1 hj).1
    obtain ⟨g2, c2, cur, e, _, hg, _⟩ := ownsRow_shape hrow (by omega)
    injection e with e
    subst e
    refine ⟨g2, rfl, ?_⟩
    rw [World.ownsRow.cellAt hrow j (by omega)]
    simp [hj]
  have HRow := hide hrow
  have HNe := hide hne
  have HNb := hide hnb
  have HSb := hide hsb
  have HL := hide hL
  clear hrow hne hsb hL hnb
  go_enter Try.func115, Try.ntmps115
  go_wp2
  go_loop [4] (fun t => ∃ p : Nat, t = .int .i64 p ∧ p ≤ L.length ∧ ∀ (j : Nat) (y : Int), p ≤ j → L[j]? = some y → x < y) (fun t => (intOf t).toNat)
  case atStart => exact ⟨L.length, rfl, Nat.le_refl _, fun j y h1 h2 => by have := (List.getElem?_eq_some_iff.1 h2).1; omega⟩
  case round =>
    obtain ⟨p, rfl, hp, hj⟩ := hrel
    have HJ := hide hj
    clear hj
    by_cases hp0 : 0 < p
    · obtain ⟨q, hq⟩ : ∃ q, p = q + 1 := ⟨p - 1, by omega⟩
      obtain ⟨y, hy⟩ : ∃ y, L[q]? = some y := ⟨L[q], List.getElem?_eq_getElem (by omega)⟩
      obtain ⟨lb, rfl, cy⟩ := unhide HC q y hy
      have HY := hide hy
      have hp1 : (p : Int) - 1 = (q : Int) := by omega
      have hwq : IntKind.i64.wrap (q : Int) = q := by rw [IntKind.wrap_i64]; omega
      have HQ := hide hq
      clear hy hq
      by_cases hgt : x < y
      · go_wp2
        go_round
        case rel =>
          refine ⟨q, by go_num, by have := unhide HQ; omega, fun j z h1 h2 => ?_⟩
          by_cases e : j = q
          · subst e
            have := (unhide HY).symm.trans h2
            injection this with this
            omega
          · exact unhide HJ j z (by have := unhide HQ; omega) h2
        case measure => simp [intOf]; omega
      · by_cases heq : y = x
        · have d1 : (y == x) = true := by simp [heq]
          have HE := hide heq
          clear heq
          go_wp2
          refine bodyPost_ret (v := .tuple #[]) (by simp [results, go_sem]) rfl ⟨rfl, ?_, Below.refl _ _, by first | rfl | exact Array.getElem?_eq_getElem hbl⟩
          rw [ins_same L (unhide HL).1 (by rw [← unhide HE]; exact List.mem_of_getElem? (unhide HY))]
          exact ⟨_, unhide HSb, unhide HRow, unhide HNe, hB, unhide HNb, hsbb⟩
        · have d1 : (y == x) = false := by simpa using heq
          have HPB : Hid (∀ (j : Nat) (z : Int), j < p → L[j]? = some z → z < x) := fun j z h1 h2 => by
            by_cases e : j = q
            · subst e
              have := (unhide HY).symm.trans h2
              injection this with this
              omega
            · have := ris_at (unhide HL).1 (show j < q by have := unhide HQ; omega) h2 (unhide HY)
              omega
          clear heq
          have HE := hide (ins_at L p hp (unhide HJ) (unhide HPB))
          go_wp2_with (at_builtin; go_must (refine wpList_append_lies _ rfl _ _ _ rfl B 3 i0 _ 1 8 Try.underlying63 hi0 hz0 hz1 hz2 rfl (by omega) _ L.length (L.map (Value.int .i64)) rfl ?own ⟨w.heap.size, 0, none⟩ 1 1 [.int .i64 x] rfl rfl ?news ?one (by omega) ?h63 ?bytes ?base (w.heap.size + 1) ?hH ?next))
          case own => exact (unhide HRow).alloc _
          case one => simp [Value.oneCell']
          case h63 => unfold maxLen; omega
          case bytes => omega
          case base => omega
          case next =>
            intro g2 cap2 w3 hown hgrow hat hlt
            have nsb : Hid (some sb ≠ (Value.slice (some ⟨lb, 0, none⟩) L.length vc).ownBlock) := fun e => unhide HNe e.symm
            have fz : w3.frozen? ⟨sb, 0, none⟩ = false := (hgrow.frozen_far _ (by simp; omega) (unhide nsb)).trans ((World.frozen?_of_block (w := w) (Below.heap_alloc _ _ _ hsl)).trans f0)
            have cz : w3.cell? ⟨sb, 0, none⟩ = some (.slice (some ⟨lb, 0, none⟩) L.length vc) := (hgrow.cell_far _ (by simp; omega) (unhide nsb)).trans ((World.cell?_of_block (w := w) (Below.heap_alloc _ _ _ hsl)).trans c0)
            have hg2 : Hid (g2 ≠ sb) := fun e => by
              subst e
              rcases hat with h9 | h9
              · exact unhide HNe h9
              · omega
            have hg3 : Hid (g2 ≠ b) := fun e => by
              subst e
              rcases hat with h9 | h9
              · exact unhide HNb h9
              · omega
            have nb : Hid (some b ≠ (Value.slice (some ⟨lb, 0, none⟩) L.length vc).ownBlock) := fun e => unhide HNb e.symm
            have HMV : Hid (SetMv B sb b g2 cap2 (sft L x L.length) w (w3.setCell ⟨sb, 0, none⟩ (.slice (some ⟨g2, 0, none⟩) (L.length + 1) cap2))) := by
              have hlb := (hown.lt g2 rfl).1
              have hsb3 : w3.heap[sb]? = some (.cells #[.slice (some ⟨lb, 0, none⟩) L.length vc] 178 (0, 0)) := (hgrow.block sb (by simp; omega) (unhide nsb)).trans ((Below.heap_alloc _ _ _ hsl).trans (unhide HSb))
              refine ⟨?_, ?_, unhide hg2, hB, hlb, ?_, unhide hg3, hsbb, (Below.heap_setCell _ _ _ _ (fun e => hsbb e.symm)).trans ((hgrow.block b (by simp; omega) (unhide nb)).trans (Below.heap_alloc _ _ _ hbl))⟩
              · rw [heap_setCell_same hsb3, sft_len (Nat.le_refl _)]
                rfl
              · rw [sft_len (Nat.le_refl _), sft_top, List.map_append]
                exact ownsRow_of_block hown fun q hq => Below.heap_setCell _ _ _ _ (fun e9 => unhide hg2 (by have h8 : some g2 = some q := hq; injection h8 with h8; exact h8.trans e9))
              · refine Below.setCell (p := ⟨sb, 0, none⟩) ?_ hB _
                exact ((Below.refl B w).alloc (by omega) _).grown hgrow (by simp; omega) (fun q hq => ((unhide HRow).lt q hq).1)
            clear hown hgrow hat hlt c0 f0
            go_wp2
            generalize w3.setCell ⟨sb, 0, none⟩ (.slice (some ⟨g2, 0, none⟩) (L.length + 1) cap2) = W at *
            clear cz fz
            obtain ⟨c0, _⟩ := (unhide HMV).cells (by rw [sft_len (Nat.le_refl _)]; omega)
            rw [sft_len (Nat.le_refl _)] at c0
            go_wp2
            go_loopw [5] (fun t wr => ∃ i : Nat, t = .int .i64 i ∧ p ≤ i ∧ i ≤ L.length ∧ SetMv B sb b g2 cap2 (sft L x i) w wr) (fun t _ => (intOf t).toNat)
            case atStart => exact ⟨L.length, by go_num, hp, Nat.le_refl _, unhide HMV⟩
            case round =>
              obtain ⟨i, rfl, hi1, hi2, hmv⟩ := hrel
              have hsl := sft_len (x := x) hi2
              obtain ⟨k1, k2, k3, k4⟩ := hmv.cells (by omega)
              rw [hsl] at k1
              by_cases hlt : p < i
              · obtain ⟨q9, hq⟩ : ∃ q, i = q + 1 := ⟨i - 1, by omega⟩
                subst hq
                obtain ⟨z, hz⟩ : ∃ z, L[q9]? = some z := ⟨L[q9], List.getElem?_eq_getElem (by omega)⟩
                have e1 := k4 q9 z (sft_get (by omega) hz)
                have e2 := k3 (q9 + 1)
                obtain ⟨z2, hz2⟩ : ∃ z2, (sft L x (q9 + 1))[q9 + 1]? = some z2 := ⟨(sft L x (q9 + 1))[q9 + 1]'(by omega), List.getElem?_eq_getElem (by omega)⟩
                have e3 := k4 (q9 + 1) z2 hz2
                have hwq : IntKind.i64.wrap (q9 : Int) = q9 := by rw [IntKind.wrap_i64]; omega
                have HM2 := hide (hmv.set (q9 + 1) z (sft_set hz))
                clear hmv k3 k4 hz hz2
                go_wp2
                go_region
                have HM3 := hide (unhide HM2).drew
                go_wp2
                go_roundw
                case rel => exact ⟨q9, by go_num, by omega, by omega, unhide HM3⟩
                case measure => simp [intOf]
              · have e : i = p := by omega
                subst e
                have e2 := k3 i
                obtain ⟨z2, hz2⟩ : ∃ z2, (sft L x i)[i]? = some z2 := ⟨(sft L x i)[i]'(by omega), List.getElem?_eq_getElem (by omega)⟩
                have e3 := k4 i z2 hz2
                have HM2 := hide (hmv.set i x (sft_end hi2))
                clear hmv k3 k4 hz2
                go_wp2
                go_end0
                refine ⟨rfl, ?_, (unhide HM2).2.2.2.2.2.1, (unhide HM2).2.2.2.2.2.2.2.2⟩
                rw [unhide HE]
                exact (unhide HM2).at
    · have HPB : Hid (∀ (j : Nat) (z : Int), j < p → L[j]? = some z → z < x) := fun j z h1 h2 => by omega
      have HE := hide (ins_at L p hp (unhide HJ) (unhide HPB))
      go_wp2_with (at_builtin; go_must (refine wpList_append_lies _ rfl _ _ _ rfl B 3 i0 _ 1 8 Try.underlying63 hi0 hz0 hz1 hz2 rfl (by omega) _ L.length (L.map (Value.int .i64)) rfl ?own9 ⟨w.heap.size, 0, none⟩ 1 1 [.int .i64 x] rfl rfl ?news9 ?one9 (by omega) ?h639 ?bytes9 ?base9 (w.heap.size + 1) ?hH9 ?next9))
      case own9 => exact (unhide HRow).alloc _
      case one9 => simp [Value.oneCell']
      case h639 => unfold maxLen; omega
      case bytes9 => omega
      case base9 => omega
      case next9 =>
        intro g2 cap2 w3 hown hgrow hat hlt
        have nsb : Hid (some sb ≠ (Value.slice va L.length vc).ownBlock) := fun e => unhide HNe e.symm
        have fz : w3.frozen? ⟨sb, 0, none⟩ = false := (hgrow.frozen_far _ (by simp; omega) (unhide nsb)).trans ((World.frozen?_of_block (w := w) (Below.heap_alloc _ _ _ hsl)).trans f0)
        have cz : w3.cell? ⟨sb, 0, none⟩ = some (.slice va L.length vc) := (hgrow.cell_far _ (by simp; omega) (unhide nsb)).trans ((World.cell?_of_block (w := w) (Below.heap_alloc _ _ _ hsl)).trans c0)
        have hg2 : Hid (g2 ≠ sb) := fun e => by
          subst e
          rcases hat with h9 | h9
          · exact unhide HNe h9
          · omega
        have hg3 : Hid (g2 ≠ b) := fun e => by
          subst e
          rcases hat with h9 | h9
          · exact unhide HNb h9
          · omega
        have nb : Hid (some b ≠ (Value.slice va L.length vc).ownBlock) := fun e => unhide HNb e.symm
        have HMV : Hid (SetMv B sb b g2 cap2 (sft L x L.length) w (w3.setCell ⟨sb, 0, none⟩ (.slice (some ⟨g2, 0, none⟩) (L.length + 1) cap2))) := by
          have hlb := (hown.lt g2 rfl).1
          have hsb3 : w3.heap[sb]? = some (.cells #[.slice va L.length vc] 178 (0, 0)) := (hgrow.block sb (by simp; omega) (unhide nsb)).trans ((Below.heap_alloc _ _ _ hsl).trans (unhide HSb))
          refine ⟨?_, ?_, unhide hg2, hB, hlb, ?_, unhide hg3, hsbb, (Below.heap_setCell _ _ _ _ (fun e => hsbb e.symm)).trans ((hgrow.block b (by simp; omega) (unhide nb)).trans (Below.heap_alloc _ _ _ hbl))⟩
          · rw [heap_setCell_same hsb3, sft_len (Nat.le_refl _)]
            rfl
          · rw [sft_len (Nat.le_refl _), sft_top, List.map_append]
            exact ownsRow_of_block hown fun q hq => Below.heap_setCell _ _ _ _ (fun e9 => unhide hg2 (by have h8 : some g2 = some q := hq; injection h8 with h8; exact h8.trans e9))
          · refine Below.setCell (p := ⟨sb, 0, none⟩) ?_ hB _
            exact ((Below.refl B w).alloc (by omega) _).grown hgrow (by simp; omega) (fun q hq => ((unhide HRow).lt q hq).1)
        clear hown hgrow hat hlt c0 f0
        go_wp2
        generalize w3.setCell ⟨sb, 0, none⟩ (.slice (some ⟨g2, 0, none⟩) (L.length + 1) cap2) = W at *
        clear cz fz
        obtain ⟨c0, _⟩ := (unhide HMV).cells (by rw [sft_len (Nat.le_refl _)]; omega)
        rw [sft_len (Nat.le_refl _)] at c0
        go_wp2
        go_loopw [5] (fun t wr => ∃ i : Nat, t = .int .i64 i ∧ p ≤ i ∧ i ≤ L.length ∧ SetMv B sb b g2 cap2 (sft L x i) w wr) (fun t _ => (intOf t).toNat)
        case atStart => exact ⟨L.length, by go_num, hp, Nat.le_refl _, unhide HMV⟩
        case round =>
          obtain ⟨i, rfl, hi1, hi2, hmv⟩ := hrel
          have hsl := sft_len (x := x) hi2
          obtain ⟨k1, k2, k3, k4⟩ := hmv.cells (by omega)
          rw [hsl] at k1
          by_cases hlt : p < i
          · obtain ⟨q9, hq⟩ : ∃ q, i = q + 1 := ⟨i - 1, by omega⟩
            subst hq
            obtain ⟨z, hz⟩ : ∃ z, L[q9]? = some z := ⟨L[q9], List.getElem?_eq_getElem (by omega)⟩
            have e1 := k4 q9 z (sft_get (by omega) hz)
            have e2 := k3 (q9 + 1)
            obtain ⟨z2, hz2⟩ : ∃ z2, (sft L x (q9 + 1))[q9 + 1]? = some z2 := ⟨(sft L x (q9 + 1))[q9 + 1]'(by omega), List.getElem?_eq_getElem (by omega)⟩
            have e3 := k4 (q9 + 1) z2 hz2
            have hwq : IntKind.i64.wrap (q9 : Int) = q9 := by rw [IntKind.wrap_i64]; omega
            have HM2 := hide (hmv.set (q9 + 1) z (sft_set hz))
            clear hmv k3 k4 hz hz2
            go_wp2
            go_region
            have HM3 := hide (unhide HM2).drew
            go_wp2
            go_roundw
            case rel => exact ⟨q9, by go_num, by omega, by omega, unhide HM3⟩
            case measure => simp [intOf]
          · have e : i = p := by omega
            subst e
            have e2 := k3 i
            obtain ⟨z2, hz2⟩ : ∃ z2, (sft L x i)[i]? = some z2 := ⟨(sft L x i)[i]'(by omega), List.getElem?_eq_getElem (by omega)⟩
            have e3 := k4 i z2 hz2
            have HM2 := hide (hmv.set i x (sft_end hi2))
            clear hmv k3 k4 hz2
            go_wp2
            go_end0
            refine ⟨rfl, ?_, (unhide HM2).2.2.2.2.2.1, (unhide HM2).2.2.2.2.2.2.2.2⟩
            rw [unhide HE]
            exact (unhide HM2).at

end Go.Proofs.Ytpnkmnmchdabkaa
