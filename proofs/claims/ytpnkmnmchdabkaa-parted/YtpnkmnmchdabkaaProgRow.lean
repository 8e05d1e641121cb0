import Derived.Test.YtpnkmnmchdabkaaProgLe
namespace Go.Proofs.Ytpnkmnmchdabkaa
open Go.RowKit

/-- Sixteen leases lie in a block, behind A and ahead of B. -/
structure LeRow (w : World) (b : Nat) (t : TypeId) (A : List Value) (ls : List Le) (B : List Value) : Prop where
  blk : w.heap[b]? = some (.cells (A ++ (leCells ls ++ B)).toArray t (0, 0))
  len : ls.length = 16

theorem LeRow.cellAt {w : World} {b : Nat} {t : TypeId} {A B : List Value} {ls : List Le} (h : LeRow w b t A ls B) (j : Nat) (hj : j < 48) : w.cell? ⟨b, A.length + j, none⟩ = (leCells ls)[j]? := by
  rw [cell_of h.blk, List.getElem?_toArray, List.getElem?_append_right (by omega), Nat.add_sub_cancel_left, List.getElem?_append_left (by rw [leCells_len, h.len]; omega)]

theorem LeRow.setAt {w : World} {b : Nat} {t : TypeId} {A B : List Value} {ls ls' : List Le} (h : LeRow w b t A ls B) (j : Nat) (hj : j < 48) (u : Value) (e : (leCells ls).set j u = leCells ls') (hl : ls'.length = ls.length) : LeRow (w.setCell ⟨b, A.length + j, none⟩ u) b t A ls' B := by
  refine ⟨?_, hl.trans h.len⟩
  rw [heap_setCell_same h.blk, List.setIfInBounds_toArray, List.set_append_right _ _ (by omega), Nat.add_sub_cancel_left, List.set_append_left _ _ (by rw [leCells_len, h.len]; omega), e]

theorem LeRow.block {w w' : World} {b : Nat} {t : TypeId} {A B : List Value} {ls : List Le} (h : LeRow w b t A ls B) (hb : w'.heap[b]? = w.heap[b]?) : LeRow w' b t A ls B := ⟨hb.trans h.blk, h.len⟩

theorem LeRow.three {w : World} {b : Nat} {t : TypeId} {A B : List Value} {ls : List Le} (h : LeRow w b t A ls B) {n : Nat} {x : Le} (hx : ls[n]? = some x) :
    w.cell? ⟨b, A.length + n * 3, none⟩ = some (.int .i64 x.o) ∧ w.cell? ⟨b, A.length + n * 3 + 1, none⟩ = some (.int .i64 x.c) ∧ w.cell? ⟨b, A.length + n * 3 + 2, none⟩ = some (.int .i64 x.e) := by
  have hn := (List.getElem?_eq_some_iff.1 hx).1
  have hl := h.len
  obtain ⟨g0, g1, g2⟩ := leCells_get ls n x hx
  exact ⟨(h.cellAt _ (by omega)).trans g0, (h.cellAt (n * 3 + 1) (by omega)).trans g1, (h.cellAt (n * 3 + 2) (by omega)).trans g2⟩

theorem leGet_set {ls : List Le} {n : Nat} {x y : Le} (h : ls[n]? = some x) : (ls.set n y)[n]? = some y := by
  have := (List.getElem?_eq_some_iff.1 h).1
  simp [this]

/-- What an edit of the leases leaves. -/
def LePost (w : World) (b : Nat) (t : TypeId) (A : List Value) (ls : List Le) (B : List Value) (w' : World) : Prop := LeRow w' b t A ls B ∧ Keeps (fun k => k = b) w w'

theorem rowOf_any (w : World) (b : Nat) (t : TypeId) (A B : List Value) (ls : List Le) (n : Nat) (x : Le) (h : LeRow w b t A ls B) (hx : ls[n]? = some x) :
    Calls Try.prog 65 #[.pointer (some ⟨b, A.length, none⟩), .int .i64 n] w fun e w' => e = .returned (.agg #[.int .i64 x.o, .int .i64 x.c, .int .i64 x.e]) ∧ Below w.heap.size w w' := by
  have hn := (List.getElem?_eq_some_iff.1 hx).1
  have hl := h.len
  obtain ⟨c0, c1, c2⟩ := h.three hx
  exact leOf_any b A.length n (by omega) x w (lt_of_heap h.blk) c0 c1 c2

theorem rowGive_any (w : World) (b : Nat) (t : TypeId) (A B : List Value) (ls : List Le) (n : Nat) (x : Le) (wk : Int) (h : LeRow w b t A ls B) (hx : ls[n]? = some x) :
    Calls Try.prog 88 #[.pointer (some ⟨b, A.length, none⟩), .int .i64 n, .int .i64 wk] w fun e w' => e = .returned (.int .i64 (inc x.e)) ∧ LePost w b t A (ls.set n ⟨wk, inc x.c, inc x.e⟩) B w' := by
  have hn := (List.getElem?_eq_some_iff.1 hx).1
  have hl := h.len
  obtain ⟨c0, c1, c2⟩ := h.three hx
  refine (leGive_any b A.length n (by omega) x wk w c0 c1 c2 (fun q => frozen_of h.blk q)).mono ?_
  intro e w' hq
  have s0 := h.setAt (n * 3) (by omega) (.int .i64 wk) (leCells_set0 ls n x hx wk) (by simp)
  have s1 := s0.setAt (n * 3 + 1) (by omega) (.int .i64 (inc x.c)) (leCells_set1 _ n _ (leGet_set hx) _) (by simp)
  have s2 := s1.setAt (n * 3 + 2) (by omega) (.int .i64 (inc x.e)) (leCells_set2 _ n _ (leGet_set (leGet_set hx)) _) (by simp)
  rw [List.set_set, List.set_set] at s2
  refine ⟨hq.1, s2.block (hq.2.block b (lt_of_heap h.blk)), ?_⟩
  have k0 : Keeps (fun k => k = b) w (((w.setCell ⟨b, A.length + n * 3, none⟩ (.int .i64 wk)).setCell ⟨b, A.length + n * 3 + 1, none⟩ (.int .i64 (inc x.c))).setCell ⟨b, A.length + n * 3 + 2, none⟩ (.int .i64 (inc x.e))) := by
    iterate 3 refine Keeps.setCell (S := fun k => k = b) ?_ (by exact Or.inl rfl) _
    exact Keeps.refl _ w
  exact k0.trans ((Keeps.of_below hq.2).mono fun k hk hs => by simp at hk; omega)

theorem rowRenew_any (w : World) (b : Nat) (t : TypeId) (A B : List Value) (ls : List Le) (n : Nat) (x : Le) (h : LeRow w b t A ls B) (hx : ls[n]? = some x) :
    Calls Try.prog 85 #[.pointer (some ⟨b, A.length, none⟩), .int .i64 n] w fun e w' => e = .returned (.tuple #[]) ∧ LePost w b t A (ls.set n { x with c := inc x.c }) B w' := by
  have hn := (List.getElem?_eq_some_iff.1 hx).1
  have hl := h.len
  obtain ⟨c0, c1, c2⟩ := h.three hx
  refine (leRenew_any b A.length n (by omega) x w c1 (fun q => frozen_of h.blk q)).mono ?_
  intro e w' hq
  have s1 := h.setAt (n * 3 + 1) (by omega) (.int .i64 (inc x.c)) (leCells_set1 _ n _ hx _) (by simp)
  refine ⟨hq.1, s1.block (hq.2.block b (lt_of_heap h.blk)), ?_⟩
  have k0 : Keeps (fun k => k = b) w (w.setCell ⟨b, A.length + n * 3 + 1, none⟩ (.int .i64 (inc x.c))) := by
    refine Keeps.setCell (S := fun k => k = b) ?_ (by exact Or.inl rfl) _
    exact Keeps.refl _ w
  exact k0.trans ((Keeps.of_below hq.2).mono fun k hk hs => by simp at hk; omega)

theorem rowFree_any (w : World) (b : Nat) (t : TypeId) (A B : List Value) (ls : List Le) (n : Nat) (x : Le) (h : LeRow w b t A ls B) (hx : ls[n]? = some x) :
    Calls Try.prog 84 #[.pointer (some ⟨b, A.length, none⟩), .int .i64 n] w fun e w' => e = .returned (.tuple #[]) ∧ LePost w b t A (ls.set n ⟨-1, inc x.c, x.e⟩) B w' := by
  have hn := (List.getElem?_eq_some_iff.1 hx).1
  have hl := h.len
  obtain ⟨c0, c1, c2⟩ := h.three hx
  refine (leFree_any b A.length n (by omega) x w c0 c1 (fun q => frozen_of h.blk q)).mono ?_
  intro e w' hq
  have s0 := h.setAt (n * 3) (by omega) (.int .i64 (-1)) (leCells_set0 ls n x hx (-1)) (by simp)
  have s1 := s0.setAt (n * 3 + 1) (by omega) (.int .i64 (inc x.c)) (leCells_set1 _ n _ (leGet_set hx) _) (by simp)
  rw [List.set_set] at s1
  refine ⟨hq.1, s1.block (hq.2.block b (lt_of_heap h.blk)), ?_⟩
  have k0 : Keeps (fun k => k = b) w ((w.setCell ⟨b, A.length + n * 3, none⟩ (.int .i64 (-1))).setCell ⟨b, A.length + n * 3 + 1, none⟩ (.int .i64 (inc x.c))) := by
    iterate 2 refine Keeps.setCell (S := fun k => k = b) ?_ (by exact Or.inl rfl) _
    exact Keeps.refl _ w
  exact k0.trans ((Keeps.of_below hq.2).mono fun k hk hs => by simp at hk; omega)

end Go.Proofs.Ytpnkmnmchdabkaa
