import Derived.Test.YtpnkmnmchdabkaaM37
namespace Go.Proofs.Ytpnkmnmchdabkaa
open Go.RowKit

/-- What stands behind a piece of code, once for all ways through it. -/
theorem reg_split {P : Program} {c : Code} {Q : Exit → Act → World → Prop} {a : Act} {w : World} (G : Act → World → Prop) (h1 : c.wp P (fun e a' w' => e = .normal ∧ G a' w') a w) (h2 : ∀ a' w', G a' w' → Q .normal a' w') : c.wp P Q a w :=
  Code.wp_mono (fun e a w h => by obtain ⟨rfl, h⟩ := h; exact h2 _ _ h) h1

theorem list_letters : ∀ (l : List Value), l = (List.range l.length).map (fun n => (l[n]?).getD undef) := by
  intro l
  apply List.ext_getElem
  · simp
  · intro n h1 h2
    simp [List.getElem?_eq_getElem h1]

set_option maxRecDepth 100000 in
/-- A frame of 195 places, written out. -/
theorem frame195 (a : Act) (h : a.tmps.size = 195) (hd : a.defers = []) : ∃ f : Nat → Value, a = ⟨#[f 0, f 1, f 2, f 3, f 4, f 5, f 6, f 7, f 8, f 9, f 10, f 11, f 12, f 13, f 14, f 15, f 16, f 17, f 18, f 19, f 20, f 21, f 22, f 23, f 24, f 25, f 26, f 27, f 28, f 29, f 30, f 31, f 32, f 33, f 34, f 35, f 36, f 37, f 38, f 39, f 40, f 41, f 42, f 43, f 44, f 45, f 46, f 47, f 48, f 49, f 50, f 51, f 52, f 53, f 54, f 55, f 56, f 57, f 58, f 59, f 60, f 61, f 62, f 63, f 64, f 65, f 66, f 67, f 68, f 69, f 70, f 71, f 72, f 73, f 74, f 75, f 76, f 77, f 78, f 79, f 80, f 81, f 82, f 83, f 84, f 85, f 86, f 87, f 88, f 89, f 90, f 91, f 92, f 93, f 94, f 95, f 96, f 97, f 98, f 99, f 100, f 101, f 102, f 103, f 104, f 105, f 106, f 107, f 108, f 109, f 110, f 111, f 112, f 113, f 114, f 115, f 116, f 117, f 118, f 119, f 120, f 121, f 122, f 123, f 124, f 125, f 126, f 127, f 128, f 129, f 130, f 131, f 132, f 133, f 134, f 135, f 136, f 137, f 138, f 139, f 140, f 141, f 142, f 143, f 144, f 145, f 146, f 147, f 148, f 149, f 150, f 151, f 152, f 153, f 154, f 155, f 156, f 157, f 158, f 159, f 160, f 161, f 162, f 163, f 164, f 165, f 166, f 167, f 168, f 169, f 170, f 171, f 172, f 173, f 174, f 175, f 176, f 177, f 178, f 179, f 180, f 181, f 182, f 183, f 184, f 185, f 186, f 187, f 188, f 189, f 190, f 191, f 192, f 193, f 194], []⟩ := by
  refine ⟨fun n => (a.tmps.toList[n]?).getD undef, ?_⟩
  obtain ⟨⟨l⟩, d⟩ := a
  simp only at hd
  subst hd
  have hl : l.length = 195 := h
  have e := list_letters l
  rw [hl] at e
  have e2 : ∀ f : Nat → Value, (List.range 195).map f = [f 0, f 1, f 2, f 3, f 4, f 5, f 6, f 7, f 8, f 9, f 10, f 11, f 12, f 13, f 14, f 15, f 16, f 17, f 18, f 19, f 20, f 21, f 22, f 23, f 24, f 25, f 26, f 27, f 28, f 29, f 30, f 31, f 32, f 33, f 34, f 35, f 36, f 37, f 38, f 39, f 40, f 41, f 42, f 43, f 44, f 45, f 46, f 47, f 48, f 49, f 50, f 51, f 52, f 53, f 54, f 55, f 56, f 57, f 58, f 59, f 60, f 61, f 62, f 63, f 64, f 65, f 66, f 67, f 68, f 69, f 70, f 71, f 72, f 73, f 74, f 75, f 76, f 77, f 78, f 79, f 80, f 81, f 82, f 83, f 84, f 85, f 86, f 87, f 88, f 89, f 90, f 91, f 92, f 93, f 94, f 95, f 96, f 97, f 98, f 99, f 100, f 101, f 102, f 103, f 104, f 105, f 106, f 107, f 108, f 109, f 110, f 111, f 112, f 113, f 114, f 115, f 116, f 117, f 118, f 119, f 120, f 121, f 122, f 123, f 124, f 125, f 126, f 127, f 128, f 129, f 130, f 131, f 132, f 133, f 134, f 135, f 136, f 137, f 138, f 139, f 140, f 141, f 142, f 143, f 144, f 145, f 146, f 147, f 148, f 149, f 150, f 151, f 152, f 153, f 154, f 155, f 156, f 157, f 158, f 159, f 160, f 161, f 162, f 163, f 164, f 165, f 166, f 167, f 168, f 169, f 170, f 171, f 172, f 173, f 174, f 175, f 176, f 177, f 178, f 179, f 180, f 181, f 182, f 183, f 184, f 185, f 186, f 187, f 188, f 189, f 190, f 191, f 192, f 193, f 194] := fun f => rfl
  rw [e2] at e
  show Act.mk (Array.mk l) [] = Act.mk (Array.mk _) []
  exact congrArg (fun l => Act.mk (Array.mk l) []) e

set_option maxRecDepth 100000 in
/-- A frame of 154 places, written out. -/
theorem frame154 (a : Act) (h : a.tmps.size = 154) (hd : a.defers = []) : ∃ f : Nat → Value, a = ⟨#[f 0, f 1, f 2, f 3, f 4, f 5, f 6, f 7, f 8, f 9, f 10, f 11, f 12, f 13, f 14, f 15, f 16, f 17, f 18, f 19, f 20, f 21, f 22, f 23, f 24, f 25, f 26, f 27, f 28, f 29, f 30, f 31, f 32, f 33, f 34, f 35, f 36, f 37, f 38, f 39, f 40, f 41, f 42, f 43, f 44, f 45, f 46, f 47, f 48, f 49, f 50, f 51, f 52, f 53, f 54, f 55, f 56, f 57, f 58, f 59, f 60, f 61, f 62, f 63, f 64, f 65, f 66, f 67, f 68, f 69, f 70, f 71, f 72, f 73, f 74, f 75, f 76, f 77, f 78, f 79, f 80, f 81, f 82, f 83, f 84, f 85, f 86, f 87, f 88, f 89, f 90, f 91, f 92, f 93, f 94, f 95, f 96, f 97, f 98, f 99, f 100, f 101, f 102, f 103, f 104, f 105, f 106, f 107, f 108, f 109, f 110, f 111, f 112, f 113, f 114, f 115, f 116, f 117, f 118, f 119, f 120, f 121, f 122, f 123, f 124, f 125, f 126, f 127, f 128, f 129, f 130, f 131, f 132, f 133, f 134, f 135, f 136, f 137, f 138, f 139, f 140, f 141, f 142, f 143, f 144, f 145, f 146, f 147, f 148, f 149, f 150, f 151, f 152, f 153], []⟩ := by
  refine ⟨fun n => (a.tmps.toList[n]?).getD undef, ?_⟩
  obtain ⟨⟨l⟩, d⟩ := a
  simp only at hd
  subst hd
  have hl : l.length = 154 := h
  have e := list_letters l
  rw [hl] at e
  have e2 : ∀ f : Nat → Value, (List.range 154).map f = [f 0, f 1, f 2, f 3, f 4, f 5, f 6, f 7, f 8, f 9, f 10, f 11, f 12, f 13, f 14, f 15, f 16, f 17, f 18, f 19, f 20, f 21, f 22, f 23, f 24, f 25, f 26, f 27, f 28, f 29, f 30, f 31, f 32, f 33, f 34, f 35, f 36, f 37, f 38, f 39, f 40, f 41, f 42, f 43, f 44, f 45, f 46, f 47, f 48, f 49, f 50, f 51, f 52, f 53, f 54, f 55, f 56, f 57, f 58, f 59, f 60, f 61, f 62, f 63, f 64, f 65, f 66, f 67, f 68, f 69, f 70, f 71, f 72, f 73, f 74, f 75, f 76, f 77, f 78, f 79, f 80, f 81, f 82, f 83, f 84, f 85, f 86, f 87, f 88, f 89, f 90, f 91, f 92, f 93, f 94, f 95, f 96, f 97, f 98, f 99, f 100, f 101, f 102, f 103, f 104, f 105, f 106, f 107, f 108, f 109, f 110, f 111, f 112, f 113, f 114, f 115, f 116, f 117, f 118, f 119, f 120, f 121, f 122, f 123, f 124, f 125, f 126, f 127, f 128, f 129, f 130, f 131, f 132, f 133, f 134, f 135, f 136, f 137, f 138, f 139, f 140, f 141, f 142, f 143, f 144, f 145, f 146, f 147, f 148, f 149, f 150, f 151, f 152, f 153] := fun f => rfl
  rw [e2] at e
  show Act.mk (Array.mk l) [] = Act.mk (Array.mk _) []
  exact congrArg (fun l => Act.mk (Array.mk l) []) e

theorem new_block {V w5 : World} {q : Nat} {o : Obj} (hb5 : Below ((V.drewN q).alloc o).heap.size ((V.drewN q).alloc o) w5) : w5.heap[V.heap.size]? = some o :=
  (hb5.block V.heap.size (by show V.heap.size < (V.heap.push o).size; simp)).trans (heap_alloc_new (V.drewN q) o)
/-- A new block of three cells is written whole. -/
theorem set3_new {w w5 : World} {n xb : Nat} {a b c o1 o2 o3 : Value} {T : TypeId} (hb : Below n w w5) (hxn : n ≤ xb) (hx : w5.heap[xb]? = some (.cells #[a, b, c] T (0, 0))) :
    (((w5.setCell ⟨xb, 0, none⟩ o1).setCell ⟨xb, 1, none⟩ o2).setCell ⟨xb, 2, none⟩ o3).heap[xb]? = some (.cells #[o1, o2, o3] T (0, 0)) ∧ Below n w (((w5.setCell ⟨xb, 0, none⟩ o1).setCell ⟨xb, 1, none⟩ o2).setCell ⟨xb, 2, none⟩ o3) ∧
      (∀ k, k ≠ xb → (((w5.setCell ⟨xb, 0, none⟩ o1).setCell ⟨xb, 1, none⟩ o2).setCell ⟨xb, 2, none⟩ o3).heap[k]? = w5.heap[k]?) ∧ (((w5.setCell ⟨xb, 0, none⟩ o1).setCell ⟨xb, 1, none⟩ o2).setCell ⟨xb, 2, none⟩ o3).heap.size = w5.heap.size := by
  have h1 : (w5.setCell ⟨xb, 0, none⟩ o1).heap[xb]? = some (.cells #[o1, b, c] T (0, 0)) := by rw [heap_setCell_same hx]; rfl
  have h2 : ((w5.setCell ⟨xb, 0, none⟩ o1).setCell ⟨xb, 1, none⟩ o2).heap[xb]? = some (.cells #[o1, o2, c] T (0, 0)) := by rw [heap_setCell_same h1]; rfl
  have h3 : (((w5.setCell ⟨xb, 0, none⟩ o1).setCell ⟨xb, 1, none⟩ o2).setCell ⟨xb, 2, none⟩ o3).heap[xb]? = some (.cells #[o1, o2, o3] T (0, 0)) := by rw [heap_setCell_same h2]; rfl
  have hk : ∀ k, k ≠ xb → (((w5.setCell ⟨xb, 0, none⟩ o1).setCell ⟨xb, 1, none⟩ o2).setCell ⟨xb, 2, none⟩ o3).heap[k]? = w5.heap[k]? := fun k hne => by
    rw [Below.heap_setCell _ _ _ _ hne, Below.heap_setCell _ _ _ _ hne, Below.heap_setCell _ _ _ _ hne]
  have hs : (((w5.setCell ⟨xb, 0, none⟩ o1).setCell ⟨xb, 1, none⟩ o2).setCell ⟨xb, 2, none⟩ o3).heap.size = w5.heap.size := by simp [World.setCell]
  exact ⟨h3, ⟨hb.os, hb.tape, hb.output, by rw [hs]; exact hb.size, fun k hkn => by rw [hk k (by omega)]; exact hb.block k hkn⟩, hk, hs⟩

end Go.Proofs.Ytpnkmnmchdabkaa
