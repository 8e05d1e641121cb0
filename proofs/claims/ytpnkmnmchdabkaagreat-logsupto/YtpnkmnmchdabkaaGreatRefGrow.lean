import Derived.Test.YtpnkmnmchdabkaaGreatRefList
namespace Go.Proofs.YtpnkmnmchdabkaaGreat
open Go.RowKit

def isNew (ns : List Rf) (j : Nat) : Bool := ns.any (fun r => r.pv.ownBlock == some j)
theorem isNew_iff (ns : List Rf) (j : Nat) : isNew ns j = true ↔ ∃ r ∈ ns, r.pv.ownBlock = some j := by simp [isNew]

/-- What is known of a new shard of the document's: where its parents lie. -/
def NewRf (U W : World) (r : Rf) : Prop := ∃ b, r.pv = .slice (some ⟨b, 0, none⟩) r.par.length r.par.length ∧ W.heap[b]? = some (.cells (r.par.map (Value.int .i64)).toArray 3 (0, 0)) ∧ U.heap.size ≤ b ∧ r.par.length ≤ 2

/-- Shards more, behind the append and the store of what it answered. -/
theorem RefAt.grow {U W w3 : World} {ρ : Nat → Nat} {yb : Nat} {C : Cfg} {time : Int} {rs : List Rf} {P : List Pt} {wv : Wks} {fv sv lv : Value} (h : RefAt U ρ yb C time rs P wv fv sv lv) (hf : Fits U ρ) (ns : List Rf) (hWk : Keeps (fun _ => False) U W)
    (hns : ∀ r ∈ ns, NewRf U W r) (g cap n : Nat) (hn : n = rs.length + ns.length) (hown : w3.ownsRow 0 73 9 (.slice (some ⟨g, 0, none⟩) n cap) n (rowRf rs ++ rowRf ns)) (hgrow : W.grownBy w3 sv.ownBlock) (hat : sv.ownBlock = some g ∨ g = W.heap.size) :
    RefPost U ρ yb C time (rs ++ ns) P wv fv (w3.setCell ⟨yb, 7, none⟩ (.slice (some ⟨g, 0, none⟩) n cap)) := by
  subst hn
  have hyb := lt_of_heap h.blk
  have hWs := hWk.size
  have hgs := hgrow.size
  have hg2 : g < w3.heap.size := (hown.lt g rfl).2
  have hgT : g < U.heap.size → ρ g = 201 := fun hlt => by
    rcases hat with e | e
    · exact h.rowT g e
    · omega
  have hgy : g ≠ yb := by rintro rfl; have := hgT hyb; have := h.tag; omega
  have newB : ∀ j, isNew ns j = true → U.heap.size ≤ j ∧ j < W.heap.size ∧ j ≠ g := by
    intro j hj
    obtain ⟨r, hr, hb⟩ := (isNew_iff ns j).1 hj
    obtain ⟨b, e, hh, hub, _⟩ := hns r hr
    rw [e] at hb
    simp [Value.ownBlock] at hb
    subst hb
    have hlt := lt_of_heap hh
    refine ⟨hub, hlt, ?_⟩
    rintro rfl
    rcases hat with e | e
    · have := (h.row.lt _ e).2; omega
    · omega
  have hkeep : Keeps (fun k => k = yb ∨ sv.ownBlock = some k) U (w3.setCell ⟨yb, 7, none⟩ (.slice (some ⟨g, 0, none⟩) (rs.length + ns.length) cap)) := by
    refine ⟨?_, ?_, ?_, ?_, ?_⟩
    · show w3.os = U.os; rw [hgrow.os, hWk.os]
    · show w3.tape = U.tape; rw [hgrow.tape, hWk.tape]
    · show w3.output = U.output; rw [hgrow.output, hWk.output]
    · simp [World.setCell]; omega
    · intro k hk hs
      rw [Below.heap_setCell _ _ _ _ (fun e => hs (Or.inl e)), hgrow.block k (by omega) (fun e => hs (Or.inr e.symm)), hWk.block k hk (fun h => h)]
  have tagOf : ∀ k, k < U.heap.size → (if k = g then 201 else if isNew ns k = true then 203 else ρ k) = ρ k := by
    intro k hk
    split
    · rename_i e; subst e; exact (hgT hk).symm
    · split
      · rename_i e; have := (newB k e).1; omega
      · rfl
  have ok : ∀ {e : TypeId} {size : Nat} {v : Value} {n : Nat} {xs : List Value} {t : Nat}, U.ownsRow 0 e size v n xs → (∀ k, v.ownBlock = some k → ρ k = t) → t ≠ 200 → t ≠ 201 → (w3.setCell ⟨yb, 7, none⟩ (.slice (some ⟨g, 0, none⟩) (rs.length + ns.length) cap)).ownsRow 0 e size v n xs := by
    intro e size v n xs t ho ht h1 h2
    refine ownsRow_keeps ho hkeep fun k hkk hs => ?_
    have h3 := ht k hkk
    rcases hs with rfl | hs
    · have := h.tag; omega
    · have := h.rowT k hs; omega
  have at_ : ∀ {i : Nat} {r : Rf}, (rs ++ ns)[i]? = some r → rs[i]? = some r ∨ r ∈ ns := by
    intro i r hi
    by_cases hlt : i < rs.length
    · rw [List.getElem?_append_left hlt] at hi; exact Or.inl hi
    · rw [List.getElem?_append_right (by omega)] at hi; exact Or.inr (List.mem_of_getElem? hi)
  refine ⟨fun k => if k = g then 201 else if isNew ns k = true then 203 else ρ k, .slice (some ⟨g, 0, none⟩) (rs.length + ns.length) cap, lv, ⟨?_, ?_, ?_, ?_, ok h.log h.logT (by omega) (by omega), ?_, ?_, ?_, h.wk.same fun k h1 h2 h3 => ⟨hkeep.block k h1 (fun hs => by rcases hs with rfl | hs; have := h.tag; omega; have := h.rowT k hs; omega), tagOf k h1⟩⟩, ?_, ?_, ?_⟩
  · have hb : w3.heap[yb]? = some (.cells (refArr C time sv wv.v lv fv) 80 (0, 0)) := by
      rw [hgrow.block yb (by omega) (fun e => by have := h.rowT yb e.symm; have := h.tag; omega), hWk.block yb hyb (fun h => h), h.blk]
    rw [heap_setCell_same hb]; rfl
  · show (if yb = g then _ else _) = 200
    rw [tagOf yb hyb]; exact h.tag
  · rw [rowRf_append, List.length_append]
    refine ownsRow_of_block hown fun k hk => Below.heap_setCell _ _ _ _ ?_
    simp [Value.ownBlock] at hk
    subst hk
    exact hgy
  · intro k hk
    simp [Value.ownBlock] at hk
    subst hk
    show (if g = g then 201 else _) = 201
    rw [if_pos rfl]
  · intro k hk
    show (if k = g then _ else _) = 202
    rw [tagOf k (h.log.lt k hk).2]; exact h.logT k hk
  · intro i r hi
    rcases at_ hi with hi | hi
    · exact ok (h.par i r hi) (h.parT i r hi) (by omega) (by omega)
    · obtain ⟨b, e, hh, hub, hp2⟩ := hns r hi
      have hnb := newB b ((isNew_iff ns b).2 ⟨r, hi, by rw [e]; rfl⟩)
      rw [e]
      refine ⟨by simp, .inr ⟨b, r.par.length, (r.par.map (Value.int .i64)).toArray, rfl, Nat.zero_le _, ?_, Nat.le_refl _, by unfold maxLen; omega, by simp, by simp [List.take_of_length_le]⟩⟩
      rw [Below.heap_setCell _ _ _ _ (by show b ≠ yb; omega), hgrow.block b hnb.2.1 (fun e => by have := (h.row.lt b e.symm).2; omega), hh]
  · intro i r hi k hk
    show (if k = g then 201 else if isNew ns k = true then 203 else ρ k) = 203
    rcases at_ hi with hi | hi
    · rw [tagOf k ((h.par i r hi).lt k hk).2]; exact h.parT i r hi k hk
    · have hnw := (isNew_iff ns k).2 ⟨r, hi, hk⟩
      rw [if_neg (newB k hnw).2.2, if_pos hnw]
  · refine hkeep.mono fun k _ hs => ?_
    unfold theirs
    rcases hs with rfl | hs
    · rw [h.tag]; omega
    · rw [h.rowT k hs]; omega
  · refine ⟨tagOf, fun k hk => ?_⟩
    show (if k = g then 201 else if isNew ns k = true then 203 else ρ k) = 0 ∨ (200 ≤ (if k = g then 201 else if isNew ns k = true then 203 else ρ k) ∧ (if k = g then 201 else if isNew ns k = true then 203 else ρ k) < 300)
    split
    · right; omega
    · split
      · right; omega
      · left; exact hf k hk
  · intro k hk
    have hk' : w3.heap.size ≤ k := by simpa [World.setCell] using hk
    show (if k = g then 201 else if isNew ns k = true then 203 else ρ k) = 0
    rw [if_neg (by omega), if_neg (fun e => by have := (newB k e).2.1; omega)]
    exact hf k (by omega)

/-- A shard of the document's is closed. -/
theorem RefAt.close {w : World} {ρ : Nat → Nat} {yb : Nat} {C : Cfg} {time : Int} {rs : List Rf} {P : List Pt} {wv : Wks} {fv lv : Value} {sb cap : Nat} (h : RefAt w ρ yb C time rs P wv fv (.slice (some ⟨sb, 0, none⟩) rs.length cap) lv) (i : Nat) (r : Rf) (hi : rs[i]? = some r) :
    RefAt (w.setCell ⟨sb, i * 9 + 2, none⟩ (.bool false)) ρ yb C time (rs.set i { r with op := false }) P wv fv (.slice (some ⟨sb, 0, none⟩) rs.length cap) lv := by
  have hsb : ρ sb = 201 := h.rowT sb rfl
  have ok : ∀ {e : TypeId} {size : Nat} {v : Value} {n : Nat} {xs : List Value} {t : Nat}, w.ownsRow 0 e size v n xs → (∀ k, v.ownBlock = some k → ρ k = t) → t ≠ 201 → (w.setCell ⟨sb, i * 9 + 2, none⟩ (.bool false)).ownsRow 0 e size v n xs := by
    intro e size v n xs t ho ht h1
    refine ownsRow_of_block ho fun k hkk => Below.heap_setCell _ _ _ _ ?_
    rintro rfl
    have := ht _ hkk; omega
  have at_ : ∀ {j : Nat} {q : Rf}, (rs.set i { r with op := false })[j]? = some q → ∃ q', rs[j]? = some q' ∧ q.pv = q'.pv ∧ q.par = q'.par := by
    intro j q hj
    rw [List.getElem?_set] at hj
    split at hj
    · rename_i e; subst e
      split at hj
      · cases hj; exact ⟨r, hi, rfl, rfl⟩
      · cases hj
    · exact ⟨q, hj, rfl, rfl⟩
  refine ⟨?_, h.tag, ?_, h.rowT, ok h.log h.logT (by omega), h.logT, ?_, ?_, h.wk.same fun k h1 h2 h3 => ⟨Below.heap_setCell _ _ _ _ (by rintro rfl; omega), rfl⟩⟩
  · rw [Below.heap_setCell _ _ _ _ (by rintro rfl; have := h.tag; omega)]; exact h.blk
  · have := (World.ownsRow.stored h.row (i * 9 + 2) (.bool false)).1
    rw [rowRf_set rs i 2 (by omega) r { r with op := false } hi _ rfl] at this
    simpa using this
  · intro j q hj
    obtain ⟨q', h1, h2, h3⟩ := at_ hj
    rw [h2, h3]
    exact ok (h.par j q' h1) (h.parT j q' h1) (by omega)
  · intro j q hj k hk
    obtain ⟨q', h1, h2, h3⟩ := at_ hj
    rw [h2] at hk
    exact h.parT j q' h1 k hk

/-- The document's shards, closed and new ones, as the program's. -/
theorem absR_turn {rs : List Rf} {P : List Pt} (hP : ∀ e ∈ P, e.shard < rs.length) (ns : List Rf) : absR (rs ++ ns) P = absR rs P ++ ns.map (fun r => ⟨r.lo, r.hi, r.op, r.par, 0⟩) := by
  have hz : ∀ i, rs.length ≤ i → ofShard P i = [] := by
    intro i hi
    unfold ofShard
    rw [List.filter_eq_nil_iff]
    intro e he
    have := hP e he
    simp; omega
  apply List.ext_getElem?
  intro i
  by_cases hlt : i < rs.length
  · obtain ⟨q, hq⟩ : ∃ q, rs[i]? = some q := ⟨rs[i], List.getElem?_eq_getElem hlt⟩
    rw [List.getElem?_append_left (by rw [absR_len]; exact hlt), absR_get hq, absR_get (by rw [List.getElem?_append_left hlt]; exact hq)]
  · rw [List.getElem?_append_right (by rw [absR_len]; omega), absR_len]
    by_cases hl2 : i - rs.length < ns.length
    · obtain ⟨q, hq⟩ : ∃ q, ns[i - rs.length]? = some q := ⟨ns[i - rs.length], List.getElem?_eq_getElem hl2⟩
      rw [absR_get (r := q) (by rw [List.getElem?_append_right (by omega)]; exact hq), hz i (by omega)]
      simp [hq]
    · rw [List.getElem?_eq_none (by rw [absR_len, List.length_append]; omega), List.getElem?_eq_none (by simp; omega)]
theorem absR_close {rs : List Rf} {P : List Pt} {k : Nat} {r : Rf} (hr : rs[k]? = some r) : absR (rs.set k { r with op := false }) P = (absR rs P).set k ⟨r.lo, r.hi, false, r.par, (ofShard P k).length⟩ := by
  apply List.ext_getElem?
  intro i
  have hkl := (List.getElem?_eq_some_iff.1 hr).1
  by_cases hi : i < rs.length
  · by_cases hki : k = i
    · subst hki
      rw [List.getElem?_set_self (by rw [absR_len]; exact hi), absR_get (r := { r with op := false }) (by rw [List.getElem?_set_self hkl])]
    · obtain ⟨q, hq⟩ : ∃ q, rs[i]? = some q := ⟨rs[i], List.getElem?_eq_getElem hi⟩
      rw [List.getElem?_set_ne hki, absR_get hq, absR_get (by rw [List.getElem?_set_ne hki]; exact hq)]
  · rw [List.getElem?_eq_none (by rw [absR_len]; simp; omega), List.getElem?_eq_none (by simp [absR_len]; omega)]

end Go.Proofs.YtpnkmnmchdabkaaGreat
