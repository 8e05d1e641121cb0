import Derived.Test.YtpnkmnmchdabkaaGreatM13
namespace Go.Proofs.YtpnkmnmchdabkaaGreat
open Go.RowKit

def isNew (ns : List Rf) (j : Nat) : Bool := ns.any (fun r => r.pv.ownBlock == some j)
theorem isNew_iff (ns : List Rf) (j : Nat) : isNew ns j = true ↔ ∃ r ∈ ns, r.pv.ownBlock = some j := by simp [isNew]

/-- What is known of a new shard of the document's: where its parents lie. -/
def NewRf (U W : World) (r : Rf) : Prop := ∃ b, r.pv = .slice (some ⟨b, 0, none⟩) r.par.length r.par.length ∧ W.heap[b]? = some (.cells (r.par.map (Value.int .i64)).toArray 3 (0, 0)) ∧ U.heap.size ≤ b ∧ r.par.length ≤ 2

/-- Shards more, behind the append and the store of what it answered. -/
theorem RefAt.grow {U W w3 : World} {ρ : Nat → Nat} {yb : Nat} {C : Cfg} {time : Int} {rs : List Rf} {P : List Pt} {wv : Wks} {fv sv lv : Value} (h : RefAt U ρ yb C time rs P wv fv sv lv) (hf : Fits U ρ) (ns : List Rf) (hWk : Keeps (fun _ => False) U W)
    (hns : ∀ r ∈ ns, NewRf U W r) (g cap n : Nat) (hn : n = rs.length + ns.length) (hown : w3.ownsRow 0 73 9 (.slice (some ⟨g, 0, none⟩) n cap) n (rowRf rs ++ rowRf ns)) (hgrow : W.grownBy w3 sv.ownBlock) (hat : sv.ownBlock = some g ∨ g = W.heap.size) :
    RefPost U ρ yb C time (rs ++ ns) P wv fv (w3.setCell ⟨yb, 7, none⟩ (.slice (some ⟨g, 0, none⟩) n cap)) := by
  subst hn
  have hyb := lt_of_heap h.blk
  have hWs := hWk.size
  have hgs := hgrow.size
  have hg2 : g < w3.heap.size := (hown.lt g rfl).2
  have hgT : g < U.heap.size → ρ g = 201 := fun hlt => by
    rcases hat with e | e
    · exact h.rowT g e
    · omega
  have hgy : g ≠ yb := by rintro rfl; have := hgT hyb; have := h.tag; omega
  have newB : ∀ j, isNew ns j = true → U.heap.size ≤ j ∧ j < W.heap.size ∧ j ≠ g := by
    intro j hj
    obtain ⟨r, hr, hb⟩ := (isNew_iff ns j).1 hj
    obtain ⟨b, e, hh, hub, _⟩ := hns r hr
    rw [e] at hb
    simp [Value.ownBlock] at hb
    subst hb
    have hlt := lt_of_heap hh
    refine ⟨hub, hlt, ?_⟩
    rintro rfl
    rcases hat with e | e
    · have := (h.row.lt _ e).2; omega
    · omega
  have hkeep : Keeps (fun k => k = yb ∨ sv.ownBlock = some k) U (w3.setCell ⟨yb, 7, none⟩ (.slice (some ⟨g, 0, none⟩) (rs.length + ns.length) cap)) := by
    refine ⟨?_, ?_, ?_, ?_, ?_⟩
    · show w3.os = U.os; rw [hgrow.os, hWk.os]
    · show w3.tape = U.tape; rw [hgrow.tape, hWk.tape]
    · show w3.output = U.output; rw [hgrow.output, hWk.output]
    · simp [World.setCell]; omega
    · intro k hk hs
      rw [Below.heap_setCell _ _ _ _ (fun e => hs (Or.inl e)), hgrow.block k (by omega) (fun e => hs (Or.inr e.symm)), hWk.block k hk (fun h => h)]
  have tagOf : ∀ k, k < U.heap.size → (if k = g then 201 else if isNew ns k = true then 203 else ρ k) = ρ k := by
    intro k hk
    split
    · rename_i e; subst e; exact (hgT hk).symm
    · split
      · rename_i e; have := (newB k e).1; omega
      · rfl
  have ok : ∀ {e : TypeId} {size : Nat} {v : Value} {n : Nat} {xs : List Value} {t : Nat}, U.ownsRow 0 e size v n xs → (∀ k, v.ownBlock = some k → ρ k = t) → t ≠ 200 → t ≠ 201 → (w3.setCell ⟨yb, 7, none⟩ (.slice (some ⟨g, 0, none⟩) (rs.length + ns.length) cap)).ownsRow 0 e size v n xs := by
    intro e size v n xs t ho ht h1 h2
    refine ownsRow_keeps ho hkeep fun k hkk hs => ?_
    have h3 := ht k hkk
    rcases hs with rfl | hs
    · have := h.tag; omega
    · have := h.rowT k hs; omega
  have at_ : ∀ {i : Nat} {r : Rf}, (rs ++ ns)[i]? = some r → rs[i]? = some r ∨ r ∈ ns := by
    intro i r hi
    by_cases hlt : i < rs.length
    · rw [List.getElem?_append_left hlt] at hi; exact Or.inl hi
    · rw [List.getElem?_append_right (by omega)] at hi; exact Or.inr (List.mem_of_getElem? hi)
  refine ⟨fun k => if k = g then 201 else if isNew ns k = true then 203 else ρ k, .slice (some ⟨g, 0, none⟩) (rs.length + ns.length) cap, lv, ⟨?_, ?_, ?_, ?_, ok h.log h.logT (by omega) (by omega), ?_, ?_, ?_, h.wk.same fun k h1 h2 h3 => ⟨hkeep.block k h1 (fun hs => by rcases hs with rfl | hs; have := h.tag; omega; have := h.rowT k hs; omega), tagOf k h1⟩⟩, ?_, ?_, ?_⟩
  · have hb : w3.heap[yb]? = some (.cells (refArr C time sv wv.v lv fv) 80 (0, 0)) := by
      rw [hgrow.block yb (by omega) (fun e => by have := h.rowT yb e.symm; have := h.tag; omega), hWk.block yb hyb (fun h => h), h.blk]
    rw [heap_setCell_same hb]; rfl
  · show (if yb = g then _ else _) = 200
    rw [tagOf yb hyb]; exact h.tag
  · rw [rowRf_append, List.length_append]
    refine ownsRow_of_block hown fun k hk => Below.heap_setCell _ _ _ _ ?_
    simp [Value.ownBlock] at hk
    subst hk
    exact hgy
  · intro k hk
    simp [Value.ownBlock] at hk
    subst hk
    show (if g = g then 201 else _) = 201
    rw [if_pos rfl]
  · intro k hk
    show (if k = g then _ else _) = 202
    rw [tagOf k (h.log.lt k hk).2]; exact h.logT k hk
  · intro i r hi
    rcases at_ hi with hi | hi
    · exact ok (h.par i r hi) (h.parT i r hi) (by omega) (by omega)
    · obtain ⟨b, e, hh, hub, hp2⟩ := hns r hi
      have hnb := newB b ((isNew_iff ns b).2 ⟨r, hi, by rw [e]; rfl⟩)
      rw [e]
      refine ⟨by simp, .inr ⟨b, r.par.length, (r.par.map (Value.int .i64)).toArray, rfl, Nat.zero_le _, ?_, Nat.le_refl _, by unfold maxLen; omega, by simp, by simp [List.take_of_length_le]⟩⟩
      rw [Below.heap_setCell _ _ _ _ (by show b ≠ yb; omega), hgrow.block b hnb.2.1 (fun e => by have := (h.row.lt b e.symm).2; omega), hh]
  · intro i r hi k hk
    show (if k = g then 201 else if isNew ns k = true then 203 else ρ k) = 203
    rcases at_ hi with hi | hi
    · rw [tagOf k ((h.par i r hi).lt k hk).2]; exact h.parT i r hi k hk
    · have hnw := (isNew_iff ns k).2 ⟨r, hi, hk⟩
      rw [if_neg (newB k hnw).2.2, if_pos hnw]
  · refine hkeep.mono fun k _ hs => ?_
    unfold theirs
    rcases hs with rfl | hs
    · rw [h.tag]; omega
    · rw [h.rowT k hs]; omega
  · refine ⟨tagOf, fun k hk => ?_⟩
    show (if k = g then 201 else if isNew ns k = true then 203 else ρ k) = 0 ∨ (200 ≤ (if k = g then 201 else if isNew ns k = true then 203 else ρ k) ∧ (if k = g then 201 else if isNew ns k = true then 203 else ρ k) < 300)
    split
    · right; omega
    · split
      · right; omega
      · left; exact hf k hk
  · intro k hk
    have hk' : w3.heap.size ≤ k := by simpa [World.setCell] using hk
    show (if k = g then 201 else if isNew ns k = true then 203 else ρ k) = 0
    rw [if_neg (by omega), if_neg (fun e => by have := (newB k e).2.1; omega)]
    exact hf k (by omega)

/-- A shard of the document's is closed. -/
theorem RefAt.close {w : World} {ρ : Nat → Nat} {yb : Nat} {C : Cfg} {time : Int} {rs : List Rf} {P : List Pt} {wv : Wks} {fv lv : Value} {sb cap : Nat} (h : RefAt w ρ yb C time rs P wv fv (.slice (some ⟨sb, 0, none⟩) rs.length cap) lv) (i : Nat) (r : Rf) (hi : rs[i]? = some r) :
    RefAt (w.setCell ⟨sb, i * 9 + 2, none⟩ (.bool false)) ρ yb C time (rs.set i { r with op := false }) P wv fv (.slice (some ⟨sb, 0, none⟩) rs.length cap) lv := by
  have hsb : ρ sb = 201 := h.rowT sb rfl
  have ok : ∀ {e : TypeId} {size : Nat} {v : Value} {n : Nat} {xs : List Value} {t : Nat}, w.ownsRow 0 e size v n xs → (∀ k, v.ownBlock = some k → ρ k = t) → t ≠ 201 → (w.setCell ⟨sb, i * 9 + 2, none⟩ (.bool false)).ownsRow 0 e size v n xs := by
    intro e size v n xs t ho ht h1
    refine ownsRow_of_block ho fun k hkk => Below.heap_setCell _ _ _ _ ?_
    rintro rfl
    have := ht _ hkk; omega
  have at_ : ∀ {j : Nat} {q : Rf}, (rs.set i { r with op := false })[j]? = some q → ∃ q', rs[j]? = some q' ∧ q.pv = q'.pv ∧ q.par = q'.par := by
    intro j q hj
    rw [List.getElem?_set] at hj
    split at hj
    · rename_i e; subst e
      split at hj
      · cases hj; exact ⟨r, hi, rfl, rfl⟩
      · cases hj
    · exact ⟨q, hj, rfl, rfl⟩
  refine ⟨?_, h.tag, ?_, h.rowT, ok h.log h.logT (by omega), h.logT, ?_, ?_, h.wk.same fun k h1 h2 h3 => ⟨Below.heap_setCell _ _ _ _ (by rintro rfl; omega), rfl⟩⟩
  · rw [Below.heap_setCell _ _ _ _ (by rintro rfl; have := h.tag; omega)]; exact h.blk
  · have := (World.ownsRow.stored h.row (i * 9 + 2) (.bool false)).1
    rw [rowRf_set rs i 2 (by omega) r { r with op := false } hi _ rfl] at this
    simpa using this
  · intro j q hj
    obtain ⟨q', h1, h2, h3⟩ := at_ hj
    rw [h2, h3]
    exact ok (h.par j q' h1) (h.parT j q' h1) (by omega)
  · intro j q hj k hk
    obtain ⟨q', h1, h2, h3⟩ := at_ hj
    rw [h2] at hk
    exact h.parT j q' h1 k hk

/-- The document's shards, closed and new ones, as the program's. -/
theorem absR_turn {rs : List Rf} {P : List Pt} (hP : ∀ e ∈ P, e.shard < rs.length) (ns : List Rf) : absR (rs ++ ns) P = absR rs P ++ ns.map (fun r => ⟨r.lo, r.hi, r.op, r.par, 0⟩) := by
  have hz : ∀ i, rs.length ≤ i → ofShard P i = [] := by
    intro i hi
    unfold ofShard
    rw [List.filter_eq_nil_iff]
    intro e he
    have := hP e he
    simp; omega
  apply List.ext_getElem?
  intro i
  by_cases hlt : i < rs.length
  · obtain ⟨q, hq⟩ : ∃ q, rs[i]? = some q := ⟨rs[i], List.getElem?_eq_getElem hlt⟩
    rw [List.getElem?_append_left (by rw [absR_len]; exact hlt), absR_get hq, absR_get (by rw [List.getElem?_append_left hlt]; exact hq)]
  · rw [List.getElem?_append_right (by rw [absR_len]; omega), absR_len]
    by_cases hl2 : i - rs.length < ns.length
    · obtain ⟨q, hq⟩ : ∃ q, ns[i - rs.length]? = some q := ⟨ns[i - rs.length], List.getElem?_eq_getElem hl2⟩
      rw [absR_get (r := q) (by rw [List.getElem?_append_right (by omega)]; exact hq), hz i (by omega)]
      simp [hq]
    · rw [List.getElem?_eq_none (by rw [absR_len, List.length_append]; omega), List.getElem?_eq_none (by simp; omega)]
theorem absR_close {rs : List Rf} {P : List Pt} {k : Nat} {r : Rf} (hr : rs[k]? = some r) : absR (rs.set k { r with op := false }) P = (absR rs P).set k ⟨r.lo, r.hi, false, r.par, (ofShard P k).length⟩ := by
  apply List.ext_getElem?
  intro i
  have hkl := (List.getElem?_eq_some_iff.1 hr).1
  by_cases hi : i < rs.length
  · by_cases hki : k = i
    · subst hki
      rw [List.getElem?_set_self (by rw [absR_len]; exact hi), absR_get (r := { r with op := false }) (by rw [List.getElem?_set_self hkl])]
    · obtain ⟨q, hq⟩ : ∃ q, rs[i]? = some q := ⟨rs[i], List.getElem?_eq_getElem hi⟩
      rw [List.getElem?_set_ne hki, absR_get hq, absR_get (by rw [List.getElem?_set_ne hki]; exact hq)]
  · rw [List.getElem?_eq_none (by rw [absR_len]; simp; omega), List.getElem?_eq_none (by simp [absR_len]; omega)]

end Go.Proofs.YtpnkmnmchdabkaaGreat
namespace Go.Proofs.YtpnkmnmchdabkaaGreat
open Go.RowKit

/-! A region whose last operation (number z: a store behind all others) writes what its loads read: the condition S is kept up to it, and not behind it. -/
section
variable {P : Program} {ops : Array Oper} {Q : Exit → Act → World → Prop} {md : Region.Mode} {S : World → Prop} {z : Nat}

/-- Every order of what is left; S holds behind each operation but z. -/
def AnyBut (P : Program) (md : Region.Mode) (ops : Array Oper) (Q : Exit → Act → World → Prop) (S : World → Prop) (z : Nat) : Nat → Array Bool → Act → World → Prop
  | 0, l, a, w => Region.ready md ops l = [] ∧ Q .normal a w
  | n + 1, l, a, w => (Region.ready md ops l = [] → Q .normal a w) ∧ ∀ i ∈ Region.ready md ops l, wpOp P ops Q i (fun a' w' => (i ≠ z → S w') ∧ AnyBut P md ops Q S z n (l.setIfInBounds i true) a' w') a w

theorem AnyBut.any : ∀ (n : Nat) (l : Array Bool) (a : Act) (w : World), AnyBut P md ops Q S z n l a w → wpAny P md ops Q n l a w
  | 0, _, _, _, h => h
  | n + 1, _, _, _, h => ⟨h.1, fun i hi => wpOp_mono (fun a' w' h' => AnyBut.any n _ a' w' h'.2) (h.2 i hi)⟩

/-- z waits for i. -/
def waitsFor (md : Region.Mode) (ops : Array Oper) (z i : Nat) : Bool := ((ops[z]?).map (·.after.any fun e => Region.binds md e && e.on == i)).getD false

theorem not_ready_z {i : Nat} {l : Array Bool} (hz : waitsFor md ops z i = true) (hi : i ∈ Region.ready md ops l) : z ∉ Region.ready md ops l := by
  intro hj
  obtain ⟨-, oz, hoz, hall⟩ := mem_ready.1 hj
  have h0 := (mem_ready.1 hi).1
  unfold waitsFor at hz
  rw [hoz] at hz
  simp only [Option.map_some, Option.getD_some, Array.any_eq_true'] at hz
  obtain ⟨e, he, hb⟩ := hz
  simp only [Bool.and_eq_true, beq_iff_eq] at hb
  have h1 := hall e he hb.1
  rw [hb.2] at h1
  rcases Nat.lt_or_ge i l.size with h' | h'
  · simp [h'] at h0 h1; rw [h0] at h1; cases h1
  · simp [Array.getElem?_eq_none h'] at h1

theorem anyBut_first {i : Nat} {oi : Oper} {v : Value} (hi : ops[i]? = some oi) (hsel : ∀ (j : Nat) (o : Oper) cs b, ops[j]? = some o → o.op ≠ .select cs b)
    (hQ : ∀ c a w, Q (.panic c) (a.put oi.dst v) w → Q (.panic c) a w) (hz : waitsFor md ops z i = true) :
    ∀ (n : Nat) (l : Array Bool) (a : Act) (w : World),
      (∀ j oj, ops[j]? = some oj → j ≠ i → l.getD j true = false → (∀ e ∈ oj.after, Region.binds md e = true → e.on ≠ i) → oi.apart ops oj = true) →
      i ∈ Region.ready md ops l → YieldsIf P ops S oi v a → S w →
      AnyBut P md ops Q S z n (l.setIfInBounds i true) (a.put oi.dst v) w → AnyBut P md ops Q S z (n + 1) l a w := by
  intro n
  induction n with
  | zero =>
    intro l a w _ hr hy hS H
    refine ⟨fun h => absurd (h ▸ hr) (by simp), fun j hj => ?_⟩
    by_cases e : j = i
    · subst e; exact hy.wpOp hi hS ⟨fun _ => hS, H⟩
    · exact absurd (H.1 ▸ ready_mono hj e) (by simp)
  | succ n ih =>
    intro l a w hfree hr hy hS H
    refine ⟨fun h => absurd (h ▸ hr) (by simp), fun j hj => ?_⟩
    by_cases e : j = i
    · subst e; exact hy.wpOp hi hS ⟨fun _ => hS, H⟩
    · have hjz : j ≠ z := fun h => not_ready_z hz hr (h ▸ hj)
      obtain ⟨hjun, oj, hoj, hall⟩ := mem_ready.1 hj
      have hnot : ∀ x ∈ oj.after, Region.binds md x = true → x.on ≠ i := by
        intro x hx hb heq
        have h1 := hall x hx hb
        have h0 := (mem_ready.1 hr).1
        rw [heq] at h1
        rcases Nat.lt_or_ge i l.size with h' | h'
        · simp [h'] at h0 h1; rw [h0] at h1; cases h1
        · simp [Array.getElem?_eq_none h'] at h1
      refine wpOp_mono (fun a' w' h3 => ⟨fun _ => h3.2.1 hjz, ih (l.setIfInBounds j true) a' w' ?_ (ready_mono hr (Ne.symm e)) h3.1 (h3.2.1 hjz) ?_⟩)
        (wpOp_putIf hoj (hfree j oj hoj e hjun hnot) (fun cs b => hsel i oi cs b hi) (fun cs b => hsel j oj cs b hoj) hQ hy (H.2 j (ready_mono hj e)))
      · intro k ok hk hki hun hno
        refine hfree k ok hk hki ?_ hno
        by_cases hjk : j = k
        · subst hjk; exact hjun
        · rwa [getD_set_ne true hjk] at hun
      · rw [Array.setIfInBounds_comm _ _ e]
        exact h3.2.2

/-- Number i is taken first. -/
theorem anyBut_take {i : Nat} {oi : Oper} {v : Value} {n : Nat} {l l' : Array Bool} {a : Act} {w : World} (hi : ops[i]? = some oi)
    (hs : Region.noSelect ops = true) (hf : Region.free md ops l i = true) (hr : (Region.ready md ops l).contains i = true) (hz : waitsFor md ops z i = true) (hl : l.setIfInBounds i true = l')
    (hQ : ∀ c a w, Q (.panic c) (a.put oi.dst v) w → Q (.panic c) a w) (hg : oi.guard = none) (hy : ∀ w, S w → (execOp a.eval oi).run P w = .ok (.value v) w) (hS : S w)
    (h : AnyBut P md ops Q S z n l' (a.put oi.dst v) w) : AnyBut P md ops Q S z (n + 1) l a w :=
  anyBut_first hi (Region.noSelect_spec hs) hQ hz n l a w (Region.free_spec hi hf) (by simpa using hr) (Or.inl ⟨by simp [Region.wanted, hg], hy⟩) hS (hl ▸ h)

/-- One alone may come up. -/
theorem anyBut_one {i : Nat} {o : Oper} {n : Nat} {l l' : Array Bool} {a : Act} {w : World} (hr : Region.ready md ops l = [i]) (ho : ops[i]? = some o) (hg : o.guard = none) (hl : l.setIfInBounds i true = l')
    (h : ∀ K' : Act → World → Prop, Shut (∀ a w, (i ≠ z → S w) → AnyBut P md ops Q S z n l' a w → K' a w) → Oper.wp P o a w K' Q) : AnyBut P md ops Q S z (n + 1) l a w := by
  subst hl
  refine ⟨fun h0 => absurd (hr ▸ h0) (by simp), fun j hj => ?_⟩
  rw [hr, List.mem_singleton] at hj
  subst hj
  refine wpOp_step ho fun K' hK => ?_
  rw [if_pos (by simp [Region.wanted, hg])]
  exact h K' fun a w h1 h2 => hK a w ⟨h1, h2⟩

/-- One of two. -/
theorem anyBut_two {i j : Nat} {oi oj : Oper} {n : Nat} {l li lj : Array Bool} {a : Act} {w : World} (hr : Region.ready md ops l = [i, j]) (ho : ops[i]? = some oi) (hg : oi.guard = none) (ho' : ops[j]? = some oj) (hg' : oj.guard = none)
    (hl : l.setIfInBounds i true = li) (hl' : l.setIfInBounds j true = lj)
    (h : ∀ K' : Act → World → Prop, Shut (∀ a w, (i ≠ z → S w) → AnyBut P md ops Q S z n li a w → K' a w) → Oper.wp P oi a w K' Q)
    (h' : ∀ K' : Act → World → Prop, Shut (∀ a w, (j ≠ z → S w) → AnyBut P md ops Q S z n lj a w → K' a w) → Oper.wp P oj a w K' Q) : AnyBut P md ops Q S z (n + 1) l a w := by
  subst hl hl'
  refine ⟨fun h0 => absurd (hr ▸ h0) (by simp), fun k hk => ?_⟩
  rw [hr, List.mem_cons, List.mem_singleton] at hk
  rcases hk with rfl | rfl
  · refine wpOp_step ho fun K' hK => ?_
    rw [if_pos (by simp [Region.wanted, hg])]
    exact h K' fun a w h1 h2 => hK a w ⟨h1, h2⟩
  · refine wpOp_step ho' fun K' hK => ?_
    rw [if_pos (by simp [Region.wanted, hg'])]
    exact h' K' fun a w h1 h2 => hK a w ⟨h1, h2⟩

theorem anyBut_done {l : Array Bool} {a : Act} {w : World} (hr : Region.ready md ops l = []) (h : Q .normal a w) : ∀ n, AnyBut P md ops Q S z n l a w
  | 0 => ⟨hr, h⟩
  | _ + 1 => ⟨fun _ => h, by rw [hr]; simp⟩

theorem wp_region_but {id : Nat} {a : Act} {w : World} (hm : P.follows .mixedOrders = true) (n : Nat) (hn : ops.size = n) (l : Array Bool) (hl : Array.replicate n false = l)
    (h : AnyBut P .any ops Q S z n l a w.drew) : (Code.region id ops true).wp P Q a w :=
  wp_region_any hm (by subst hl hn; exact AnyBut.any _ _ _ _ h)
end

end Go.Proofs.YtpnkmnmchdabkaaGreat
namespace Go.Proofs.YtpnkmnmchdabkaaGreat
open Go.RowKit

/-- What an append leaves of every block but the one that the new row lies in: all of it (the old row's block too, where the row has moved). -/
theorem run_append_stands {P : Program} (w : World) (t ty : TypeId) (base : Nat) (e : TypeId) (i : TypeInfo) (z : Value) (size bytes : Nat) (ht : P.underlying t = some (.slice e)) (hi : P.info? e = some i) (hz : i.zero = some z)
    (hsize : i.size = size) (hby : i.bytes = bytes) (hzs : z.cells.size = size) (hsz : 0 < size)
    (v : Value) (n : Nat) (xs : List Value) (hown : w.ownsRow base e size v n xs)
    (ad : Addr) (m c : Nat) (news : List Value) (hl : news.length = m * size) (hnews : ∀ j u, news[j]? = some u → w.cell? (ad.add j) = some u) (h1 : ∀ u ∈ news, u.oneCell' = true)
    (hm : 0 < m) (h63 : n + m ≤ maxLen) (hbytes : (n + m) * bytes ≤ 140737488355328) (hbase : base ≤ w.heap.size) :
    ∃ g cap w', (Builtin.append_ #[t, t] ty #[v, .slice (some ad) m c]).run P w = .ok (.slice (some ⟨g, 0, none⟩) (n + m) cap) w' ∧
      w'.ownsRow base e size (.slice (some ⟨g, 0, none⟩) (n + m) cap) (n + m) (xs ++ news) ∧ w.grownBy w' v.ownBlock ∧ (v.ownBlock = some g ∨ g = w.heap.size) ∧ g < w'.heap.size ∧ w.grownBy w' (some g) := by
  obtain ⟨g, cap, w', hr, h2, h3, h4, h5⟩ := run_append_lies (P := P) w t ty base e i z size bytes ht hi hz hsize hby hzs hsz v n xs hown ad m c news hl hnews h1 hm h63 hbytes hbase w.heap.size rfl
  refine ⟨g, cap, w', hr, h2, h3, h4, h5, h3.os, h3.tape, h3.output, h3.size, fun k hk hne => ?_⟩
  by_cases hkv : some k = v.ownBlock
  · rcases hown.2 with ⟨rfl, rfl⟩ | ⟨b, cp, cur, rfl, hbg, hg, hnc, hcm, hcs, htake⟩
    · simp [Value.ownBlock] at hkv
    · subst hsize hby
      simp [Value.ownBlock] at hkv
      subst hkv
      by_cases hroom : n + m ≤ cp
      · have hfit : n * i.size + news.length ≤ cur.size := by rw [hl, hcs, ← Nat.add_mul]; exact Nat.mul_le_mul_right _ hroom
        have hq := run_append_room (P := P) w t ty e i ht hi k n cp cur hg ad m c news hl hnews h1 hroom hfit
        rw [hr] at hq
        injection hq with e1 e2
        injection e1 with e1
        simp at e1
        exact absurd (by rw [e1]) hne
      · have hq := run_append_grow (P := P) w t ty e i z ht hi hz ⟨k, 0, none⟩ n cp xs hown.1 (hown.cells (g := k) rfl) ad m c news hl hnews (by omega) (by simp only [maxLen] at h63; omega) (growslice_fits (by omega) hbytes)
        rw [hr] at hq
        injection hq with e1 e2
        rw [e2]
        exact Below.heap_alloc w.drew _ k hk
  · exact h3.block k hk hkv

/-- At the operation. -/
theorem wp_append_stands {P : Program} (w : World) {o : Oper} {a : Act} {K : Act → World → Prop} {Q : Exit → Act → World → Prop} (s x : Operand) (t : TypeId)
    (ho : o.op = .call { callee := .builtin .append, args := #[s, x], argTypes := #[t, t] })
    (base : Nat) (e : TypeId) (i : TypeInfo) (z : Value) (size bytes : Nat) (ht : P.underlying t = some (.slice e)) (hi : P.info? e = some i) (hz : i.zero = some z)
    (hsize : i.size = size) (hby : i.bytes = bytes) (hzs : z.cells.size = size) (hsz : 0 < size)
    (v : Value) (n : Nat) (xs : List Value) (hs : a.eval s = v) (hown : w.ownsRow base e size v n xs)
    (ad : Addr) (m c : Nat) (news : List Value) (hx : a.eval x = .slice (some ad) m c) (hl : news.length = m * size) (hnews : ∀ j u, news[j]? = some u → w.cell? (ad.add j) = some u) (h1 : ∀ u ∈ news, u.oneCell' = true)
    (hm : 0 < m) (h63 : n + m ≤ maxLen) (hbytes : (n + m) * bytes ≤ 140737488355328) (hbase : base ≤ w.heap.size)
    (h : ∀ g cap w', w'.ownsRow base e size (.slice (some ⟨g, 0, none⟩) (n + m) cap) (n + m) (xs ++ news) → w.grownBy w' v.ownBlock → (v.ownBlock = some g ∨ g = w.heap.size) → g < w'.heap.size → w.grownBy w' (some g) → K (a.put o.dst (.slice (some ⟨g, 0, none⟩) (n + m) cap)) w') : o.wp P a w K Q := by
  obtain ⟨g, cap, w', hr, h2, h3, h4, h5, h6⟩ := run_append_stands (P := P) w t o.type base e i z size bytes ht hi hz hsize hby hzs hsz v n xs hown ad m c news hl hnews h1 hm h63 hbytes hbase
  unfold Oper.wp execOp
  simp only [ho, resolve, invoke, builtin, Sem.run_bind, Sem.run_pure, Result.andThen_ok, List.map_toArray, List.map_cons, List.map_nil, hs, hx, hr]
  exact h g cap w' h2 h3 h4 h5 h6

/-- At the list of a plain region's operations. -/
theorem wpList_append_stands {P : Program} (w : World) {ops : Array Oper} {rest : List Oper} {o : Oper} {a : Act} {Q : Exit → Act → World → Prop} (hgd : o.guard = none) (s x : Operand) (t : TypeId)
    (ho : o.op = .call { callee := .builtin .append, args := #[s, x], argTypes := #[t, t] })
    (base : Nat) (e : TypeId) (i : TypeInfo) (z : Value) (size bytes : Nat) (ht : P.underlying t = some (.slice e)) (hi : P.info? e = some i) (hz : i.zero = some z)
    (hsize : i.size = size) (hby : i.bytes = bytes) (hzs : z.cells.size = size) (hsz : 0 < size)
    (v : Value) (n : Nat) (xs : List Value) (hs : a.eval s = v) (hown : w.ownsRow base e size v n xs)
    (ad : Addr) (m c : Nat) (news : List Value) (hx : a.eval x = .slice (some ad) m c) (hl : news.length = m * size) (hnews : ∀ j u, news[j]? = some u → w.cell? (ad.add j) = some u) (h1 : ∀ u ∈ news, u.oneCell' = true)
    (hm : 0 < m) (h63 : n + m ≤ maxLen) (hbytes : (n + m) * bytes ≤ 140737488355328) (hbase : base ≤ w.heap.size)
    (h : ∀ g cap w', w'.ownsRow base e size (.slice (some ⟨g, 0, none⟩) (n + m) cap) (n + m) (xs ++ news) → w.grownBy w' v.ownBlock → (v.ownBlock = some g ∨ g = w.heap.size) → g < w'.heap.size → w.grownBy w' (some g) → wpList P ops Q rest (a.put o.dst (.slice (some ⟨g, 0, none⟩) (n + m) cap)) w') : wpList P ops Q (o :: rest) a w :=
  wpList_plain hgd fun _ hK => wp_append_stands w s x t ho base e i z size bytes ht hi hz hsize hby hzs hsz v n xs hs hown ad m c news hx hl hnews h1 hm h63 hbytes hbase fun g cap w' h2 h3 h4 h5 h6 => hK _ _ (h g cap w' h2 h3 h4 h5 h6)

end Go.Proofs.YtpnkmnmchdabkaaGreat
