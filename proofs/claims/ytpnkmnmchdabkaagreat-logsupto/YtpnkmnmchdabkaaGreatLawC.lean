import Derived.Test.YtpnkmnmchdabkaaGreatLawB
namespace Go.Proofs.YtpnkmnmchdabkaaGreat
open Go.RowKit

/-- 'w.f = append(w.f, x)', behind the store: f's cell, the row, what is left as it was. -/
theorem field_append {W B : World} {o : Obj} {wb f : Nat} {cs : Array Value} {tb : TypeId} {v : Value} {g n cap : Nat} {e : TypeId} {size : Nat} {xs : List Value} (hb : W.heap[wb]? = some (.cells cs tb (0, 0))) (hv : v.ownBlock ≠ some wb)
    (hown : B.ownsRow 0 e size (.slice (some ⟨g, 0, none⟩) n cap) n xs) (hgrow : (W.alloc o).grownBy B v.ownBlock) (hat : v.ownBlock = some g ∨ g = (W.alloc o).heap.size) :
    (B.setCell ⟨wb, f, none⟩ (.slice (some ⟨g, 0, none⟩) n cap)).heap[wb]? = some (.cells (cs.setIfInBounds f (.slice (some ⟨g, 0, none⟩) n cap)) tb (0, 0)) ∧
      (B.setCell ⟨wb, f, none⟩ (.slice (some ⟨g, 0, none⟩) n cap)).ownsRow 0 e size (.slice (some ⟨g, 0, none⟩) n cap) n xs ∧
      Keeps (fun k => k = wb ∨ v.ownBlock = some k) W (B.setCell ⟨wb, f, none⟩ (.slice (some ⟨g, 0, none⟩) n cap)) ∧ (g < W.heap.size → v.ownBlock = some g) ∧ g < (B.setCell ⟨wb, f, none⟩ (.slice (some ⟨g, 0, none⟩) n cap)).heap.size := by
  have hwl := lt_of_heap hb
  have hgs := hgrow.size
  have hal : (W.alloc o).heap.size = W.heap.size + 1 := by simp
  have hbB : B.heap[wb]? = some (.cells cs tb (0, 0)) := (hgrow.block wb (by omega) (fun e => hv e.symm)).trans ((Below.heap_alloc _ _ _ hwl).trans hb)
  have hgw : g ≠ wb := by
    rintro rfl
    rcases hat with e | e
    · exact hv e
    · omega
  have hgB := (hown.lt g rfl).2
  refine ⟨heap_setCell_same hbB _, ownsRow_of_block hown fun k hk => Below.heap_setCell _ _ _ _ ?_, ⟨?_, ?_, ?_, ?_, ?_⟩, ?_, by simpa [World.setCell] using hgB⟩
  · simp [Value.ownBlock] at hk
    subst hk
    exact hgw
  · show B.os = W.os; rw [hgrow.os]; rfl
  · show B.tape = W.tape; rw [hgrow.tape]; rfl
  · show B.output = W.output; rw [hgrow.output]; rfl
  · simp [World.setCell]; omega
  · intro k hk hs
    rw [Below.heap_setCell _ _ _ _ (fun e => hs (Or.inl e)), hgrow.block k (by omega) (fun e => hs (Or.inr e.symm)), Below.heap_alloc _ _ _ hk]
  · intro hlt
    rcases hat with e | e
    · exact e
    · omega

/-- The list itself, one longer: what is left as it was. -/
theorem list_append {W B : World} {o : Obj} {v : Value} {g : Nat} (hgrow : (W.alloc o).grownBy B v.ownBlock) (hst : (W.alloc o).grownBy B (some g)) (hat : v.ownBlock = some g ∨ g = (W.alloc o).heap.size) :
    Keeps (fun k => v.ownBlock = some k) W B ∧ W.grownBy B (some g) ∧ (g < W.heap.size → v.ownBlock = some g) := by
  have hgs := hgrow.size
  have hal : (W.alloc o).heap.size = W.heap.size + 1 := by simp
  refine ⟨⟨by rw [hgrow.os]; rfl, by rw [hgrow.tape]; rfl, by rw [hgrow.output]; rfl, by omega, fun k hk hs => ?_⟩, ⟨by rw [hgrow.os]; rfl, by rw [hgrow.tape]; rfl, by rw [hgrow.output]; rfl, by omega, fun k hk hs => ?_⟩, fun hlt => ?_⟩
  · rw [hgrow.block k (by omega) (fun e => hs e.symm), Below.heap_alloc _ _ _ hk]
  · rw [hst.block k (by omega) hs, Below.heap_alloc _ _ _ hk]
  · rcases hat with e | e
    · exact e
    · omega

/-- keepInts' round: the list is put down with its mark, and goes on one longer. -/
theorem LawAt.moreInts {W C1 C2 D : World} {ρ : Nat → Nat} {wb : Nat} {sdv : Value} {last : Int} {sv iv hv m1 m2 m3 : Value} {Ls Li Lh : List Ke} (h : LawAt W ρ wb sdv last sv iv hv m1 m2 m3 Ls Li Lh) (hf : Fits W ρ) (x : Ke)
    (hxl : W.ownsRow 0 3 1 (entV x) x.n (repP patI x.m x.n)) (hxn : x.n ≤ 1000000) (hlen : Li.length ≤ 100000000) (hxt : ∀ b, (entV x).ownBlock = some b → ρ b = 310)
    (hin : ∀ y ∈ Li, ∀ b, (entV x).ownBlock = some b → y.a = some ⟨b, 0, none⟩ → y.m = x.m ∧ y.n ≤ x.n) (hout : ∀ y, (y ∈ Ls ∨ y ∈ Lh) → ∀ b, (entV x).ownBlock = some b → y.a ≠ some ⟨b, 0, none⟩)
    {g1 c1 g2 c2 g3 c3 : Nat}
    (b1 : C1.heap[wb]? = some (.cells #[sdv, sv, .slice (some ⟨g1, 0, none⟩) (Li.length + 1) c1, hv, m1, m2, m3, .int .i64 last] 36 (0, 0))) (r1 : C1.ownsRow 0 34 1 (.slice (some ⟨g1, 0, none⟩) (Li.length + 1) c1) (Li.length + 1) (Li.map entV ++ [entV x])) (k1 : Keeps (fun k => k = wb ∨ iv.ownBlock = some k) W C1) (o1 : g1 < W.heap.size → iv.ownBlock = some g1)
    (b2 : C2.heap[wb]? = some (.cells #[sdv, sv, .slice (some ⟨g1, 0, none⟩) (Li.length + 1) c1, hv, .slice (some ⟨g2, 0, none⟩) (Li.length + 1) c2, m2, m3, .int .i64 last] 36 (0, 0))) (r2 : C2.ownsRow 0 3 1 (.slice (some ⟨g2, 0, none⟩) (Li.length + 1) c2) (Li.length + 1) (Li.map entM ++ [entM x])) (k2 : Keeps (fun k => k = wb ∨ m1.ownBlock = some k) C1 C2) (o2 : g2 < C1.heap.size → m1.ownBlock = some g2)
    (r3 : D.ownsRow 0 3 1 (.slice (some ⟨g3, 0, none⟩) (x.n + 1) c3) (x.n + 1) (repP patI x.m x.n ++ patI x.m)) (k3 : Keeps (fun k => (entV x).ownBlock = some k) C2 D) (s3 : C2.grownBy D (some g3)) (o3 : g3 < C2.heap.size → (entV x).ownBlock = some g3) :
    ∃ ρ', LawAt D ρ' wb sdv last sv (.slice (some ⟨g1, 0, none⟩) (Li.length + 1) c1) hv (.slice (some ⟨g2, 0, none⟩) (Li.length + 1) c2) m2 m3 Ls (Li ++ [x]) Lh ∧ (∀ k, k < W.heap.size → ρ' k = ρ k) ∧ (∀ k, W.heap.size ≤ k → ρ' k = 0 ∨ 300 ≤ ρ' k) ∧ Fits D ρ' ∧ ρ' g3 = 310 ∧ Keeps (laws ρ) W D ∧
      (∀ y ∈ Li ++ [x], y.a = some ⟨g3, 0, none⟩ → y.m = x.m ∧ y.n ≤ x.n + 1) ∧ (∀ y, (y ∈ Ls ∨ y ∈ Lh) → y.a ≠ some ⟨g3, 0, none⟩) := by
  have hwl := lt_of_heap h.blk
  have z1 := k1.size
  have z2 := k2.size
  have z3 := k3.size
  have g1l := (r1.lt g1 rfl).2
  have g2l := (r2.lt g2 rfl).2
  have g3l := (r3.lt g3 rfl).2
  have iT : ∀ k, iv.ownBlock = some k → k < W.heap.size ∧ ρ k = 303 := fun k hk => ⟨(h.kI.row.lt k hk).2, h.tI k hk⟩
  have mT : ∀ k, m1.ownBlock = some k → k < W.heap.size ∧ ρ k = 305 := fun k hk => ⟨(h.kI.ms.lt k hk).2, h.t1 k hk⟩
  have xT : ∀ k, (entV x).ownBlock = some k → k < W.heap.size ∧ ρ k = 310 := fun k hk => ⟨(hxl.lt k hk).2, hxt k hk⟩
  have q1 : g1 < W.heap.size → ρ g1 = 303 := fun hh => (iT g1 (o1 hh)).2
  have q2 : g2 < C1.heap.size → g2 < W.heap.size ∧ ρ g2 = 305 := fun hh => mT g2 (o2 hh)
  have q3 : g3 < C2.heap.size → g3 < W.heap.size ∧ ρ g3 = 310 := fun hh => xT g3 (o3 hh)
  have d12 : g1 ≠ g2 := by
    rintro rfl
    have a := q2 g1l
    have b := q1 a.1
    omega
  have d13 : g1 ≠ g3 := by
    rintro rfl
    have a := q3 (by omega)
    have b := q1 a.1
    omega
  have d23 : g2 ≠ g3 := by
    rintro rfl
    have a := q3 g2l
    have b := q2 (by omega)
    omega
  have tg : ∀ k, k < W.heap.size → (if k = g1 then 303 else if k = g2 then 305 else if k = g3 then 310 else ρ k) = ρ k := by
    intro k hk
    split
    · rename_i e; subst e; exact (q1 hk).symm
    · split
      · rename_i e; subst e; exact ((q2 (by omega)).2).symm
      · split
        · rename_i e; subst e; exact ((q3 (by omega)).2).symm
        · rfl
  have st : ∀ k, k < W.heap.size → k ≠ wb → ρ k ≠ 303 → ρ k ≠ 305 → ρ k ≠ 310 → D.heap[k]? = W.heap[k]? := by
    intro k hk hw h3 h5 h10
    rw [k3.block k (by omega) (fun e => h10 (xT k e).2), k2.block k (by omega) (fun e => by rcases e with e | e; exact hw e; exact h5 (mT k e).2), k1.block k hk (fun e => by rcases e with e | e; exact hw e; exact h3 (iT k e).2)]
  have stL : ∀ k, k < W.heap.size → ρ k = 310 → C2.heap[k]? = W.heap[k]? := by
    intro k hk h10
    have hw : k ≠ wb := by rintro rfl; have := h.tag; omega
    rw [k2.block k (by omega) (fun e => by rcases e with e | e; exact hw e; have := (mT k e).2; omega), k1.block k hk (fun e => by rcases e with e | e; exact hw e; have := (iT k e).2; omega)]
  have ent : ∀ y, (y ∈ Ls ∨ y ∈ Lh) → ∀ b, y.a = some ⟨b, 0, none⟩ → b < W.heap.size → D.heap[b]? = W.heap[b]? := by
    intro y hy b hb hl
    have hy' : y ∈ Ls ∨ y ∈ Li ∨ y ∈ Lh := by rcases hy with hy | hy; exact Or.inl hy; exact Or.inr (Or.inr hy)
    have h10 := (h.tL y hy' b hb).1
    rw [k3.block b (by omega) (fun e => hout y hy b e hb), stL b hl h10]
  have row : ∀ {te : TypeId} {size n : Nat} {v : Value} {xs : List Value} {t : Nat}, W.ownsRow 0 te size v n xs → (∀ k, v.ownBlock = some k → ρ k = t) → t ≠ 300 → t ≠ 303 → t ≠ 305 → t ≠ 310 → ∀ k, v.ownBlock = some k → D.heap[k]? = W.heap[k]? := by
    intro te size n v xs t ho ht a0 a1 a2 a3 k hk
    have := ht k hk
    exact st k (ho.lt k hk).2 (by rintro rfl; have := h.tag; omega) (by omega) (by omega) (by omega)
  have tgv : ∀ {te : TypeId} {size n : Nat} {v : Value} {xs : List Value} {t : Nat}, W.ownsRow 0 te size v n xs → (∀ k, v.ownBlock = some k → ρ k = t) → ∀ k, v.ownBlock = some k → (if k = g1 then 303 else if k = g2 then 305 else if k = g3 then 310 else ρ k) = t :=
    fun ho ht k hk => by rw [tg k (ho.lt k hk).2]; exact ht k hk
  have hg3w : ∀ b, (entV x).ownBlock = some b → b < W.heap.size := fun b hb => (xT b hb).1
  refine ⟨fun k => if k = g1 then 303 else if k = g2 then 305 else if k = g3 then 310 else ρ k, ⟨?_, ?_, ?_, ?_, ?_, tgv h.kS.row h.tS, ?_, tgv h.kH.row h.tH, ?_, tgv h.kS.ms h.t2, tgv h.kH.ms h.t3, ?_⟩, tg, ?_, ?_, ?_, ?_, ?_, ?_⟩
  · rw [k3.block wb (by omega) (fun e => by have := (xT wb e).2; have := h.tag; omega)]; exact b2
  · show (if wb = g1 then _ else _) = 300
    rw [tg wb hwl]; exact h.tag
  · exact h.kS.same (by omega) (row h.kS.row h.tS (by omega) (by omega) (by omega) (by omega)) (row h.kS.ms h.t2 (by omega) (by omega) (by omega) (by omega)) (fun y hy => ent y (Or.inl hy))
  · refine ⟨?_, ?_, ?_, by simp; omega⟩
    · rw [List.length_append, List.map_append]
      refine ownsRow_of_block r1 fun k hk => ?_
      simp [Value.ownBlock] at hk
      subst hk
      rw [k3.block _ (by omega) (fun e => by have a := xT _ e; have b := q1 a.1; omega), k2.block _ g1l (fun e => by
        rcases e with e | e
        · have := q1 (by omega); have := h.tag; rw [e] at *; omega
        · have a := mT _ e; have b := q1 a.1; omega)]
    · rw [List.length_append, List.map_append]
      refine ownsRow_of_block r2 fun k hk => ?_
      simp [Value.ownBlock] at hk
      subst hk
      rw [k3.block _ g2l (fun e => by have a := xT _ e; have b := q2 (by omega); omega)]
    · intro y hy
      rcases List.mem_append.1 hy with hy | hy
      · refine ⟨?_, (h.kI.all y hy).2⟩
        have hC2 : HoldsAll C2 1 patI y := (h.kI.all y hy).1.same (by omega) (fun b hb hl => stL b hl (h.tL y (Or.inr (Or.inl hy)) b hb).1)
        exact hC2.grown patI_len r3 s3 (fun e => by
          have hb := h.tL y (Or.inr (Or.inl hy)) g3 e
          exact hin y hy g3 (o3 (by omega)) e)
      · rw [List.mem_singleton] at hy
        subst hy
        refine ⟨?_, by omega⟩
        have hW : HoldsAll W 1 patI y := HoldsAll.new patI_len hxl
        have hC2 : HoldsAll C2 1 patI y := hW.same (by omega) (fun b hb hl => stL b hl (hxt b (by unfold entV; rw [hb]; rfl)))
        exact hC2.grown patI_len r3 s3 (fun _ => ⟨rfl, Nat.le_refl _⟩)
  · exact h.kH.same (by omega) (row h.kH.row h.tH (by omega) (by omega) (by omega) (by omega)) (row h.kH.ms h.t3 (by omega) (by omega) (by omega) (by omega)) (fun y hy => ent y (Or.inr hy))
  · intro k hk
    simp [Value.ownBlock] at hk
    subst hk
    simp
  · intro k hk
    simp [Value.ownBlock] at hk
    subst hk
    simp [Ne.symm d12]
  · intro y hy b hb
    have : (y ∈ Ls ∨ y ∈ Li ∨ y ∈ Lh) ∨ y = x := by
      rcases hy with hy | hy | hy
      · exact Or.inl (Or.inl hy)
      · rcases List.mem_append.1 hy with hy | hy
        · exact Or.inl (Or.inr (Or.inl hy))
        · exact Or.inr (List.mem_singleton.1 hy)
      · exact Or.inl (Or.inr (Or.inr hy))
    rcases this with hy | rfl
    · have h1 := h.tL y hy b hb
      exact ⟨by show (if b = g1 then _ else _) = _; rw [tg b h1.2]; exact h1.1, by omega⟩
    · have hbb : (entV y).ownBlock = some b := by unfold entV; rw [hb]; rfl
      have h1 := xT b hbb
      exact ⟨by show (if b = g1 then _ else _) = _; rw [tg b h1.1]; exact h1.2, by omega⟩
  · intro k hk
    show (if k = g1 then 303 else if k = g2 then 305 else if k = g3 then 310 else ρ k) = 0 ∨ 300 ≤ (if k = g1 then 303 else if k = g2 then 305 else if k = g3 then 310 else ρ k)
    split
    · right; omega
    · split
      · right; omega
      · split
        · right; omega
        · left; exact hf k hk
  · intro k hk
    show (if k = g1 then 303 else if k = g2 then 305 else if k = g3 then 310 else ρ k) = 0
    rw [if_neg (by omega), if_neg (by omega), if_neg (by omega)]
    exact hf k (by omega)
  · show (if g3 = g1 then 303 else if g3 = g2 then 305 else if g3 = g3 then 310 else ρ g3) = 310
    rw [if_neg (Ne.symm d13), if_neg (Ne.symm d23), if_pos rfl]
  · refine ⟨by rw [k3.os, k2.os, k1.os], by rw [k3.tape, k2.tape, k1.tape], by rw [k3.output, k2.output, k1.output], by omega, fun k hk hs => ?_⟩
    unfold laws at hs
    exact st k hk (by rintro rfl; have := h.tag; omega) (by omega) (by omega) (by omega)
  · intro y hy hya
    rcases List.mem_append.1 hy with hy | hy
    · have hb := h.tL y (Or.inr (Or.inl hy)) g3 hya
      have := hin y hy g3 (o3 (by omega)) hya
      exact ⟨this.1, by omega⟩
    · rw [List.mem_singleton] at hy
      subst hy
      exact ⟨rfl, by omega⟩
  · intro y hy hya
    have hy' : y ∈ Ls ∨ y ∈ Li ∨ y ∈ Lh := by rcases hy with hy | hy; exact Or.inl hy; exact Or.inr (Or.inr hy)
    have hb := h.tL y hy' g3 hya
    exact hout y hy g3 (o3 (by omega)) hya

end Go.Proofs.YtpnkmnmchdabkaaGreat
