import Derived.Test.YtpnkmnmchdabkaaGreatM19
namespace Go.Proofs.YtpnkmnmchdabkaaGreat
open Go.RowKit

/-- keepShards' round: the list is put down with its mark, and goes on one longer. -/
theorem LawAt.moreShards {W C1 C2 D : World} {ρ : Nat → Nat} {wb : Nat} {sdv : Value} {last : Int} {sv iv hv m1 m2 m3 : Value} {Ls Li Lh : List Ke} (h : LawAt W ρ wb sdv last sv iv hv m1 m2 m3 Ls Li Lh) (hf : Fits W ρ) (x : Ke)
    (hxl : W.ownsRow 0 100 5 (entV x) x.n (repP patS x.m x.n)) (hxn : x.n ≤ 1000000) (hlen : Ls.length ≤ 100000000) (hxt : ∀ b, (entV x).ownBlock = some b → ρ b = 310)
    (hin : ∀ y ∈ Ls, ∀ b, (entV x).ownBlock = some b → y.a = some ⟨b, 0, none⟩ → y.m = x.m ∧ y.n ≤ x.n) (hout : ∀ y, (y ∈ Li ∨ y ∈ Lh) → ∀ b, (entV x).ownBlock = some b → y.a ≠ some ⟨b, 0, none⟩)
    {g1 c1 g2 c2 g3 c3 : Nat}
    (b1 : C1.heap[wb]? = some (.cells #[sdv, .slice (some ⟨g1, 0, none⟩) (Ls.length + 1) c1, iv, hv, m1, m2, m3, .int .i64 last] 36 (0, 0))) (r1 : C1.ownsRow 0 98 1 (.slice (some ⟨g1, 0, none⟩) (Ls.length + 1) c1) (Ls.length + 1) (Ls.map entV ++ [entV x])) (k1 : Keeps (fun k => k = wb ∨ sv.ownBlock = some k) W C1) (o1 : g1 < W.heap.size → sv.ownBlock = some g1)
    (b2 : C2.heap[wb]? = some (.cells #[sdv, .slice (some ⟨g1, 0, none⟩) (Ls.length + 1) c1, iv, hv, m1, .slice (some ⟨g2, 0, none⟩) (Ls.length + 1) c2, m3, .int .i64 last] 36 (0, 0))) (r2 : C2.ownsRow 0 3 1 (.slice (some ⟨g2, 0, none⟩) (Ls.length + 1) c2) (Ls.length + 1) (Ls.map entM ++ [entM x])) (k2 : Keeps (fun k => k = wb ∨ m2.ownBlock = some k) C1 C2) (o2 : g2 < C1.heap.size → m2.ownBlock = some g2)
    (r3 : D.ownsRow 0 100 5 (.slice (some ⟨g3, 0, none⟩) (x.n + 1) c3) (x.n + 1) (repP patS x.m x.n ++ patS x.m)) (k3 : Keeps (fun k => (entV x).ownBlock = some k) C2 D) (s3 : C2.grownBy D (some g3)) (o3 : g3 < C2.heap.size → (entV x).ownBlock = some g3) :
    ∃ ρ', LawAt D ρ' wb sdv last (.slice (some ⟨g1, 0, none⟩) (Ls.length + 1) c1) iv hv m1 (.slice (some ⟨g2, 0, none⟩) (Ls.length + 1) c2) m3 (Ls ++ [x]) Li Lh ∧ (∀ k, k < W.heap.size → ρ' k = ρ k) ∧ (∀ k, W.heap.size ≤ k → ρ' k = 0 ∨ 300 ≤ ρ' k) ∧ Fits D ρ' ∧ ρ' g3 = 310 ∧ Keeps (laws ρ) W D ∧
      (∀ y ∈ Ls ++ [x], y.a = some ⟨g3, 0, none⟩ → y.m = x.m ∧ y.n ≤ x.n + 1) ∧ (∀ y, (y ∈ Li ∨ y ∈ Lh) → y.a ≠ some ⟨g3, 0, none⟩) := by
  have hwl := lt_of_heap h.blk
  have z1 := k1.size
  have z2 := k2.size
  have z3 := k3.size
  have g1l := (r1.lt g1 rfl).2
  have g2l := (r2.lt g2 rfl).2
  have g3l := (r3.lt g3 rfl).2
  have iT : ∀ k, sv.ownBlock = some k → k < W.heap.size ∧ ρ k = 302 := fun k hk => ⟨(h.kS.row.lt k hk).2, h.tS k hk⟩
  have mT : ∀ k, m2.ownBlock = some k → k < W.heap.size ∧ ρ k = 306 := fun k hk => ⟨(h.kS.ms.lt k hk).2, h.t2 k hk⟩
  have xT : ∀ k, (entV x).ownBlock = some k → k < W.heap.size ∧ ρ k = 310 := fun k hk => ⟨(hxl.lt k hk).2, hxt k hk⟩
  have q1 : g1 < W.heap.size → ρ g1 = 302 := fun hh => (iT g1 (o1 hh)).2
  have q2 : g2 < C1.heap.size → g2 < W.heap.size ∧ ρ g2 = 306 := fun hh => mT g2 (o2 hh)
  have q3 : g3 < C2.heap.size → g3 < W.heap.size ∧ ρ g3 = 310 := fun hh => xT g3 (o3 hh)
  have d12 : g1 ≠ g2 := by
    rintro rfl
    have a := q2 g1l
    have b := q1 a.1
    omega
  have d13 : g1 ≠ g3 := by
    rintro rfl
    have a := q3 (by omega)
    have b := q1 a.1
    omega
  have d23 : g2 ≠ g3 := by
    rintro rfl
    have a := q3 g2l
    have b := q2 (by omega)
    omega
  have tg : ∀ k, k < W.heap.size → (if k = g1 then 302 else if k = g2 then 306 else if k = g3 then 310 else ρ k) = ρ k := by
    intro k hk
    split
    · rename_i e; subst e; exact (q1 hk).symm
    · split
      · rename_i e; subst e; exact ((q2 (by omega)).2).symm
      · split
        · rename_i e; subst e; exact ((q3 (by omega)).2).symm
        · rfl
  have st : ∀ k, k < W.heap.size → k ≠ wb → ρ k ≠ 302 → ρ k ≠ 306 → ρ k ≠ 310 → D.heap[k]? = W.heap[k]? := by
    intro k hk hw h3 h5 h10
    rw [k3.block k (by omega) (fun e => h10 (xT k e).2), k2.block k (by omega) (fun e => by rcases e with e | e; exact hw e; exact h5 (mT k e).2), k1.block k hk (fun e => by rcases e with e | e; exact hw e; exact h3 (iT k e).2)]
  have stL : ∀ k, k < W.heap.size → ρ k = 310 → C2.heap[k]? = W.heap[k]? := by
    intro k hk h10
    have hw : k ≠ wb := by rintro rfl; have := h.tag; omega
    rw [k2.block k (by omega) (fun e => by rcases e with e | e; exact hw e; have := (mT k e).2; omega), k1.block k hk (fun e => by rcases e with e | e; exact hw e; have := (iT k e).2; omega)]
  have ent : ∀ y, (y ∈ Li ∨ y ∈ Lh) → ∀ b, y.a = some ⟨b, 0, none⟩ → b < W.heap.size → D.heap[b]? = W.heap[b]? := by
    intro y hy b hb hl
    have hy' : y ∈ Ls ∨ y ∈ Li ∨ y ∈ Lh := Or.inr hy
    have h10 := (h.tL y hy' b hb).1
    rw [k3.block b (by omega) (fun e => hout y hy b e hb), stL b hl h10]
  have row : ∀ {te : TypeId} {size n : Nat} {v : Value} {xs : List Value} {t : Nat}, W.ownsRow 0 te size v n xs → (∀ k, v.ownBlock = some k → ρ k = t) → t ≠ 300 → t ≠ 302 → t ≠ 306 → t ≠ 310 → ∀ k, v.ownBlock = some k → D.heap[k]? = W.heap[k]? := by
    intro te size n v xs t ho ht a0 a1 a2 a3 k hk
    have := ht k hk
    exact st k (ho.lt k hk).2 (by rintro rfl; have := h.tag; omega) (by omega) (by omega) (by omega)
  have tgv : ∀ {te : TypeId} {size n : Nat} {v : Value} {xs : List Value} {t : Nat}, W.ownsRow 0 te size v n xs → (∀ k, v.ownBlock = some k → ρ k = t) → ∀ k, v.ownBlock = some k → (if k = g1 then 302 else if k = g2 then 306 else if k = g3 then 310 else ρ k) = t :=
    fun ho ht k hk => by rw [tg k (ho.lt k hk).2]; exact ht k hk
  have hg3w : ∀ b, (entV x).ownBlock = some b → b < W.heap.size := fun b hb => (xT b hb).1
  refine ⟨fun k => if k = g1 then 302 else if k = g2 then 306 else if k = g3 then 310 else ρ k, ⟨?_, ?_, ?_, ?_, ?_, ?_, tgv h.kI.row h.tI, tgv h.kH.row h.tH, tgv h.kI.ms h.t1, ?_, tgv h.kH.ms h.t3, ?_⟩, tg, ?_, ?_, ?_, ?_, ?_, ?_⟩
  · rw [k3.block wb (by omega) (fun e => by have := (xT wb e).2; have := h.tag; omega)]; exact b2
  · show (if wb = g1 then _ else _) = 300
    rw [tg wb hwl]; exact h.tag
  · refine ⟨?_, ?_, ?_, by simp; omega⟩
    · rw [List.length_append, List.map_append]
      refine ownsRow_of_block r1 fun k hk => ?_
      simp [Value.ownBlock] at hk
      subst hk
      rw [k3.block _ (by omega) (fun e => by have a := xT _ e; have b := q1 a.1; omega), k2.block _ g1l (fun e => by
        rcases e with e | e
        · have := q1 (by omega); have := h.tag; rw [e] at *; omega
        · have a := mT _ e; have b := q1 a.1; omega)]
    · rw [List.length_append, List.map_append]
      refine ownsRow_of_block r2 fun k hk => ?_
      simp [Value.ownBlock] at hk
      subst hk
      rw [k3.block _ g2l (fun e => by have a := xT _ e; have b := q2 (by omega); omega)]
    · intro y hy
      rcases List.mem_append.1 hy with hy | hy
      · refine ⟨?_, (h.kS.all y hy).2⟩
        have hC2 : HoldsAll C2 5 patS y := (h.kS.all y hy).1.same (by omega) (fun b hb hl => stL b hl (h.tL y (Or.inl hy) b hb).1)
        exact hC2.grown patS_len r3 s3 (fun e => by
          have hb := h.tL y (Or.inl hy) g3 e
          exact hin y hy g3 (o3 (by omega)) e)
      · rw [List.mem_singleton] at hy
        subst hy
        refine ⟨?_, by omega⟩
        have hW : HoldsAll W 5 patS y := HoldsAll.new patS_len hxl
        have hC2 : HoldsAll C2 5 patS y := hW.same (by omega) (fun b hb hl => stL b hl (hxt b (by unfold entV; rw [hb]; rfl)))
        exact hC2.grown patS_len r3 s3 (fun _ => ⟨rfl, Nat.le_refl _⟩)
  · exact h.kI.same (by omega) (row h.kI.row h.tI (by omega) (by omega) (by omega) (by omega)) (row h.kI.ms h.t1 (by omega) (by omega) (by omega) (by omega)) (fun y hy => ent y (Or.inl hy))
  · exact h.kH.same (by omega) (row h.kH.row h.tH (by omega) (by omega) (by omega) (by omega)) (row h.kH.ms h.t3 (by omega) (by omega) (by omega) (by omega)) (fun y hy => ent y (Or.inr hy))
  · intro k hk
    simp [Value.ownBlock] at hk
    subst hk
    simp
  · intro k hk
    simp [Value.ownBlock] at hk
    subst hk
    simp [Ne.symm d12]
  · intro y hy b hb
    have : (y ∈ Ls ∨ y ∈ Li ∨ y ∈ Lh) ∨ y = x := by
      rcases hy with hy | hy | hy
      · rcases List.mem_append.1 hy with hy | hy
        · exact Or.inl (Or.inl hy)
        · exact Or.inr (List.mem_singleton.1 hy)
      · exact Or.inl (Or.inr (Or.inl hy))
      · exact Or.inl (Or.inr (Or.inr hy))
    rcases this with hy | rfl
    · have h1 := h.tL y hy b hb
      exact ⟨by show (if b = g1 then _ else _) = _; rw [tg b h1.2]; exact h1.1, by omega⟩
    · have hbb : (entV y).ownBlock = some b := by unfold entV; rw [hb]; rfl
      have h1 := xT b hbb
      exact ⟨by show (if b = g1 then _ else _) = _; rw [tg b h1.1]; exact h1.2, by omega⟩
  · intro k hk
    show (if k = g1 then 302 else if k = g2 then 306 else if k = g3 then 310 else ρ k) = 0 ∨ 300 ≤ (if k = g1 then 302 else if k = g2 then 306 else if k = g3 then 310 else ρ k)
    split
    · right; omega
    · split
      · right; omega
      · split
        · right; omega
        · left; exact hf k hk
  · intro k hk
    show (if k = g1 then 302 else if k = g2 then 306 else if k = g3 then 310 else ρ k) = 0
    rw [if_neg (by omega), if_neg (by omega), if_neg (by omega)]
    exact hf k (by omega)
  · show (if g3 = g1 then 302 else if g3 = g2 then 306 else if g3 = g3 then 310 else ρ g3) = 310
    rw [if_neg (Ne.symm d13), if_neg (Ne.symm d23), if_pos rfl]
  · refine ⟨by rw [k3.os, k2.os, k1.os], by rw [k3.tape, k2.tape, k1.tape], by rw [k3.output, k2.output, k1.output], by omega, fun k hk hs => ?_⟩
    unfold laws at hs
    exact st k hk (by rintro rfl; have := h.tag; omega) (by omega) (by omega) (by omega)
  · intro y hy hya
    rcases List.mem_append.1 hy with hy | hy
    · have hb := h.tL y (Or.inl hy) g3 hya
      have := hin y hy g3 (o3 (by omega)) hya
      exact ⟨this.1, by omega⟩
    · rw [List.mem_singleton] at hy
      subst hy
      exact ⟨rfl, by omega⟩
  · intro y hy hya
    have hy' : y ∈ Ls ∨ y ∈ Li ∨ y ∈ Lh := Or.inr hy
    have hb := h.tL y hy' g3 hya
    exact hout y hy g3 (o3 (by omega)) hya


end Go.Proofs.YtpnkmnmchdabkaaGreat
namespace Go.Proofs.YtpnkmnmchdabkaaGreat
open Go.RowKit

/-- The second loop of keepShards. -/
structure KInvS (w : World) (ρ : Nat → Nat) (wb : Nat) (sdv : Value) (m : Int) (iv hv m1 m3 : Value) (Ls Li Lh : List Ke) (lv : Value) (n j : Nat) (ρ1 : Nat → Nat) (sv1 m21 : Value) (Ln : List Ke) (x : Ke) (wr : World) : Prop where
  law : LawAt wr ρ1 wb sdv m sv1 iv hv m1 m21 m3 (Ls ++ Ln) Li Lh
  len : Ln.length = j
  xm : x.m = m
  xn : x.n = n + j
  row : wr.ownsRow 0 100 5 (entV x) x.n (repP patS x.m x.n)
  xt : ∀ b, (entV x).ownBlock = some b → ρ1 b = 310
  hin : ∀ y ∈ Ls ++ Ln, ∀ b, (entV x).ownBlock = some b → y.a = some ⟨b, 0, none⟩ → y.m = x.m ∧ y.n ≤ x.n
  hout : ∀ y, (y ∈ Li ∨ y ∈ Lh) → ∀ b, (entV x).ownBlock = some b → y.a ≠ some ⟨b, 0, none⟩
  e1 : ∀ k, k < w.heap.size → lv.ownBlock ≠ some k → ρ1 k = ρ k
  e2 : ∀ k, w.heap.size ≤ k → ρ1 k = 0 ∨ 300 ≤ ρ1 k
  fits : Fits wr ρ1
  keeps : Keeps (fun k => laws ρ k ∨ lv.ownBlock = some k) w wr
  e3 : ∀ k, lv.ownBlock = some k → ρ1 k = 310
  e4 : ∀ k, lv.ownBlock = some k → k < w.heap.size

theorem KInvS.start {w V wr : World} {ρ : Nat → Nat} {wb : Nat} {sdv : Value} {m : Int} {sv iv hv m1 m2 m3 : Value} {Ls Li Lh : List Ke} {la : Option Addr} {n lc : Nat} (hV : LawAt V ρ wb sdv m sv iv hv m1 m2 m3 Ls Li Lh) (hs : V.heap.size = w.heap.size) (hf : Fits w ρ) (hT : ∀ k, (Value.slice la n lc).ownBlock = some k → ρ k = 0)
    (hK : Keeps (fun k => laws ρ k ∨ (Value.slice la n lc).ownBlock = some k) w V) (hk : Keeps (fun k => (Value.slice la n lc).ownBlock = some k) V wr) (hr : wr.ownsRow 0 100 5 (.slice la n lc) n (repP patS m n)) (h4 : ∀ k, (Value.slice la n lc).ownBlock = some k → k < w.heap.size) :
    KInvS w ρ wb sdv m iv hv m1 m3 Ls Li Lh (.slice la n lc) n 0 (fun k => if (Value.slice la n lc).ownBlock = some k then 310 else ρ k) sv m2 [] ⟨la, n, lc, m⟩ wr := by
  have hz := hk.size
  have no : ∀ y, (y ∈ Ls ∨ y ∈ Li ∨ y ∈ Lh) → ∀ b, (Value.slice la n lc).ownBlock = some b → y.a ≠ some ⟨b, 0, none⟩ := by
    intro y hy b hb hya
    have h1 := (hV.tL y hy b hya).1
    have h2 := hT b hb
    omega
  refine ⟨?_, rfl, rfl, rfl, hr, fun b hb => if_pos hb, ?_, ?_, fun k _ hne => if_neg hne, ?_, ?_, ?_, fun k hk => if_pos hk, h4⟩
  · rw [List.append_nil]
    refine hV.keeps hk (fun k hk => Or.inl ?_) (fun k _ h3 => if_neg ?_)
    · unfold laws; have := hT k hk; omega
    · intro e; have := hT k e; omega
  · intro y hy b hb hya
    rw [List.append_nil] at hy
    exact absurd hya (no y (Or.inl hy) b hb)
  · intro y hy b hb
    exact no y (Or.inr hy) b hb
  · intro k hk
    show (if _ then 310 else ρ k) = 0 ∨ 300 ≤ (if _ then 310 else ρ k)
    split
    · right; omega
    · left; exact hf k hk
  · intro k hk
    show (if _ then 310 else ρ k) = 0
    rw [if_neg (fun e => by have := h4 k e; omega)]
    exact hf k (by omega)
  · exact hK.trans (hk.mono (fun k _ e => Or.inr e))

theorem KInvS.step {w W C1 C2 D : World} {ρ ρ1 : Nat → Nat} {wb : Nat} {sdv : Value} {m : Int} {sv1 iv hv m1 m21 m3 : Value} {Ls Li Lh Ln : List Ke} {lv : Value} {n j : Nat} {x : Ke} (h : KInvS w ρ wb sdv m iv hv m1 m3 Ls Li Lh lv n j ρ1 sv1 m21 Ln x W) (hxn : x.n ≤ 1000000) (hlen : (Ls ++ Ln).length ≤ 100000000)
    {N g1 c1 g2 c2 g3 c3 : Nat} (hN : N = (Ls ++ Ln).length + 1)
    (b1 : C1.heap[wb]? = some (.cells #[sdv, .slice (some ⟨g1, 0, none⟩) N c1, iv, hv, m1, m21, m3, .int .i64 m] 36 (0, 0))) (r1 : C1.ownsRow 0 98 1 (.slice (some ⟨g1, 0, none⟩) N c1) N ((Ls ++ Ln).map entV ++ [entV x])) (k1 : Keeps (fun k => k = wb ∨ sv1.ownBlock = some k) W C1) (o1 : g1 < W.heap.size → sv1.ownBlock = some g1)
    (b2 : C2.heap[wb]? = some (.cells #[sdv, .slice (some ⟨g1, 0, none⟩) N c1, iv, hv, m1, .slice (some ⟨g2, 0, none⟩) N c2, m3, .int .i64 m] 36 (0, 0))) (r2 : C2.ownsRow 0 3 1 (.slice (some ⟨g2, 0, none⟩) N c2) N ((Ls ++ Ln).map entM ++ [entM x])) (k2 : Keeps (fun k => k = wb ∨ m21.ownBlock = some k) C1 C2) (o2 : g2 < C1.heap.size → m21.ownBlock = some g2)
    (r3 : D.ownsRow 0 100 5 (.slice (some ⟨g3, 0, none⟩) (x.n + 1) c3) (x.n + 1) (repP patS x.m x.n ++ patS x.m)) (k3 : Keeps (fun k => (entV x).ownBlock = some k) C2 D) (s3 : C2.grownBy D (some g3)) (o3 : g3 < C2.heap.size → (entV x).ownBlock = some g3) :
    ∃ ρ', KInvS w ρ wb sdv m iv hv m1 m3 Ls Li Lh lv n (j + 1) ρ' (.slice (some ⟨g1, 0, none⟩) N c1) (.slice (some ⟨g2, 0, none⟩) N c2) (Ln ++ [x]) ⟨some ⟨g3, 0, none⟩, x.n + 1, c3, x.m⟩ D := by
  subst hN
  obtain ⟨ρ', hL, hold, hnew, hF, h310, hK, hi, ho⟩ := h.law.moreShards h.fits x h.row hxn hlen h.xt h.hin h.hout b1 r1 k1 o1 b2 r2 k2 o2 r3 k3 s3 o3
  have hz := h.keeps.size
  have own : ∀ b, (entV ⟨some ⟨g3, 0, none⟩, x.n + 1, c3, x.m⟩).ownBlock = some b → b = g3 := by
    intro b hb
    simp [entV, Value.ownBlock] at hb
    exact hb.symm
  refine ⟨ρ', ?_, by simp [h.len], h.xm, by show x.n + 1 = _; rw [h.xn]; omega, r3, fun b hb => by rw [own b hb]; exact h310, ?_, ?_, ?_, ?_, hF, ?_, ?_, h.e4⟩
  · rw [← List.append_assoc]; exact hL
  · intro y hy b hb hya
    rw [own b hb] at hya
    rw [← List.append_assoc] at hy
    exact hi y hy hya
  · intro y hy b hb
    rw [own b hb]
    exact ho y hy
  · intro k hk hne
    rw [hold k (by omega)]; exact h.e1 k hk hne
  · intro k hk
    by_cases hlt : k < W.heap.size
    · rw [hold k hlt]; exact h.e2 k hk
    · exact hnew k (by omega)
  · have hzD := hK.size
    refine ⟨hK.os.trans h.keeps.os, hK.tape.trans h.keeps.tape, hK.output.trans h.keeps.output, by omega, fun k hk hs => ?_⟩
    rw [hK.block k (by omega) (fun e => hs (Or.inl (by
      unfold laws at e ⊢
      rw [h.e1 k hk (fun q => hs (Or.inr q))] at e
      exact e)))]
    exact h.keeps.block k hk hs
  · intro k hk
    rw [hold k (by have := h.e4 k hk; omega)]; exact h.e3 k hk

end Go.Proofs.YtpnkmnmchdabkaaGreat
namespace Go.Proofs.YtpnkmnmchdabkaaGreat
open Go.RowKit

/-- A list that came out, as keepShards gets it: nothing of it has a tag yet. -/
structure OutAt (w : World) (ρ : Nat → Nat) (v : Value) (l : List (Sh × Value)) : Prop where
  row : w.ownsRow 0 100 5 v l.length (listCells l)
  par : ∀ (i : Nat) (x : Sh × Value), l[i]? = some x → w.ownsRow 0 3 1 x.2 x.1.par.length (x.1.par.map (Value.int .i64))
  apart : ∀ (i j : Nat) (x y : Sh × Value), i < j → l[i]? = some x → l[j]? = some y → ∀ k, x.2.ownBlock = some k → y.2.ownBlock ≠ some k
  vapart : ∀ (i : Nat) (x : Sh × Value), l[i]? = some x → ∀ k, x.2.ownBlock = some k → v.ownBlock ≠ some k
  tagV : ∀ k, v.ownBlock = some k → ρ k = 0
  tagP : ∀ (i : Nat) (x : Sh × Value), l[i]? = some x → ∀ k, x.2.ownBlock = some k → ρ k = 0

theorem ListAt.outAt {w : World} {B : Nat} {v : Value} {l : List (Sh × Value)} (h : ListAt w B v l) (ρ : Nat → Nat) (hρ : ∀ k, B ≤ k → ρ k = 0) : OutAt w ρ v l :=
  ⟨ownsRow_base h.row (Nat.zero_le _), fun i x hi => ownsRow_base (h.par i x hi) (Nat.zero_le _), fun i j x y hij hi hj _ hk hk' => h.apart i j x y hij hi hj (hk.trans hk'.symm), fun i x hi _ hk hk' => h.vapart i x hi (hk.trans hk'.symm), fun k hk => hρ k (h.row.lt k hk).1, fun i x hi k hk => hρ k ((h.par i x hi).lt k hk).1⟩

/-- The blocks of the parents' lists of the first j shards. -/
def DoneP (l : List (Sh × Value)) (j k : Nat) : Prop := ∃ (i : Nat) (x : Sh × Value), i < j ∧ l[i]? = some x ∧ x.2.ownBlock = some k

/-- keepShards' first loop. -/
structure PInv (w : World) (ρ : Nat → Nat) (wb : Nat) (sdv : Value) (last : Int) (sv hv m2 m3 : Value) (Ls Li Lh : List Ke) (l : List (Sh × Value)) (j : Nat) (ρ1 : Nat → Nat) (iv1 m11 : Value) (Ln : List Ke) (wr : World) : Prop where
  law : LawAt wr ρ1 wb sdv (last - j) sv iv1 hv m11 m2 m3 Ls (Li ++ Ln) Lh
  len : Ln.length = 4 * j
  e1 : ∀ k, k < w.heap.size → ¬ DoneP l j k → ρ1 k = ρ k
  e2 : ∀ k, w.heap.size ≤ k → ρ1 k = 0 ∨ 300 ≤ ρ1 k
  fits : Fits wr ρ1
  keeps : Keeps (fun k => laws ρ k ∨ DoneP l j k) w wr

theorem PInv.start {w : World} {ρ : Nat → Nat} {wb : Nat} {sdv : Value} {last : Int} {sv iv hv m1 m2 m3 : Value} {Ls Li Lh : List Ke} (h : LawAt w ρ wb sdv last sv iv hv m1 m2 m3 Ls Li Lh) (hf : Fits w ρ) (l : List (Sh × Value)) : PInv w ρ wb sdv last sv hv m2 m3 Ls Li Lh l 0 ρ iv m1 [] w := by
  refine ⟨?_, rfl, fun k _ _ => rfl, fun k hk => Or.inl (hf k hk), hf, Keeps.refl _ _⟩
  rw [List.append_nil, Int.natCast_zero, Int.sub_zero]; exact h

theorem PInv.par {w wr : World} {ρ ρ1 : Nat → Nat} {wb : Nat} {sdv : Value} {last : Int} {sv hv m2 m3 iv1 m11 : Value} {Ls Li Lh Ln : List Ke} {l : List (Sh × Value)} {v : Value} {j : Nat} (h : PInv w ρ wb sdv last sv hv m2 m3 Ls Li Lh l j ρ1 iv1 m11 Ln wr) (ho : OutAt w ρ v l) (x : Sh × Value) (hx : l[j]? = some x) :
    wr.ownsRow 0 3 1 x.2 x.1.par.length (x.1.par.map (Value.int .i64)) ∧ (∀ k, x.2.ownBlock = some k → ρ1 k = 0) ∧ wr.ownsRow 0 100 5 v l.length (listCells l) ∧ ∀ k, v.ownBlock = some k → ρ1 k = 0 := by
  have np : ∀ k, x.2.ownBlock = some k → ¬ DoneP l j k := fun k hk ⟨i, y, hij, hy, hyk⟩ => ho.apart i j y x hij hy hx k hyk hk
  have nv : ∀ k, v.ownBlock = some k → ¬ DoneP l j k := fun k hk ⟨i, y, hij, hy, hyk⟩ => ho.vapart i y hy k hyk hk
  refine ⟨?_, fun k hk => (h.e1 k ((ho.par j x hx).lt k hk).2 (np k hk)).trans (ho.tagP j x hx k hk), ?_, fun k hk => (h.e1 k (ho.row.lt k hk).2 (nv k hk)).trans (ho.tagV k hk)⟩
  · refine ownsRow_keeps (ho.par j x hx) h.keeps fun k hk hs => ?_
    rcases hs with hs | hs
    · have := ho.tagP j x hx k hk; unfold laws at hs; omega
    · exact np k hk hs
  · refine ownsRow_keeps ho.row h.keeps fun k hk hs => ?_
    rcases hs with hs | hs
    · have := ho.tagV k hk; unfold laws at hs; omega
    · exact nv k hk hs

theorem PInv.row {w wr : World} {ρ ρ1 : Nat → Nat} {wb : Nat} {sdv : Value} {last : Int} {sv hv m2 m3 iv1 m11 : Value} {Ls Li Lh Ln : List Ke} {l : List (Sh × Value)} {v : Value} {j : Nat} (h : PInv w ρ wb sdv last sv hv m2 m3 Ls Li Lh l j ρ1 iv1 m11 Ln wr) (ho : OutAt w ρ v l) :
    wr.ownsRow 0 100 5 v l.length (listCells l) ∧ ∀ k, v.ownBlock = some k → ρ1 k = 0 := by
  have nv : ∀ k, v.ownBlock = some k → ¬ DoneP l j k := fun k hk ⟨i, y, hij, hy, hyk⟩ => ho.vapart i y hy k hyk hk
  refine ⟨?_, fun k hk => (h.e1 k (ho.row.lt k hk).2 (nv k hk)).trans (ho.tagV k hk)⟩
  refine ownsRow_keeps ho.row h.keeps fun k hk hs => ?_
  rcases hs with hs | hs
  · have := ho.tagV k hk; unfold laws at hs; omega
  · exact nv k hk hs

theorem PInv.step {w wr w' : World} {ρ ρ1 : Nat → Nat} {wb : Nat} {sdv : Value} {last : Int} {sv hv m2 m3 iv1 m11 : Value} {Ls Li Lh Ln : List Ke} {l : List (Sh × Value)} {v : Value} {j : Nat} {e : Ending} (h : PInv w ρ wb sdv last sv hv m2 m3 Ls Li Lh l j ρ1 iv1 m11 Ln wr) (ho : OutAt w ρ v l) (x : Sh × Value) (hx : l[j]? = some x)
    (hp : KeepPost wr ρ1 wb sdv (last - j - 1) sv hv m2 m3 Ls (Li ++ Ln) Lh x.2 e w') : ∃ ρ2 iv2 m12 L2, PInv w ρ wb sdv last sv hv m2 m3 Ls Li Lh l (j + 1) ρ2 iv2 m12 L2 w' := by
  obtain ⟨_, ρ2, iv2, m12, L4, hL, hlen, t1, t2, hf, hk, t3⟩ := hp
  have hxl : ∀ k, x.2.ownBlock = some k → k < w.heap.size := fun k hk => ((ho.par j x hx).lt k hk).2
  have hz := h.keeps.size
  have hd : ∀ k, ¬ DoneP l (j + 1) k → ¬ DoneP l j k ∧ x.2.ownBlock ≠ some k := fun k hn => ⟨fun ⟨i, y, a, b, c⟩ => hn ⟨i, y, by omega, b, c⟩, fun e => hn ⟨j, x, by omega, hx, e⟩⟩
  refine ⟨ρ2, iv2, m12, Ln ++ L4, ?_, by rw [List.length_append, h.len, hlen]; omega, ?_, ?_, hf, ?_⟩
  · rw [← List.append_assoc, show last - ((j + 1 : Nat) : Int) = last - j - 1 by omega]; exact hL
  · intro k hk hn
    rw [t1 k (by omega) (hd k hn).2]; exact h.e1 k hk (hd k hn).1
  · intro k hk
    by_cases hlt : k < wr.heap.size
    · rw [t1 k hlt (fun e => by have := hxl k e; omega)]; exact h.e2 k hk
    · exact t2 k (by omega)
  · refine ⟨hk.os.trans h.keeps.os, hk.tape.trans h.keeps.tape, hk.output.trans h.keeps.output, Nat.le_trans hz hk.size, fun k hkk hs => ?_⟩
    have hn : ¬ DoneP l (j + 1) k := fun q => hs (Or.inr q)
    have hl : ¬ laws ρ k := fun q => hs (Or.inl q)
    rw [hk.block k (by omega) (fun q => by
      rcases q with q | q
      · unfold laws at q hl; rw [h.e1 k hkk (hd k hn).1] at q; exact hl q
      · exact (hd k hn).2 q)]
    exact h.keeps.block k hkk (fun q => by
      rcases q with q | q
      · exact hl q
      · exact (hd k hn).1 q)

/-- The blocks of a list that came out. -/
def OutB (v : Value) (l : List (Sh × Value)) (k : Nat) : Prop := v.ownBlock = some k ∨ ∃ (i : Nat) (x : Sh × Value), l[i]? = some x ∧ x.2.ownBlock = some k

/-- What keepShards leaves. -/
def KeepPostS (w : World) (ρ : Nat → Nat) (wb : Nat) (sdv : Value) (last : Int) (hv m3 : Value) (Ls Li Lh : List Ke) (v : Value) (l : List (Sh × Value)) (e : Ending) (w' : World) : Prop :=
  e = .returned (.tuple #[]) ∧ ∃ ρ' sv iv m1 m2 Lt Ln, LawAt w' ρ' wb sdv (last - l.length - 1) sv iv hv m1 m2 m3 (Ls ++ Lt) (Li ++ Ln) Lh ∧ Lt.length = 4 ∧ Ln.length = 4 * l.length ∧
    (∀ k, k < w.heap.size → ¬ OutB v l k → ρ' k = ρ k) ∧ (∀ k, w.heap.size ≤ k → ρ' k = 0 ∨ 300 ≤ ρ' k) ∧ Fits w' ρ' ∧ Keeps (fun k => laws ρ k ∨ OutB v l k) w w'

theorem PInv.done {w wr w' : World} {ρ ρ1 ρ2 : Nat → Nat} {wb : Nat} {sdv : Value} {last : Int} {sv hv m2 m3 iv1 m11 sv1 m21 : Value} {Ls Li Lh Ln Lt : List Ke} {l : List (Sh × Value)} {v : Value} {x : Ke} {n : Nat} (hn : n = l.length) (h : PInv w ρ wb sdv last sv hv m2 m3 Ls Li Lh l n ρ1 iv1 m11 Ln wr) (ho : OutAt w ρ v l)
    (hs : KInvS wr ρ1 wb sdv (last - n - 1) iv1 hv m11 m3 Ls (Li ++ Ln) Lh v n 4 ρ2 sv1 m21 Lt x w') : KeepPostS w ρ wb sdv last hv m3 Ls Li Lh v l (.returned (.tuple #[])) w' := by
  subst hn
  have hz := h.keeps.size
  have hd : ∀ k, ¬ OutB v l k → ¬ DoneP l l.length k ∧ v.ownBlock ≠ some k := fun k hn => ⟨fun ⟨i, y, _, b, c⟩ => hn (Or.inr ⟨i, y, b, c⟩), fun e => hn (Or.inl e)⟩
  refine ⟨rfl, ρ2, sv1, iv1, m11, m21, Lt, Ln, hs.law, hs.len, h.len, ?_, ?_, hs.fits, ?_⟩
  · intro k hk hn
    rw [hs.e1 k (by omega) (hd k hn).2]; exact h.e1 k hk (hd k hn).1
  · intro k hk
    by_cases hlt : k < wr.heap.size
    · rw [hs.e1 k hlt (fun e => by have := (ho.row.lt k e).2; omega)]; exact h.e2 k hk
    · exact hs.e2 k (by omega)
  · refine ⟨hs.keeps.os.trans h.keeps.os, hs.keeps.tape.trans h.keeps.tape, hs.keeps.output.trans h.keeps.output, Nat.le_trans hz hs.keeps.size, fun k hkk hq => ?_⟩
    have hn : ¬ OutB v l k := fun q => hq (Or.inr q)
    have hl : ¬ laws ρ k := fun q => hq (Or.inl q)
    rw [hs.keeps.block k (by omega) (fun q => by
      rcases q with q | q
      · unfold laws at q hl; rw [h.e1 k hkk (hd k hn).1] at q; exact hl q
      · exact (hd k hn).2 q)]
    exact h.keeps.block k hkk (fun q => by
      rcases q with q | q
      · exact hl q
      · exact (hd k hn).1 q)

/-- Five cells of the row are written over. -/
theorem row_put5 {w : World} {te : TypeId} {lb n c : Nat} {xs : List Value} (h : w.ownsRow 0 te 5 (.slice (some ⟨lb, 0, none⟩) n c) n xs) (j : Nat) (v0 v1 v2 v3 v4 : Value) :
    (((((w.setCell ⟨lb, j * 5, none⟩ v0).setCell ⟨lb, j * 5 + 1, none⟩ v1).setCell ⟨lb, j * 5 + 2, none⟩ v2).setCell ⟨lb, j * 5 + 3, none⟩ v3).setCell ⟨lb, j * 5 + 4, none⟩ v4).ownsRow 0 te 5 (.slice (some ⟨lb, 0, none⟩) n c) n
      (((((xs.set (j * 5) v0).set (j * 5 + 1) v1).set (j * 5 + 2) v2).set (j * 5 + 3) v3).set (j * 5 + 4) v4) := by
  have h := (World.ownsRow.stored h (j * 5) v0).1
  have h := (World.ownsRow.stored h (j * 5 + 1) v1).1
  have h := (World.ownsRow.stored h (j * 5 + 2) v2).1
  have h := (World.ownsRow.stored h (j * 5 + 3) v3).1
  have h := (World.ownsRow.stored h (j * 5 + 4) v4).1
  exact h

theorem repS_set {m : Int} {xs : List Value} {j : Nat} (hj : j * 5 + 5 ≤ xs.length) :
    ((((((repP patS m j ++ xs.drop (j * 5)).set (j * 5) (.int .i64 m)).set (j * 5 + 1) (.int .i64 0)).set (j * 5 + 2) (.bool false)).set (j * 5 + 3) (.slice none 0 0)).set (j * 5 + 4) (.int .i64 0)) = repP patS m (j + 1) ++ xs.drop ((j + 1) * 5) := by
  have hl := repP_len (patS_len m) j
  have hd : xs.drop (j * 5) = xs[j * 5] :: xs[j * 5 + 1] :: xs[j * 5 + 2] :: xs[j * 5 + 3] :: xs[j * 5 + 4] :: xs.drop ((j + 1) * 5) := by
    rw [List.drop_eq_getElem_cons (by omega), List.drop_eq_getElem_cons (by omega), List.drop_eq_getElem_cons (by omega), List.drop_eq_getElem_cons (by omega), List.drop_eq_getElem_cons (by omega), show (j + 1) * 5 = j * 5 + 1 + 1 + 1 + 1 + 1 by omega]
  rw [hd, List.set_append_right _ _ (by omega), List.set_append_right _ _ (by omega), List.set_append_right _ _ (by omega), List.set_append_right _ _ (by omega), List.set_append_right _ _ (by omega), hl, Nat.sub_self, Nat.add_sub_cancel_left, Nat.add_sub_cancel_left, Nat.add_sub_cancel_left, Nat.add_sub_cancel_left]
  simp only [List.set_cons_zero, List.set_cons_succ, repP, patS, List.append_assoc, List.cons_append, List.nil_append]

theorem listCells_len (l : List (Sh × Value)) : (listCells l).length = l.length * 5 := by
  induction l with
  | nil => rfl
  | cons s r ih => simp only [listCells, List.length_append, ih, outCells, List.length_cons, List.length_nil]; omega

end Go.Proofs.YtpnkmnmchdabkaaGreat
