import Derived.Test.YtpnkmnmchdabkaaGreatLawC
namespace Go.Proofs.YtpnkmnmchdabkaaGreat
open Go.RowKit
attribute [local go_sem ↓] Go.wp_at_zero Go.wp_at_succ

theorem info50 : (Tryz.prog.info? 34).map (fun i => (i.zero, i.size, i.bytes)) = some (some (.slice none 0 0), 1, 24) := by kernel_rfl
theorem infoI : (Tryz.prog.info? 3).map (fun i => (i.zero, i.size, i.bytes)) = some (some (.int .i64 0), 1, 8) := by kernel_rfl

/-- What keepInts leaves: the list and what it grew to, put down with the mark. -/
def KeepPost (w : World) (ρ : Nat → Nat) (wb : Nat) (sdv : Value) (last : Int) (sv hv m2 m3 : Value) (Ls Li Lh : List Ke) (lv : Value) (e : Ending) (w' : World) : Prop :=
  e = .returned (.tuple #[]) ∧ ∃ ρ' iv m1 Ln, LawAt w' ρ' wb sdv last sv iv hv m1 m2 m3 Ls (Li ++ Ln) Lh ∧ Ln.length = 4 ∧ (∀ k, k < w.heap.size → lv.ownBlock ≠ some k → ρ' k = ρ k) ∧ (∀ k, w.heap.size ≤ k → ρ' k = 0 ∨ 300 ≤ ρ' k) ∧ Fits w' ρ' ∧ Keeps (fun k => laws ρ k ∨ lv.ownBlock = some k) w w' ∧ (∀ k, lv.ownBlock = some k → ρ' k = 310)

theorem rep_set {m : Int} {xs : List Value} {j : Nat} (hj : j < xs.length) : (repP patI m j ++ xs.drop j).set j (.int .i64 m) = repP patI m (j + 1) ++ xs.drop (j + 1) := by
  have hl := repP_len (patI_len m) j
  rw [List.set_append_right _ _ (by omega), show j - (repP patI m j).length = 0 by omega, List.drop_eq_getElem_cons hj]
  simp only [List.set_cons_zero, repP, patI, List.append_assoc, List.singleton_append]

/-- The mark is taken: one less. -/
theorem LawAt.marked {w : World} {ρ : Nat → Nat} {wb : Nat} {sdv : Value} {last : Int} {sv iv hv m1 m2 m3 : Value} {Ls Li Lh : List Ke} (h : LawAt w ρ wb sdv last sv iv hv m1 m2 m3 Ls Li Lh) (l : Int) : LawAt (w.setCell ⟨wb, 7, none⟩ (.int .i64 l)) ρ wb sdv l sv iv hv m1 m2 m3 Ls Li Lh := by
  have hs : (w.setCell ⟨wb, 7, none⟩ (.int .i64 l)).heap.size = w.heap.size := by simp [World.setCell]
  have row : ∀ {v : Value} {t : Nat}, (∀ k, v.ownBlock = some k → ρ k = t) → t ≠ 300 → ∀ k, v.ownBlock = some k → (w.setCell ⟨wb, 7, none⟩ (.int .i64 l)).heap[k]? = w.heap[k]? :=
    fun ht h3 k hk => Below.heap_setCell _ _ _ _ (by rintro rfl; exact h3 ((ht _ hk).symm.trans h.tag))
  have ent : ∀ x, (x ∈ Ls ∨ x ∈ Li ∨ x ∈ Lh) → ∀ b, x.a = some ⟨b, 0, none⟩ → b < w.heap.size → (w.setCell ⟨wb, 7, none⟩ (.int .i64 l)).heap[b]? = w.heap[b]? :=
    fun x hx b hb _ => Below.heap_setCell _ _ _ _ (by rintro rfl; have := (h.tL x hx _ hb).1; have := h.tag; simp_all)
  refine ⟨?_, h.tag, h.kS.same (by omega) (row h.tS (by omega)) (row h.t2 (by omega)) (fun x hx => ent x (Or.inl hx)), h.kI.same (by omega) (row h.tI (by omega)) (row h.t1 (by omega)) (fun x hx => ent x (Or.inr (Or.inl hx))), h.kH.same (by omega) (row h.tH (by omega)) (row h.t3 (by omega)) (fun x hx => ent x (Or.inr (Or.inr hx))), h.tS, h.tI, h.tH, h.t1, h.t2, h.t3, fun x hx b hb => ⟨(h.tL x hx b hb).1, by have := (h.tL x hx b hb).2; omega⟩⟩
  rw [heap_setCell_same h.blk]; rfl

/-- The second loop of keepInts. -/
structure KInv (w : World) (ρ : Nat → Nat) (wb : Nat) (sdv : Value) (m : Int) (sv hv m2 m3 : Value) (Ls Li Lh : List Ke) (lv : Value) (n j : Nat) (ρ1 : Nat → Nat) (iv1 m11 : Value) (Ln : List Ke) (x : Ke) (wr : World) : Prop where
  law : LawAt wr ρ1 wb sdv m sv iv1 hv m11 m2 m3 Ls (Li ++ Ln) Lh
  len : Ln.length = j
  xm : x.m = m
  xn : x.n = n + j
  row : wr.ownsRow 0 3 1 (entV x) x.n (repP patI x.m x.n)
  xt : ∀ b, (entV x).ownBlock = some b → ρ1 b = 310
  hin : ∀ y ∈ Li ++ Ln, ∀ b, (entV x).ownBlock = some b → y.a = some ⟨b, 0, none⟩ → y.m = x.m ∧ y.n ≤ x.n
  hout : ∀ y, (y ∈ Ls ∨ y ∈ Lh) → ∀ b, (entV x).ownBlock = some b → y.a ≠ some ⟨b, 0, none⟩
  e1 : ∀ k, k < w.heap.size → lv.ownBlock ≠ some k → ρ1 k = ρ k
  e2 : ∀ k, w.heap.size ≤ k → ρ1 k = 0 ∨ 300 ≤ ρ1 k
  fits : Fits wr ρ1
  keeps : Keeps (fun k => laws ρ k ∨ lv.ownBlock = some k) w wr
  e3 : ∀ k, lv.ownBlock = some k → ρ1 k = 310
  e4 : ∀ k, lv.ownBlock = some k → k < w.heap.size

theorem KInv.start {w V wr : World} {ρ : Nat → Nat} {wb : Nat} {sdv : Value} {m : Int} {sv iv hv m1 m2 m3 : Value} {Ls Li Lh : List Ke} {la : Option Addr} {n lc : Nat} (hV : LawAt V ρ wb sdv m sv iv hv m1 m2 m3 Ls Li Lh) (hs : V.heap.size = w.heap.size) (hf : Fits w ρ) (hT : ∀ k, (Value.slice la n lc).ownBlock = some k → ρ k = 0)
    (hK : Keeps (fun k => laws ρ k ∨ (Value.slice la n lc).ownBlock = some k) w V) (hk : Keeps (fun k => (Value.slice la n lc).ownBlock = some k) V wr) (hr : wr.ownsRow 0 3 1 (.slice la n lc) n (repP patI m n)) (h4 : ∀ k, (Value.slice la n lc).ownBlock = some k → k < w.heap.size) :
    KInv w ρ wb sdv m sv hv m2 m3 Ls Li Lh (.slice la n lc) n 0 (fun k => if (Value.slice la n lc).ownBlock = some k then 310 else ρ k) iv m1 [] ⟨la, n, lc, m⟩ wr := by
  have hz := hk.size
  have no : ∀ y, (y ∈ Ls ∨ y ∈ Li ∨ y ∈ Lh) → ∀ b, (Value.slice la n lc).ownBlock = some b → y.a ≠ some ⟨b, 0, none⟩ := by
    intro y hy b hb hya
    have h1 := (hV.tL y hy b hya).1
    have h2 := hT b hb
    omega
  refine ⟨?_, rfl, rfl, rfl, hr, fun b hb => if_pos hb, ?_, ?_, fun k _ hne => if_neg hne, ?_, ?_, ?_, fun k hk => if_pos hk, h4⟩
  · rw [List.append_nil]
    refine hV.keeps hk (fun k hk => Or.inl ?_) (fun k _ h3 => if_neg ?_)
    · unfold laws; have := hT k hk; omega
    · intro e; have := hT k e; omega
  · intro y hy b hb hya
    rw [List.append_nil] at hy
    exact absurd hya (no y (Or.inr (Or.inl hy)) b hb)
  · intro y hy b hb
    exact no y (by rcases hy with hy | hy; exact Or.inl hy; exact Or.inr (Or.inr hy)) b hb
  · intro k hk
    show (if _ then 310 else ρ k) = 0 ∨ 300 ≤ (if _ then 310 else ρ k)
    split
    · right; omega
    · left; exact hf k hk
  · intro k hk
    show (if _ then 310 else ρ k) = 0
    rw [if_neg (fun e => by have := h4 k e; omega)]
    exact hf k (by omega)
  · exact hK.trans (hk.mono (fun k _ e => Or.inr e))

theorem KInv.step {w W C1 C2 D : World} {ρ ρ1 : Nat → Nat} {wb : Nat} {sdv : Value} {m : Int} {sv iv1 hv m11 m2 m3 : Value} {Ls Li Lh Ln : List Ke} {lv : Value} {n j : Nat} {x : Ke} (h : KInv w ρ wb sdv m sv hv m2 m3 Ls Li Lh lv n j ρ1 iv1 m11 Ln x W) (hxn : x.n ≤ 1000000) (hlen : (Li ++ Ln).length ≤ 100000000)
    {N g1 c1 g2 c2 g3 c3 : Nat} (hN : N = (Li ++ Ln).length + 1)
    (b1 : C1.heap[wb]? = some (.cells #[sdv, sv, .slice (some ⟨g1, 0, none⟩) N c1, hv, m11, m2, m3, .int .i64 m] 36 (0, 0))) (r1 : C1.ownsRow 0 34 1 (.slice (some ⟨g1, 0, none⟩) N c1) N ((Li ++ Ln).map entV ++ [entV x])) (k1 : Keeps (fun k => k = wb ∨ iv1.ownBlock = some k) W C1) (o1 : g1 < W.heap.size → iv1.ownBlock = some g1)
    (b2 : C2.heap[wb]? = some (.cells #[sdv, sv, .slice (some ⟨g1, 0, none⟩) N c1, hv, .slice (some ⟨g2, 0, none⟩) N c2, m2, m3, .int .i64 m] 36 (0, 0))) (r2 : C2.ownsRow 0 3 1 (.slice (some ⟨g2, 0, none⟩) N c2) N ((Li ++ Ln).map entM ++ [entM x])) (k2 : Keeps (fun k => k = wb ∨ m11.ownBlock = some k) C1 C2) (o2 : g2 < C1.heap.size → m11.ownBlock = some g2)
    (r3 : D.ownsRow 0 3 1 (.slice (some ⟨g3, 0, none⟩) (x.n + 1) c3) (x.n + 1) (repP patI x.m x.n ++ patI x.m)) (k3 : Keeps (fun k => (entV x).ownBlock = some k) C2 D) (s3 : C2.grownBy D (some g3)) (o3 : g3 < C2.heap.size → (entV x).ownBlock = some g3) :
    ∃ ρ', KInv w ρ wb sdv m sv hv m2 m3 Ls Li Lh lv n (j + 1) ρ' (.slice (some ⟨g1, 0, none⟩) N c1) (.slice (some ⟨g2, 0, none⟩) N c2) (Ln ++ [x]) ⟨some ⟨g3, 0, none⟩, x.n + 1, c3, x.m⟩ D := by
  subst hN
  obtain ⟨ρ', hL, hold, hnew, hF, h310, hK, hi, ho⟩ := h.law.moreInts h.fits x h.row hxn hlen h.xt h.hin h.hout b1 r1 k1 o1 b2 r2 k2 o2 r3 k3 s3 o3
  have hz := h.keeps.size
  have own : ∀ b, (entV ⟨some ⟨g3, 0, none⟩, x.n + 1, c3, x.m⟩).ownBlock = some b → b = g3 := by
    intro b hb
    simp [entV, Value.ownBlock] at hb
    exact hb.symm
  refine ⟨ρ', ?_, by simp [h.len], h.xm, by show x.n + 1 = _; rw [h.xn]; omega, r3, fun b hb => by rw [own b hb]; exact h310, ?_, ?_, ?_, ?_, hF, ?_, ?_, h.e4⟩
  · rw [← List.append_assoc]; exact hL
  · intro y hy b hb hya
    rw [own b hb] at hya
    rw [← List.append_assoc] at hy
    exact hi y hy hya
  · intro y hy b hb
    rw [own b hb]
    exact ho y hy
  · intro k hk hne
    rw [hold k (by omega)]; exact h.e1 k hk hne
  · intro k hk
    by_cases hlt : k < W.heap.size
    · rw [hold k hlt]; exact h.e2 k hk
    · exact hnew k (by omega)
  · have hzD := hK.size
    refine ⟨hK.os.trans h.keeps.os, hK.tape.trans h.keeps.tape, hK.output.trans h.keeps.output, by omega, fun k hk hs => ?_⟩
    rw [hK.block k (by omega) (fun e => hs (Or.inl (by
      unfold laws at e ⊢
      rw [h.e1 k hk (fun q => hs (Or.inr q))] at e
      exact e)))]
    exact h.keeps.block k hk hs
  · intro k hk
    rw [hold k (by have := h.e4 k hk; omega)]; exact h.e3 k hk

end Go.Proofs.YtpnkmnmchdabkaaGreat
