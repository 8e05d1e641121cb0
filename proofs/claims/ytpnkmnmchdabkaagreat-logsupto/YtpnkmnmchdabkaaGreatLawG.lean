import Derived.Test.YtpnkmnmchdabkaaGreatLawF
namespace Go.Proofs.YtpnkmnmchdabkaaGreat
open Go.RowKit

/-- The second loop of keepShards. -/
structure KInvS (w : World) (ρ : Nat → Nat) (wb : Nat) (sdv : Value) (m : Int) (iv hv m1 m3 : Value) (Ls Li Lh : List Ke) (lv : Value) (n j : Nat) (ρ1 : Nat → Nat) (sv1 m21 : Value) (Ln : List Ke) (x : Ke) (wr : World) : Prop where
  law : LawAt wr ρ1 wb sdv m sv1 iv hv m1 m21 m3 (Ls ++ Ln) Li Lh
  len : Ln.length = j
  xm : x.m = m
  xn : x.n = n + j
  row : wr.ownsRow 0 100 5 (entV x) x.n (repP patS x.m x.n)
  xt : ∀ b, (entV x).ownBlock = some b → ρ1 b = 310
  hin : ∀ y ∈ Ls ++ Ln, ∀ b, (entV x).ownBlock = some b → y.a = some ⟨b, 0, none⟩ → y.m = x.m ∧ y.n ≤ x.n
  hout : ∀ y, (y ∈ Li ∨ y ∈ Lh) → ∀ b, (entV x).ownBlock = some b → y.a ≠ some ⟨b, 0, none⟩
  e1 : ∀ k, k < w.heap.size → lv.ownBlock ≠ some k → ρ1 k = ρ k
  e2 : ∀ k, w.heap.size ≤ k → ρ1 k = 0 ∨ 300 ≤ ρ1 k
  fits : Fits wr ρ1
  keeps : Keeps (fun k => laws ρ k ∨ lv.ownBlock = some k) w wr
  e3 : ∀ k, lv.ownBlock = some k → ρ1 k = 310
  e4 : ∀ k, lv.ownBlock = some k → k < w.heap.size

theorem KInvS.start {w V wr : World} {ρ : Nat → Nat} {wb : Nat} {sdv : Value} {m : Int} {sv iv hv m1 m2 m3 : Value} {Ls Li Lh : List Ke} {la : Option Addr} {n lc : Nat} (hV : LawAt V ρ wb sdv m sv iv hv m1 m2 m3 Ls Li Lh) (hs : V.heap.size = w.heap.size) (hf : Fits w ρ) (hT : ∀ k, (Value.slice la n lc).ownBlock = some k → ρ k = 0)
    (hK : Keeps (fun k => laws ρ k ∨ (Value.slice la n lc).ownBlock = some k) w V) (hk : Keeps (fun k => (Value.slice la n lc).ownBlock = some k) V wr) (hr : wr.ownsRow 0 100 5 (.slice la n lc) n (repP patS m n)) (h4 : ∀ k, (Value.slice la n lc).ownBlock = some k → k < w.heap.size) :
    KInvS w ρ wb sdv m iv hv m1 m3 Ls Li Lh (.slice la n lc) n 0 (fun k => if (Value.slice la n lc).ownBlock = some k then 310 else ρ k) sv m2 [] ⟨la, n, lc, m⟩ wr := by
  have hz := hk.size
  have no : ∀ y, (y ∈ Ls ∨ y ∈ Li ∨ y ∈ Lh) → ∀ b, (Value.slice la n lc).ownBlock = some b → y.a ≠ some ⟨b, 0, none⟩ := by
    intro y hy b hb hya
    have h1 := (hV.tL y hy b hya).1
    have h2 := hT b hb
    omega
  refine ⟨?_, rfl, rfl, rfl, hr, fun b hb => if_pos hb, ?_, ?_, fun k _ hne => if_neg hne, ?_, ?_, ?_, fun k hk => if_pos hk, h4⟩
  · rw [List.append_nil]
    refine hV.keeps hk (fun k hk => Or.inl ?_) (fun k _ h3 => if_neg ?_)
    · unfold laws; have := hT k hk; omega
    · intro e; have := hT k e; omega
  · intro y hy b hb hya
    rw [List.append_nil] at hy
    exact absurd hya (no y (Or.inl hy) b hb)
  · intro y hy b hb
    exact no y (Or.inr hy) b hb
  · intro k hk
    show (if _ then 310 else ρ k) = 0 ∨ 300 ≤ (if _ then 310 else ρ k)
    split
    · right; omega
    · left; exact hf k hk
  · intro k hk
    show (if _ then 310 else ρ k) = 0
    rw [if_neg (fun e => by have := h4 k e; omega)]
    exact hf k (by omega)
  · exact hK.trans (hk.mono (fun k _ e => Or.inr e))

theorem KInvS.step {w W C1 C2 D : World} {ρ ρ1 : Nat → Nat} {wb : Nat} {sdv : Value} {m : Int} {sv1 iv hv m1 m21 m3 : Value} {Ls Li Lh Ln : List Ke} {lv : Value} {n j : Nat} {x : Ke} (h : KInvS w ρ wb sdv m iv hv m1 m3 Ls Li Lh lv n j ρ1 sv1 m21 Ln x W) (hxn : x.n ≤ 1000000) (hlen : (Ls ++ Ln).length ≤ 100000000)
    {N g1 c1 g2 c2 g3 c3 : Nat} (hN : N = (Ls ++ Ln).length + 1)
    (b1 : C1.heap[wb]? = some (.cells #[sdv, .slice (some ⟨g1, 0, none⟩) N c1, iv, hv, m1, m21, m3, .int .i64 m] 36 (0, 0))) (r1 : C1.ownsRow 0 98 1 (.slice (some ⟨g1, 0, none⟩) N c1) N ((Ls ++ Ln).map entV ++ [entV x])) (k1 : Keeps (fun k => k = wb ∨ sv1.ownBlock = some k) W C1) (o1 : g1 < W.heap.size → sv1.ownBlock = some g1)
    (b2 : C2.heap[wb]? = some (.cells #[sdv, .slice (some ⟨g1, 0, none⟩) N c1, iv, hv, m1, .slice (some ⟨g2, 0, none⟩) N c2, m3, .int .i64 m] 36 (0, 0))) (r2 : C2.ownsRow 0 3 1 (.slice (some ⟨g2, 0, none⟩) N c2) N ((Ls ++ Ln).map entM ++ [entM x])) (k2 : Keeps (fun k => k = wb ∨ m21.ownBlock = some k) C1 C2) (o2 : g2 < C1.heap.size → m21.ownBlock = some g2)
    (r3 : D.ownsRow 0 100 5 (.slice (some ⟨g3, 0, none⟩) (x.n + 1) c3) (x.n + 1) (repP patS x.m x.n ++ patS x.m)) (k3 : Keeps (fun k => (entV x).ownBlock = some k) C2 D) (s3 : C2.grownBy D (some g3)) (o3 : g3 < C2.heap.size → (entV x).ownBlock = some g3) :
    ∃ ρ', KInvS w ρ wb sdv m iv hv m1 m3 Ls Li Lh lv n (j + 1) ρ' (.slice (some ⟨g1, 0, none⟩) N c1) (.slice (some ⟨g2, 0, none⟩) N c2) (Ln ++ [x]) ⟨some ⟨g3, 0, none⟩, x.n + 1, c3, x.m⟩ D := by
  subst hN
  obtain ⟨ρ', hL, hold, hnew, hF, h310, hK, hi, ho⟩ := h.law.moreShards h.fits x h.row hxn hlen h.xt h.hin h.hout b1 r1 k1 o1 b2 r2 k2 o2 r3 k3 s3 o3
  have hz := h.keeps.size
  have own : ∀ b, (entV ⟨some ⟨g3, 0, none⟩, x.n + 1, c3, x.m⟩).ownBlock = some b → b = g3 := by
    intro b hb
    simp [entV, Value.ownBlock] at hb
    exact hb.symm
  refine ⟨ρ', ?_, by simp [h.len], h.xm, by show x.n + 1 = _; rw [h.xn]; omega, r3, fun b hb => by rw [own b hb]; exact h310, ?_, ?_, ?_, ?_, hF, ?_, ?_, h.e4⟩
  · rw [← List.append_assoc]; exact hL
  · intro y hy b hb hya
    rw [own b hb] at hya
    rw [← List.append_assoc] at hy
    exact hi y hy hya
  · intro y hy b hb
    rw [own b hb]
    exact ho y hy
  · intro k hk hne
    rw [hold k (by omega)]; exact h.e1 k hk hne
  · intro k hk
    by_cases hlt : k < W.heap.size
    · rw [hold k hlt]; exact h.e2 k hk
    · exact hnew k (by omega)
  · have hzD := hK.size
    refine ⟨hK.os.trans h.keeps.os, hK.tape.trans h.keeps.tape, hK.output.trans h.keeps.output, by omega, fun k hk hs => ?_⟩
    rw [hK.block k (by omega) (fun e => hs (Or.inl (by
      unfold laws at e ⊢
      rw [h.e1 k hk (fun q => hs (Or.inr q))] at e
      exact e)))]
    exact h.keeps.block k hk hs
  · intro k hk
    rw [hold k (by have := h.e4 k hk; omega)]; exact h.e3 k hk

end Go.Proofs.YtpnkmnmchdabkaaGreat
