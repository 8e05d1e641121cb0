import Derived.Test.YtpnkmnmchdabkaaGreatLawK
namespace Go.Proofs.YtpnkmnmchdabkaaGreat
open Go.RowKit

/-- n times the caller's word. -/
def repP (pat : Int → List Value) (m : Int) : Nat → List Value
  | 0 => []
  | n + 1 => repP pat m n ++ pat m

theorem repP_len {pat : Int → List Value} {m : Int} {size : Nat} (hp : (pat m).length = size) (n : Nat) : (repP pat m n).length = n * size := by
  induction n with
  | zero => simp [repP]
  | succ n ih => simp only [repP, List.length_append, ih, hp, Nat.succ_mul]

theorem repP_get {pat : Int → List Value} {m : Int} {size : Nat} (hp : (pat m).length = size) (n k j : Nat) (u : Value) (hk : k < n) (hj : (pat m)[j]? = some u) : (repP pat m n)[k * size + j]? = some u := by
  have hjs : j < size := hp ▸ (List.getElem?_eq_some_iff.1 hj).1
  induction n with
  | zero => omega
  | succ n ih =>
    have hl := repP_len hp n
    have hmul : k * size + size ≤ (n + 1) * size := by rw [← Nat.succ_mul]; exact Nat.mul_le_mul_right _ hk
    by_cases h : k < n
    · have : k * size + size ≤ n * size := by rw [← Nat.succ_mul]; exact Nat.mul_le_mul_right _ h
      rw [repP, List.getElem?_append_left (by omega)]
      exact ih h
    · have e : k = n := by omega
      subst e
      rw [repP, List.getElem?_append_right (by omega), hl, Nat.add_sub_cancel_left]
      exact hj

theorem HoldsAll.same {w w' : World} {size : Nat} {pat : Int → List Value} {x : Ke} (h : HoldsAll w size pat x) (hs : w.heap.size ≤ w'.heap.size) (hb : ∀ b, x.a = some ⟨b, 0, none⟩ → b < w.heap.size → w'.heap[b]? = w.heap[b]?) : HoldsAll w' size pat x := by
  intro k hk
  obtain ⟨b, e1, e2, e3⟩ := h k hk
  refine ⟨b, e1, by omega, fun j u hj => ?_⟩
  rw [World.cell?_of_block (w := w) (a := ⟨b, k * size + j, none⟩) (hb b e1 e2)]
  exact e3 j u hj

/-- Behind an append of the caller's word to a list of its own: the lists in that row's block are of that mark, and no longer. -/
theorem HoldsAll.grown {w w' : World} {size : Nat} {pat : Int → List Value} {x : Ke} {e : TypeId} {g cap n : Nat} {m : Int} (h : HoldsAll w size pat x) (hp : ∀ m, (pat m).length = size)
    (hown : w'.ownsRow 0 e size (.slice (some ⟨g, 0, none⟩) (n + 1) cap) (n + 1) (repP pat m n ++ pat m)) (hg : w.grownBy w' (some g)) (hin : x.a = some ⟨g, 0, none⟩ → x.m = m ∧ x.n ≤ n) : HoldsAll w' size pat x := by
  intro k hk
  obtain ⟨b, e1, e2, e3⟩ := h k hk
  have hsz := hg.size
  refine ⟨b, e1, by omega, fun j u hj => ?_⟩
  by_cases hbg : b = g
  · subst hbg
    obtain ⟨hm, hn⟩ := hin e1
    have := hown.cells (g := b) rfl (k * size + j) u (by
      have hq := repP_get (hp m) (n + 1) k j u (by omega) (hm ▸ hj)
      exact hq)
    rwa [show (⟨b, 0, none⟩ : Addr).add (k * size + j) = ⟨b, k * size + j, none⟩ by unfold Addr.add; split <;> simp_all] at this
  · rw [World.cell?_of_block (w := w) (a := ⟨b, k * size + j, none⟩) (hg.block b e2 (fun e => hbg (by injection e)))]
    exact e3 j u hj

/-- A list that the caller has just written over. -/
theorem HoldsAll.new {w : World} {size : Nat} {pat : Int → List Value} {e : TypeId} {x : Ke} (hp : ∀ m, (pat m).length = size) (h : w.ownsRow 0 e size (entV x) x.n (repP pat x.m x.n)) : HoldsAll w size pat x := by
  intro k hk
  obtain ⟨g, cap, cur, hv, _, hg, _⟩ := ownsRow_shape h (by omega)
  have ha : x.a = some ⟨g, 0, none⟩ := by
    unfold entV at hv
    injection hv
  refine ⟨g, ha, lt_of_heap hg, fun j u hj => ?_⟩
  have := h.cells (g := g) (by rw [hv]; rfl) (k * size + j) u (repP_get (hp x.m) x.n k j u hk hj)
  rwa [show (⟨g, 0, none⟩ : Addr).add (k * size + j) = ⟨g, k * size + j, none⟩ by unfold Addr.add; split <;> simp_all] at this

theorem patI_len (m : Int) : (patI m).length = 1 := rfl
theorem patS_len (m : Int) : (patS m).length = 5 := rfl
theorem patH_len (m : Int) : (patH m).length = 4 := rfl

/-- THE LAW's WORLD IN MEMORY: 300 its block, 302 to 307 its rows, 310 the caller's lists. -/
structure LawAt (w : World) (ρ : Nat → Nat) (wb : Nat) (sdv : Value) (last : Int) (sv iv hv m1 m2 m3 : Value) (Ls Li Lh : List Ke) : Prop where
  blk : w.heap[wb]? = some (.cells #[sdv, sv, iv, hv, m1, m2, m3, .int .i64 last] 36 (0, 0))
  tag : ρ wb = 300
  kS : KRows w 98 5 patS sv m2 Ls
  kI : KRows w 34 1 patI iv m1 Li
  kH : KRows w 81 4 patH hv m3 Lh
  tS : ∀ k, sv.ownBlock = some k → ρ k = 302
  tI : ∀ k, iv.ownBlock = some k → ρ k = 303
  tH : ∀ k, hv.ownBlock = some k → ρ k = 304
  t1 : ∀ k, m1.ownBlock = some k → ρ k = 305
  t2 : ∀ k, m2.ownBlock = some k → ρ k = 306
  t3 : ∀ k, m3.ownBlock = some k → ρ k = 307
  tL : ∀ x, (x ∈ Ls ∨ x ∈ Li ∨ x ∈ Lh) → ∀ b, x.a = some ⟨b, 0, none⟩ → ρ b = 310 ∧ b < w.heap.size

/-- Tags from 300 on are the law's. -/
def laws (ρ : Nat → Nat) (k : Nat) : Prop := 300 ≤ ρ k

theorem KRows.same {w w' : World} {te : TypeId} {size : Nat} {pat : Int → List Value} {v mv : Value} {L : List Ke} (h : KRows w te size pat v mv L) (hs : w.heap.size ≤ w'.heap.size)
    (h1 : ∀ k, v.ownBlock = some k → w'.heap[k]? = w.heap[k]?) (h2 : ∀ k, mv.ownBlock = some k → w'.heap[k]? = w.heap[k]?) (h3 : ∀ x ∈ L, ∀ b, x.a = some ⟨b, 0, none⟩ → b < w.heap.size → w'.heap[b]? = w.heap[b]?) : KRows w' te size pat v mv L :=
  ⟨ownsRow_of_block h.row h1, ownsRow_of_block h.ms h2, fun x hx => ⟨(h.all x hx).1.same hs (h3 x hx), (h.all x hx).2⟩, h.len⟩

/-- What the calls of the program and of the ref leave of it: all. -/
theorem LawAt.keeps {S : Nat → Prop} {w w' : World} {ρ ρ' : Nat → Nat} {wb : Nat} {sdv : Value} {last : Int} {sv iv hv m1 m2 m3 : Value} {Ls Li Lh : List Ke} (h : LawAt w ρ wb sdv last sv iv hv m1 m2 m3 Ls Li Lh) (hk : Keeps S w w')
    (hS : ∀ k, S k → ¬ laws ρ k ∨ w.heap.size ≤ k) (he : ∀ k, k < w.heap.size → 300 ≤ ρ k → ρ' k = ρ k) : LawAt w' ρ' wb sdv last sv iv hv m1 m2 m3 Ls Li Lh := by
  have hlt := lt_of_heap h.blk
  have hsz := hk.size
  have st : ∀ k, k < w.heap.size → 300 ≤ ρ k → w'.heap[k]? = w.heap[k]? := fun k h1 h2 => hk.block k h1 (fun hs => by
    rcases hS k hs with h3 | h3
    · exact h3 h2
    · omega)
  have row : ∀ {te : TypeId} {size n : Nat} {v : Value} {xs : List Value} {t : Nat}, w.ownsRow 0 te size v n xs → (∀ k, v.ownBlock = some k → ρ k = t) → 300 ≤ t → ∀ k, v.ownBlock = some k → w'.heap[k]? = w.heap[k]? :=
    fun ho ht h3 k hk' => st k (ho.lt k hk').2 (by rw [ht k hk']; exact h3)
  have tg : ∀ {te : TypeId} {size n : Nat} {v : Value} {xs : List Value} {t : Nat}, w.ownsRow 0 te size v n xs → (∀ k, v.ownBlock = some k → ρ k = t) → 300 ≤ t → ∀ k, v.ownBlock = some k → ρ' k = t :=
    fun ho ht h3 k hk' => by rw [he k (ho.lt k hk').2 (by rw [ht k hk']; exact h3)]; exact ht k hk'
  have ent : ∀ x, (x ∈ Ls ∨ x ∈ Li ∨ x ∈ Lh) → ∀ b, x.a = some ⟨b, 0, none⟩ → b < w.heap.size → w'.heap[b]? = w.heap[b]? := fun x hx b hb hl => st b hl (by rw [(h.tL x hx b hb).1]; omega)
  refine ⟨?_, by rw [he wb hlt (by rw [h.tag]; omega)]; exact h.tag, ?_, ?_, ?_, tg h.kS.row h.tS (by omega), tg h.kI.row h.tI (by omega), tg h.kH.row h.tH (by omega), tg h.kI.ms h.t1 (by omega), tg h.kS.ms h.t2 (by omega), tg h.kH.ms h.t3 (by omega), ?_⟩
  · rw [st wb hlt (by rw [h.tag]; omega)]; exact h.blk
  · exact h.kS.same hsz (row h.kS.row h.tS (by omega)) (row h.kS.ms h.t2 (by omega)) (fun x hx => ent x (Or.inl hx))
  · exact h.kI.same hsz (row h.kI.row h.tI (by omega)) (row h.kI.ms h.t1 (by omega)) (fun x hx => ent x (Or.inr (Or.inl hx)))
  · exact h.kH.same hsz (row h.kH.row h.tH (by omega)) (row h.kH.ms h.t3 (by omega)) (fun x hx => ent x (Or.inr (Or.inr hx)))
  · intro x hx b hb
    have h1 := h.tL x hx b hb
    exact ⟨by rw [he b h1.2 (by rw [h1.1]; omega)]; exact h1.1, by omega⟩

theorem LawAt.kept {w : World} {ρ : Nat → Nat} {wb : Nat} {sdv : Value} {last : Int} {sv iv hv m1 m2 m3 : Value} {Ls Li Lh : List Ke} (h : LawAt w ρ wb sdv last sv iv hv m1 m2 m3 Ls Li Lh) :
    Calls Tryz.prog 11 #[.pointer (some ⟨wb, 0, none⟩)] w fun e w' => e = .returned (.bool true) ∧ Below w.heap.size w w' :=
  kept_any (lt_of_heap h.blk) h.kS h.kI h.kH (cell_of h.blk 1) (cell_of h.blk 2) (cell_of h.blk 3) (cell_of h.blk 4) (cell_of h.blk 5) (cell_of h.blk 6)

end Go.Proofs.YtpnkmnmchdabkaaGreat
