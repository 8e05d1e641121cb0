import Derived.Test.YtpnkmnmchdabkaaM25
namespace Go.Proofs.Ytpnkmnmchdabkaa
open Go.RowKit
attribute [local go_sem ↓] Go.wp_at_zero Go.wp_at_succ

/-- Which of n things the number c speaks of. -/
def pickN (c n : Int) : Nat := ((if c < 0 then -(c + 1) else c) % n).toNat
theorem pickN_lt (c n : Int) (hn : 1 ≤ n) : (pickN c n : Int) < n := by
  unfold pickN
  have h0 := Int.emod_nonneg (if c < 0 then -(c + 1) else c) (show n ≠ 0 by omega)
  have h1 := Int.emod_lt_of_pos (if c < 0 then -(c + 1) else c) (show 0 < n by omega)
  omega

set_option maxHeartbeats 400000 in
theorem pick_at (c n : Int) (w : World) (h1 : -9223372036854775808 ≤ c) (h2 : c ≤ 9223372036854775807) (hn : 1 ≤ n) (hn2 : n ≤ 1000) :
    Calls Try.prog 13 #[.int .i64 c, .int .i64 n] w fun e w' => e = .returned (.int .i64 (pickN c n)) ∧ w' = w := by
  have hn0 : ¬ n = 0 := by omega
  have h0 := Int.emod_nonneg (if c < 0 then -(c + 1) else c) hn0
  by_cases hc : c < 0
  · have HR : Hid ((pickN c n : Int) = -(c + 1) % n) := by
      refine hide ?_
      unfold pickN
      rw [if_pos hc] at h0 ⊢
      omega
    clear h0
    go_enter Try.func13, Try.ntmps13
    go_wp2
    go_ret
    exact ⟨ret_int (by rw [unhide HR, ← Int.neg_tmod, Int.tmod_eq_emod_of_nonneg (by omega)]), rfl⟩
  · have HR : Hid ((pickN c n : Int) = c % n) := by
      refine hide ?_
      unfold pickN
      rw [if_neg hc] at h0 ⊢
      omega
    clear h0
    go_enter Try.func13, Try.ntmps13
    go_wp2
    go_ret
    exact ⟨ret_int (by rw [unhide HR]), rfl⟩

/-- A list of shards that came out, as a walk reads it. -/
def Told (w : World) (lb : Nat) (l : List Sh) : Prop :=
  ∀ (i : Nat) (s : Sh), l[i]? = some s → w.cell? ⟨lb, i * 5, none⟩ = some (.int .i64 s.lo) ∧ w.cell? ⟨lb, i * 5 + 1, none⟩ = some (.int .i64 s.hi) ∧ w.cell? ⟨lb, i * 5 + 2, none⟩ = some (.bool s.op) ∧
    ∃ pb pc, w.cell? ⟨lb, i * 5 + 3, none⟩ = some (.slice (some ⟨pb, 0, none⟩) s.par.length pc) ∧ ∀ j (hj : j < s.par.length), w.cell? ⟨pb, j, none⟩ = some (.int .i64 s.par[j])

def ShPost (w : World) (l : List Sh) (e : Ending) (w' : World) : Prop :=
  ∃ lb lcap, e = .returned (.slice (some ⟨lb, 0, none⟩) l.length lcap) ∧ Told w' lb l ∧ w.heap.size ≤ lb ∧ lb < w'.heap.size ∧ Below w.heap.size w w'

theorem shards_at {w : World} {ρ : Nat → Nat} {gb : Nat} {C : Cfg} {now : Rest} {l : List Sh} (hG : Grp w ρ gb C now l) (hI : Inv l) :
    Calls Try.prog 33 #[.pointer (some ⟨gb, 0, none⟩)] w (ShPost w l) := by
  refine (gShards_any w ρ gb C now l hG hI).mono ?_
  rintro e w' ⟨v, k, rfl, hk, hL, hb⟩
  have hkl : k.length = l.length := by rw [← hk]; simp
  have hrow := hL.row
  rw [hkl] at hrow
  obtain ⟨g, cap, cur, hv, hB, hg, _⟩ := ownsRow_shape hrow hI.pos
  subst hv
  refine ⟨g, cap, rfl, ?_, hB, lt_of_heap hg, hb⟩
  intro i s hi
  rw [← hk] at hi
  simp at hi
  obtain ⟨pv, hx⟩ := hi
  have hlt := (List.getElem?_eq_some_iff.1 hx).1
  have hcell : ∀ j, j < 5 → w'.cell? ⟨g, i * 5 + j, none⟩ = (outCells (s, pv))[j]? := by
    intro j hj
    rw [World.ownsRow.cellAt hrow (i * 5 + j) (by omega), listCells_get k i j hj _ hx]
  refine ⟨hcell 0 (by omega), hcell 1 (by omega), hcell 2 (by omega), ?_⟩
  have hpar := hL.par i _ hx
  obtain ⟨pg, hpg⟩ := hL.parS i _ hx
  obtain ⟨pa, pc, hpv⟩ := ownsRow_len hpar
  simp only at hpv hpg hpar
  rw [hpv] at hpg hpar
  have hpa : ∃ pb, pa = some ⟨pb, 0, none⟩ := by
    rcases hpar.2 with ⟨e, _⟩ | ⟨g', cap', cur', e, _⟩
    · injection e with e1
      rw [e1] at hpg; simp [Value.ownBlock] at hpg
    · injection e with e1
      exact ⟨g', e1⟩
  obtain ⟨pb, rfl⟩ := hpa
  refine ⟨pb, pc, (hcell 3 (by omega)).trans (by rw [hpv]; rfl), fun j hj => ?_⟩
  rw [World.ownsRow.cellAt hpar j (by omega)]
  simp [hj]

/-- It stands while only other blocks turn, up to its parents. -/
theorem Told.near {w w' : World} {lb : Nat} {l : List Sh} (h : Told w lb l) (hb : w'.heap[lb]? = w.heap[lb]?) (i : Nat) (s : Sh) (hi : l[i]? = some s) :
    w'.cell? ⟨lb, i * 5, none⟩ = some (.int .i64 s.lo) ∧ w'.cell? ⟨lb, i * 5 + 1, none⟩ = some (.int .i64 s.hi) ∧ w'.cell? ⟨lb, i * 5 + 2, none⟩ = some (.bool s.op) := by
  obtain ⟨a, b, c, _⟩ := h i s hi
  have hc : ∀ j, w'.cell? ⟨lb, j, none⟩ = w.cell? ⟨lb, j, none⟩ := fun j => World.cell?_of_block (w := w) hb
  exact ⟨(hc _).trans a, (hc _).trans b, (hc _).trans c⟩

/-- The law's own number of shards is written. -/
theorem crew_count {N : Nat} {w : World} {ρ : Nat → Nat} {cb gb : Nat} {C : Cfg} {now : Rest} {l : List Sh} {E : List En} {n : Nat} (n' : Nat) (v : Int) (hv : v = n') {ev : Value} (hG : Grp w ρ gb C now l) (hl : l.length ≤ 16)
    (hblk : w.heap[cb]? = some (.cells (crewArr C gb ev n) 31 (0, 0))) (hrow : w.ownsRow 0 59 5 ev E.length (entCells E)) (hT : ∀ k, ev.ownBlock = some k → ρ k = 101) (htag : ρ cb = 100) (hf : Fits w ρ) (hlow : ∀ k, ρ k ≠ 0 → N ≤ k) (hN : N ≤ w.heap.size) :
    (∃ ev', (w.setCell ⟨cb, 8, none⟩ (.int .i64 v)).heap[cb]? = some (.cells (crewArr C gb ev' n') 31 (0, 0)) ∧ (w.setCell ⟨cb, 8, none⟩ (.int .i64 v)).ownsRow 0 59 5 ev' E.length (entCells E) ∧ ∀ k, ev'.ownBlock = some k → ρ k = 101) ∧
      Grp (w.setCell ⟨cb, 8, none⟩ (.int .i64 v)) ρ gb C now l ∧ Fits (w.setCell ⟨cb, 8, none⟩ (.int .i64 v)) ρ ∧ Below N w (w.setCell ⟨cb, 8, none⟩ (.int .i64 v)) := by
  subst hv
  have hk : Keeps (fun k => k = cb) w (w.setCell ⟨cb, 8, none⟩ (.int .i64 n')) := (Keeps.refl (fun k => k = cb) w).setCell (p := ⟨cb, 8, none⟩) (Or.inl rfl) _
  obtain ⟨sv, m, rfl, G⟩ := hG
  refine ⟨⟨ev, ?_, ?_, hT⟩, ⟨sv, m, rfl, G.keeps hk (fun k e => Or.inl fun hm => by subst e; unfold mine at hm; omega) (fun _ _ => rfl) (by simpa using hl)⟩, fun k hkk => hf k (by simpa [World.setCell] using hkk), hk.below hN fun k _ e => hlow k (by rw [e, htag]; omega)⟩
  · rw [heap_setCell_same hblk]; rfl
  · exact ownsRow_keeps hrow hk (fun k hkk e => by subst e; have := hT _ hkk; omega)

theorem low_count {N : Nat} {X : Nat → Option Obj} {w : World} {ρ : Nat → Nat} {cb : Nat} (h : Low N X w ρ) (htag : ρ cb = 100) (v : Value) : Low N X (w.setCell ⟨cb, 8, none⟩ v) ρ :=
  h.still ((Keeps.refl (fun k => k = cb) w).setCell (p := ⟨cb, 8, none⟩) (Or.inl rfl) v) (fun k _ e => by subst e; omega)

end Go.Proofs.Ytpnkmnmchdabkaa
