import Derived.Test.YtpnkmnmchdabkaaGreatM00
import Derived.Test.YtpnkmnmchdabkaaGreatM06
namespace Go.Proofs.YtpnkmnmchdabkaaGreat
open Go.RowKit

/-- A record more in shard k, behind the append and the store of what it answered. -/
theorem GrpAt.addRec {w w2 : World} {ρ : Nat → Nat} {gb : Nat} {C : Cfg} {now : Rest} {bs cap : Nat} {m : List Cs} (h : GrpAt w ρ gb C now (.slice (some ⟨bs, 0, none⟩) m.length cap) m) (hf : Fits w ρ) (hm : m.length ≤ 16)
    (k : Nat) (s : Cs) (hk : m[k]? = some s) (W : World) (hWk : Keeps (fun _ => False) w W) (hgrow : W.grownBy w2 s.rv.ownBlock) (g cap2 : Nat) (xs : List Value)
    (hown : w2.ownsRow 0 137 10 (.slice (some ⟨g, 0, none⟩) (s.s.cnt + 1) cap2) (s.s.cnt + 1) xs) (hat : s.rv.ownBlock = some g ∨ g = W.heap.size) :
    GrpPost w ρ gb C now ((m.map (·.s)).set k { s.s with cnt := s.s.cnt + 1 }) (w2.setCell ⟨bs, k * 5 + 4, none⟩ (.slice (some ⟨g, 0, none⟩) (s.s.cnt + 1) cap2)) := by
  have hgb := lt_of_heap h.blk
  have hbs : ρ bs = 2 := h.log.rowT bs rfl
  have hbsl : bs < w.heap.size := (h.log.row.lt bs rfl).2
  have hkl : k < m.length := (List.getElem?_eq_some_iff.1 hk).1
  have hWs := hWk.size
  have hg2 : g < w2.heap.size := by
    obtain ⟨g', cap', cur, hv, _, hg, _⟩ := ownsRow_shape hown (by omega)
    cases hv; exact lt_of_heap hg
  have hrv : ∀ j, s.rv.ownBlock = some j → ρ j = 4 + 2 * k ∧ j < w.heap.size := fun j hj => by
    obtain ⟨xs, hx⟩ := h.log.rcs k s hk
    exact ⟨h.log.rcT k s hk j hj, (hx.lt j hj).2⟩
  -- what was there, and is not the records' row
  have old : ∀ j, j < w.heap.size → ρ j ≠ 4 + 2 * k → w2.heap[j]? = w.heap[j]? := by
    intro j hj hne
    rw [hgrow.block j (by omega) (fun e => hne (hrv j e.symm).1), hWk.block j hj (fun h => h)]
  have gtag : g < w.heap.size → ρ g = 4 + 2 * k := by
    intro hlt
    rcases hat with e | e
    · exact (hrv g e).1
    · omega
  have tagOf : ∀ j, j < w.heap.size → (if j = g then 4 + 2 * k else ρ j) = ρ j := by
    intro j hj
    split
    · rename_i e; subst e; exact (gtag hj).symm
    · rfl
  have keepO : ∀ {e : TypeId} {size : Nat} {u : Value} {n : Nat} {ys : List Value} {t : Nat}, w.ownsRow 0 e size u n ys → (∀ j, u.ownBlock = some j → ρ j = t) → t ≠ 4 + 2 * k → t ≠ 2 →
      (w2.setCell ⟨bs, k * 5 + 4, none⟩ (.slice (some ⟨g, 0, none⟩) (s.s.cnt + 1) cap2)).ownsRow 0 e size u n ys := by
    intro e size u n ys t ho ht h3 h4
    refine ownsRow_of_block ho fun j hj => ?_
    rw [Below.heap_setCell _ _ _ _ (by rintro rfl; have := ht _ hj; omega), old j (ho.lt j hj).2 (by rw [ht j hj]; exact h3)]
  have hrow : w2.ownsRow 0 113 5 (.slice (some ⟨bs, 0, none⟩) m.length cap) m.length (logCells m) := by
    refine ownsRow_of_block h.log.row fun j hj => ?_
    have := h.log.rowT j hj
    exact old j (h.log.row.lt j hj).2 (by omega)
  have hgbs : g ≠ bs := by
    rintro rfl
    have := gtag hbsl
    omega
  refine ⟨fun j => if j = g then 4 + 2 * k else ρ j, .slice (some ⟨bs, 0, none⟩) m.length cap, m.set k ⟨{ s.s with cnt := s.s.cnt + 1 }, s.pv, .slice (some ⟨g, 0, none⟩) (s.s.cnt + 1) cap2⟩, by rw [List.map_set], ⟨?_, ?_, ⟨?_, ?_, ?_, ?_, ?_, ?_⟩, keepO h.wk h.wkT (by omega) (by omega), fun j hj => (tagOf j (h.wk.lt j hj).2).trans (h.wkT j hj), h.dnL, h.lsL⟩, ?_, ?_, ?_⟩
  · rw [Below.heap_setCell _ _ _ _ (by rintro rfl; have := h.tag; omega), old gb hgb (by rw [h.tag]; omega)]
    exact h.blk
  · show (if gb = g then _ else ρ gb) = 1
    rw [tagOf gb hgb]; exact h.tag
  · have := (World.ownsRow.stored hrow (k * 5 + 4) (.slice (some ⟨g, 0, none⟩) (s.s.cnt + 1) cap2)).1
    rw [logCells_set m k 4 (by omega) s ⟨{ s.s with cnt := s.s.cnt + 1 }, s.pv, .slice (some ⟨g, 0, none⟩) (s.s.cnt + 1) cap2⟩ hk _ rfl] at this
    simpa using this
  · intro j hj
    simp [Value.ownBlock] at hj
    subst hj
    show (if bs = g then _ else ρ bs) = 2
    rw [tagOf bs hbsl]; exact hbs
  · intro i t ht
    rw [List.getElem?_set] at ht
    split at ht
    · rename_i e; subst e
      cases ht
      exact keepO (h.log.par k s hk) (h.log.parT k s hk) (by omega) (by omega)
    · exact keepO (h.log.par i t ht) (h.log.parT i t ht) (by omega) (by omega)
  · intro i t ht j hj
    rw [List.getElem?_set] at ht
    show (if j = g then _ else ρ j) = _
    split at ht
    · rename_i e; subst e
      cases ht
      rw [tagOf j ((h.log.par k s hk).lt j hj).2]; exact h.log.parT k s hk j hj
    · rw [tagOf j ((h.log.par i t ht).lt j hj).2]; exact h.log.parT i t ht j hj
  · intro i t ht
    rw [List.getElem?_set] at ht
    split at ht
    · rename_i e; subst e
      cases ht
      refine ⟨xs, ownsRow_of_block hown fun j hj => Below.heap_setCell _ _ _ _ ?_⟩
      simp [Value.ownBlock] at hj
      subst hj
      exact hgbs
    · obtain ⟨ys, hy⟩ := h.log.rcs i t ht
      exact ⟨ys, keepO hy (h.log.rcT i t ht) (by omega) (by omega)⟩
  · intro i t ht j hj
    rw [List.getElem?_set] at ht
    show (if j = g then _ else ρ j) = _
    split at ht
    · rename_i e; subst e
      cases ht
      simp [Value.ownBlock] at hj
      subst hj
      rw [if_pos rfl]
    · obtain ⟨ys, hy⟩ := h.log.rcs i t ht
      rw [tagOf j (hy.lt j hj).2]; exact h.log.rcT i t ht j hj
  · refine ⟨?_, ?_, ?_, ?_, ?_⟩
    · show w2.os = w.os; rw [hgrow.os, hWk.os]
    · show w2.tape = w.tape; rw [hgrow.tape, hWk.tape]
    · show w2.output = w.output; rw [hgrow.output, hWk.output]
    · have := hgrow.size; simp [World.setCell]; omega
    · intro j hj hs
      rw [Below.heap_setCell _ _ _ _ (by rintro rfl; exact hs (by unfold mine; omega)), old j hj (fun e => hs (by unfold mine; omega))]
  · refine ⟨fun j hj => tagOf j hj, fun j hj => ?_⟩
    show (if j = g then _ else ρ j) < 100
    split
    · omega
    · rw [hf j hj]; omega
  · intro j hj
    have hj' : w2.heap.size ≤ j := by simpa [World.setCell] using hj
    show (if j = g then _ else ρ j) = 0
    have := hgrow.size
    rw [if_neg (by omega)]
    exact hf j (by omega)

end Go.Proofs.YtpnkmnmchdabkaaGreat
namespace Go.Proofs.YtpnkmnmchdabkaaGreat
open Go.RowKit

set_option maxHeartbeats 400000 in
theorem home_any (b off bs n cap : Nat) (lo hi : Nat → Int) (op : Nat → Bool) (h : Int) (w : World) (hn0 : 0 < n) (hn : n ≤ 100)
    (c : w.cell? ⟨b, off, none⟩ = some (.slice (some ⟨bs, 0, none⟩) n cap))
    (c0 : ∀ i, i < n → w.cell? ⟨bs, i * 5, none⟩ = some (.int .i64 (lo i))) (c1 : ∀ i, i < n → w.cell? ⟨bs, i * 5 + 1, none⟩ = some (.int .i64 (hi i))) (c2 : ∀ i, i < n → w.cell? ⟨bs, i * 5 + 2, none⟩ = some (.bool (op i))) :
    Calls Tryz.prog 133 #[.pointer (some ⟨b, off, none⟩), .int .i64 h] w fun e w' => ∃ k : Nat, e = .returned (.int .i64 k) ∧ w = w' ∧ k < n ∧ (k = 0 ∨ accB (op k) (lo k) (hi k) h = true) ∧ ∀ j, k < j → j < n → accB (op j) (lo j) (hi j) h = false := by
  go_enter Tryz.func133, Tryz.ntmps133
  go_wp2_with fail
  go_loop [5] (fun t => ∃ k : Nat, t = .int .i64 k ∧ k < n ∧ ∀ j, k < j → j < n → accB (op j) (lo j) (hi j) h = false) (fun t => (intOf t).toNat)
  case atStart => exact ⟨n - 1, by go_num, by omega, fun j h1 h2 => by omega⟩
  case round =>
    obtain ⟨k, rfl, hk, hj⟩ := hrel
    have Hj := hj
    clear hj
    by_cases hk0 : 0 < k
    · have hh := accepts_any bs (k * 5) (lo k) (hi k) h (op k) w (c0 k hk) (c1 k hk) (c2 k hk)
      cases hB : accB (op k) (lo k) (hi k) h
      · rw [hB] at hh
        have HB := hide hB
        have HH := hide hh
        have HJ := hide Hj
        clear hB hh Hj
        go_wp2_with (go_at_call 135; refine (unhide HH).mono ?_; rintro e w' ⟨rfl, rfl⟩)
        go_round
        case rel =>
          refine ⟨k - 1, by go_num, by omega, fun j h1 h2 => ?_⟩
          by_cases e : j = k
          · subst e; exact unhide HB
          · exact unhide HJ j (by omega) h2
        case measure => simp [intOf]; omega
      · rw [hB] at hh
        have HB := hide hB
        have HH := hide hh
        have HJ := hide Hj
        clear hB hh Hj
        go_wp2_with (go_at_call 135; refine (unhide HH).mono ?_; rintro e w' ⟨rfl, rfl⟩)
        go_ret
        exact ⟨k, rfl, rfl, hk, Or.inr (unhide HB), unhide HJ⟩
    · have HJ := hide Hj
      clear Hj
      go_wp2
      go_ret
      exact ⟨k, rfl, rfl, hk, Or.inl (by omega), unhide HJ⟩

end Go.Proofs.YtpnkmnmchdabkaaGreat
