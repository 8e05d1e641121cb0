import Derived.Test.YtpnkmnmchdabkaaCrew
namespace Go.Proofs.Ytpnkmnmchdabkaa
open Go.RowKit
attribute [local go_sem ↓] Go.wp_at_zero Go.wp_at_succ

set_option maxRecDepth 100000 in
set_option maxHeartbeats 1000000 in
theorem proper_any (C : Cfg) (w : World) :
    Calls Try.prog 21 #[.agg C.arr] w fun e w' => e = .returned (.bool (validB C.a C.l C.b C.n C.s C.t)) ∧ Below w.heap.size w w' := by
  unfold Cfg.arr
  have hbB := fun o => (Below.refl w.heap.size w).alloc (Nat.le_refl _) o
  go_enter Try.func21, Try.ntmps21
  go_wp2
  all_goals
    go_ret
    refine ⟨ret_bool ?_, hbB _⟩
    rw [Bool.eq_iff_iff, validB_iff]
    simp only [decide_eq_true_eq, Bool.false_eq_true, false_iff]
    omega

set_option maxRecDepth 100000 in
set_option maxHeartbeats 1000000 in
theorem hired_bad (C : Cfg) (w : World) (hv : validB C.a C.l C.b C.n C.s C.t = false) :
    Calls Try.prog 8 #[.agg C.arr] w fun e w' => e = .returned (.tuple #[.pointer none, .bool true]) ∧ Below w.heap.size w w' := by
  have HN := fun w => hide (new_bad C w hv)
  have HP := fun w => hide (proper_any C w)
  rw [hv] at HP
  unfold Cfg.arr at HN HP ⊢
  go_enter Try.func8, Try.ntmps8
  go_wp2_with fail
  refine (unhide (HN _)).mono ?_
  rintro e w1 ⟨rfl, hb⟩
  obtain ⟨h1, hB1, hsz⟩ := below_new hb
  have k0 := cell_of h1 0
  have k1 := cell_of h1 1
  have k2 := cell_of h1 2
  have k3 := cell_of h1 3
  have k4 := cell_of h1 4
  have k5 := cell_of h1 5
  simp at k0 k1 k2 k3 k4 k5
  clear hb h1
  go_wp2_with fail
  refine (unhide (HP _)).mono ?_
  rintro e w2 ⟨rfl, hb2⟩
  have HB := hide (hB1.trans (hb2.mono (by omega)))
  clear hb2
  go_wp2
  go_ret2
  exact ⟨rfl, unhide HB⟩

/-- What hired leaves, where there is a configuration. -/
def HiredPost (N : Nat) (w : World) (C : Cfg) (e : Ending) (w' : World) : Prop :=
  ∃ cb gb ρ now, e = .returned (.tuple #[.pointer (some ⟨cb, 0, none⟩), .bool true]) ∧ Crew true bd0 N w' ρ cb gb C now [first] [] 1 ∧ Below w.heap.size w w'

set_option maxRecDepth 100000 in
set_option maxHeartbeats 1000000 in
theorem hired_good (C : Cfg) (w : World) (hv : validB C.a C.l C.b C.n C.s C.t = true) :
    Calls Try.prog 8 #[.agg C.arr] w (HiredPost w.heap.size w C) := by
  have HN := fun w => hide (new_good C w hv)
  have HP := fun w => hide (proper_any C w)
  rw [hv] at HP
  have HV := hide hv
  unfold Cfg.arr at HN HP ⊢
  clear hv
  go_enter Try.func8, Try.ntmps8
  go_wp2_with fail
  refine (unhide (HN _)).mono ?_
  intro e w1 hng
  obtain ⟨gb, g, wb, kn, rfl, hgb, hg, hwb, hne, hne2, hne3, hkn, q1, q2, q3, hb⟩ := hng
  obtain ⟨h1, hB1, hsz⟩ := below_new hb
  have k0 := cell_of h1 0
  have k1 := cell_of h1 1
  have k2 := cell_of h1 2
  have k3 := cell_of h1 3
  have k4 := cell_of h1 4
  have k5 := cell_of h1 5
  simp at k0 k1 k2 k3 k4 k5
  have HQ1 := hide q1
  have HQ2 := hide q2
  have HQ3 := hide q3
  have HKN := hide hkn
  have HS : Hid (w.heap.size < gb ∧ w.heap.size < g ∧ w.heap.size < wb) := by simp at hgb hg hwb; exact ⟨by omega, by omega, by omega⟩
  have HH := hide h1
  have HNE : Hid (g ≠ gb ∧ wb ≠ gb ∧ wb ≠ g) := ⟨hne, hne2, hne3⟩
  clear hb h1 q1 q2 q3 hkn hgb hg hwb hne hne2 hne3
  go_wp2_with fail
  refine (unhide (HP _)).mono ?_
  rintro e w2 ⟨rfl, hb2⟩
  have HB := hide (hB1.trans (hb2.mono (by omega)))
  have HB2 := hide hb2
  obtain ⟨b1, b2⟩ := bcell hb2
  have k0 := (b1 w.heap.size 0 hsz).trans k0
  have k1 := (b1 w.heap.size 1 hsz).trans k1
  have k2 := (b1 w.heap.size 2 hsz).trans k2
  have k3 := (b1 w.heap.size 3 hsz).trans k3
  have k4 := (b1 w.heap.size 4 hsz).trans k4
  have k5 := (b1 w.heap.size 5 hsz).trans k5
  clear hb2 b1 b2
  go_wp2
  go_ret2
  have hb2 := unhide HB2
  have hq1 := unhide HQ1
  have hq2 := unhide HQ2
  have hl1 := lt_of_heap hq1
  have hl2 := lt_of_heap hq2
  have hs2 := hb2.size
  have hsB := (unhide HB).size
  have hN := heap_alloc_new w2 (.cells (crewArr C gb (.slice none 0 0) 1) 31)
  have hBB : Below w2.heap.size w2 (w2.alloc (.cells (crewArr C gb (.slice none 0 0) 1) 31)) := (Below.refl _ _).alloc (Nat.le_refl _) _
  have hgb3 := (hBB.block gb (by omega)).trans ((hb2.block gb hl1).trans hq1)
  have hg3 := (hBB.block g (by omega)).trans ((hb2.block g hl2).trans hq2)
  have hq3 := unhide HQ3
  have hl3 := (hq3.lt wb rfl).2
  obtain ⟨hne, hne2, hne3⟩ := unhide HNE
  have hss := unhide HS
  have hval4 := ((validB_iff _ _ _ _ _ _).1 (unhide HV)).1.2
  have hval0 : 0 ≤ C.b := by have := ((validB_iff _ _ _ _ _ _).1 (unhide HV)).2.2.1.1; omega
  refine ⟨w2.heap.size, gb, fun k => if k = gb then 1 else if k = g then 2 else if k = wb then 40 else if k = w2.heap.size then 100 else 0, rest0 (.slice (some ⟨wb, 0, none⟩) kn kn) kn (memN kn), rfl, ?_, (unhide HB).alloc (by omega) _⟩
  refine ⟨⟨.slice none 0 0, hN, World.ownsRow_nil _ _ _ _, fun k hk => by simp [Value.ownBlock] at hk⟩, ?_, ⟨.slice (some ⟨g, 0, none⟩) 1 1, [⟨first, .slice none 0 0, .slice none 0 0⟩], rfl, ?_⟩, inv_first, ?_, ?_, ?_, ?_, ?_, unhide HV, wok_new C wb kn kn (unhide HKN) hval4 hval0⟩
  · show (if w2.heap.size = gb then _ else if w2.heap.size = g then _ else if w2.heap.size = wb then _ else if w2.heap.size = w2.heap.size then 100 else 0) = 100
    rw [if_neg (by omega), if_neg (by omega), if_neg (by omega), if_pos rfl]
  · refine ⟨hgb3, by simp, ?_, ?_, ?_, by simp [rest0], by simp [rest0, noneL]⟩
    rotate_left
    · exact ownsRow_of_block (ownsRow_base hq3 (Nat.zero_le _)) fun k hk => by
        have e : wb = k := by
          have h9 : some wb = some k := hk
          injection h9
        subst e
        exact (hBB.block wb (by omega)).trans (hb2.block wb hl3)
    · intro k hk
      have e : wb = k := by
        have h9 : some wb = some k := hk
        injection h9
      subst e
      show (if wb = gb then _ else if wb = g then _ else if wb = wb then 40 else _) = 40
      rw [if_neg hne2, if_neg hne3, if_pos rfl]
    have one : ∀ (i : Nat) (s : Cs), [(⟨first, .slice none 0 0, .slice none 0 0⟩ : Cs)][i]? = some s → i = 0 ∧ s = ⟨first, .slice none 0 0, .slice none 0 0⟩ := by
      intro i s h
      match i, h with
      | 0, h => simp at h; exact ⟨rfl, h.symm⟩
      | i + 1, h => simp at h
    refine ⟨⟨rfl, .inr ⟨g, 1, _, rfl, Nat.zero_le _, hg3, Nat.le_refl _, by unfold maxLen; omega, rfl, rfl⟩⟩, ?_, ?_, ?_, ?_, ?_⟩
    · intro k hk
      simp [Value.ownBlock] at hk
      subst hk
      show (if g = gb then _ else if g = g then 2 else _) = 2
      rw [if_neg hne, if_pos rfl]
    · intro i s hi; obtain ⟨_, rfl⟩ := one i s hi; exact World.ownsRow_nil _ _ _ _
    · intro i s hi k hk; obtain ⟨_, rfl⟩ := one i s hi; simp [Value.ownBlock] at hk
    · intro i s hi; obtain ⟨_, rfl⟩ := one i s hi; exact World.ownsRow_nil _ _ _ _
    · intro i s hi k hk; obtain ⟨_, rfl⟩ := one i s hi; simp [Value.ownBlock] at hk
  · intro k hk
    have hk' : w2.heap.size + 1 ≤ k := by simpa using hk
    show (if k = gb then _ else if k = g then _ else if k = wb then _ else if k = w2.heap.size then _ else 0) = 0
    rw [if_neg (by omega), if_neg (by omega), if_neg (by omega), if_neg (by omega)]
  · refine ⟨?_, fun k o hx => by cases hx⟩
    intro k hk
    by_cases e1 : k = gb
    · omega
    · by_cases e2 : k = g
      · omega
      · by_cases e4 : k = wb
        · omega
        · by_cases e3 : k = w2.heap.size
          · omega
          · exact absurd (by show (if k = gb then 1 else if k = g then 2 else if k = wb then 40 else if k = w2.heap.size then 100 else 0) = 0; rw [if_neg e1, if_neg e2, if_neg e4, if_neg e3]) hk
  · intro k s hk
    match k, hk with
    | 0, hk => simp at hk; subst hk; rfl
    | k + 1, hk => simp at hk
  · rfl
  · exact entOk_nil

end Go.Proofs.Ytpnkmnmchdabkaa
