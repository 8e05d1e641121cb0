import Derived.Test.YtpnkmnmchdabkaaGreatLawO
namespace Go.Proofs.YtpnkmnmchdabkaaGreat
open Go.RowKit

/-- The tags at first. -/
def tags0 (wb gb g mb yb g2 vb sb : Nat) (k : Nat) : Nat :=
  if k = wb then 300 else if k = gb then 1 else if k = g then 2 else if k = mb then 40 else if k = yb then 200 else if k = g2 then 201 else if k = vb then 204 else if k = sb then 150 else 0

theorem krows0 (w : World) (te : TypeId) (size : Nat) (pat : Int → List Value) : KRows w te size pat (.slice none 0 0) (.slice none 0 0) [] :=
  ⟨World.ownsRow_nil _ _ _ _, World.ownsRow_nil _ _ _ _, fun x hx => (by cases hx), Nat.zero_le _⟩

theorem rowWks_new (n : Nat) : rowWks (List.replicate n ⟨[], .slice none 0 0, [], .slice none 0 0⟩) = rowWk n := by
  have app : ∀ l k : List Wk, rowWks (l ++ k) = rowWks l ++ rowWks k := by
    intro l k
    induction l with
    | nil => rfl
    | cons s r ih => simp [rowWks, ih]
  induction n with
  | zero => rfl
  | succ n ih => rw [List.replicate_succ', app, ih]; rfl

theorem St.setup {W : World} {B wb gb g mb yb g2 vb vc sb rb kn yn : Nat} {C : Cfg} {sdv : Value} {base base2 : Nat}
    (b0 : W.heap[wb]? = some (.cells #[sdv, .slice none 0 0, .slice none 0 0, .slice none 0 0, .slice none 0 0, .slice none 0 0, .slice none 0 0, .int .i64 0] 36 (0, 0)))
    (b1 : W.heap[gb]? = some (.cells (grpArr C (.slice (some ⟨g, 0, none⟩) 1 1) (rest0 (.slice (some ⟨mb, 0, none⟩) kn kn) kn (memN kn))) 71 (0, 0)))
    (b2 : W.heap[g]? = some (.cells #[.int .i64 0, .int .i64 256, .bool true, .slice none 0 0, .slice none 0 0] 113 (0, 0)))
    (b3 : W.ownsRow base 162 128 (.slice (some ⟨mb, 0, none⟩) kn kn) kn (memN kn))
    (b4 : W.heap[yb]? = some (.cells (refArr C 0 (.slice (some ⟨g2, 0, none⟩) 1 1) (.slice (some ⟨vb, 0, none⟩) yn vc) (.slice none 0 0) (.slice none 0 0)) 80 (0, 0)))
    (b5 : W.heap[g2]? = some (.cells (rfCells rfirst).toArray 73 (0, 0)))
    (b6 : W.heap[sb]? = some (.cells #[.pointer (some ⟨gb, 0, none⟩), .pointer (some ⟨yb, 0, none⟩)] 46 (0, 0)))
    (b8 : W.ownsRow base2 84 2 (.slice (some ⟨vb, 0, none⟩) yn vc) yn (rowWk yn)) (hyn : yn ≤ 4)
    (o1 : B ≤ wb) (o2 : wb < gb) (o3 : wb < g) (o4 : wb < mb) (o5 : g ≠ gb) (o6 : mb ≠ gb) (o7 : mb ≠ g) (o8 : gb < g2) (o9 : g < g2) (o10 : mb < g2) (o11 : g2 < yb) (o12 : yb < vb) (o12b : vb < sb) (o13 : sb < rb) (o14 : rb < W.heap.size) :
    St W (fun k => k < B ∨ k = rb) wb sb gb yb C sdv 0 W := by
  have hmb : ∀ k, (Value.slice (some ⟨mb, 0, none⟩) kn kn).ownBlock = some k → k = mb := fun k hk => by simp [Value.ownBlock] at hk; exact hk.symm
  have one : ∀ (i : Nat) (s : Cs), [(⟨first, .slice none 0 0, .slice none 0 0⟩ : Cs)][i]? = some s → i = 0 ∧ s = ⟨first, .slice none 0 0, .slice none 0 0⟩ := by
    intro i s h
    match i, h with
    | 0, h => simp at h; exact ⟨rfl, h.symm⟩
    | i + 1, h => simp at h
  have oner : ∀ (i : Nat) (r : Rf), [rfirst][i]? = some r → r = rfirst := by
    intro i r h
    match i, h with
    | 0, h => simp at h; exact h.symm
    | i + 1, h => simp at h
  have t0 : tags0 wb gb g mb yb g2 vb sb wb = 300 := by unfold tags0; rw [if_pos rfl]
  have t1 : tags0 wb gb g mb yb g2 vb sb gb = 1 := by unfold tags0; rw [if_neg (by omega), if_pos rfl]
  have t2 : tags0 wb gb g mb yb g2 vb sb g = 2 := by unfold tags0; rw [if_neg (by omega), if_neg o5, if_pos rfl]
  have t3 : tags0 wb gb g mb yb g2 vb sb mb = 40 := by unfold tags0; rw [if_neg (by omega), if_neg o6, if_neg o7, if_pos rfl]
  have t4 : tags0 wb gb g mb yb g2 vb sb yb = 200 := by unfold tags0; rw [if_neg (by omega), if_neg (by omega), if_neg (by omega), if_neg (by omega), if_pos rfl]
  have t5 : tags0 wb gb g mb yb g2 vb sb g2 = 201 := by unfold tags0; rw [if_neg (by omega), if_neg (by omega), if_neg (by omega), if_neg (by omega), if_neg (by omega), if_pos rfl]
  have t6 : tags0 wb gb g mb yb g2 vb sb sb = 150 := by unfold tags0; rw [if_neg (by omega), if_neg (by omega), if_neg (by omega), if_neg (by omega), if_neg (by omega), if_neg (by omega), if_neg (by omega), if_pos rfl]
  have t7 : tags0 wb gb g mb yb g2 vb sb vb = 204 := by unfold tags0; rw [if_neg (by omega), if_neg (by omega), if_neg (by omega), if_neg (by omega), if_neg (by omega), if_neg (by omega), if_pos rfl]
  have tz : ∀ k, k < wb ∨ sb < k → tags0 wb gb g mb yb g2 vb sb k = 0 := fun k hk => by unfold tags0; rw [if_neg (by omega), if_neg (by omega), if_neg (by omega), if_neg (by omega), if_neg (by omega), if_neg (by omega), if_neg (by omega), if_neg (by omega)]
  refine ⟨tags0 wb gb g mb yb g2 vb sb, rest0 (.slice (some ⟨mb, 0, none⟩) kn kn) kn (memN kn), 0, [first], [rfirst], [], ⟨.slice (some ⟨vb, 0, none⟩) yn vc, List.replicate yn ⟨[], .slice none 0 0, [], .slice none 0 0⟩, []⟩, .slice none 0 0, 0, .slice none 0 0, .slice none 0 0, .slice none 0 0, .slice none 0 0, .slice none 0 0, .slice none 0 0, [], [], [], ?_, ?_, ?_, ?_, Keeps.refl _ _, ?_, by simp, by simp, by simp, by simp, by omega⟩
  · refine ⟨b0, t0, krows0 _ _ _ _, krows0 _ _ _ _, krows0 _ _ _ _, ?_, ?_, ?_, ?_, ?_, ?_, ?_⟩
    all_goals first | (intro k hk; simp [Value.ownBlock] at hk; done) | (intro x hx; simp at hx)
  · refine ⟨b6, t6, ⟨_, [⟨first, .slice none 0 0, .slice none 0 0⟩], rfl, ⟨b1, t1, ?_, ownsRow_base b3 (Nat.zero_le _), fun k hk => by rw [hmb k hk]; exact t3, by simp [rest0], by simp [rest0, noneL]⟩⟩, ⟨_, _, ⟨b4, t4, ?_, ?_, World.ownsRow_nil _ _ _ _, ?_, ?_, ?_, ?_⟩⟩, ?_, inv_first, fun e he => (by cases he)⟩
    · refine ⟨⟨rfl, .inr ⟨g, 1, _, rfl, Nat.zero_le _, b2, Nat.le_refl _, by unfold maxLen; omega, rfl, rfl⟩⟩, ?_, ?_, ?_, ?_, ?_⟩
      · intro k hk
        simp [Value.ownBlock] at hk
        subst hk
        exact t2
      · intro i s hi; obtain ⟨_, rfl⟩ := one i s hi; exact World.ownsRow_nil _ _ _ _
      · intro i s hi k hk; obtain ⟨_, rfl⟩ := one i s hi; simp [Value.ownBlock] at hk
      · intro i s hi; obtain ⟨_, rfl⟩ := one i s hi; exact ⟨[], World.ownsRow_nil _ _ _ _⟩
      · intro i s hi k hk; obtain ⟨_, rfl⟩ := one i s hi; simp [Value.ownBlock] at hk
    · exact ⟨rfl, .inr ⟨g2, 1, _, rfl, Nat.zero_le _, b5, Nat.le_refl _, by unfold maxLen; omega, rfl, rfl⟩⟩
    · intro k hk
      simp [Value.ownBlock] at hk
      subst hk
      exact t5
    · intro k hk; simp [Value.ownBlock] at hk
    · intro i r hi; rw [oner i r hi]; exact World.ownsRow_nil _ _ _ _
    · intro i r hi k hk; rw [oner i r hi] at hk; simp [rfirst, Value.ownBlock] at hk
    · have rep : ∀ (i : Nat) (y : Wk), (List.replicate yn (⟨[], .slice none 0 0, [], .slice none 0 0⟩ : Wk))[i]? = some y → y = ⟨[], .slice none 0 0, [], .slice none 0 0⟩ := by
        intro i y hy
        exact List.eq_of_mem_replicate (List.mem_of_getElem? hy)
      refine ⟨?_, ?_, ?_, ?_, ?_, ?_, World.ownsRow_nil _ _ _ _, ?_, by simpa using hyn⟩
      · show W.ownsRow 0 _ 2 _ (List.replicate yn _).length (rowWks _)
        rw [List.length_replicate, rowWks_new]; exact ownsRow_base b8 (Nat.zero_le _)
      · intro k hk; simp [Value.ownBlock] at hk; subst hk; exact t7
      · intro i y hi; rw [rep i y hi]; exact World.ownsRow_nil _ _ _ _
      · intro i y hi k hk; rw [rep i y hi] at hk; simp [Value.ownBlock] at hk
      · intro i y hi; rw [rep i y hi]; exact World.ownsRow_nil _ _ _ _
      · intro i y hi k hk; rw [rep i y hi] at hk; simp [Value.ownBlock] at hk
      · intro k hk; simp [Value.ownBlock] at hk
    · rfl
  · intro k hk
    exact tz k (Or.inr (by omega))
  · rintro k (hk | hk)
    · exact tz k (Or.inl (by omega))
    · exact tz k (Or.inr (by omega))
  · rintro k (hk | hk)
    · have := lt_of_heap b0; omega
    · omega

end Go.Proofs.YtpnkmnmchdabkaaGreat
