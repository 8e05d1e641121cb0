import Derived.Test.YtpnkmnmchdabkaaStepA
namespace Go.Proofs.Ytpnkmnmchdabkaa
open Go.RowKit
attribute [local go_sem ↓] Go.wp_at_zero Go.wp_at_succ

set_option maxRecDepth 100000 in
set_option maxHeartbeats 1000000 in
theorem routed_any {N : Nat} {w : World} {ρ : Nat → Nat} {cb gb : Nat} {C : Cfg} {now : Rest} {l : List Sh} {E : List En} (h : Crew N w ρ cb gb C now l E l.length) (n : Nat) (hn : n ≤ 1000)
    (hr : ∀ x, E[n]? = some x → ∃ s, l[x.shard]? = some s ∧ acc s (hashL x.key.data.toList) = true) :
    Calls Try.prog 10 #[.pointer (some ⟨cb, 0, none⟩), .int .i64 n] w fun e w' => e = .returned (.bool true) ∧ Below w.heap.size w w' := by
  have hs := h.short
  obtain ⟨ea, ecap, _, c6, c7, c8, _, hcb, hE⟩ := crew_cells h.ent2
  by_cases hlt : n < E.length
  · obtain ⟨eb, rfl, hebl, hcell⟩ := hE (by omega)
    obtain ⟨x, hx⟩ : ∃ x, E[n]? = some x := ⟨E[n], List.getElem?_eq_getElem hlt⟩
    obtain ⟨b0, b1, b2, b3, b4⟩ := hcell n x hx
    obtain ⟨s, hs1, hs2⟩ := hr x hx
    rw [acc_iff] at hs2
    obtain ⟨so, slo, shi⟩ := hs2
    have hxl := (List.getElem?_eq_some_iff.1 hs1).1
    have hxm : x ∈ E := List.mem_of_getElem? hx
    have HH := fun w => hide (lawHash_any x.key w (h.rng x hxm).2)
    have hbox : Below w.heap.size w (w.alloc (.cells (enCells x).toArray 59)) := (Below.refl _ _).alloc (Nat.le_refl _) _
    have h1 := h.below hbox
    have HSh := hide (shards_at h1.grp h1.inv)
    have HS1 := hide hs1
    have hnew := heap_alloc_new w (.cells (enCells x).toArray 59)
    have HNW := hide hnew
    have hlen := h.inv.len
    unfold enCells at HSh HNW
    clear h h1 hbox hx hcell hE hr hs1 hnew hxm
    go_enter Try.func10, Try.ntmps10
    go_wp2_with fail
    refine (unhide HSh).mono ?_
    rintro e w2 ⟨lb, lcap, rfl, hT, hlb, hlb2, hb⟩
    obtain ⟨g1, hB2, hsz⟩ := below_new hb
    have a0 := cell_of g1 0
    have a2 := cell_of g1 2
    simp at a0 a2
    obtain ⟨t0, t1, t2, _⟩ := hT x.shard s (unhide HS1)
    rw [so] at t2
    have HB := hide hB2
    clear hb g1 hT hB2 hlb so
    go_wp2_with fail
    refine (unhide (HH _)).mono ?_
    rintro e w' ⟨rfl, rfl⟩
    go_wp2
    go_ret
    exact ⟨ret_bool (by simp), unhide HB⟩
  · have hge : (E.length : Int) ≤ n := by omega
    clear hE h hr
    go_enter Try.func10, Try.ntmps10
    go_wp2
    go_ret
    exact ⟨rfl, Below.refl _ _⟩

end Go.Proofs.Ytpnkmnmchdabkaa
