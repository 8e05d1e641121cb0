import Derived.Test.YtpnkmnmchdabkaaGreatRefSince
namespace Go.Proofs.YtpnkmnmchdabkaaGreat
open Go.RowKit
attribute [local go_sem ↓] Go.wp_at_zero Go.wp_at_succ

theorem ixOf_none {hs : List Hd} {k : Int} (h : firstOf hs k = none) : ixOf hs k 0 = -1 := (ixOf_first hs k 0).1 h
theorem ixOf_some {hs : List Hd} {k : Int} {x : Hd} (h : firstOf hs k = some x) : ∃ j : Nat, hs[j]? = some x ∧ ixOf hs k 0 = (j : Int) := by
  obtain ⟨j, h1, h2⟩ := (ixOf_first hs k 0).2 x h
  exact ⟨j, h1, by rw [h2, Nat.zero_add]⟩

/-- At a later world, of which the document's part is unchanged. -/
theorem RefPost.later {w W w' : World} {ρ : Nat → Nat} {yb : Nat} {C : Cfg} {time : Int} {rs : List Rf} {P : List Pt} {wv : Wks} {fv : Value} (hf : Fits w ρ) (hb : Below w.heap.size w W) (h : RefPost W ρ yb C time rs P wv fv w') : RefPost w ρ yb C time rs P wv fv w' := by
  obtain ⟨ρ', sv', lv', a, b, c, d⟩ := h
  have hz := hb.size
  refine ⟨ρ', sv', lv', a, ⟨b.os.trans hb.os, b.tape.trans hb.tape, b.output.trans hb.output, Nat.le_trans hz b.size, fun k hk hs => (b.block k (by omega) hs).trans (hb.block k hk)⟩, ⟨fun k hk => c.1 k (by omega), fun k hk => ?_⟩, d⟩
  by_cases hlt : k < W.heap.size
  · left; rw [c.1 k hlt]; exact hf k hk
  · exact c.2 k (by omega)

/-- What Steal leaves: a worker and a shard that are there. -/
def StealPost (w : World) (ρ : Nat → Nat) (yb : Nat) (C : Cfg) (time : Int) (rs : List Rf) (P : List Pt) (wv : Wks) (fv : Value) (i : Nat) (y : Wk) (k : Nat) (r : Rf) (e : Ending) (w' : World) : Prop :=
  if (firstOf y.hs k).isSome = true then e = .returned (.int .i64 11) ∧ RefPost w ρ yb C time rs P wv fv w'
  else if (rdy (absR rs P) (dnR rs) k && !fin (absR rs P) (dnR rs) k) = false then e = .returned (.int .i64 12) ∧ RefPost w ρ yb C time rs P wv fv w'
  else e = .returned (.int .i64 0) ∧ ∃ hv', RefPost w ρ yb C time (rs.set k { r with own := i, ctr := r.ctr + 1, lep := r.lep + 1 }) P (wv.setH i y (y.hs ++ [⟨k, r.lep + 1, r.done, 0⟩]) hv') fv w'

set_option maxRecDepth 100000 in
set_option maxHeartbeats 4000000 in
theorem refSteal_any {w : World} {ρ : Nat → Nat} {yb : Nat} {C : Cfg} {time : Int} {rs : List Rf} {P : List Pt} {wv : Wks} {fv sv lv : Value} (h : RefAt w ρ yb C time rs P wv fv sv lv) (hf : Fits w ρ) (hI : Inv (absR rs P)) (hP : P.length ≤ 1000000) (i : Nat) (y : Wk) (hy : wv.l[i]? = some y) (hl : y.hs.length ≤ 1000) (k : Nat) (r : Rf) (hr : rs[k]? = some r) (hc : 0 ≤ r.ctr ∧ r.ctr ≤ 1000000000000) (hlep : 0 ≤ r.lep ∧ r.lep ≤ 1000000000000) :
    Calls Tryz.prog 64 #[.pointer (some ⟨yb, 0, none⟩), .int .i64 i, .int .i64 k] w (StealPost w ρ yb C time rs P wv fv i y k r) := by
  have hi := (List.getElem?_eq_some_iff.1 hy).1
  have hk := (List.getElem?_eq_some_iff.1 hr).1
  obtain ⟨vb, vc, hv, _⟩ := h.wk.shape hy
  have c8 : w.cell? ⟨yb, 8, none⟩ = some wv.v := cell_of h.blk 8
  rw [hv] at c8
  obtain ⟨sb, cap, rfl, _⟩ := h.shards (by omega)
  have c7 : w.cell? ⟨yb, 7, none⟩ = some (.slice (some ⟨sb, 0, none⟩) rs.length cap) := cell_of h.blk 7
  have HW := hide (refWorks_any yb wv.l.length vc (some ⟨vb, 0, none⟩) i w c8)
  have HT := hide (refThere_any yb rs.length cap (some ⟨sb, 0, none⟩) k w c7)
  have HH := hide (refHold_any h i y hy hl k)
  have hd : decide (0 ≤ (i : Int) ∧ (i : Int) < (wv.l.length : Int)) = true := by simp; omega
  have hd2 : decide (0 ≤ (k : Int) ∧ (k : Int) < (rs.length : Int)) = true := by simp; omega
  rw [hd] at HW
  rw [hd2] at HT
  have HRd := hide (refFin_any h hI hP k hk)
  have HTk : Hid (∀ W, Below w.heap.size w W → Calls Tryz.prog 94 #[.pointer (some ⟨yb, 0, none⟩), .int .i64 i, .int .i64 k] W fun e w' => e = .returned (.tuple #[]) ∧ ∃ hv', RefPost w ρ yb C time (rs.set k { r with own := i, ctr := r.ctr + 1, lep := r.lep + 1 }) P (wv.setH i y (y.hs ++ [⟨k, r.lep + 1, r.done, 0⟩]) hv') fv w') := fun W hb => by
    refine (refTakes_any (h.keeps (Keeps.of_below hb) (fun _ hk => Or.inr hk) (ρ' := ρ) (fun _ _ => rfl)) (fun q hq => hf q (by have := hb.size; omega)) i y hy hl k r hr hc hlep).mono ?_
    rintro e w' ⟨rfl, hv', hp⟩
    exact ⟨rfl, hv', RefPost.later hf hb hp⟩
  have HS : Hid (∀ W, Below w.heap.size w W → RefPost w ρ yb C time rs P wv fv W) := fun W hb => RefPost.below h hf hb
  clear h hf hI hd hd2 hv hc hlep
  cases hfi : firstOf y.hs (k : Int) with
  | some x =>
    obtain ⟨j, hj, hix⟩ := ixOf_some hfi
    have HP : Hid (∀ e W, e = .returned (.int .i64 11) ∧ RefPost w ρ yb C time rs P wv fv W → StealPost w ρ yb C time rs P wv fv i y k r e W) := fun e W q => by unfold StealPost; rw [hfi, if_pos (by simp)]; exact q
    rw [hix] at HH
    have hj0 : (0 : Int) ≤ (j : Int) := Int.natCast_nonneg _
    clear hfi hix hj
    go_enter Tryz.func64, Tryz.ntmps64
    go_wp2_with (first | (go_at_call 79; refine (unhide HW).mono ?_; rintro e w1 ⟨rfl, rfl⟩) | (go_at_call 49; refine (unhide HT).mono ?_; rintro e w1 ⟨rfl, rfl⟩) | (go_at_call 80; refine (unhide HH).mono ?_; rintro e w1 ⟨rfl, rfl⟩))
    go_ret
    exact unhide HP _ _ ⟨rfl, unhide HS _ (Below.refl _ _)⟩
  | none =>
    have hix := ixOf_none hfi
    rw [hix] at HH
    have HP : Hid (∀ e W, (if (rdy (absR rs P) (dnR rs) k && !fin (absR rs P) (dnR rs) k) = false then e = .returned (.int .i64 12) ∧ RefPost w ρ yb C time rs P wv fv W else e = .returned (.int .i64 0) ∧ ∃ hv', RefPost w ρ yb C time (rs.set k { r with own := i, ctr := r.ctr + 1, lep := r.lep + 1 }) P (wv.setH i y (y.hs ++ [⟨k, r.lep + 1, r.done, 0⟩]) hv') fv W) → StealPost w ρ yb C time rs P wv fv i y k r e W) := fun e W q => by unfold StealPost; rw [hfi, if_neg (by simp)]; exact q
    clear hfi hix
    generalize rdy (absR rs P) (dnR rs) k = b1 at *
    generalize fin (absR rs P) (dnR rs) k = b2 at *
    go_enter Tryz.func64, Tryz.ntmps64
    go_wp2_with (first | (go_at_call 79; refine (unhide HW).mono ?_; rintro e w1 ⟨rfl, rfl⟩) | (go_at_call 49; refine (unhide HT).mono ?_; rintro e w1 ⟨rfl, rfl⟩) | (go_at_call 80; refine (unhide HH).mono ?_; rintro e w1 ⟨rfl, rfl⟩))
    refine ((unhide HRd).2 _ (Below.refl _ _)).mono ?_
    rintro e w1 ⟨rfl, hb1⟩
    have HB1 := hide hb1
    clear hb1
    go_wp2_with fail
    refine ((unhide HRd).1 _ (unhide HB1)).mono ?_
    rintro e w2 ⟨rfl, hb2⟩
    have HB2 : Hid (Below w.heap.size w w2) := (unhide HB1).trans (hb2.mono (unhide HB1).size)
    clear hb2
    cases b1
    · go_wp2
      go_ret
      exact unhide HP _ _ (by rw [if_pos (by simp)]; exact ⟨rfl, unhide HS _ (unhide HB2)⟩)
    · cases b2
      · go_wp2_with (go_at_call 94; refine (unhide HTk _ (unhide HB2)).mono ?_; rintro e w3 ⟨rfl, hp⟩; have HPP := hide hp; clear hp)
        go_ret
        exact unhide HP _ _ (by rw [if_neg (by simp)]; exact ⟨rfl, unhide HPP⟩)
      · go_wp2
        go_ret
        exact unhide HP _ _ (by rw [if_pos (by simp)]; exact ⟨rfl, unhide HS _ (unhide HB2)⟩)

end Go.Proofs.YtpnkmnmchdabkaaGreat
