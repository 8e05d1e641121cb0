import Derived.Test.YtpnkmnmchdabkaaGreatLawL
namespace Go.Proofs.YtpnkmnmchdabkaaGreat
open Go.RowKit
attribute [local go_sem ↓] Go.wp_at_zero Go.wp_at_succ

theorem St.below {w0 w w' : World} {K : Nat → Prop} {wb sb gb yb : Nat} {C : Cfg} {sdv : Value} {N : Nat} (h : St w0 K wb sb gb yb C sdv N w) (hb : Below w.heap.size w w') : St w0 K wb sb gb yb C sdv N w' := by
  obtain ⟨ρ, now, time, l, rs, P, wv, fv, last, sv, iv, hv, m1, m2, m3, Ls, Li, Lh, hL, hS, hf, hB0, hBb, hBs, hn1, hn2, hn3, hn4, hn5⟩ := h
  exact ⟨ρ, now, time, l, rs, P, wv, fv, last, sv, iv, hv, m1, m2, m3, Ls, Li, Lh, hL.below hb, hS.keeps (Keeps.of_below hb) (fun k hk => Or.inr (Or.inr hk)) (fun _ _ => rfl), hf.below hb.size, hB0, keepsK hBb hb, hBs, by omega, by omega, by omega, by omega, hn5⟩

theorem St.mono {w0 w : World} {K : Nat → Prop} {wb sb gb yb : Nat} {C : Cfg} {sdv : Value} {N M : Nat} (h : St w0 K wb sb gb yb C sdv N w) (hM : N ≤ M) : St w0 K wb sb gb yb C sdv M w := by
  obtain ⟨ρ, now, time, l, rs, P, wv, fv, last, sv, iv, hv, m1, m2, m3, Ls, Li, Lh, hL, hS, hf, hB0, hBb, hBs, hn1, hn2, hn3, hn4, hn5⟩ := h
  exact ⟨ρ, now, time, l, rs, P, wv, fv, last, sv, iv, hv, m1, m2, m3, Ls, Li, Lh, hL, hS, hf, hB0, hBb, hBs, by omega, by omega, by omega, by omega, hn5⟩

set_option maxRecDepth 100000 in
set_option maxHeartbeats 4000000 in
theorem log_none {w0 w : World} {K : Nat → Prop} {wb sb gb yb : Nat} {C : Cfg} {sdv : Value} {N : Nat} (h : St w0 K wb sb gb yb C sdv N w) (o : Opn) (h1 : ¬ o.k = 1) (h2 : ¬ o.k = 2) (h3 : ¬ o.k = 3) (h4 : ¬ o.k = 4) (h5 : ¬ o.k = 5) :
    Calls Tryz.prog 69 #[.pointer (some ⟨wb, 0, none⟩), .pointer (some ⟨sb, 0, none⟩), .agg o.arr] w fun e w' => e = .returned (.bool true) ∧ St w0 K wb sb gb yb C sdv (N + 1) w' := by
  have HE : Hid (∀ W, Below w.heap.size w W → St w0 K wb sb gb yb C sdv (N + 1) W) := fun W hb => (h.below hb).mono (by omega)
  clear h
  obtain ⟨kk, oa, ob, os, olost, owh⟩ := o
  simp only at h1 h2 h3 h4 h5
  unfold Opn.arr
  simp only
  go_enter Tryz.func69, Tryz.ntmps69
  go_wp2
  go_ret
  exact ⟨rfl, unhide HE _ ((Below.refl _ w).alloc (Nat.le_refl _) _)⟩

set_option maxRecDepth 100000 in
set_option maxHeartbeats 4000000 in
theorem log_shards {w0 w : World} {K : Nat → Prop} {wb sb gb yb : Nat} {C : Cfg} {sdv : Value} {N : Nat} (h : St w0 K wb sb gb yb C sdv N w) (hN : N ≤ 150000) (o : Opn) (ho : o.k = 4) :
    Calls Tryz.prog 69 #[.pointer (some ⟨wb, 0, none⟩), .pointer (some ⟨sb, 0, none⟩), .agg o.arr] w fun e w' => e = .returned (.bool true) ∧ St w0 K wb sb gb yb C sdv (N + 1) w' := by
  obtain ⟨ρ, now, time, l, rs, P, wv, fv, last, sv, iv, hv, m1, m2, m3, Ls, Li, Lh, hL, hS, hf, hB0, hBb, hBs, hn1, hn2, hn3, hn4, hn5⟩ := h
  have HA : Hid (∀ W, Below w.heap.size w W → Calls Tryz.prog 12 #[.pointer (some ⟨wb, 0, none⟩), .pointer (some ⟨sb, 0, none⟩)] W fun e w' => e = .returned (.bool true) ∧ St w0 K wb sb gb yb C sdv (N + 1) w') := fun W hb => by
    refine (shardsAre_any (hL.below hb) (hS.keeps (Keeps.of_below hb) (fun k hk => Or.inr (Or.inr hk)) (fun _ _ => rfl)) (hf.below hb.size) (by omega) (by omega) (by omega) (by omega) (by omega)).mono ?_
    rintro e w' ⟨rfl, ρ', last', sv', iv', m1', m2', Ls', Li', a1, a2, a3, a4, a5, a6, a7, a8⟩
    obtain ⟨b1, b2, b3⟩ := below_frame (keepsK hBb hb) hB0 hBs a8
    exact ⟨rfl, ρ', now, time, l, rs, P, wv, fv, last', sv', iv', hv, m1', m2', m3, Ls', Li', Lh, a1, a2, a3, b2, b1, b3, by omega, by omega, by omega, by omega, by omega⟩
  clear hL hS hf hB0 hBb hBs hn1 hn2 hn3 hn4 hn5
  obtain ⟨kk, oa, ob, os, olost, owh⟩ := o
  simp only at ho
  subst ho
  unfold Opn.arr
  simp only
  go_enter Tryz.func69, Tryz.ntmps69
  go_wp2_with (go_at_call 12; refine (unhide HA _ ((Below.refl _ w).alloc (Nat.le_refl _) _)).mono ?_; rintro e w' ⟨rfl, hp⟩; have HP := hide hp; clear hp)
  go_ret
  exact ⟨rfl, unhide HP⟩

set_option maxRecDepth 100000 in
set_option maxHeartbeats 4000000 in
theorem log_tick {w0 w : World} {K : Nat → Prop} {wb sb gb yb : Nat} {C : Cfg} {sdv : Value} {N : Nat} (h : St w0 K wb sb gb yb C sdv N w) (o : Opn) (ho : o.k = 5) :
    Calls Tryz.prog 69 #[.pointer (some ⟨wb, 0, none⟩), .pointer (some ⟨sb, 0, none⟩), .agg o.arr] w fun e w' => e = .returned (.bool true) ∧ St w0 K wb sb gb yb C sdv (N + 1) w' := by
  obtain ⟨ρ, now, time, l, rs, P, wv, fv, last, sv, iv, hv, m1, m2, m3, Ls, Li, Lh, hL, hS, hf, hB0, hBb, hBs, hn1, hn2, hn3, hn4, hn5⟩ := h
  have hsl := lt_of_heap hS.blk
  have s0 : w.cell? ⟨sb, 0, none⟩ = some (.pointer (some ⟨gb, 0, none⟩)) := cell_of hS.blk 0
  have hI := hS.inv
  have HP : Hid (∀ W, Below w.heap.size w W → Calls Tryz.prog 104 #[.pointer (some ⟨gb, 0, none⟩)] W fun e w' => e = .returned (.tuple #[]) ∧ GrpPost W ρ gb C { now with t := wrap64 (now.t + 1) } l w') := fun W hb =>
    gTick_any W ρ gb C now l (hS.keeps (Keeps.of_below hb) (fun k hk => Or.inr (Or.inr hk)) (fun _ _ => rfl)).grp (hf.below hb.size) hI
  have HR : Hid (∀ (W : World) (ρ2 : Nat → Nat), (∃ sv lv, RefAt W ρ2 yb C time rs P wv fv sv lv) → Fits W ρ2 → Calls Tryz.prog 105 #[.pointer (some ⟨yb, 0, none⟩)] W fun e w' => e = .returned (.tuple #[]) ∧ RefPost W ρ2 yb C (wrap64 (time + 1)) rs P wv fv w') := fun W ρ2 ⟨sv, lv, R⟩ hf2 => refTick_any R hf2
  have HM : Hid (∀ W w2, Below w.heap.size w W → GrpPost W ρ gb C { now with t := wrap64 (now.t + 1) } l w2 → ∃ ρ', Mid w2 ρ' wb sdv last sv iv hv m1 m2 m3 Ls Li Lh sb gb yb C { now with t := wrap64 (now.t + 1) } l time rs P wv fv ∧ Frame w ρ w2 ρ' ∧ ∀ k, w.heap.size ≤ k → k < W.heap.size → ρ' k = 0) := fun W w2 hb hp => toMid hL hS hf hb hp
  have HE : Hid (∀ w', (∃ ρ' now2 time2 l2 rs2 P2, LawAt w' ρ' wb sdv last sv iv hv m1 m2 m3 Ls Li Lh ∧ Side w' ρ' sb gb yb C now2 time2 l2 rs2 P2 wv fv ∧ Fits w' ρ' ∧ Frame w ρ w' ρ' ∧ P2.length ≤ P.length + 1) → St w0 K wb sb gb yb C sdv (N + 1) w') := by
    rintro w' ⟨ρ', now2, time2, l2, rs2, P2, a1, a2, a3, a4, a5⟩
    obtain ⟨b1, b2, b3⟩ := below_frame hBb hB0 hBs a4
    exact ⟨ρ', now2, time2, l2, rs2, P2, wv, fv, last, sv, iv, hv, m1, m2, m3, Ls, Li, Lh, a1, a2, a3, b2, b1, b3, by omega, by omega, by omega, by omega, hn5⟩
  have HI := hide hI
  have HSa := hide hS.same
  have HPi := hide hS.pin
  clear hL hS hf hB0 hBb hBs hn1 hn2 hn3 hn4 hn5 hI
  obtain ⟨kk, oa, ob, os, olost, owh⟩ := o
  simp only at ho
  subst ho
  unfold Opn.arr
  simp only
  go_enter Tryz.func69, Tryz.ntmps69
  go_wp2_with (go_at_call 104; refine (unhide HP _ ((Below.refl _ w).alloc (Nat.le_refl _) _)).mono ?_; rintro e w2 ⟨rfl, hpost⟩; obtain ⟨ρ2, hmid, hfr, hz⟩ := unhide HM _ _ ((Below.refl _ w).alloc (Nat.le_refl _) _) hpost; have v1 : w2.cell? ⟨sb, 1, none⟩ = some (.pointer (some ⟨yb, 0, none⟩)) := cell_of hmid.blk 1; have HMid := hide hmid; have HFr := hide hfr; clear hmid hfr hz hpost)
  refine (unhide HR _ ρ2 (unhide HMid).ref (unhide HMid).fits).mono ?_
  rintro e w3 ⟨rfl, hpost⟩
  have HEnd : Hid (St w0 K wb sb gb yb C sdv (N + 1) w3) := by
    obtain ⟨ρ3, a1, a2, a3, a4⟩ := fromMid (unhide HMid) (Below.refl _ _) hpost (unhide HSa) (unhide HI) (unhide HPi)
    exact unhide HE w3 ⟨ρ3, _, _, _, _, _, a1, a2, a3, (unhide HFr).trans a4, by omega⟩
  clear hpost
  go_wp2
  go_ret
  exact ⟨rfl, unhide HEnd⟩

end Go.Proofs.YtpnkmnmchdabkaaGreat
