import Derived.Test.YtpnkmnmchdabkaaGreatLawU
namespace Go.Proofs.YtpnkmnmchdabkaaGreat
open Go.RowKit
attribute [local go_sem ↓] Go.wp_at_zero Go.wp_at_succ

/-- The law's state, what both groups are named. -/
def StX (w0 : World) (K : Nat → Prop) (wb sb gb yb : Nat) (C : Cfg) (sdv : Value) (N : Nat) (now : Rest) (time : Int) (l : List Sh) (rs : List Rf) (P : List Pt) (wv : Wks) (fv : Value) (w : World) : Prop :=
  ∃ ρ last sv iv hv m1 m2 m3 Ls Li Lh, LawAt w ρ wb sdv last sv iv hv m1 m2 m3 Ls Li Lh ∧ Side w ρ sb gb yb C now time l rs P wv fv ∧ Fits w ρ ∧ (∀ k, K k → ρ k = 0) ∧ Keeps (fun k => ¬ K k) w0 w ∧ (∀ k, K k → k < w0.heap.size) ∧ P.length ≤ N ∧ Li.length ≤ 64 * N ∧ Ls.length ≤ 4 * N ∧ -(17 * (N : Int)) ≤ last ∧ last ≤ 0 ∧ Rel C now time rs wv (N : Int) ∧ Lh.length ≤ 4 * N
theorem St.x {w0 w : World} {K : Nat → Prop} {wb sb gb yb : Nat} {C : Cfg} {sdv : Value} {N : Nat} (h : St w0 K wb sb gb yb C sdv N w) : ∃ now time l rs P wv fv, StX w0 K wb sb gb yb C sdv N now time l rs P wv fv w := by
  obtain ⟨ρ, now, time, l, rs, P, wv, fv, last, sv, iv, hv, m1, m2, m3, Ls, Li, Lh, r⟩ := h
  exact ⟨now, time, l, rs, P, wv, fv, ρ, last, sv, iv, hv, m1, m2, m3, Ls, Li, Lh, r⟩
theorem StX.st {w0 w : World} {K : Nat → Prop} {wb sb gb yb : Nat} {C : Cfg} {sdv : Value} {N : Nat} {now : Rest} {time : Int} {l : List Sh} {rs : List Rf} {P : List Pt} {wv : Wks} {fv : Value} (h : StX w0 K wb sb gb yb C sdv N now time l rs P wv fv w) : St w0 K wb sb gb yb C sdv N w := by
  obtain ⟨ρ, last, sv, iv, hv, m1, m2, m3, Ls, Li, Lh, r⟩ := h
  exact ⟨ρ, now, time, l, rs, P, wv, fv, last, sv, iv, hv, m1, m2, m3, Ls, Li, Lh, r⟩
theorem StX.below {w0 w w' : World} {K : Nat → Prop} {wb sb gb yb : Nat} {C : Cfg} {sdv : Value} {N : Nat} {now : Rest} {time : Int} {l : List Sh} {rs : List Rf} {P : List Pt} {wv : Wks} {fv : Value} (h : StX w0 K wb sb gb yb C sdv N now time l rs P wv fv w) (hb : Below w.heap.size w w') : StX w0 K wb sb gb yb C sdv N now time l rs P wv fv w' := by
  obtain ⟨ρ, last, sv, iv, hv, m1, m2, m3, Ls, Li, Lh, hL, hS, hf, hB0, hBb, hBs, hn1, hn2, hn3, hn4, hn5, hn6, hn7⟩ := h
  exact ⟨ρ, last, sv, iv, hv, m1, m2, m3, Ls, Li, Lh, hL.below hb, hS.keeps (Keeps.of_below hb) (fun k hk => Or.inr (Or.inr hk)) (fun _ _ => rfl), hf.below hb.size, hB0, keepsK hBb hb, hBs, hn1, hn2, hn3, hn4, hn5, hn6, hn7⟩
/-- What a walk wants of the side. -/
theorem StX.cells {w0 w : World} {K : Nat → Prop} {wb sb gb yb : Nat} {C : Cfg} {sdv : Value} {N : Nat} {now : Rest} {time : Int} {l : List Sh} {rs : List Rf} {P : List Pt} {wv : Wks} {fv : Value} (h : StX w0 K wb sb gb yb C sdv N now time l rs P wv fv w) :
    w.cell? ⟨sb, 0, none⟩ = some (.pointer (some ⟨gb, 0, none⟩)) ∧ w.cell? ⟨sb, 1, none⟩ = some (.pointer (some ⟨yb, 0, none⟩)) ∧ sb < w.heap.size ∧ yb < w.heap.size ∧ (∃ a c, w.cell? ⟨yb, 7, none⟩ = some (.slice a rs.length c)) ∧ (∃ a c, w.cell? ⟨yb, 8, none⟩ = some (.slice a wv.l.length c)) := by
  obtain ⟨ρ, last, sv, iv, hv, m1, m2, m3, Ls, Li, Lh, hL, hS, hf, hB0, hBb, hBs, hn1, hn2, hn3, hn4, hn5, hn6, hn7⟩ := h
  obtain ⟨sv2, lv, R⟩ := hS.ref
  have hrl : rs.length = l.length := by rw [← hS.same, absR_len]
  obtain ⟨sb2, cap, rfl, _⟩ := R.shards (by rw [hrl]; exact hS.inv.pos)
  obtain ⟨vb, vc, hv'⟩ := R.wk.slice (by rw [← hn6.nl]; exact hn6.n1)
  refine ⟨cell_of hS.blk 0, cell_of hS.blk 1, lt_of_heap hS.blk, lt_of_heap R.blk, ⟨_, _, cell_of R.blk 7⟩, ⟨some ⟨vb, 0, none⟩, vc, ?_⟩⟩
  rw [← hv']
  exact cell_of R.blk 8

theorem ask_any {w0 w : World} {K : Nat → Prop} {wb sb gb yb : Nat} {C : Cfg} {sdv : Value} {N : Nat} (h : St w0 K wb sb gb yb C sdv N w) (o : Opn) (ho : o.k = 10) :
    Calls Tryz.prog 30 #[.pointer (some ⟨wb, 0, none⟩), .pointer (some ⟨sb, 0, none⟩), .agg o.arr] w fun e w' => e = .returned (.bool true) ∧ Below w.heap.size w w' := by
  obtain ⟨now, time, l, rs, P, wv, fv, hX⟩ := h.x
  obtain ⟨s0, s1, hsl, _⟩ := hX.cells
  obtain ⟨ρ, last, sv, iv, hv, m1, m2, m3, Ls, Li, Lh, hL, hS, hf, hB0, hBb, hBs, hn1, hn2, hn3, hn4, hn5, hn6, hn7⟩ := hX
  obtain ⟨gv, m, g, cap, Q, he, hGS, hw, hlen, hW, hmQ⟩ := hn6.gs hS.grp hf hS.inv
  have hI := hS.inv
  have hml : m.length = l.length := by rw [← he]; simp
  have hrl : rs.length = l.length := by rw [← hS.same, absR_len]
  have h0 : 0 < m.length := by have := hI.pos; omega
  have hr16 := hI.len
  have href : ∀ W, Below w.heap.size w W → ∃ sv lv, RefAt W ρ yb C time rs P wv fv sv lv := fun W hb => (hS.keeps (Keeps.of_below hb) (fun k hk => Or.inr (Or.inr hk)) (fun _ _ => rfl)).ref
  by_cases hk : 0 ≤ o.a ∧ o.a < m.length
  · obtain ⟨k, hka⟩ : ∃ k : Nat, o.a = (k : Int) := ⟨o.a.toNat, by omega⟩
    have hkm : k < m.length := by omega
    have hx : rs[k]? = some (rs[k]'(by omega)) := List.getElem?_eq_getElem _
    generalize rs[k]'(by omega) = x at hx
    have hls := hn6.ls.2 k (by omega)
    have hle : leOf rs k = ⟨x.own, x.ctr, x.lep⟩ := by unfold leOf; rw [hx]
    rw [hle] at hls
    refine lease_ask o ho x.own x.ctr x.lep 0 s0 s1 hsl (fun W hb => ?_) (fun W hb => ?_)
    · rw [hka]
      exact gLease_any (hGS.below hb).1 h0 k hkm _ hls
    · obtain ⟨sv2, lv2, R⟩ := href W hb
      exact (refLease_any R (by omega) o.a).1 k x hka hx
  · refine lease_ask o ho 0 0 0 5 s0 s1 hsl (fun W hb => ?_) (fun W hb => ?_)
    · exact gLease_none (hGS.below hb).1 h0 o.a hk
    · obtain ⟨sv2, lv2, R⟩ := href W hb
      exact (refLease_any R (by omega) o.a).2 (by rw [hrl, ← hml]; exact hk)

theorem holds_x {w0 w : World} {K : Nat → Prop} {wb sb gb yb : Nat} {C : Cfg} {sdv : Value} {N : Nat} {now : Rest} {time : Int} {l : List Sh} {rs : List Rf} {P : List Pt} {wv : Wks} {fv : Value} (h : StX w0 K wb sb gb yb C sdv N now time l rs P wv fv w) (hN : N ≤ 150000) (n : Int) :
    Calls Tryz.prog 35 #[.pointer (some ⟨wb, 0, none⟩), .pointer (some ⟨sb, 0, none⟩), .int .i64 n] w fun e w' => e = .returned (.bool true) ∧ StX w0 K wb sb gb yb C sdv (N + 1) now time l rs P wv fv w' := by
  obtain ⟨ρ, last, sv, iv, hv, m1, m2, m3, Ls, Li, Lh, hL, hS, hf, hB0, hBb, hBs, hn1, hn2, hn3, hn4, hn5, hn6, hn7⟩ := h
  obtain ⟨gv, m, g, cap, Q, he, hGS, hw, hlen, hW, hmQ⟩ := hn6.gs hS.grp hf hS.inv
  have hI := hS.inv
  have hrl : rs.length = l.length := by rw [← hS.same, absR_len]
  have hr16 := hI.len
  have hpos := hI.pos
  have href : ∀ W, Below w.heap.size w W → ∃ sv lv, RefAt W ρ yb C time rs P wv fv sv lv := fun W hb => (hS.keeps (Keeps.of_below hb) (fun k hk => Or.inr (Or.inr hk)) (fun _ _ => rfl)).ref
  have fin : ∀ e w', AskPostH w ρ wb sdv last sv iv m1 m2 Ls Li Lh e w' → e = .returned (.bool true) ∧ StX w0 K wb sb gb yb C sdv (N + 1) now time l rs P wv fv w' := by
    rintro e w' ⟨rfl, ρ', hv', m3', Lh', a1, a2, a3, a4, a5⟩
    have hF : Frame w ρ w' ρ' := ⟨a5.mono (fun q hq hs => by rcases hs with hs | hs; unfold laws at hs; omega; omega), fun k hk h0 => by rw [a4 k hk]; exact h0⟩
    obtain ⟨b1, b2, b3⟩ := below_frame hBb hB0 hBs hF
    exact ⟨rfl, ρ', _, sv, iv, hv', m1, m2, m3', Ls, Li, Lh', a1, hS.keeps a5 (fun q hq => by rcases hq with hq | hq; exact Or.inr (Or.inl hq); exact Or.inr (Or.inr hq)) a4, a2, b2, b1, b3, by omega, by omega, by omega, by omega, by omega, hn6.mono (by omega), by omega⟩
  by_cases hi : 0 ≤ n ∧ n < now.n
  · obtain ⟨i, hia⟩ : ∃ i : Nat, n = (i : Int) := ⟨n.toNat, by omega⟩
    have hin : i < now.n := by omega
    have hnl := hn6.nl
    have hy : wv.l[i]? = some (wv.l[i]'(by omega)) := List.getElem?_eq_getElem _
    generalize wv.l[i]'(by omega) = y at hy
    have hWi := hW i y hy
    have hbs : heldOf Q i 16 = byShard y.hs rs.length := by rw [hWi.rel.held 16 (Nat.le_refl _), byShard_more hWi.hs 16 (by omega)]
    refine (holdsAre_any hL hf hS.blk (by omega) hn5 (by omega) n (byShard y.hs rs.length) 0 (by have := byShard_le y.hs rs.length; omega) (fun W hb => ?_) (fun W hb => ?_)).mono fin
    · rw [hia, ← hbs]
      exact gHolds_any (hGS.below hb).1 i hin
    · obtain ⟨sv2, lv2, R⟩ := href W hb
      rw [hia]
      exact refHolds_any R (by omega) (by omega) i y hy (by have := hWi.hs.le; omega)
  · refine (holdsAre_any hL hf hS.blk (by omega) hn5 (by omega) n [] 9 (by simp) (fun W hb => ?_) (fun W hb => ?_)).mono fin
    · exact (gHolds_none (hGS.below hb).1 n hi).mono fun e w' q => ⟨.slice none 0 0, q.1, World.ownsRow_nil _ _ _ _, by rw [← q.2]; exact Below.refl _ _⟩
    · obtain ⟨sv2, lv2, R⟩ := href W hb
      exact (refHolds_none R (by rw [← hn6.nl]; exact hn6.n1) n (by rw [← hn6.nl]; exact hi)).mono fun e w' q => ⟨.slice none 0 0, q.1, World.ownsRow_nil _ _ _ _, by rw [← q.2]; exact Below.refl _ _⟩

set_option maxRecDepth 100000 in
set_option maxHeartbeats 4000000 in
theorem lease_11 {w0 w : World} {K : Nat → Prop} {wb sb gb yb : Nat} {C : Cfg} {sdv : Value} {N : Nat} (h : St w0 K wb sb gb yb C sdv N w) (hN : N ≤ 150000) (o : Opn) (ho : o.k = 11) :
    Calls Tryz.prog 30 #[.pointer (some ⟨wb, 0, none⟩), .pointer (some ⟨sb, 0, none⟩), .agg o.arr] w fun e w' => e = .returned (.bool true) ∧ St w0 K wb sb gb yb C sdv (N + 1) w' := by
  have HA : Hid (∀ W, Below w.heap.size w W → Calls Tryz.prog 35 #[.pointer (some ⟨wb, 0, none⟩), .pointer (some ⟨sb, 0, none⟩), .int .i64 o.a] W fun e w' => e = .returned (.bool true) ∧ St w0 K wb sb gb yb C sdv (N + 1) w') := fun W hb => by
    obtain ⟨now, time, l, rs, P, wv, fv, hX⟩ := (h.below hb).x
    exact (holds_x hX hN o.a).mono fun e w' q => ⟨q.1, q.2.st⟩
  clear h
  obtain ⟨kk, oa, ob, os, olost, owh⟩ := o
  simp only at ho
  subst ho
  unfold Opn.arr
  simp only at HA ⊢
  go_enter Tryz.func30, Tryz.ntmps30
  go_wp2_with (go_at_call 35; refine (unhide HA _ ((Below.refl _ w).alloc (Nat.le_refl _) _)).mono ?_; rintro e w' ⟨rfl, hp⟩; have HP := hide hp; clear hp)
  go_ret
  exact ⟨rfl, unhide HP⟩

theorem lease_any {w0 w : World} {K : Nat → Prop} {wb sb gb yb : Nat} {C : Cfg} {sdv : Value} {N : Nat} (h : St w0 K wb sb gb yb C sdv N w) (hN : N ≤ 150000) (o : Opn) (hs : o.s.size ≤ maxLen) (hk : o.k ≤ 11) :
    Calls Tryz.prog 30 #[.pointer (some ⟨wb, 0, none⟩), .pointer (some ⟨sb, 0, none⟩), .agg o.arr] w fun e w' => e = .returned (.bool true) ∧ St w0 K wb sb gb yb C sdv (N + 1) w' := by
  by_cases h6 : o.k = 6
  · exact lease_6 h hN o h6
  by_cases h7 : o.k = 7
  · exact lease_7 h hN o h7
  by_cases h8 : o.k = 8
  · exact lease_8 h hN o h8
  by_cases h9 : o.k = 9
  · exact lease_9 h o h9
  by_cases h10 : o.k = 10
  · exact (ask_any h o h10).mono fun e w' q => ⟨q.1, (h.below q.2).mono (by omega)⟩
  by_cases h11 : o.k = 11
  · exact lease_11 h hN o h11
  exact lease_log h hN o hs (by omega)

end Go.Proofs.YtpnkmnmchdabkaaGreat
namespace Go.Proofs.YtpnkmnmchdabkaaGreat
open Go.RowKit
attribute [local go_sem ↓] Go.wp_at_zero Go.wp_at_succ

set_option maxRecDepth 100000 in
set_option maxHeartbeats 4000000 in
/-- step, where the step is none of the folding: what lease leaves. -/
theorem step_of {w : World} {wb sb : Nat} {Q : World → Prop} (o : Opn) (hk : o.k ≤ 11)
    (HL : ∀ W, Below w.heap.size w W → Calls Tryz.prog 30 #[.pointer (some ⟨wb, 0, none⟩), .pointer (some ⟨sb, 0, none⟩), .agg o.arr] W fun e w' => e = .returned (.bool true) ∧ Q w') :
    Calls Tryz.prog 10 #[.pointer (some ⟨wb, 0, none⟩), .pointer (some ⟨sb, 0, none⟩), .agg o.arr] w fun e w' => e = .returned (.bool true) ∧ Q w' := by
  have HL := hide HL
  obtain ⟨kk, oa, ob, os, olost, owh⟩ := o
  simp only at hk
  unfold Opn.arr at HL ⊢
  simp only at HL ⊢
  have e6 : ¬ kk = 12 := by omega
  have e7 : ¬ kk = 13 := by omega
  have e8 : ¬ kk = 14 := by omega
  have e9 : ¬ kk = 15 := by omega
  have e10 : ¬ kk = 16 := by omega
  clear hk
  go_enter Tryz.func10, Tryz.ntmps10
  go_wp2_with (go_at_call 30; refine (unhide HL _ ((Below.refl _ w).alloc (Nat.le_refl _) _)).mono ?_; rintro e w' ⟨rfl, hp⟩; have HP := hide hp; clear hp)
  go_ret
  exact ⟨rfl, unhide HP⟩

theorem step_any {w0 w : World} {K : Nat → Prop} {wb sb gb yb : Nat} {C : Cfg} {sdv : Value} {N : Nat} (h : St w0 K wb sb gb yb C sdv N w) (hN : N ≤ 150000) (o : Opn) (hs : o.s.size ≤ maxLen) (hk : o.k ≤ 11) :
    Calls Tryz.prog 10 #[.pointer (some ⟨wb, 0, none⟩), .pointer (some ⟨sb, 0, none⟩), .agg o.arr] w fun e w' => e = .returned (.bool true) ∧ St w0 K wb sb gb yb C sdv (N + 1) w' :=
  step_of o hk fun _ hb => lease_any (h.below hb) hN o hs hk
theorem step_ask {w0 w : World} {K : Nat → Prop} {wb sb gb yb : Nat} {C : Cfg} {sdv : Value} {N : Nat} (h : St w0 K wb sb gb yb C sdv N w) (o : Opn) (ho : o.k = 10) :
    Calls Tryz.prog 10 #[.pointer (some ⟨wb, 0, none⟩), .pointer (some ⟨sb, 0, none⟩), .agg o.arr] w fun e w' => e = .returned (.bool true) ∧ Below w.heap.size w w' :=
  step_of o (by omega) fun _ hb => (ask_any (h.below hb) o ho).mono fun _ _ q => ⟨q.1, hb.trans (q.2.mono hb.size)⟩

set_option maxRecDepth 100000 in
set_option maxHeartbeats 4000000 in
theorem leased_any {w0 w : World} {K : Nat → Prop} {wb sb gb yb : Nat} {C : Cfg} {sdv : Value} {N : Nat} (h : St w0 K wb sb gb yb C sdv N w) (hN : N ≤ 149900) :
    Calls Tryz.prog 13 #[.pointer (some ⟨wb, 0, none⟩), .pointer (some ⟨sb, 0, none⟩)] w fun e w' => e = .returned (.bool true) ∧ St w0 K wb sb gb yb C sdv (N + 4) w' := by
  obtain ⟨now, time, l, rs, P, wv, fv, hX⟩ := h.x
  have hrs : rs.length ≤ 16 ∧ wv.l.length ≤ 4 := by
    obtain ⟨ρ, last, sv, iv, hv, m1, m2, m3, Ls, Li, Lh, hL, hS, hf, hB0, hBb, hBs, hn1, hn2, hn3, hn4, hn5, hn6, hn7⟩ := hX
    have := hS.inv.len
    rw [← hS.same, absR_len] at this
    obtain ⟨sv2, lv2, R⟩ := hS.ref
    exact ⟨this, R.wk.four⟩
  have HX := hide hX
  have HQ : Hid (∀ W, Below w.heap.size w W → ∀ k : Int, Calls Tryz.prog 10 #[.pointer (some ⟨wb, 0, none⟩), .pointer (some ⟨sb, 0, none⟩), .agg #[.int .i64 10, .int .i64 k, .int .i64 0, .string ⟨#[]⟩, .bool false, .bool false]] W fun e w' => e = .returned (.bool true) ∧ Below W.heap.size W w') := fun W hb k => step_ask (h.below hb) ⟨10, k, 0, ⟨#[]⟩, false, false⟩ rfl
  obtain ⟨_, s1, hsl, hyl, ⟨a7, k7, c7⟩, _⟩ := hX.cells
  clear h hX
  go_enter Tryz.func13, Tryz.ntmps13
  go_wp2
  go_loopw [5] (fun q wr => ∃ j : Nat, j ≤ rs.length ∧ q = .int .i64 j ∧ Below w.heap.size w wr) (fun q _ => rs.length - (intOf q).toNat)
  case atStart => exact ⟨0, Nat.zero_le _, rfl, Below.refl _ _⟩
  case round =>
    obtain ⟨j, hj, rfl, hB⟩ := hrel
    have d1 := (hB.cell (p := ⟨sb, 1, none⟩) hsl).trans s1
    have d7 := (hB.cell (p := ⟨yb, 7, none⟩) hyl).trans c7
    by_cases hlt : j < rs.length
    · have HBr := hide hB
      have HC := hide (unhide HQ wr hB j)
      clear hB
      go_wp2_with fail
      refine (unhide HC).mono ?_
      rintro e w1 ⟨rfl, hb1⟩
      have HB1 := hide ((unhide HBr).trans (hb1.mono (unhide HBr).size))
      clear hb1
      go_wp2
      go_roundw
      case rel => exact ⟨j + 1, by omega, by go_num, unhide HB1⟩
      case measure => simp [intOf]; omega
    · have HXr := hide ((unhide HX).below hB)
      clear hB
      go_wp2
      go_loopw [7] (fun q wq => ∃ i : Nat, i ≤ wv.l.length ∧ q = .int .i64 i ∧ StX w0 K wb sb gb yb C sdv (N + i) now time l rs P wv fv wq) (fun q _ => wv.l.length - (intOf q).toNat)
      case atStart => exact ⟨0, Nat.zero_le _, rfl, unhide HXr⟩
      case round =>
        obtain ⟨i, hi, rfl, hXi⟩ := hrel
        obtain ⟨_, e1, _, _, _, ⟨a8, k8, e8⟩⟩ := hXi.cells
        by_cases hlt2 : i < wv.l.length
        · have HC := hide (holds_x hXi (by omega) i)
          clear hXi
          go_wp2_with fail
          refine (unhide HC).mono ?_
          rintro e w2 ⟨rfl, hX2⟩
          have HX2 := hide hX2
          clear hX2
          go_wp2
          go_roundw
          case rel => exact ⟨i + 1, by omega, by go_num, unhide HX2⟩
          case measure => simp [intOf]; omega
        · have HXi := hide (hXi.st.mono (show N + i ≤ N + 4 by omega))
          clear hXi
          go_wp2
          go_ret
          exact ⟨rfl, unhide HXi⟩

end Go.Proofs.YtpnkmnmchdabkaaGreat
