import Derived.Test.YtpnkmnmchdabkaaGreatLawP
namespace Go.Proofs.YtpnkmnmchdabkaaGreat
open Go.RowKit
attribute [local go_sem ↓] Go.wp_at_zero Go.wp_at_succ

theorem infoSP : (Tryz.prog.info? 44).map (fun i => (i.zero, i.size, i.bytes)) = some (some (.pointer none), 1, 8) := by kernel_rfl

/-- A script in memory. -/
def IsOps (w : World) (a0 : Option Addr) (len : Nat) (os : List Opn) : Prop :=
  os.length = len ∧ ∀ (i : Nat) (o : Opn), os[i]? = some o → o.s.size ≤ maxLen ∧ ∃ ab ao, a0 = some ⟨ab, ao, none⟩ ∧ ab < w.heap.size ∧
    w.cell? ⟨ab, ao + i * 6, none⟩ = some (.int .i64 o.k) ∧ w.cell? ⟨ab, ao + i * 6 + 1, none⟩ = some (.int .i64 o.a) ∧ w.cell? ⟨ab, ao + i * 6 + 2, none⟩ = some (.int .i64 o.b) ∧
    w.cell? ⟨ab, ao + i * 6 + 3, none⟩ = some (.string o.s) ∧ w.cell? ⟨ab, ao + i * 6 + 4, none⟩ = some (.bool o.lost) ∧ w.cell? ⟨ab, ao + i * 6 + 5, none⟩ = some (.bool o.wh)

theorem St.kept {w0 w : World} {K : Nat → Prop} {wb sb gb yb : Nat} {C : Cfg} {sdv : Value} {N : Nat} (h : St w0 K wb sb gb yb C sdv N w) :
    Calls Tryz.prog 11 #[.pointer (some ⟨wb, 0, none⟩)] w fun e w' => e = .returned (.bool true) ∧ St w0 K wb sb gb yb C sdv N w' := by
  have h' := h
  obtain ⟨ρ, now, time, l, rs, P, wv, fv, last, sv, iv, hv, m1, m2, m3, Ls, Li, Lh, hL, _⟩ := h'
  refine hL.kept.mono ?_
  rintro e w' ⟨rfl, hb⟩
  exact ⟨rfl, h.below hb⟩
theorem St.asked {w0 w : World} {K : Nat → Prop} {wb sb gb yb : Nat} {C : Cfg} {sdv : Value} {N : Nat} (h : St w0 K wb sb gb yb C sdv N w) (hN : N ≤ 150000) :
    Calls Tryz.prog 12 #[.pointer (some ⟨wb, 0, none⟩), .pointer (some ⟨sb, 0, none⟩)] w fun e w' => e = .returned (.bool true) ∧ St w0 K wb sb gb yb C sdv (N + 1) w' := by
  obtain ⟨ρ, now, time, l, rs, P, wv, fv, last, sv, iv, hv, m1, m2, m3, Ls, Li, Lh, hL, hS, hf, hB0, hBb, hBs, hn1, hn2, hn3, hn4, hn5⟩ := h
  refine (shardsAre_any hL hS hf (by omega) (by omega) (by omega) (by omega) (by omega)).mono ?_
  rintro e w' ⟨rfl, ρ', last', sv', iv', m1', m2', Ls', Li', a1, a2, a3, a4, a5, a6, a7, a8⟩
  obtain ⟨b1, b2, b3⟩ := below_frame hBb hB0 hBs a8
  exact ⟨rfl, ρ', now, time, l, rs, P, wv, fv, last', sv', iv', hv, m1', m2', m3, Ls', Li', Lh, a1, a2, a3, b2, b1, b3, by omega, by omega, by omega, by omega, by omega⟩
theorem St.cell0 {w0 w : World} {K : Nat → Prop} {wb sb gb yb : Nat} {C : Cfg} {sdv : Value} {N : Nat} (h : St w0 K wb sb gb yb C sdv N w) : w.cell? ⟨wb, 0, none⟩ = some sdv := by
  obtain ⟨ρ, now, time, l, rs, P, wv, fv, last, sv, iv, hv, m1, m2, m3, Ls, Li, Lh, hL, _⟩ := h
  exact cell_of hL.blk 0
theorem St.stands {w0 w : World} {K : Nat → Prop} {wb sb gb yb : Nat} {C : Cfg} {sdv : Value} {N : Nat} (h : St w0 K wb sb gb yb C sdv N w) {b i : Nat} (hK : K b) : w.cell? ⟨b, i, none⟩ = w0.cell? ⟨b, i, none⟩ := by
  obtain ⟨ρ, now, time, l, rs, P, wv, fv, last, sv, iv, hv, m1, m2, m3, Ls, Li, Lh, _, _, _, _, hBb, hBs, _⟩ := h
  exact World.cell?_of_block (w := w0) (hBb.block b (hBs b hK) (fun q => q hK))
theorem St.lt {w0 w : World} {K : Nat → Prop} {wb sb gb yb : Nat} {C : Cfg} {sdv : Value} {N : Nat} (h : St w0 K wb sb gb yb C sdv N w) : wb < w.heap.size ∧ ∀ k, K k → k < w.heap.size := by
  obtain ⟨ρ, now, time, l, rs, P, wv, fv, last, sv, iv, hv, m1, m2, m3, Ls, Li, Lh, hL, _, _, _, hBb, hBs, _⟩ := h
  exact ⟨lt_of_heap hL.blk, fun k hk => Nat.lt_of_lt_of_le (hBs k hk) hBb.size⟩
theorem St.under {w0 w : World} {B rb wb sb gb yb : Nat} {C : Cfg} {sdv : Value} {N : Nat} (h : St w0 (fun k => k < B ∨ k = rb) wb sb gb yb C sdv N w) : Below B w0 w := by
  obtain ⟨ρ, now, time, l, rs, P, wv, fv, last, sv, iv, hv, m1, m2, m3, Ls, Li, Lh, _, _, _, _, hBb, hBs, _⟩ := h
  exact ⟨hBb.os, hBb.tape, hBb.output, hBb.size, fun k hk => hBb.block k (hBs k (Or.inl hk)) (fun q => q (Or.inl hk))⟩

/-- Behind the first loop: one side. -/
def Ready (w : World) (C : Cfg) (sb gb yb rb cap : Nat) (wr : World) : Prop :=
  St wr (fun k => k < w.heap.size ∨ k = rb) w.heap.size sb gb yb C (.slice (some ⟨rb, 0, none⟩) 1 cap) 0 wr ∧ Below w.heap.size w wr ∧ wr.cell? ⟨rb, 0, none⟩ = some (.pointer (some ⟨sb, 0, none⟩))
def ReadyEx (w : World) (C : Cfg) (wr : World) : Prop := ∃ sb gb yb rb cap, Ready w C sb gb yb rb cap wr

set_option maxRecDepth 100000 in
set_option maxHeartbeats 8000000 in
theorem play_bad (w : World) (C : Cfg) (cb n cap : Nat) (a0 : Option Addr) (most : Int) (hcb : cb < w.heap.size) (hv : validB C.a C.l C.b C.n C.s C.t = false)
    (k0 : w.cell? ⟨cb, 0, none⟩ = some (.int .i64 C.a)) (k1 : w.cell? ⟨cb, 1, none⟩ = some (.int .i64 C.l)) (k2 : w.cell? ⟨cb, 2, none⟩ = some (.int .i64 C.b)) (k3 : w.cell? ⟨cb, 3, none⟩ = some (.int .i64 C.n)) (k4 : w.cell? ⟨cb, 4, none⟩ = some (.int .i64 C.s)) (k5 : w.cell? ⟨cb, 5, none⟩ = some (.int .i64 C.t)) :
    Calls Tryz.prog 7 #[.slice (some ⟨cb, 0, none⟩) 1 1, .slice a0 n cap, .int .i64 most] w fun e w' => e = .returned (.bool true) ∧ Below w.heap.size w w' := by
  have HN := fun w => hide (new_bad C w hv)
  have HR := fun w => hide (refNew_bad C w hv)
  unfold Cfg.arr at HN HR
  clear hv
  go_enter Tryz.func7, Tryz.ntmps7
  go_wp2
  have HB : Hid (Below w.heap.size w (w.alloc (.cells #[.slice none 0 0, .slice none 0 0, .slice none 0 0, .slice none 0 0, .slice none 0 0, .slice none 0 0, .slice none 0 0, .int .i64 0] 36))) := (Below.refl _ w).alloc (Nat.le_refl _) _
  generalize w.alloc (.cells #[.slice none 0 0, .slice none 0 0, .slice none 0 0, .slice none 0 0, .slice none 0 0, .slice none 0 0, .slice none 0 0, .int .i64 0] 36) = V at *
  go_loopw [9] (fun i wr => i = .int .i64 0 ∧ wr = V) (fun i _ => 1 - (intOf i).toNat)
  case atStart => exact ⟨rfl, rfl⟩
  case round =>
    obtain ⟨rfl, rfl⟩ := hrel
    have hwz := (unhide HB).size
    have k0 := ((unhide HB).cell (p := ⟨cb, 0, none⟩) hcb).trans k0
    have k1 := ((unhide HB).cell (p := ⟨cb, 1, none⟩) hcb).trans k1
    have k2 := ((unhide HB).cell (p := ⟨cb, 2, none⟩) hcb).trans k2
    have k3 := ((unhide HB).cell (p := ⟨cb, 3, none⟩) hcb).trans k3
    have k4 := ((unhide HB).cell (p := ⟨cb, 4, none⟩) hcb).trans k4
    have k5 := ((unhide HB).cell (p := ⟨cb, 5, none⟩) hcb).trans k5
    go_wp2_with (go_at_call 8; refine (unhide (HN _)).mono ?_; rintro e w1 ⟨rfl, hb⟩; have k0 := (hb.cell (p := ⟨cb, 0, none⟩) (by simp; omega)).trans k0; have k1 := (hb.cell (p := ⟨cb, 1, none⟩) (by simp; omega)).trans k1; have k2 := (hb.cell (p := ⟨cb, 2, none⟩) (by simp; omega)).trans k2; have k3 := (hb.cell (p := ⟨cb, 3, none⟩) (by simp; omega)).trans k3; have k4 := (hb.cell (p := ⟨cb, 4, none⟩) (by simp; omega)).trans k4; have k5 := (hb.cell (p := ⟨cb, 5, none⟩) (by simp; omega)).trans k5; have HB1 := hide hb; clear hb)
    refine (unhide (HR _)).mono ?_
    rintro e w2 ⟨rfl, hb2⟩
    have HB2 : Hid (Below w.heap.size w w2) := (unhide HB).trans (((unhide HB1).mono hwz).trans (hb2.mono (by have := (unhide HB1).size; omega)))
    clear hb2
    go_wp2
    go_ret
    exact ⟨rfl, unhide HB2⟩

end Go.Proofs.YtpnkmnmchdabkaaGreat
