import Derived.Test.YtpnkmnmchdabkaaGreatM03
namespace Go.Proofs.YtpnkmnmchdabkaaGreat
open Go.RowKit
attribute [local go_sem ↓] Go.wp_at_zero Go.wp_at_succ

/-- A place with nothing in it. -/
def pl0 : Pl := ⟨false, ⟨0, 0, 0, 0⟩, false, 0, 0⟩
/-- The first k places of worker i are empty. -/
def forgetP (P : List Pl) (i : Nat) : Nat → List Pl
  | 0 => P
  | k + 1 => (forgetP P i k).set (i * 16 + k) pl0

theorem forgetP_len (P : List Pl) (i k : Nat) : (forgetP P i k).length = P.length := by
  induction k with
  | zero => rfl
  | succ k ih => simp [forgetP, ih]

theorem forget_chain {w : World} {g cap N : Nat} {P : List Pl} (h : PlsAt w g cap N P) {i n : Nat} {p : Pl} (hp : P[i * 16 + n]? = some p) :
    PlsAt ((((((((w.setCell ⟨g, i * 128 + n * 8, none⟩ (.bool false)).setCell ⟨g, i * 128 + n * 8 + 1, none⟩ (.int .i64 0)).setCell ⟨g, i * 128 + n * 8 + 2, none⟩ (.int .i64 0)).setCell ⟨g, i * 128 + n * 8 + 3, none⟩ (.int .i64 0)).setCell ⟨g, i * 128 + n * 8 + 4, none⟩ (.int .i64 0)).setCell ⟨g, i * 128 + n * 8 + 5, none⟩ (.bool false)).setCell ⟨g, i * 128 + n * 8 + 6, none⟩ (.int .i64 0)).setCell ⟨g, i * 128 + n * 8 + 7, none⟩ (.int .i64 0)) g cap N (P.set (i * 16 + n) pl0) ∧ Keeps (fun k => k = g) w ((((((((w.setCell ⟨g, i * 128 + n * 8, none⟩ (.bool false)).setCell ⟨g, i * 128 + n * 8 + 1, none⟩ (.int .i64 0)).setCell ⟨g, i * 128 + n * 8 + 2, none⟩ (.int .i64 0)).setCell ⟨g, i * 128 + n * 8 + 3, none⟩ (.int .i64 0)).setCell ⟨g, i * 128 + n * 8 + 4, none⟩ (.int .i64 0)).setCell ⟨g, i * 128 + n * 8 + 5, none⟩ (.bool false)).setCell ⟨g, i * 128 + n * 8 + 6, none⟩ (.int .i64 0)).setCell ⟨g, i * 128 + n * 8 + 7, none⟩ (.int .i64 0)) := by
  have s1 := h.set (j := 0) (by omega) { p with held := false } hp (.bool false) rfl
  have s2 := s1.set (j := 1) (by omega) { p with held := false, h := ⟨0, p.h.ep, p.h.at_, p.h.bf⟩ } (get_set_at hp) (.int .i64 0) rfl
  rw [set_set_at] at s2
  have s3 := s2.set (j := 2) (by omega) { p with held := false, h := ⟨0, 0, p.h.at_, p.h.bf⟩ } (get_set_at hp) (.int .i64 0) rfl
  rw [set_set_at] at s3
  have s4 := s3.set (j := 3) (by omega) { p with held := false, h := ⟨0, 0, 0, p.h.bf⟩ } (get_set_at hp) (.int .i64 0) rfl
  rw [set_set_at] at s4
  have s5 := s4.set (j := 4) (by omega) ⟨false, ⟨0, 0, 0, 0⟩, p.made, p.c, p.s⟩ (get_set_at hp) (.int .i64 0) rfl
  rw [set_set_at] at s5
  have s6 := s5.set (j := 5) (by omega) ⟨false, ⟨0, 0, 0, 0⟩, false, p.c, p.s⟩ (get_set_at hp) (.bool false) rfl
  rw [set_set_at] at s6
  have s7 := s6.set (j := 6) (by omega) ⟨false, ⟨0, 0, 0, 0⟩, false, 0, p.s⟩ (get_set_at hp) (.int .i64 0) rfl
  rw [set_set_at] at s7
  have s8 := s7.set (j := 7) (by omega) pl0 (get_set_at hp) (.int .i64 0) rfl
  rw [set_set_at] at s8
  refine ⟨s8, ?_⟩
  iterate 8 refine Keeps.setCell (S := fun k => k = g) ?_ (by exact Or.inl rfl) _
  exact Keeps.refl _ w

set_option maxRecDepth 100000 in
set_option maxHeartbeats 1000000 in
theorem plForget_any (w : World) (g cap N : Nat) (P : List Pl) (i : Nat) (hi : i < N) (h : PlsAt w g cap N P) :
    Calls Tryz.prog 96 #[.pointer (some ⟨g, i * 128, none⟩)] w fun e w' => e = .returned (.tuple #[]) ∧ PlPost w g cap N (forgetP P i 16) w' := by
  have HP := hide h
  have hlen := h.len
  clear h
  go_enter Tryz.func96, Tryz.ntmps96
  go_wp2
  go_loopw [2] (fun n wr => ∃ k : Nat, k ≤ 16 ∧ n = .int .i64 k ∧ PlPost w g cap N (forgetP P i k) wr) (fun n _ => 16 - (intOf n).toNat)
  case atStart => exact ⟨0, by omega, rfl, unhide HP, Keeps.refl _ w⟩
  case round =>
    obtain ⟨k, hk, rfl, q1, q2⟩ := hrel
    by_cases hlt : k < 16
    · have hl : i * 16 + k < (forgetP P i k).length := by rw [forgetP_len]; omega
      have hp := List.getElem?_eq_getElem hl
      generalize (forgetP P i k)[i * 16 + k] = p at hp
      have HC := hide (forget_chain q1 hp)
      obtain ⟨hll, a0, a1, a2, a3, a4, a5, a6, a7, fr⟩ := q1.place hp
      have b2 : wr.cell? ⟨g, i * 128 + k * 8 + 2, none⟩ = some (.int .i64 p.h.ep) := a2
      have b3 : wr.cell? ⟨g, i * 128 + k * 8 + 3, none⟩ = some (.int .i64 p.h.at_) := a3
      have b4 : wr.cell? ⟨g, i * 128 + k * 8 + 4, none⟩ = some (.int .i64 p.h.bf) := a4
      have b6 : wr.cell? ⟨g, i * 128 + k * 8 + 6, none⟩ = some (.int .i64 p.c) := a6
      have b7 : wr.cell? ⟨g, i * 128 + k * 8 + 7, none⟩ = some (.int .i64 p.s) := a7
      have f0 := fr (i * 128 + k * 8)
      have f1 := fr (i * 128 + k * 8 + 1)
      have f2 := fr (i * 128 + k * 8 + 2)
      have f3 := fr (i * 128 + k * 8 + 3)
      have f4 := fr (i * 128 + k * 8 + 4)
      have f5 := fr (i * 128 + k * 8 + 5)
      have f6 := fr (i * 128 + k * 8 + 6)
      have f7 := fr (i * 128 + k * 8 + 7)
      have Q2 := hide q2
      clear q1 q2 hp hl fr a2 a3 a4 a6 a7
      go_wp2
      go_roundw
      case rel => exact ⟨k + 1, by omega, by go_num, (unhide HC).1, (unhide Q2).trans (unhide HC).2⟩
      case measure => simp [intOf]; omega
    · have e : k = 16 := by omega
      subst e
      have Q1 := hide q1
      have Q2 := hide q2
      clear q1 q2
      go_wp2
      go_end0
      exact ⟨rfl, unhide Q1, unhide Q2⟩
end Go.Proofs.YtpnkmnmchdabkaaGreat
namespace Go.Proofs.YtpnkmnmchdabkaaGreat
open Go.RowKit

theorem mem_0 : memN 0 = plsCells (List.replicate (0 * 16) pl0) := by kernel_rfl
theorem mem_1 : memN 1 = plsCells (List.replicate (1 * 16) pl0) := by kernel_rfl
theorem mem_2 : memN 2 = plsCells (List.replicate (2 * 16) pl0) := by kernel_rfl
theorem mem_3 : memN 3 = plsCells (List.replicate (3 * 16) pl0) := by kernel_rfl
theorem mem_4 : memN 4 = plsCells (List.replicate (4 * 16) pl0) := by kernel_rfl
theorem plsCells_rep (n : Nat) (hn : n ≤ 4) : memN n = plsCells (List.replicate (n * 16) pl0) := by
  match n, hn with
  | 0, _ => exact mem_0
  | 1, _ => exact mem_1
  | 2, _ => exact mem_2
  | 3, _ => exact mem_3
  | 4, _ => exact mem_4

end Go.Proofs.YtpnkmnmchdabkaaGreat
