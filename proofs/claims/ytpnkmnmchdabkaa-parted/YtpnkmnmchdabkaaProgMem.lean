import Derived.Test.YtpnkmnmchdabkaaProgLe
import Derived.Test.YtpnkmnmchdabkaaHd
namespace Go.Proofs.Ytpnkmnmchdabkaa
open Go.RowKit
attribute [local go_sem ↓] Go.wp_at_zero Go.wp_at_succ

/-- What a worker's memory has of one shard. -/
structure Pl where
  held : Bool
  h : Hd
  made : Bool
  c : Int
  s : Int
def plCells (p : Pl) : List Value := [.bool p.held, .int .i64 p.h.sh, .int .i64 p.h.ep, .int .i64 p.h.at_, .int .i64 p.h.bf, .bool p.made, .int .i64 p.c, .int .i64 p.s]
/-- It lies there. -/
structure PlAt (w : World) (b o : Nat) (p : Pl) : Prop where
  lt : b < w.heap.size
  a0 : w.cell? ⟨b, o, none⟩ = some (.bool p.held)
  a1 : w.cell? ⟨b, o + 1, none⟩ = some (.int .i64 p.h.sh)
  a2 : w.cell? ⟨b, o + 1 + 1, none⟩ = some (.int .i64 p.h.ep)
  a3 : w.cell? ⟨b, o + 1 + 2, none⟩ = some (.int .i64 p.h.at_)
  a4 : w.cell? ⟨b, o + 1 + 3, none⟩ = some (.int .i64 p.h.bf)
  a5 : w.cell? ⟨b, o + 5, none⟩ = some (.bool p.made)
  a6 : w.cell? ⟨b, o + 5 + 1, none⟩ = some (.int .i64 p.c)
  a7 : w.cell? ⟨b, o + 5 + 2, none⟩ = some (.int .i64 p.s)
  fr : ∀ q, w.frozen? ⟨b, q, none⟩ = false

set_option maxHeartbeats 400000 in
theorem memHas_any (n : Int) (w : World) :
    Calls Try.prog 90 #[.int .i64 n] w fun e w' => e = .returned (.bool (decide (0 ≤ n ∧ n < 16))) ∧ w = w' := by
  by_cases h1 : 0 ≤ n
  · by_cases h2 : n < 16
    all_goals
      go_enter Try.func90, Try.ntmps90
      go_wp2
      go_ret
      exact ⟨by simp [h1, h2], rfl⟩
  · go_enter Try.func90, Try.ntmps90
    go_wp2
    go_ret
    exact ⟨by simp; omega, rfl⟩

theorem hasM16 {n : Nat} (h : n < 16) : decide (0 ≤ (n : Int) ∧ (n : Int) < 16) = true := by simp; omega

set_option maxRecDepth 100000 in
set_option maxHeartbeats 1000000 in
theorem memHold_any (b o n : Nat) (hn : n < 16) (p : Pl) (w : World) (h : PlAt w b (o + n * 8) p) :
    Calls Try.prog 55 #[.pointer (some ⟨b, o, none⟩), .int .i64 n] w fun e w' => e = .returned (.tuple #[if p.held = true then .agg #[.int .i64 p.h.sh, .int .i64 p.h.ep, .int .i64 p.h.at_, .int .i64 p.h.bf] else .agg #[.int .i64 0, .int .i64 0, .int .i64 0, .int .i64 0], .bool p.held]) ∧ Below w.heap.size w w' := by
  obtain ⟨hl, a0, a1, a2, a3, a4, a5, a6, a7, fr⟩ := h
  clear a5 a6 a7 fr
  have HH := fun w => hide (memHas_any n w)
  rw [hasM16 hn] at HH
  cases hh : p.held
  · rw [hh] at a0
    go_enter Try.func55, Try.ntmps55
    go_wp2_with (go_at_call 90; refine (unhide (HH _)).mono ?_; rintro e w1 ⟨rfl, rfl⟩)
    refine bodyPost_ret (v := .tuple #[.agg #[.int .i64 0, .int .i64 0, .int .i64 0, .int .i64 0], .bool false]) ?_ rfl ⟨rfl, ?_⟩
    · simp [results, Try.results55, go_sem]
    · exact (Below.refl _ w).alloc (Nat.le_refl _) _
  · rw [hh] at a0
    go_enter Try.func55, Try.ntmps55
    go_wp2_with (go_at_call 90; refine (unhide (HH _)).mono ?_; rintro e w1 ⟨rfl, rfl⟩)
    refine bodyPost_ret (v := .tuple #[.agg #[.int .i64 p.h.sh, .int .i64 p.h.ep, .int .i64 p.h.at_, .int .i64 p.h.bf], .bool true]) ?_ rfl ⟨rfl, ?_⟩
    · simp [results, Try.results55, go_sem]
    · exact (Below.refl _ w).alloc (Nat.le_refl _) _

set_option maxRecDepth 100000 in
set_option maxHeartbeats 1000000 in
theorem memKeep_any (b o n : Nat) (hn : n < 16) (p : Pl) (ep at_ bf : Int) (w : World) (h : PlAt w b (o + n * 8) p) :
    Calls Try.prog 60 #[.pointer (some ⟨b, o, none⟩), .agg #[.int .i64 n, .int .i64 ep, .int .i64 at_, .int .i64 bf]] w fun e w' => e = .returned (.tuple #[]) ∧ Below w.heap.size (((((w.setCell ⟨b, o + n * 8, none⟩ (.bool true)).setCell ⟨b, o + n * 8 + 1, none⟩ (.int .i64 n)).setCell ⟨b, o + n * 8 + 1 + 1, none⟩ (.int .i64 ep)).setCell ⟨b, o + n * 8 + 1 + 2, none⟩ (.int .i64 at_)).setCell ⟨b, o + n * 8 + 1 + 3, none⟩ (.int .i64 bf)) w' := by
  obtain ⟨hl, a0, a1, a2, a3, a4, a5, a6, a7, fr⟩ := h
  have HH := fun w => hide (memHas_any n w)
  rw [hasM16 hn] at HH
  have f0 := fr (o + n * 8)
  have f1 := fr (o + n * 8 + 1)
  have f2 := fr (o + n * 8 + 1 + 1)
  have f3 := fr (o + n * 8 + 1 + 2)
  have f4 := fr (o + n * 8 + 1 + 3)
  have f5 := fr (o + n * 8 + 5)
  have f6 := fr (o + n * 8 + 5 + 1)
  have f7 := fr (o + n * 8 + 5 + 2)
  go_enter Try.func60, Try.ntmps60
  go_wp2_with (go_at_call 90; refine (unhide (HH _)).mono ?_; rintro e w1 ⟨rfl, rfl⟩)
  go_region
  go_wp2
  go_region
  go_wp2
  go_end0
  exact ⟨rfl, ((Below.refl _ _).alloc (by simp) _).drew.drew⟩

set_option maxRecDepth 100000 in
set_option maxHeartbeats 1000000 in
theorem memDrop_any (b o n : Nat) (hn : n < 16) (p : Pl) (w : World) (h : PlAt w b (o + n * 8) p) :
    Calls Try.prog 83 #[.pointer (some ⟨b, o, none⟩), .int .i64 n] w fun e w' => e = .returned (.tuple #[]) ∧ Below w.heap.size (((((w.setCell ⟨b, o + n * 8, none⟩ (.bool false)).setCell ⟨b, o + n * 8 + 1, none⟩ (.int .i64 0)).setCell ⟨b, o + n * 8 + 1 + 1, none⟩ (.int .i64 0)).setCell ⟨b, o + n * 8 + 1 + 2, none⟩ (.int .i64 0)).setCell ⟨b, o + n * 8 + 1 + 3, none⟩ (.int .i64 0)) w' := by
  obtain ⟨hl, a0, a1, a2, a3, a4, a5, a6, a7, fr⟩ := h
  have HH := fun w => hide (memHas_any n w)
  rw [hasM16 hn] at HH
  have f0 := fr (o + n * 8)
  have f1 := fr (o + n * 8 + 1)
  have f2 := fr (o + n * 8 + 1 + 1)
  have f3 := fr (o + n * 8 + 1 + 2)
  have f4 := fr (o + n * 8 + 1 + 3)
  have f5 := fr (o + n * 8 + 5)
  have f6 := fr (o + n * 8 + 5 + 1)
  have f7 := fr (o + n * 8 + 5 + 2)
  go_enter Try.func83, Try.ntmps83
  go_wp2_with (go_at_call 90; refine (unhide (HH _)).mono ?_; rintro e w1 ⟨rfl, rfl⟩)
  go_end0
  exact ⟨rfl, Below.refl _ _⟩

set_option maxRecDepth 100000 in
set_option maxHeartbeats 1000000 in
theorem memNote_new (b o n : Nat) (hn : n < 16) (p : Pl) (c s : Int) (w : World) (h : PlAt w b (o + n * 8) p) (hm : ¬ (p.made = true ∧ p.c = c)) :
    Calls Try.prog 86 #[.pointer (some ⟨b, o, none⟩), .int .i64 n, .int .i64 c, .int .i64 s] w fun e w' => e = .returned (.tuple #[]) ∧ Below w.heap.size (((w.setCell ⟨b, o + n * 8 + 5, none⟩ (.bool true)).setCell ⟨b, o + n * 8 + 5 + 1, none⟩ (.int .i64 c)).setCell ⟨b, o + n * 8 + 5 + 2, none⟩ (.int .i64 s)) w' := by
  obtain ⟨hl, a0, a1, a2, a3, a4, a5, a6, a7, fr⟩ := h
  have HH := fun w => hide (memHas_any n w)
  rw [hasM16 hn] at HH
  have f0 := fr (o + n * 8)
  have f1 := fr (o + n * 8 + 1)
  have f2 := fr (o + n * 8 + 1 + 1)
  have f3 := fr (o + n * 8 + 1 + 2)
  have f4 := fr (o + n * 8 + 1 + 3)
  have f5 := fr (o + n * 8 + 5)
  have f6 := fr (o + n * 8 + 5 + 1)
  have f7 := fr (o + n * 8 + 5 + 2)
  cases hh : p.made
  · rw [hh] at a5
    clear hm
    go_enter Try.func86, Try.ntmps86
    go_wp2_with (go_at_call 90; refine (unhide (HH _)).mono ?_; rintro e w1 ⟨rfl, rfl⟩)
    go_end0
    exact ⟨rfl, (Below.refl _ _).alloc (by simp) _⟩
  · rw [hh] at a5
    have hq : ¬ p.c = c := fun e => hm ⟨hh, e⟩
    clear hm
    go_enter Try.func86, Try.ntmps86
    go_wp2_with (go_at_call 90; refine (unhide (HH _)).mono ?_; rintro e w1 ⟨rfl, rfl⟩)
    go_end0
    exact ⟨rfl, (Below.refl _ _).alloc (by simp) _⟩

set_option maxRecDepth 100000 in
set_option maxHeartbeats 1000000 in
theorem memNote_old (b o n : Nat) (hn : n < 16) (p : Pl) (s : Int) (w : World) (h : PlAt w b (o + n * 8) p) (hm : p.made = true) :
    Calls Try.prog 86 #[.pointer (some ⟨b, o, none⟩), .int .i64 n, .int .i64 p.c, .int .i64 s] w fun e w' => e = .returned (.tuple #[]) ∧ Below w.heap.size w w' := by
  obtain ⟨hl, a0, a1, a2, a3, a4, a5, a6, a7, fr⟩ := h
  have HH := fun w => hide (memHas_any n w)
  rw [hasM16 hn] at HH
  rw [hm] at a5
  go_enter Try.func86, Try.ntmps86
  go_wp2_with (go_at_call 90; refine (unhide (HH _)).mono ?_; rintro e w1 ⟨rfl, rfl⟩)
  refine bodyPost_ret (v := .tuple #[]) ?_ rfl ⟨rfl, (Below.refl _ _).alloc (by simp) _⟩
  simp [results, Try.results86, go_sem]

set_option maxRecDepth 100000 in
set_option maxHeartbeats 1000000 in
theorem memNoted_any (b o n : Nat) (hn : n < 16) (p : Pl) (c s u : Int) (w : World) (h : PlAt w b (o + n * 8) p) :
    Calls Try.prog 108 #[.pointer (some ⟨b, o, none⟩), .int .i64 n, .int .i64 c, .int .i64 s, .int .i64 u] w fun e w' => e = .returned (.bool (p.made && decide (p.c = c) && decide (u ≤ dif s p.s))) ∧ Below w.heap.size w w' := by
  obtain ⟨hl, a0, a1, a2, a3, a4, a5, a6, a7, fr⟩ := h
  have HH := fun w => hide (memHas_any n w)
  rw [hasM16 hn] at HH
  have ws : IntKind.i64.wrap (s - p.s) = dif s p.s := rfl
  cases hh : p.made
  · rw [hh] at a5
    go_enter Try.func108, Try.ntmps108
    go_wp2_with (go_at_call 90; refine (unhide (HH _)).mono ?_; rintro e w1 ⟨rfl, rfl⟩)
    go_ret
    exact ⟨by simp, (Below.refl _ _).alloc (by simp) _⟩
  · rw [hh] at a5
    by_cases hq : p.c = c
    · go_enter Try.func108, Try.ntmps108
      go_wp2_with (go_at_call 90; refine (unhide (HH _)).mono ?_; rintro e w1 ⟨rfl, rfl⟩)
      go_ret
      exact ⟨by simp [hq], (Below.refl _ _).alloc (by simp) _⟩
    · go_enter Try.func108, Try.ntmps108
      go_wp2_with (go_at_call 90; refine (unhide (HH _)).mono ?_; rintro e w1 ⟨rfl, rfl⟩)
      go_ret
      exact ⟨by simp [hq], (Below.refl _ _).alloc (by simp) _⟩

end Go.Proofs.Ytpnkmnmchdabkaa
