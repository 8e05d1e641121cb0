import Derived.Test.YtpnkmnmchdabkaaProgPl
import Derived.Test.YtpnkmnmchdabkaaHd
namespace Go.Proofs.Ytpnkmnmchdabkaa
open Go.RowKit
attribute [local go_sem ↓] Go.wp_at_zero Go.wp_at_succ

/-- The holds of worker i for the first k shards. -/
def heldOf (P : List Pl) (i : Nat) : Nat → List Hd
  | 0 => []
  | k + 1 => heldOf P i k ++ (match P[i * 16 + k]? with | some p => if p.held = true then [p.h] else [] | none => [])

theorem heldOf_le (P : List Pl) (i k : Nat) : (heldOf P i k).length ≤ k := by
  induction k with
  | zero => simp [heldOf]
  | succ k ih =>
    rw [heldOf, List.length_append]
    cases P[i * 16 + k]? with
    | none => simp; omega
    | some p => by_cases h : p.held = true <;> simp [h] <;> omega

set_option maxRecDepth 100000 in
set_option maxHeartbeats 4000000 in
theorem plHolds_any (w : World) (g cap N : Nat) (P : List Pl) (i : Nat) (hi : i < N) (h : PlsAt w g cap N P) :
    Calls Try.prog 64 #[.pointer (some ⟨g, i * 128, none⟩)] w fun e w' => ∃ v, e = .returned v ∧ w'.ownsRow w.heap.size 75 4 v (heldOf P i 16).length (rowHd (heldOf P i 16)) ∧ Below w.heap.size w w' := by
  obtain ⟨i0, hi0, hz0, hz1, hz2⟩ := info_parts infoHold
  have hlen := h.len
  have HX : Hid (∀ W, Below w.heap.size w W → PlsAt W g cap N P) := fun W hb => h.block (hb.block g h.lt)
  have hg := h.lt
  have HS0 : Hid ((w.alloc (.cells #[] 75)).ownsRow w.heap.size 75 4 (.slice (some ⟨w.heap.size, 0, none⟩) 0 0) 0 []) := ⟨rfl, .inr ⟨w.heap.size, 0, #[], rfl, Nat.le_refl _, heap_alloc_new w _, Nat.le_refl _, by unfold maxLen; omega, rfl, rfl⟩⟩
  clear h
  go_enter Try.func64, Try.ntmps64
  go_wp2
  go_loopw [3, 4] (fun p q wr => ∃ (j cp : Nat) (a : Option Addr), j ≤ 16 ∧ q = .int .i64 j ∧ p = .slice a (heldOf P i j).length cp ∧ wr.ownsRow w.heap.size 75 4 (.slice a (heldOf P i j).length cp) (heldOf P i j).length (rowHd (heldOf P i j)) ∧ Below w.heap.size w wr) (fun _ q _ => 16 - (intOf q).toNat)
  case atStart => exact ⟨0, 0, some ⟨w.heap.size, 0, none⟩, Nat.zero_le _, rfl, rfl, unhide HS0, (Below.refl _ w).alloc (Nat.le_refl _) _⟩
  case round =>
    obtain ⟨j, cp, a, hj, rfl, rfl, hown, hB⟩ := hrel
    by_cases hlt : j < 16
    · have hl : i * 16 + j < P.length := by omega
      have hp := List.getElem?_eq_getElem hl
      generalize P[i * 16 + j] = p at hp
      have HS : Hid (heldOf P i (j + 1) = heldOf P i j ++ (if p.held = true then [p.h] else [])) := by
        unfold Hid
        rw [heldOf, hp]
      obtain ⟨_, a0, a1, a2, a3, a4, _⟩ := (unhide HX wr hB).place hp
      have hle : (heldOf P i j).length ≤ 16 := by have := heldOf_le P i j; omega
      have HO := hide hown
      have HB := hide hB
      have hws := hB.size
      have HGL := hide (fun q hq => hown.lt q hq)
      cases hh : p.held
      · rw [hh] at a0 HS
        clear hown hB hp hl
        go_wp2
        go_roundw
        case rel =>
          refine ⟨j + 1, cp, a, by omega, by go_num, ?_, ?_, unhide HB⟩
          · rw [unhide HS]; simp
          · rw [unhide HS]; simpa using unhide HO
        case measure => simp [intOf]; omega
      · rw [hh] at a0 HS
        clear hown hB hp hl
        generalize hFF : heldOf P i j = F at *
        clear hFF
        go_wp2_with (at_builtin; go_must (refine wpList_append_lies _ rfl _ _ _ rfl w.heap.size 75 i0 _ 4 32 Try.underlying66 hi0 hz0 hz1 hz2 rfl (by omega) _ F.length (rowHd F) rfl ?own ⟨wr.heap.size, 0, none⟩ 1 1 (hdCells p.h) rfl rfl ?news ?one (by omega) ?h63 ?bytes ?base (wr.heap.size + 1) ?hH ?next))
        case own => exact (unhide HO).alloc _
        case news => exact fun _ _ hj => hj
        case one =>
          intro u hu
          simp [hdCells] at hu
          rcases hu with rfl | rfl | rfl | rfl <;> rfl
        case h63 => unfold maxLen; omega
        case bytes => omega
        case base => omega
        case next =>
          intro g2 cap2 w2 hown2 hgrow2 hat hlt2
          have hB2 : Hid (Below w.heap.size w w2) := ((unhide HB).alloc hws _).grown hgrow2 (by simp; omega) (fun q hq => (unhide HGL q hq).1)
          have HN := hide hown2
          clear hown2 hgrow2 hat
          go_wp2
          go_roundw
          case rel =>
            refine ⟨j + 1, cap2, some ⟨g2, 0, none⟩, by omega, by go_num, ?_, ?_, unhide hB2⟩
            · rw [unhide HS]; simp
            · rw [unhide HS, if_pos trivial, rowHd_append]
              simpa [rowHd] using unhide HN
          case measure => simp [intOf]; omega
    · have e : j = 16 := by omega
      subst e
      have HO := hide hown
      have HB := hide hB
      clear hown hB
      go_wp2
      go_ret
      exact ⟨_, rfl, unhide HO, unhide HB⟩
end Go.Proofs.Ytpnkmnmchdabkaa
