import Derived.Test.YtpnkmnmchdabkaaProgLog
namespace Go.Proofs.Ytpnkmnmchdabkaa
open Go.RowKit
attribute [local go_sem ↓] Go.wp_at_zero Go.wp_at_succ

set_option maxHeartbeats 400000 in
theorem sinkHas_any (n : Int) (w : World) :
    Calls Try.prog 91 #[.int .i64 n] w fun e w' => e = .returned (.bool (decide (0 ≤ n ∧ n < 16))) ∧ w = w' := by
  by_cases h1 : 0 ≤ n
  · by_cases h2 : n < 16
    all_goals
      go_enter Try.func91, Try.ntmps91
      go_wp2
      go_ret
      exact ⟨by simp [h1, h2], rfl⟩
  · go_enter Try.func91, Try.ntmps91
    go_wp2
    go_ret
    exact ⟨by simp; omega, rfl⟩
theorem hasS16 {n : Nat} (h : n < 16) : decide (0 ≤ (n : Int) ∧ (n : Int) < 16) = true := by simp; omega

set_option maxHeartbeats 1000000 in
theorem sinkDone_any (b o n : Nat) (hn : n < 16) (d : Int) (w : World) (c : w.cell? ⟨b, o + n * 2, none⟩ = some (.int .i64 d)) :
    Calls Try.prog 89 #[.pointer (some ⟨b, o, none⟩), .int .i64 n] w fun e w' => e = .returned (.int .i64 d) ∧ w = w' := by
  have HH := fun w => hide (sinkHas_any n w)
  rw [hasS16 hn] at HH
  go_enter Try.func89, Try.ntmps89
  go_wp2_with (go_at_call 91; refine (unhide (HH _)).mono ?_; rintro e w1 ⟨rfl, rfl⟩)
  go_ret
  exact ⟨rfl, rfl⟩

set_option maxHeartbeats 1000000 in
theorem sinkFolded_any (b o off n N cap bs cnt rcap : Nat) (ra : Option Addr) (op : Bool) (hn : n < 16) (hN : n < N) (d : Int) (w : World) (c : w.cell? ⟨b, o + n * 2, none⟩ = some (.int .i64 d)) (c0 : w.cell? ⟨b, off, none⟩ = some (.slice (some ⟨bs, 0, none⟩) N cap)) (c1 : w.cell? ⟨bs, n * 5 + 2, none⟩ = some (.bool op)) (c2 : w.cell? ⟨bs, n * 5 + 4, none⟩ = some (.slice ra cnt rcap)) :
    Calls Try.prog 82 #[.pointer (some ⟨b, o, none⟩), .pointer (some ⟨b, off, none⟩), .int .i64 n] w fun e w' => e = .returned (.bool (!op && decide ((cnt : Int) ≤ d))) ∧ w = w' := by
  have H1 := hide (logClosed_any b off N cap bs n op w hN c0 c1)
  have H2 := hide (sinkDone_any b o n hn d w c)
  have H3 := hide (logCount_any b off N cap bs n cnt rcap ra w hN c0 c2)
  clear c c0 c1 c2
  cases op
  all_goals
    go_enter Try.func82, Try.ntmps82
    go_wp2_with (first | (go_at_call 107; refine (unhide H1).mono ?_; rintro e w1 ⟨rfl, rfl⟩) | (go_at_call 89; refine (unhide H2).mono ?_; rintro e w1 ⟨rfl, rfl⟩) | (go_at_call 59; refine (unhide H3).mono ?_; rintro e w1 ⟨rfl, rfl⟩))
    go_ret
    exact ⟨by simp, rfl⟩

/-- All of these are finished, by the stages. -/
def allTwo (st : List Int) (par : List Int) : Bool := par.all (fun p => decide (st[p.toNat]? = some 2))

theorem allTwo_take (st par : List Int) (j : Nat) (hj : j < par.length) : allTwo st (par.take (j + 1)) = (allTwo st (par.take j) && decide (st[par[j].toNat]? = some 2)) := by
  unfold allTwo
  rw [List.take_add_one, List.getElem?_eq_getElem hj, List.all_append]
  simp

theorem allTwo_not (st par : List Int) (j : Nat) (hj : j < par.length) (h : ¬ st[par[j].toNat]? = some 2) : allTwo st par = false := by
  unfold allTwo
  rw [List.all_eq_false]
  exact ⟨par[j], List.getElem_mem hj, by simpa using h⟩

set_option maxRecDepth 100000 in
set_option maxHeartbeats 1000000 in
theorem allFinished_any (st : List Int) (hst : st.length = 16) (par : List Int) (pa : Option Addr) (pc : Nat) (w : World) (hr : ∀ p ∈ par, 0 ≤ p ∧ p < 16) (hl : par.length ≤ 2)
    (hpar : ∀ j (hj : j < par.length), ∃ pb, pa = some ⟨pb, 0, none⟩ ∧ pb < w.heap.size ∧ w.cell? ⟨pb, j, none⟩ = some (.int .i64 par[j])) :
    Calls Try.prog 81 #[.agg (st.map (Value.int .i64)).toArray, .slice pa par.length pc] w fun e w' => e = .returned (.bool (allTwo st par)) ∧ Below w.heap.size w w' := by
  have HP := hide hpar
  have HR := hide hr
  have HS : Hid ((w.alloc (.cells (st.map (Value.int .i64)).toArray 108)).heap[w.heap.size]? = some (.cells (st.map (Value.int .i64)).toArray 108 (0, 0))) := heap_alloc_new w _
  clear hpar hr
  go_enter Try.func81, Try.ntmps81
  go_wp2
  go_loopw [5] (fun i wr => ∃ j : Nat, j ≤ par.length ∧ i = .int .i64 j ∧ allTwo st (par.take j) = true ∧ wr.heap[w.heap.size]? = some (.cells (st.map (Value.int .i64)).toArray 108 (0, 0)) ∧ Below w.heap.size w wr) (fun i _ => par.length - (intOf i).toNat)
  case atStart => exact ⟨0, Nat.zero_le _, rfl, rfl, unhide HS, (Below.refl _ w).alloc (Nat.le_refl _) _⟩
  case round =>
    obtain ⟨j, hj, rfl, hA, hH, hB⟩ := hrel
    by_cases hlt : j < par.length
    · obtain ⟨pb, rfl, hpb, hc⟩ := unhide HP j hlt
      have dc := (hB.cell (p := ⟨pb, j, none⟩) hpb).trans hc
      have hmem := unhide HR par[j] (List.getElem_mem hlt)
      have HT := hide (allTwo_take st par j hlt)
      have HNo := hide (allTwo_not st par j hlt)
      obtain ⟨q, hq⟩ : ∃ q : Nat, par[j] = (q : Int) := ⟨par[j].toNat, by omega⟩
      rw [hq] at dc hmem HT HNo
      have hq16 : q < st.length := by omega
      have hsq : st[q]? = some st[q] := List.getElem?_eq_getElem hq16
      have ds : wr.cell? ⟨w.heap.size, q, none⟩ = some (.int .i64 st[q]) := by rw [cell_of hH]; simp [hsq]
      generalize st[q] = v at hsq ds
      have q1 : ¬ ((q : Int) < 0) := by omega
      have q2 : ¬ (16 ≤ (q : Int)) := by omega
      have q3 : (q : Int) < 16 := by omega
      have HSQ := hide hsq
      have HA := hide hA
      have HH := hide hH
      have HB := hide hB
      clear hc hA hH hB hsq hq hpb
      by_cases hv : v = 2
      · subst hv
        go_wp2
        go_roundw
        case rel => exact ⟨j + 1, by omega, by go_num, by rw [unhide HT, unhide HA]; simpa using unhide HSQ, unhide HH, unhide HB⟩
        case measure => simp [intOf]; omega
      · have hv2 : Hid (¬ st[(q : Int).toNat]? = some 2) := by
          unfold Hid
          rw [show ((q : Int)).toNat = q by omega, unhide HSQ]
          simpa using hv
        go_wp2
        go_ret
        exact ⟨by rw [unhide HNo (unhide hv2)]; rfl, unhide HB⟩
    · have e : j = par.length := by omega
      subst e
      rw [List.take_length] at hA
      have HA := hide hA
      have HB := hide hB
      clear hA hH hB
      go_wp2
      go_ret
      exact ⟨by rw [unhide HA]; rfl, unhide HB⟩
end Go.Proofs.Ytpnkmnmchdabkaa
