import Derived.Test.YtpnkmnmchdabkaaM01
import Derived.Test.YtpnkmnmchdabkaaM07
namespace Go.Proofs.Ytpnkmnmchdabkaa
open Go.RowKit
attribute [local go_sem ↓] Go.wp_at_zero Go.wp_at_succ

set_option maxHeartbeats 400000 in
theorem logLen_any (b off n cap : Nat) (sa : Option Addr) (w : World) (c0 : w.cell? ⟨b, off, none⟩ = some (.slice sa n cap)) :
    Calls Try.prog 79 #[.pointer (some ⟨b, off, none⟩)] w fun e w' => e = .returned (.int .i64 n) ∧ w = w' := by
  go_enter Try.func79, Try.ntmps79
  go_wp2
  go_ret
  exact ⟨rfl, rfl⟩

theorem has_yes {k n : Nat} (h : k < n) : decide (0 ≤ (k : Int) ∧ (k : Int) < (n : Int)) = true := by simp; omega

set_option maxHeartbeats 1000000 in
theorem logClosed_any (b off n cap bs k : Nat) (op : Bool) (w : World) (hk : k < n) (c0 : w.cell? ⟨b, off, none⟩ = some (.slice (some ⟨bs, 0, none⟩) n cap)) (c1 : w.cell? ⟨bs, k * 5 + 2, none⟩ = some (.bool op)) :
    Calls Try.prog 107 #[.pointer (some ⟨b, off, none⟩), .int .i64 k] w fun e w' => e = .returned (.bool (!op)) ∧ w = w' := by
  go_enter Try.func107, Try.ntmps107
  go_wp2
  go_ret
  exact ⟨rfl, rfl⟩

set_option maxHeartbeats 1000000 in
theorem logCount_any (b off n cap bs k cnt rcap : Nat) (ra : Option Addr) (w : World) (hk : k < n) (c0 : w.cell? ⟨b, off, none⟩ = some (.slice (some ⟨bs, 0, none⟩) n cap)) (c1 : w.cell? ⟨bs, k * 5 + 4, none⟩ = some (.slice ra cnt rcap)) :
    Calls Try.prog 59 #[.pointer (some ⟨b, off, none⟩), .int .i64 k] w fun e w' => e = .returned (.int .i64 cnt) ∧ w = w' := by
  have HH := fun w h => hide (has_any b off n cap (some ⟨bs, 0, none⟩) k w h)
  rw [has_yes hk] at HH
  go_enter Try.func59, Try.ntmps59
  go_wp2_with (go_at_call 54; refine (unhide (HH _ ‹_›)).mono ?_; rintro e w1 ⟨rfl, rfl⟩)
  go_ret
  exact ⟨rfl, rfl⟩

set_option maxHeartbeats 1000000 in
theorem logParents_any (b off n cap bs k : Nat) (par : List Int) (pcap : Nat) (pa : Option Addr) (w : World) (hk : k < n) (hp : par.length ≤ 2) (hb : bs < w.heap.size) (c0 : w.cell? ⟨b, off, none⟩ = some (.slice (some ⟨bs, 0, none⟩) n cap)) (c1 : w.cell? ⟨bs, k * 5 + 3, none⟩ = some (.slice pa par.length pcap))
    (hpar : ∀ j (hj : j < par.length), ∃ pb, pa = some ⟨pb, 0, none⟩ ∧ pb < w.heap.size ∧ w.cell? ⟨pb, j, none⟩ = some (.int .i64 par[j])) :
    Calls Try.prog 80 #[.pointer (some ⟨b, off, none⟩), .int .i64 k] w (CopyPost w par) := by
  have HH := fun w h => hide (has_any b off n cap (some ⟨bs, 0, none⟩) k w h)
  rw [has_yes hk] at HH
  have HC := hide (copyParents_any bs (k * 5) par pcap pa w hp hb c1 hpar)
  clear hpar
  go_enter Try.func80, Try.ntmps80
  go_wp2_with (go_at_call 54; refine (unhide (HH _ ‹_›)).mono ?_; rintro e w1 ⟨rfl, rfl⟩)
  go_at_call 106
  refine (unhide HC).mono ?_
  intro e w1 hq
  obtain ⟨g, gc, rfl, q1, q2⟩ := hq
  have Q1 := hide q1
  have Q2 := hide q2
  clear q1 q2
  go_wp2
  go_ret
  exact ⟨g, gc, rfl, unhide Q1, unhide Q2⟩

end Go.Proofs.Ytpnkmnmchdabkaa
namespace Go.Proofs.Ytpnkmnmchdabkaa
open Go.RowKit
attribute [local go_sem ↓] Go.wp_at_zero Go.wp_at_succ

set_option maxHeartbeats 400000 in
theorem sinkHas_any (n : Int) (w : World) :
    Calls Try.prog 91 #[.int .i64 n] w fun e w' => e = .returned (.bool (decide (0 ≤ n ∧ n < 16))) ∧ w = w' := by
  by_cases h1 : 0 ≤ n
  · by_cases h2 : n < 16
    all_goals
      go_enter Try.func91, Try.ntmps91
      go_wp2
      go_ret
      exact ⟨by simp [h1, h2], rfl⟩
  · go_enter Try.func91, Try.ntmps91
    go_wp2
    go_ret
    exact ⟨by simp; omega, rfl⟩
theorem hasS16 {n : Nat} (h : n < 16) : decide (0 ≤ (n : Int) ∧ (n : Int) < 16) = true := by simp; omega

set_option maxHeartbeats 1000000 in
theorem sinkDone_any (b o n : Nat) (hn : n < 16) (d : Int) (w : World) (c : w.cell? ⟨b, o + n * 2, none⟩ = some (.int .i64 d)) :
    Calls Try.prog 89 #[.pointer (some ⟨b, o, none⟩), .int .i64 n] w fun e w' => e = .returned (.int .i64 d) ∧ w = w' := by
  have HH := fun w => hide (sinkHas_any n w)
  rw [hasS16 hn] at HH
  go_enter Try.func89, Try.ntmps89
  go_wp2_with (go_at_call 91; refine (unhide (HH _)).mono ?_; rintro e w1 ⟨rfl, rfl⟩)
  go_ret
  exact ⟨rfl, rfl⟩

set_option maxHeartbeats 1000000 in
theorem sinkFolded_any (b o off n N cap bs cnt rcap : Nat) (ra : Option Addr) (op : Bool) (hn : n < 16) (hN : n < N) (d : Int) (w : World) (c : w.cell? ⟨b, o + n * 2, none⟩ = some (.int .i64 d)) (c0 : w.cell? ⟨b, off, none⟩ = some (.slice (some ⟨bs, 0, none⟩) N cap)) (c1 : w.cell? ⟨bs, n * 5 + 2, none⟩ = some (.bool op)) (c2 : w.cell? ⟨bs, n * 5 + 4, none⟩ = some (.slice ra cnt rcap)) :
    Calls Try.prog 82 #[.pointer (some ⟨b, o, none⟩), .pointer (some ⟨b, off, none⟩), .int .i64 n] w fun e w' => e = .returned (.bool (!op && decide ((cnt : Int) ≤ d))) ∧ w = w' := by
  have H1 := hide (logClosed_any b off N cap bs n op w hN c0 c1)
  have H2 := hide (sinkDone_any b o n hn d w c)
  have H3 := hide (logCount_any b off N cap bs n cnt rcap ra w hN c0 c2)
  clear c c0 c1 c2
  cases op
  all_goals
    go_enter Try.func82, Try.ntmps82
    go_wp2_with (first | (go_at_call 107; refine (unhide H1).mono ?_; rintro e w1 ⟨rfl, rfl⟩) | (go_at_call 89; refine (unhide H2).mono ?_; rintro e w1 ⟨rfl, rfl⟩) | (go_at_call 59; refine (unhide H3).mono ?_; rintro e w1 ⟨rfl, rfl⟩))
    go_ret
    exact ⟨by simp, rfl⟩

/-- All of these are finished, by the stages. -/
def allTwo (st : List Int) (par : List Int) : Bool := par.all (fun p => decide (st[p.toNat]? = some 2))

theorem allTwo_take (st par : List Int) (j : Nat) (hj : j < par.length) : allTwo st (par.take (j + 1)) = (allTwo st (par.take j) && decide (st[par[j].toNat]? = some 2)) := by
  unfold allTwo
  rw [List.take_add_one, List.getElem?_eq_getElem hj, List.all_append]
  simp

theorem allTwo_not (st par : List Int) (j : Nat) (hj : j < par.length) (h : ¬ st[par[j].toNat]? = some 2) : allTwo st par = false := by
  unfold allTwo
  rw [List.all_eq_false]
  exact ⟨par[j], List.getElem_mem hj, by simpa using h⟩

set_option maxRecDepth 100000 in
set_option maxHeartbeats 1000000 in
theorem allFinished_any (st : List Int) (hst : st.length = 16) (par : List Int) (pa : Option Addr) (pc : Nat) (w : World) (hr : ∀ p ∈ par, 0 ≤ p ∧ p < 16) (hl : par.length ≤ 2)
    (hpar : ∀ j (hj : j < par.length), ∃ pb, pa = some ⟨pb, 0, none⟩ ∧ pb < w.heap.size ∧ w.cell? ⟨pb, j, none⟩ = some (.int .i64 par[j])) :
    Calls Try.prog 81 #[.agg (st.map (Value.int .i64)).toArray, .slice pa par.length pc] w fun e w' => e = .returned (.bool (allTwo st par)) ∧ Below w.heap.size w w' := by
  have HP := hide hpar
  have HR := hide hr
  have HS : Hid ((w.alloc (.cells (st.map (Value.int .i64)).toArray 108)).heap[w.heap.size]? = some (.cells (st.map (Value.int .i64)).toArray 108 (0, 0))) := heap_alloc_new w _
  clear hpar hr
  go_enter Try.func81, Try.ntmps81
  go_wp2
  go_loopw [5] (fun i wr => ∃ j : Nat, j ≤ par.length ∧ i = .int .i64 j ∧ allTwo st (par.take j) = true ∧ wr.heap[w.heap.size]? = some (.cells (st.map (Value.int .i64)).toArray 108 (0, 0)) ∧ Below w.heap.size w wr) (fun i _ => par.length - (intOf i).toNat)
  case atStart => exact ⟨0, Nat.zero_le _, rfl, rfl, unhide HS, (Below.refl _ w).alloc (Nat.le_refl _) _⟩
  case round =>
    obtain ⟨j, hj, rfl, hA, hH, hB⟩ := hrel
    by_cases hlt : j < par.length
    · obtain ⟨pb, rfl, hpb, hc⟩ := unhide HP j hlt
      have dc := (hB.cell (p := ⟨pb, j, none⟩) hpb).trans hc
      have hmem := unhide HR par[j] (List.getElem_mem hlt)
      have HT := hide (allTwo_take st par j hlt)
      have HNo := hide (allTwo_not st par j hlt)
      obtain ⟨q, hq⟩ : ∃ q : Nat, par[j] = (q : Int) := ⟨par[j].toNat, by omega⟩
      rw [hq] at dc hmem HT HNo
      have hq16 : q < st.length := by omega
      have hsq : st[q]? = some st[q] := List.getElem?_eq_getElem hq16
      have ds : wr.cell? ⟨w.heap.size, q, none⟩ = some (.int .i64 st[q]) := by rw [cell_of hH]; simp [hsq]
      generalize st[q] = v at hsq ds
      have q1 : ¬ ((q : Int) < 0) := by omega
      have q2 : ¬ (16 ≤ (q : Int)) := by omega
      have q3 : (q : Int) < 16 := by omega
      have HSQ := hide hsq
      have HA := hide hA
      have HH := hide hH
      have HB := hide hB
      clear hc hA hH hB hsq hq hpb
      by_cases hv : v = 2
      · subst hv
        go_wp2
        go_roundw
        case rel => exact ⟨j + 1, by omega, by go_num, by rw [unhide HT, unhide HA]; simpa using unhide HSQ, unhide HH, unhide HB⟩
        case measure => simp [intOf]; omega
      · have hv2 : Hid (¬ st[(q : Int).toNat]? = some 2) := by
          unfold Hid
          rw [show ((q : Int)).toNat = q by omega, unhide HSQ]
          simpa using hv
        go_wp2
        go_ret
        exact ⟨by rw [unhide HNo (unhide hv2)]; rfl, unhide HB⟩
    · have e : j = par.length := by omega
      subst e
      rw [List.take_length] at hA
      have HA := hide hA
      have HB := hide hB
      clear hA hH hB
      go_wp2
      go_ret
      exact ⟨by rw [unhide HA]; rfl, unhide HB⟩
end Go.Proofs.Ytpnkmnmchdabkaa
namespace Go.Proofs.Ytpnkmnmchdabkaa

/-- The mark of a shard, by the sink's cells. -/
def dnP (dn : List Int) (k : Nat) : Int := (dn[k * 2]?).getD 0
theorem dnP_get {dn : List Int} (h : dn.length = 32) {k : Nat} (hk : k < 16) : dn[k * 2]? = some (dnP dn k) := by
  unfold dnP
  rw [List.getElem?_eq_getElem (by omega)]
  rfl
/-- The stage that the program gives a shard, and all of them. -/
def stgV (st : List Int) (d : Int) (s : Sh) : Int := if allTwo st s.par = true then (if (!s.op && decide ((s.cnt : Int) ≤ d)) = true then 2 else 1) else 0
def stgUp (l : List Sh) (dn : Nat → Int) : Nat → List Int
  | 0 => List.replicate 16 0
  | k + 1 => match l[k]? with
    | some s => (stgUp l dn k).set k (stgV (stgUp l dn k) (dn k) s)
    | none => stgUp l dn k
theorem stgUp_len (l : List Sh) (dn : Nat → Int) (k : Nat) : (stgUp l dn k).length = 16 := by
  induction k with
  | zero => simp [stgUp]
  | succ k ih => unfold stgUp; cases l[k]? <;> simp [ih]
theorem stgUp_succ {l : List Sh} {dn : Nat → Int} {k : Nat} {s : Sh} (h : l[k]? = some s) : stgUp l dn (k + 1) = (stgUp l dn k).set k (stgV (stgUp l dn k) (dn k) s) := by
  rw [stgUp, h]
theorem stgUp_zero (l : List Sh) (dn : Nat → Int) : ∀ k j, k ≤ j → j < 16 → (stgUp l dn k)[j]? = some 0 := by
  intro k
  induction k with
  | zero => intro j _ hj; rw [stgUp, List.getElem?_replicate, if_pos hj]
  | succ k ih =>
    intro j hkj hj
    unfold stgUp
    cases l[k]? with
    | none => exact ih j (by omega) hj
    | some s => rw [List.getElem?_set_ne (by omega)]; exact ih j (by omega) hj
/-- The stage by the document. -/
def stg (l : List Sh) (dn : Nat → Int) (k : Nat) : Int := if rdy l dn k = true then (if fin l dn k = true then 2 else 1) else 0
theorem stg_two {l : List Sh} (hI : Inv l) {dn : Nat → Int} {k : Nat} {s : Sh} (hk : l[k]? = some s) : stg l dn k = 2 ↔ fin l dn k = true := by
  have := fin_is hI dn hk
  unfold stg
  by_cases hr : rdy l dn k = true
  · rw [if_pos hr]
    by_cases hf : fin l dn k = true
    · simp [hf]
    · simp [hf]
  · rw [if_neg hr]
    have hf : fin l dn k = false := by rw [this]; simp [hr]
    simp [hf]

theorem stgUp_is {l : List Sh} (hI : Inv l) (dn : Nat → Int) (hd : ∀ k s, l[k]? = some s → dn k ≤ s.cnt) : ∀ n, n ≤ l.length → (∀ k, k < n → (stgUp l dn n)[k]? = some (stg l dn k)) ∧ (∀ k, n ≤ k → k < 16 → (stgUp l dn n)[k]? = some 0) := by
  have h16 := hI.len
  intro n
  induction n with
  | zero =>
    intro _
    refine ⟨fun k hk => by omega, fun k _ hk => ?_⟩
    rw [stgUp, List.getElem?_replicate, if_pos hk]
  | succ n ih =>
    intro hn
    obtain ⟨ih1, ih2⟩ := ih (by omega)
    have hs : l[n]? = some l[n] := List.getElem?_eq_getElem (by omega)
    generalize l[n] = s at hs
    have hlen := stgUp_len l dn n
    rw [stgUp_succ hs]
    refine ⟨fun k hk => ?_, fun k hk1 hk2 => ?_⟩
    · by_cases he : k = n
      · subst he
        rw [List.getElem?_set_self (by omega)]
        congr 1
        have hall : allTwo (stgUp l dn k) s.par = rdy l dn k := by
          rw [rdy_is dn hs]
          unfold allTwo
          refine all_same fun p hp => ?_
          obtain ⟨q, t, rfl, hq, hqt⟩ := hI.parR k s hs p hp
          have ht : l[q]? = some l[q] := List.getElem?_eq_getElem (by omega)
          rw [show ((q : Int)).toNat = q by omega, ih1 q hq]
          have := stg_two hI (dn := dn) ht
          by_cases hf : fin l dn q = true
          · simp [this.2 hf, hf]
          · have h2 : stg l dn q ≠ 2 := fun e => hf (this.1 e)
            simp [h2, hf]
        have hfin := fin_is hI dn hs
        have hle := hd k s hs
        unfold stgV stg
        rw [hall, hfin]
        by_cases hr : rdy l dn k = true
        · rw [if_pos hr, if_pos hr, hr, Bool.true_and]
          have : decide ((s.cnt : Int) ≤ dn k) = decide (dn k = s.cnt) := by
            by_cases he : dn k = s.cnt
            · simp [he]
            · have : ¬ ((s.cnt : Int) ≤ dn k) := by omega
              simp [he, this]
          rw [this]
        · rw [if_neg hr, if_neg hr]
      · rw [List.getElem?_set_ne (by omega)]
        exact ih1 k (by omega)
    · rw [List.getElem?_set_ne (by omega)]
      exact ih2 k (by omega) hk2

end Go.Proofs.Ytpnkmnmchdabkaa
namespace Go.Proofs.Ytpnkmnmchdabkaa
open Go.RowKit
attribute [local go_sem ↓] Go.wp_at_zero Go.wp_at_succ

/-- What tell leaves: a list of its own with the parents. -/
def ToldPost (w : World) (lo hi : Int) (op : Bool) (par : List Int) (cnt : Nat) (e : Ending) (w' : World) : Prop :=
  ∃ g cap, e = .returned (.agg #[.int .i64 lo, .int .i64 hi, .bool op, .slice (some ⟨g, 0, none⟩) par.length cap, .int .i64 cnt]) ∧ w'.ownsRow w.heap.size 3 1 (.slice (some ⟨g, 0, none⟩) par.length cap) par.length (par.map (Value.int .i64)) ∧ Below w.heap.size w w'

set_option maxRecDepth 100000 in
set_option maxHeartbeats 2000000 in
theorem tell_any (b o : Nat) (lo hi : Int) (op : Bool) (par : List Int) (cnt rcap pcap : Nat) (pa ra : Option Addr) (w : World) (hp : par.length ≤ 2) (hb : b < w.heap.size)
    (c0 : w.cell? ⟨b, o, none⟩ = some (.int .i64 lo)) (c1 : w.cell? ⟨b, o + 1, none⟩ = some (.int .i64 hi)) (c2 : w.cell? ⟨b, o + 2, none⟩ = some (.bool op)) (c3 : w.cell? ⟨b, o + 3, none⟩ = some (.slice pa par.length pcap)) (c4 : w.cell? ⟨b, o + 4, none⟩ = some (.slice ra cnt rcap))
    (hpar : ∀ j (hj : j < par.length), ∃ pb, pa = some ⟨pb, 0, none⟩ ∧ pb < w.heap.size ∧ w.cell? ⟨pb, j, none⟩ = some (.int .i64 par[j])) :
    Calls Try.prog 92 #[.pointer (some ⟨b, o, none⟩)] w (ToldPost w lo hi op par cnt) := by
  have HC : Hid (∀ W, Below w.heap.size w W → Calls Try.prog 106 #[.pointer (some ⟨b, o, none⟩)] W (CopyPost W par)) := fun W hB =>
    copyParents_any b o par pcap pa W hp (Nat.lt_of_lt_of_le hb hB.size) ((hB.cell (p := ⟨b, o + 3, none⟩) hb).trans c3) (fun j hj => by
      obtain ⟨pb, e1, e2, e3⟩ := hpar j hj
      exact ⟨pb, e1, Nat.lt_of_lt_of_le e2 hB.size, (hB.cell (p := ⟨pb, j, none⟩) e2).trans e3⟩)
  clear hpar c3
  go_enter Try.func92, Try.ntmps92
  go_wp2_with (go_at_call 106; refine (unhide HC _ ((Below.refl _ w).alloc (Nat.le_refl _) _)).mono ?_; rintro e wr ⟨g, cap, rfl, hown, hBr⟩)
  have hB : Below w.heap.size w wr := ((Below.refl _ w).alloc (Nat.le_refl _) _).trans (hBr.mono (by simp))
  have hR : wr.heap[w.heap.size]? = some (.cells #[.int .i64 0, .int .i64 0, .bool false, .slice none 0 0, .int .i64 0] 65 (0, 0)) := by
    rw [hBr.block _ (by simp)]; exact heap_alloc_new w _
  have hown : wr.ownsRow (w.heap.size + 1) 3 1 (.slice (some ⟨g, 0, none⟩) par.length cap) par.length (par.map (Value.int .i64)) := by simpa using hown
  have k0 := (hB.cell (p := ⟨b, o, none⟩) hb).trans c0
  have k1 := (hB.cell (p := ⟨b, o + 1, none⟩) hb).trans c1
  have k2 := (hB.cell (p := ⟨b, o + 2, none⟩) hb).trans c2
  have k4 := (hB.cell (p := ⟨b, o + 4, none⟩) hb).trans c4
  have hfr := fun i => frozen_of hR i
  have r0 := cell_of hR 0
  have r1 := cell_of hR 1
  have r2 := cell_of hR 2
  have r3 := cell_of hR 3
  have r4 := cell_of hR 4
  have hne : b ≠ w.heap.size := by omega
  have hne2 : ¬ w.heap.size = b := by omega
  have HOw := hide hown
  have HBw := hide hB
  have HRw := hide hR
  clear hown hB hR c0 c1 c2 c4 HC hBr
  go_wp2
  go_region_held3 (fun w' => w'.cell? ⟨b, o, none⟩ = some (.int .i64 lo) ∧ w'.cell? ⟨b, o + 1, none⟩ = some (.int .i64 hi) ∧ w'.cell? ⟨b, o + 2, none⟩ = some (.bool op) ∧ w'.cell? ⟨b, o + 4, none⟩ = some (.slice ra cnt rcap)) (go_keep) (fail)
  go_wp2
  have hN := set5_heap (w := wr) (unhide HRw) (.int .i64 lo) (.int .i64 hi) (.bool op) (.slice (some ⟨g, 0, none⟩) par.length cap) (.int .i64 cnt)
  have hBB := set5_below (unhide HBw) (Nat.le_refl _) (.int .i64 lo) (.int .i64 hi) (.bool op) (.slice (some ⟨g, 0, none⟩) par.length cap) (.int .i64 cnt)
  have hOO : (set5 wr w.heap.size (.int .i64 lo) (.int .i64 hi) (.bool op) (.slice (some ⟨g, 0, none⟩) par.length cap) (.int .i64 cnt)).ownsRow w.heap.size 3 1 (.slice (some ⟨g, 0, none⟩) par.length cap) par.length (par.map (Value.int .i64)) := by
    refine ownsRow_base (ownsRow_of_block (unhide HOw) fun q hq => set5_other ?_ _ _ _ _ _) (by omega)
    have := ((unhide HOw).lt q hq).1
    omega
  unfold set5 at hN hBB hOO
  generalize World.setCell _ _ _ = W8 at *
  obtain ⟨m0, m1, m2, m3, m4⟩ := load5 hN
  refine bodyPost_ret (v := .agg #[.int .i64 lo, .int .i64 hi, .bool op, .slice (some ⟨g, 0, none⟩) par.length cap, .int .i64 cnt]) (by simp [results, Try.results92, go_sem, m0, m1, m2, m3, m4]) rfl ?_
  exact ⟨g, cap, rfl, hOO.drew, hBB.drew⟩

end Go.Proofs.Ytpnkmnmchdabkaa
