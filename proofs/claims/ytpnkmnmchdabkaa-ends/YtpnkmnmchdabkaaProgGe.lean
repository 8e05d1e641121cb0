import Derived.Test.YtpnkmnmchdabkaaProgGd
namespace Go.Proofs.Ytpnkmnmchdabkaa
open Go.RowKit
attribute [local go_sem ↓] Go.wp_at_zero Go.wp_at_succ
attribute [local go_sem ↓] zvStg ldS_shut stS_shut
attribute [local go_sem] stS_new

theorem GS.wcell {w : World} {ρ : Nat → Nat} {gb : Nat} {C : Cfg} {now : Rest} {sv : Value} {m : List Cs} {g cap : Nat} {ls : List Le} {P : List Pl} (h : GS w ρ gb C now sv m g cap ls P) : w.cell? ⟨gb, 88, none⟩ = some (.slice (some ⟨g, 0, none⟩) now.n cap) := by
  have := GrpL.wcell (now := now.up ls P) h
  exact this

/-- Renew, at the first n shards: the leases and places; how many holds are left. -/
def finS (st : List Int) (n : Nat) : Bool := decide (st[n]? = some 2)
def rnUp (i : Nat) (st : List Int) : Nat → List Le × List Pl → List Le × List Pl
  | 0, q => q
  | n + 1, q => (rhLs i n (finS st n) (rnUp i st n q).1 (rnUp i st n q).2, rhP i n (finS st n) (rnUp i st n q).1 (rnUp i st n q).2)
def rnCnt (i : Nat) (st : List Int) : Nat → List Le × List Pl → Nat
  | 0, _ => 0
  | n + 1, q => rnCnt i st n q + (if rhKeep i n (finS st n) (rnUp i st n q).1 (rnUp i st n q).2 = true then 1 else 0)
theorem rnCnt_le (i : Nat) (st : List Int) (n : Nat) (q : List Le × List Pl) : rnCnt i st n q ≤ n := by
  induction n with
  | zero => exact Nat.le_refl _
  | succ n ih =>
    unfold rnCnt
    split <;> omega

set_option maxRecDepth 100000 in
set_option maxHeartbeats 4000000 in
theorem gRenew_any {w : World} {ρ : Nat → Nat} {gb : Nat} {C : Cfg} {now : Rest} {sv : Value} {m : List Cs} {g cap : Nat} {ls : List Le} {P : List Pl} (h : GS w ρ gb C now sv m g cap ls P) (hI : Inv (m.map (·.s))) (i : Nat) (hi : i < now.n) :
    Calls Try.prog 26 #[.pointer (some ⟨gb, 0, none⟩), .int .i64 i] w fun e w' => e = .returned (.tuple #[.int .i64 (rnCnt i (stgUp (m.map (·.s)) (dnP now.dn) m.length) 16 (ls, P)), .int .i64 0]) ∧ GSP w ρ gb C now sv m g cap (rnUp i (stgUp (m.map (·.s)) (dnP now.dn) m.length) 16 (ls, P)).1 (rnUp i (stgUp (m.map (·.s)) (dnP now.dn) m.length) 16 (ls, P)).2 w' := by
  have HS : Hid (∀ W, GS W ρ gb C now sv m g cap ls P → Calls Try.prog 49 #[.pointer (some ⟨gb, 8, none⟩), .pointer (some ⟨gb, 7, none⟩)] W fun e w' => e = .returned (.agg (stA (stgUp (m.map (·.s)) (dnP now.dn) m.length))) ∧ Below W.heap.size W w') := fun W hW => gStages_any hW hI
  have HLn := stgUp_len (m.map (·.s)) (dnP now.dn) m.length
  generalize stgUp (m.map (·.s)) (dnP now.dn) m.length = st at HS HLn ⊢
  have HK := hide (hasWorker_any h i)
  rw [show decide (0 ≤ (i : Int) ∧ (i : Int) < now.n) = true by simp; omega] at HK
  have c88 : w.cell? ⟨gb, 88, none⟩ = some (.slice (some ⟨g, 0, none⟩) now.n cap) := h.wcell
  have H1 : Hid (∀ W ls' P' n f, n < 16 → GS W ρ gb C now sv m g cap ls' P' → Calls Try.prog 50 #[.pointer (some ⟨gb, 0, none⟩), .int .i64 i, .pointer (some ⟨g, i * 128, none⟩), .int .i64 (n : Nat), .bool f] W fun e w' => e = .returned (.bool (rhKeep i n f ls' P')) ∧ GSP W ρ gb C now sv m g cap (rhLs i n f ls' P') (rhP i n f ls' P') w') := fun W ls' P' n f hn hW => renewHold_any hW i n hi hn f
  have HG := hide h
  clear h hI
  go_enter Try.func26, Try.ntmps26
  go_wp2_with (go_at_call 48; refine (unhide HK).mono ?_; rintro e w1 ⟨rfl, rfl⟩)
  have hN : (w.alloc (.cells (stA st0) 108)).heap[w.heap.size]? = some (.cells (stA st0) 108 (0, 0)) := heap_alloc_new w _
  have hA := (unhide HG).alloc (.cells (stA st0) 108)
  have hone : ∀ v, v ∈ List.map (Value.int IntKind.i64) st → v.oneCell' = true := stCells_one st
  have hinf : Option.map (fun x => x.size) (Try.prog.info? 108) = some (List.map (Value.int IntKind.i64) st).length := by rw [infoStgSize]; simp [HLn]
  have HSd := hide (unhide HS _ (hA.1.below (Below.refl _ _).drew).1)
  have HSe := hide (unhide HS _ ((unhide HG).below (Below.refl _ _).drew).1)
  have HD := hide (hA.1.below (Below.refl _ _).drew)
  have HA := hide hA
  have HN := hide hN
  clear hA hN
  go_region_held3 (fun _ => True) (trivial) (first | (go_at_call 49; refine (unhide HSd).mono ?_; rintro e w1 ⟨rfl, hbA⟩; have hNA := (hbA.block _ (lt_of_heap (unhide HN))).trans (unhide HN); have htA := there_of hNA st0_len (List.map (Value.int IntKind.i64) st).length (by simp [HLn])) | (go_at_call 49; refine (unhide HSe).mono ?_; rintro e w1 ⟨rfl, hbB⟩; have htB := there_of (heap_alloc_new w1 (.cells (stA st0) 108)) st0_len (List.map (Value.int IntKind.i64) st).length (by simp [HLn])))
  all_goals
    first
    | (have hX := stLaid ((unhide HA).trans ((unhide HD).trans ((unhide HD).1.below hbA))) hNA st0_len HLn (Nat.le_refl _) (unhide HG).fits rfl
       clear hbA hNA htA
       generalize hB : w.heap.size = B at *
       generalize w1.setCells B 0 (List.map (Value.int IntKind.i64) st) = V at *)
    | (have hX := stLaid ((((unhide HG).below (Below.refl _ _).drew).trans (((unhide HG).below (Below.refl _ _).drew).1.below hbB)).alloc (w1 := w1) (.cells (stA st0) 108)) (heap_alloc_new w1 _) st0_len HLn hbB.size (unhide HG).fits rfl
       clear hbB htB
       generalize (w1.alloc (.cells (stA st0) 108)).setCells w1.heap.size 0 (List.map (Value.int IntKind.i64) st) = V at *
       generalize hB : w1.heap.size = B at *)
    obtain ⟨hX1, hX2, hX3⟩ := hX
    have V1 := hide hX1
    have V2 := hide hX2
    have V3 := hide hX3
    clear hX1 hX2 hX3 hB HSd HSe HD HA HN
    go_wp2
    go_loopw [8, 9] (fun a q wr => ∃ k : Nat, k ≤ 16 ∧ q = .int .i64 k ∧ a = .int .i64 (rnCnt i st k (ls, P)) ∧ wr.heap[B]? = some (.cells (stA st) 108 (0, 0)) ∧ GSP w ρ gb C now sv m g cap (rnUp i st k (ls, P)).1 (rnUp i st k (ls, P)).2 wr) (fun _ q _ => 16 - (intOf q).toNat)
    case atStart => exact ⟨0, by omega, rfl, rfl, unhide V1, unhide V2⟩
    case round =>
      obtain ⟨k, hk, rfl, rfl, hrow, hgs⟩ := hrel
      by_cases hlt : k < 16
      · have C1 := fun f => hide (unhide H1 wr _ _ k f hlt hgs.1)
        have ROW := hide hrow
        have HGS := hide hgs
        have hB := lt_of_heap hrow
        have hsk : k < st.length := by omega
        have hstk : Hid (finS st k = (st[k] == 2)) := by unfold Hid finS; rw [List.getElem?_eq_getElem hsk, Bool.eq_iff_iff]; simp
        have cst : wr.cell? ⟨B, k, none⟩ = some (.int .i64 st[k]) := by
          rw [cell_of hrow]
          unfold stA
          simp [hsk]
        have hle := rnCnt_le i st k (ls, P)
        have HU1 : Hid (rnCnt i st (k + 1) (ls, P) = rnCnt i st k (ls, P) + (if rhKeep i k (finS st k) (rnUp i st k (ls, P)).1 (rnUp i st k (ls, P)).2 = true then 1 else 0)) := rfl
        have HU2 : Hid (rnUp i st (k + 1) (ls, P) = (rhLs i k (finS st k) (rnUp i st k (ls, P)).1 (rnUp i st k (ls, P)).2, rhP i k (finS st k) (rnUp i st k (ls, P)).1 (rnUp i st k (ls, P)).2)) := rfl
        rw [unhide hstk] at HU1 HU2
        generalize st[k] = v at *
        clear hrow hgs
        go_wp2_with fail
        refine (unhide (C1 _)).mono ?_
        rintro e w1 ⟨rfl, q1⟩
        have ROW1 := hide ((q1.2.block _ hB (unhide V3)).trans (unhide ROW))
        have Q1 := hide ((unhide HGS).trans q1)
        clear q1
        generalize rhKeep i k (v == 2) (rnUp i st k (ls, P)).1 (rnUp i st k (ls, P)).2 = kp at *
        cases kp
        · go_wp2
          go_roundw
          case rel => exact ⟨k + 1, by omega, by go_num, by rw [unhide HU1]; simp, unhide ROW1, by rw [unhide HU2]; exact unhide Q1⟩
          case measure => simp [intOf]; omega
        · go_wp2
          go_roundw
          case rel => exact ⟨k + 1, by omega, by go_num, by rw [unhide HU1]; simp, unhide ROW1, by rw [unhide HU2]; exact unhide Q1⟩
          case measure => simp [intOf]; omega
      · have e : k = 16 := by omega
        subst e
        have HGS := hide hgs
        clear hrow hgs
        go_wp2
        go_ret2
        exact ⟨rfl, unhide HGS⟩

set_option maxHeartbeats 1000000 in
theorem gRenew_none {w : World} {ρ : Nat → Nat} {gb : Nat} {C : Cfg} {now : Rest} {sv : Value} {m : List Cs} {g cap : Nat} {ls : List Le} {P : List Pl} (h : GS w ρ gb C now sv m g cap ls P) (i : Int) (hi : ¬ (0 ≤ i ∧ i < now.n)) :
    Calls Try.prog 26 #[.pointer (some ⟨gb, 0, none⟩), .int .i64 i] w fun e w' => e = .returned (.tuple #[.int .i64 0, .int .i64 9]) ∧ w = w' := by
  have HK := hide (hasWorker_any h i)
  rw [decide_eq_false hi] at HK
  clear h hi
  go_enter Try.func26, Try.ntmps26
  go_wp2_with (go_at_call 48; refine (unhide HK).mono ?_; rintro e w1 ⟨rfl, rfl⟩)
  go_ret2
  exact ⟨rfl, rfl⟩
set_option maxHeartbeats 1000000 in
theorem gTake_none {w : World} {ρ : Nat → Nat} {gb : Nat} {C : Cfg} {now : Rest} {sv : Value} {m : List Cs} {g cap : Nat} {ls : List Le} {P : List Pl} (h : GS w ρ gb C now sv m g cap ls P) (i : Int) (hi : ¬ (0 ≤ i ∧ i < now.n)) :
    Calls Try.prog 27 #[.pointer (some ⟨gb, 0, none⟩), .int .i64 i] w fun e w' => e = .returned (.tuple #[.int .i64 0, .int .i64 9]) ∧ w = w' := by
  have HK := hide (hasWorker_any h i)
  rw [decide_eq_false hi] at HK
  clear h hi
  go_enter Try.func27, Try.ntmps27
  go_wp2_with (go_at_call 48; refine (unhide HK).mono ?_; rintro e w1 ⟨rfl, rfl⟩)
  go_ret2
  exact ⟨rfl, rfl⟩
set_option maxHeartbeats 1000000 in
theorem gCrash_none {w : World} {ρ : Nat → Nat} {gb : Nat} {C : Cfg} {now : Rest} {sv : Value} {m : List Cs} {g cap : Nat} {ls : List Le} {P : List Pl} (h : GS w ρ gb C now sv m g cap ls P) (i : Int) (hi : ¬ (0 ≤ i ∧ i < now.n)) :
    Calls Try.prog 29 #[.pointer (some ⟨gb, 0, none⟩), .int .i64 i] w fun e w' => e = .returned (.int .i64 9) ∧ w = w' := by
  have HK := hide (hasWorker_any h i)
  rw [decide_eq_false hi] at HK
  clear h hi
  go_enter Try.func29, Try.ntmps29
  go_wp2_with (go_at_call 48; refine (unhide HK).mono ?_; rintro e w1 ⟨rfl, rfl⟩)
  go_ret
  exact ⟨rfl, rfl⟩
set_option maxHeartbeats 1000000 in
theorem gHolds_none {w : World} {ρ : Nat → Nat} {gb : Nat} {C : Cfg} {now : Rest} {sv : Value} {m : List Cs} {g cap : Nat} {ls : List Le} {P : List Pl} (h : GS w ρ gb C now sv m g cap ls P) (i : Int) (hi : ¬ (0 ≤ i ∧ i < now.n)) :
    Calls Try.prog 35 #[.pointer (some ⟨gb, 0, none⟩), .int .i64 i] w fun e w' => e = .returned (.tuple #[.slice none 0 0, .int .i64 9]) ∧ w = w' := by
  have HK := hide (hasWorker_any h i)
  rw [decide_eq_false hi] at HK
  clear h hi
  go_enter Try.func35, Try.ntmps35
  go_wp2_with (go_at_call 48; refine (unhide HK).mono ?_; rintro e w1 ⟨rfl, rfl⟩)
  go_ret2
  exact ⟨rfl, rfl⟩
set_option maxHeartbeats 1000000 in
theorem gSteal_none {w : World} {ρ : Nat → Nat} {gb : Nat} {C : Cfg} {now : Rest} {sv : Value} {m : List Cs} {g cap : Nat} {ls : List Le} {P : List Pl} (h : GS w ρ gb C now sv m g cap ls P) (i k : Int) (hi : ¬ (0 ≤ i ∧ i < now.n)) :
    Calls Try.prog 28 #[.pointer (some ⟨gb, 0, none⟩), .int .i64 i, .int .i64 k] w fun e w' => e = .returned (.int .i64 9) ∧ w = w' := by
  have HK := hide (hasWorker_any h i)
  rw [decide_eq_false hi] at HK
  clear h hi
  go_enter Try.func28, Try.ntmps28
  go_wp2_with (go_at_call 48; refine (unhide HK).mono ?_; rintro e w1 ⟨rfl, rfl⟩)
  go_ret
  exact ⟨rfl, rfl⟩
theorem gHas_any {w : World} {ρ : Nat → Nat} {gb : Nat} {C : Cfg} {now : Rest} {sv : Value} {m : List Cs} {g cap : Nat} {ls : List Le} {P : List Pl} (h : GS w ρ gb C now sv m g cap ls P) (h0 : 0 < m.length) (k : Int) :
    Calls Try.prog 54 #[.pointer (some ⟨gb, 7, none⟩), .int .i64 k] w fun e w' => e = .returned (.bool (decide (0 ≤ k ∧ k < m.length))) ∧ w = w' := by
  have hG : GrpL w ρ gb C (now.up ls P) sv m g cap P := h
  obtain ⟨bs, cp, rfl, _⟩ := hG.G.log.shape h0
  exact has_any gb 7 m.length cp (some ⟨bs, 0, none⟩) k w hG.tcell.2.1
set_option maxHeartbeats 1000000 in
theorem gSteal_noShard {w : World} {ρ : Nat → Nat} {gb : Nat} {C : Cfg} {now : Rest} {sv : Value} {m : List Cs} {g cap : Nat} {ls : List Le} {P : List Pl} (h : GS w ρ gb C now sv m g cap ls P) (h0 : 0 < m.length) (i : Nat) (hi : i < now.n) (k : Int) (hk : ¬ (0 ≤ k ∧ k < m.length)) :
    Calls Try.prog 28 #[.pointer (some ⟨gb, 0, none⟩), .int .i64 i, .int .i64 k] w fun e w' => e = .returned (.int .i64 5) ∧ w = w' := by
  have HK := hide (hasWorker_any h i)
  rw [show decide (0 ≤ (i : Int) ∧ (i : Int) < now.n) = true by simp; omega] at HK
  have HL := hide (gHas_any h h0 k)
  rw [decide_eq_false hk] at HL
  clear h hi
  go_enter Try.func28, Try.ntmps28
  go_wp2_with (first | (go_at_call 48; refine (unhide HK).mono ?_; rintro e w1 ⟨rfl, rfl⟩) | (go_at_call 54; refine (unhide HL).mono ?_; rintro e w1 ⟨rfl, rfl⟩))
  go_ret
  exact ⟨rfl, rfl⟩
set_option maxHeartbeats 1000000 in
theorem gCrash_any {w : World} {ρ : Nat → Nat} {gb : Nat} {C : Cfg} {now : Rest} {sv : Value} {m : List Cs} {g cap : Nat} {ls : List Le} {P : List Pl} (h : GS w ρ gb C now sv m g cap ls P) (i : Nat) (hi : i < now.n) :
    Calls Try.prog 29 #[.pointer (some ⟨gb, 0, none⟩), .int .i64 i] w fun e w' => e = .returned (.int .i64 0) ∧ GSP w ρ gb C now sv m g cap ls (forgetP P i 16) w' := by
  have HK := hide (hasWorker_any h i)
  rw [show decide (0 ≤ (i : Int) ∧ (i : Int) < now.n) = true by simp; omega] at HK
  have c88 : w.cell? ⟨gb, 88, none⟩ = some (.slice (some ⟨g, 0, none⟩) now.n cap) := h.wcell
  have HF : Hid (Calls Try.prog 57 #[.pointer (some ⟨g, i * 128, none⟩)] w fun e w' => e = .returned (.tuple #[]) ∧ GSP w ρ gb C now sv m g cap ls (forgetP P i 16) w') := gForget_any (now := now.up ls P) h i hi
  clear h
  go_enter Try.func29, Try.ntmps29
  go_wp2_with (first | (go_at_call 48; refine (unhide HK).mono ?_; rintro e w1 ⟨rfl, rfl⟩) | (go_at_call 57; refine (unhide HF).mono ?_; rintro e w1 ⟨rfl, q1⟩; have Q1 := hide q1; clear q1))
  go_ret
  exact ⟨rfl, unhide Q1⟩
set_option maxRecDepth 100000 in
set_option maxHeartbeats 2000000 in
theorem gHolds_any {w : World} {ρ : Nat → Nat} {gb : Nat} {C : Cfg} {now : Rest} {sv : Value} {m : List Cs} {g cap : Nat} {ls : List Le} {P : List Pl} (h : GS w ρ gb C now sv m g cap ls P) (i : Nat) (hi : i < now.n) :
    Calls Try.prog 35 #[.pointer (some ⟨gb, 0, none⟩), .int .i64 i] w fun e w' => ∃ v, e = .returned (.tuple #[v, .int .i64 0]) ∧ w'.ownsRow w.heap.size 75 4 v (heldOf P i 16).length (rowHd (heldOf P i 16)) ∧ Below w.heap.size w w' := by
  have HK := hide (hasWorker_any h i)
  rw [show decide (0 ≤ (i : Int) ∧ (i : Int) < now.n) = true by simp; omega] at HK
  have c88 : w.cell? ⟨gb, 88, none⟩ = some (.slice (some ⟨g, 0, none⟩) now.n cap) := h.wcell
  have HF := hide (plHolds_any w g cap now.n P i hi (GrpL.pls (now := now.up ls P) h))
  clear h
  go_enter Try.func35, Try.ntmps35
  go_wp2_with (first | (go_at_call 48; refine (unhide HK).mono ?_; rintro e w1 ⟨rfl, rfl⟩) | (go_at_call 64; refine (unhide HF).mono ?_; intro e w1 hq; obtain ⟨v, rfl, q1, q2⟩ := hq; have Q1 := hide q1; have Q2 := hide q2; clear q1 q2))
  go_ret2
  exact ⟨v, rfl, unhide Q1, unhide Q2⟩
set_option maxHeartbeats 1000000 in
theorem gLease_none {w : World} {ρ : Nat → Nat} {gb : Nat} {C : Cfg} {now : Rest} {sv : Value} {m : List Cs} {g cap : Nat} {ls : List Le} {P : List Pl} (h : GS w ρ gb C now sv m g cap ls P) (h0 : 0 < m.length) (k : Int) (hk : ¬ (0 ≤ k ∧ k < m.length)) :
    Calls Try.prog 36 #[.pointer (some ⟨gb, 0, none⟩), .int .i64 k] w fun e w' => e = .returned (.tuple #[.agg #[.int .i64 0, .int .i64 0, .int .i64 0], .int .i64 5]) ∧ Below w.heap.size w w' := by
  have HL := hide (gHas_any (h.alloc (.cells #[.int .i64 0, .int .i64 0, .int .i64 0] 70)).1 h0 k)
  rw [decide_eq_false hk] at HL
  clear h
  go_enter Try.func36, Try.ntmps36
  go_wp2_with (go_at_call 54; refine (unhide HL).mono ?_; rintro e w1 ⟨rfl, rfl⟩)
  refine bodyPost_ret (v := .tuple #[.agg #[.int .i64 0, .int .i64 0, .int .i64 0], .int .i64 5]) ?_ rfl ⟨rfl, (Below.refl _ w).alloc (Nat.le_refl _) _⟩
  simp [results, Try.results36, go_sem]
set_option maxRecDepth 100000 in
set_option maxHeartbeats 1000000 in
theorem gLease_any {w : World} {ρ : Nat → Nat} {gb : Nat} {C : Cfg} {now : Rest} {sv : Value} {m : List Cs} {g cap : Nat} {ls : List Le} {P : List Pl} (h : GS w ρ gb C now sv m g cap ls P) (h0 : 0 < m.length) (k : Nat) (hk : k < m.length) (x : Le) (hx : ls[k]? = some x) :
    Calls Try.prog 36 #[.pointer (some ⟨gb, 0, none⟩), .int .i64 k] w fun e w' => e = .returned (.tuple #[.agg #[.int .i64 x.o, .int .i64 x.c, .int .i64 x.e], .int .i64 0]) ∧ Below w.heap.size w w' := by
  have hA := (h.alloc (.cells #[.int .i64 0, .int .i64 0, .int .i64 0] 70)).1
  have hG : GrpL (w.alloc (.cells #[.int .i64 0, .int .i64 0, .int .i64 0] 70)) ρ gb C (now.up ls P) sv m g cap P := hA
  have HL := hide (gHas_any hA h0 k)
  rw [show decide (0 ≤ (k : Int) ∧ (k : Int) < m.length) = true by simp; omega] at HL
  have HO := hide (rowOf_any _ gb _ _ _ _ k x hG.row hx)
  rw [grpA_len _ _ _ hG.G.dnL] at HO
  clear h hA hG
  go_enter Try.func36, Try.ntmps36
  go_wp2_with fail
  refine (unhide HL).mono ?_
  rintro e w1 ⟨rfl, rfl⟩
  go_wp2_with fail
  have N0 := heap_alloc_new w (.cells #[.int .i64 0, .int .i64 0, .int .i64 0] 70)
  have B0 := (Below.refl w.heap.size w).alloc (Nat.le_refl _) (.cells #[.int .i64 0, .int .i64 0, .int .i64 0] 70)
  generalize w.alloc (.cells #[.int .i64 0, .int .i64 0, .int .i64 0] 70) = W at *
  refine (unhide HO).mono ?_
  rintro e w1 ⟨rfl, hb⟩
  have N1 := (hb.block _ (lt_of_heap N0)).trans N0
  have BB := hide (B0.trans (hb.mono B0.size))
  have k0 := cell_of N1 0
  have k1 := cell_of N1 1
  have k2 := cell_of N1 2
  simp at k0 k1 k2
  have f0 := frozen_of N1 0
  have f1 := frozen_of N1 1
  have f2 := frozen_of N1 2
  have NN := hide N1
  clear N1 N0 B0 hb
  go_wp2
  have M1 := heap_setCell_same (i := 0) (unhide NN) (.int .i64 x.o)
  have M2 := heap_setCell_same (i := 1) M1 (.int .i64 x.c)
  have M3 := heap_setCell_same (i := 2) M2 (.int .i64 x.e)
  have B3 : Hid (Below w.heap.size w (((w1.setCell ⟨w.heap.size, 0, none⟩ (.int .i64 x.o)).setCell ⟨w.heap.size, 1, none⟩ (.int .i64 x.c)).setCell ⟨w.heap.size, 2, none⟩ (.int .i64 x.e))) := (((unhide BB).setCell (p := ⟨w.heap.size, 0, none⟩) (Nat.le_refl _) _).setCell (p := ⟨w.heap.size, 1, none⟩) (Nat.le_refl _) _).setCell (p := ⟨w.heap.size, 2, none⟩) (Nat.le_refl _) _
  generalize ((w1.setCell ⟨w.heap.size, 0, none⟩ (.int .i64 x.o)).setCell ⟨w.heap.size, 1, none⟩ (.int .i64 x.c)).setCell ⟨w.heap.size, 2, none⟩ (.int .i64 x.e) = V at *
  have r0 := cell_of M3 0
  have r1 := cell_of M3 1
  have r2 := cell_of M3 2
  simp at r0 r1 r2
  refine bodyPost_ret (v := .tuple #[.agg #[.int .i64 x.o, .int .i64 x.c, .int .i64 x.e], .int .i64 0]) ?_ rfl ⟨rfl, unhide B3⟩
  simp [results, Try.results36, go_sem, r0, r1, r2]

/-- Take: the first shard that worker i may take. -/
def TakeIs (f : Nat → Bool) (r : Option Nat) : Prop := match r with
  | some n => n < 16 ∧ f n = true ∧ ∀ k, k < n → f k = false
  | none => ∀ k, k < 16 → f k = false
def takeLs (i : Nat) (ls : List Le) (r : Option Nat) : List Le := match r with
  | some n => giveLs i n ls
  | none => ls
def takeP (dn : Nat → Int) (i : Nat) (ls : List Le) (P : List Pl) (r : Option Nat) : List Pl := match r with
  | some n => giveP (dn n) i n ls P
  | none => P
def takeV (r : Option Nat) : Value := match r with
  | some n => .tuple #[.int .i64 n, .int .i64 0]
  | none => .tuple #[.int .i64 0, .int .i64 10]
/-- What Take leaves. -/
def TakeP (w : World) (ρ : Nat → Nat) (gb : Nat) (C : Cfg) (now : Rest) (sv : Value) (m : List Cs) (g cap : Nat) (ls : List Le) (P : List Pl) (i : Nat) (f : Nat → Bool) (e : Ending) (w' : World) : Prop :=
  ∃ r, TakeIs f r ∧ e = .returned (takeV r) ∧ GSP w ρ gb C now sv m g cap (takeLs i ls r) (takeP (dnP now.dn) i ls P r) w'

set_option maxRecDepth 100000 in
set_option maxHeartbeats 2000000 in
theorem gTake_any {w : World} {ρ : Nat → Nat} {gb : Nat} {C : Cfg} {now : Rest} {sv : Value} {m : List Cs} {g cap : Nat} {ls : List Le} {P : List Pl} (h : GS w ρ gb C now sv m g cap ls P) (hI : Inv (m.map (·.s))) (i : Nat) (hi : i < now.n) :
    Calls Try.prog 27 #[.pointer (some ⟨gb, 0, none⟩), .int .i64 i] w (TakeP w ρ gb C now sv m g cap ls (notesP ls now.t i m.length P) i (mayP (stgUp (m.map (·.s)) (dnP now.dn) m.length) ls (notesP ls now.t i m.length P) now.t C.l i)) := by
  have h0 : 0 < m.length := by have := hI.pos; simpa using this
  have HK := hide (hasWorker_any h i)
  rw [show decide (0 ≤ (i : Int) ∧ (i : Int) < now.n) = true by simp; omega] at HK
  have c88 : w.cell? ⟨gb, 88, none⟩ = some (.slice (some ⟨g, 0, none⟩) now.n cap) := h.wcell
  have H1 := hide (makeNotes_any h h0 i hi)
  generalize hN : notesP ls now.t i m.length P = N at H1 ⊢
  have H2 : Hid (∀ W, GS W ρ gb C now sv m g cap ls N → Calls Try.prog 52 #[.pointer (some ⟨gb, 0, none⟩), .pointer (some ⟨g, i * 128, none⟩)] W fun e w' => FreePost (mayP (stgUp (m.map (·.s)) (dnP now.dn) m.length) ls N now.t C.l i) e ∧ GSP W ρ gb C now sv m g cap ls N w') := fun W hW => findFree_any hW hI i hi
  have H3 : Hid (∀ W (n : Nat), n < 16 → GS W ρ gb C now sv m g cap ls N → Calls Try.prog 53 #[.pointer (some ⟨gb, 0, none⟩), .int .i64 i, .pointer (some ⟨g, i * 128, none⟩), .int .i64 n] W fun e w' => e = .returned (.tuple #[]) ∧ GSP W ρ gb C now sv m g cap (giveLs i n ls) (giveP (dnP now.dn n) i n ls N) w') := fun W n hn hW => give_any hW i n hi hn
  generalize mayP (stgUp (m.map (·.s)) (dnP now.dn) m.length) ls N now.t C.l i = F at H2 ⊢
  clear h hI hN
  go_enter Try.func27, Try.ntmps27
  go_wp2_with (go_at_call 48; refine (unhide HK).mono ?_; rintro e w1 ⟨rfl, rfl⟩)
  refine (unhide H1).mono ?_
  rintro e w1 ⟨rfl, q1⟩
  have Q1 := hide q1
  clear q1
  go_wp2_with fail
  refine (unhide H2 _ (unhide Q1).1).mono ?_
  rintro e w2 ⟨hfp, q2⟩
  have Q2 := hide ((unhide Q1).trans q2)
  clear q2
  rcases hfp with ⟨n, hn, hf, hno, rfl⟩ | ⟨hno, rfl⟩
  · have HF := hide hf
    have HN := hide hno
    clear hf hno
    go_wp2_with fail
    refine (unhide H3 _ n hn (unhide Q2).1).mono ?_
    rintro e w3 ⟨rfl, q3⟩
    have Q3 := hide ((unhide Q2).trans q3)
    clear q3
    go_wp2
    go_ret2
    exact ⟨some n, ⟨hn, unhide HF, unhide HN⟩, rfl, unhide Q3⟩
  · have HN := hide hno
    clear hno
    go_wp2
    go_ret2
    exact ⟨none, unhide HN, rfl, unhide Q2⟩

set_option maxRecDepth 100000 in
set_option maxHeartbeats 2000000 in
theorem gStage_any {w : World} {ρ : Nat → Nat} {gb : Nat} {C : Cfg} {now : Rest} {sv : Value} {m : List Cs} {g cap : Nat} {ls : List Le} {P : List Pl} (h : GS w ρ gb C now sv m g cap ls P) (hI : Inv (m.map (·.s))) (k : Nat) (hk : k < 16) :
    Calls Try.prog 56 #[.pointer (some ⟨gb, 8, none⟩), .pointer (some ⟨gb, 7, none⟩), .int .i64 k] w fun e w' => (∃ v, (stgUp (m.map (·.s)) (dnP now.dn) m.length)[k]? = some v ∧ e = .returned (.int .i64 v)) ∧ Below w.heap.size w w' := by
  have HS := hide (gStages_any h hI)
  have HLn := stgUp_len (m.map (·.s)) (dnP now.dn) m.length
  generalize stgUp (m.map (·.s)) (dnP now.dn) m.length = st at HS HLn ⊢
  have HH' := hide (sinkHas_any k w)
  rw [hasS16 hk] at HH'
  clear h hI
  go_enter Try.func56, Try.ntmps56
  go_wp2_with (go_at_call 91; refine (unhide HH').mono ?_; rintro e w1 ⟨rfl, rfl⟩)
  refine (unhide HS).mono ?_
  rintro e w1 ⟨rfl, hb⟩
  have hsk : k < st.length := by omega
  have hstk : Hid (st[k]? = some st[k]) := List.getElem?_eq_getElem hsk
  have cst : (w1.alloc (.cells (stA st) 108)).cell? ⟨w1.heap.size, k, none⟩ = some (.int .i64 st[k]) := by
    rw [cell_of (heap_alloc_new w1 _)]
    unfold stA
    simp [hsk]
  have BB := hide (hb.alloc hb.size (.cells (stA st) 108))
  have hsz := stA_size HLn
  have z0 := st0_len
  generalize st[k] = v at *
  clear hb
  go_wp2
  go_ret
  exact ⟨⟨v, unhide hstk, rfl⟩, unhide BB⟩

/-- Steal, of a shard that is there. -/
def stealV (held : Bool) (v : Int) : Int := if held = true then 11 else if v = 1 then 0 else 12
def stealLs (held : Bool) (v : Int) (i k : Nat) (ls : List Le) : List Le := if held = false ∧ v = 1 then giveLs i k ls else ls
def stealP (held : Bool) (v : Int) (d : Int) (i k : Nat) (ls : List Le) (P : List Pl) : List Pl := if held = false ∧ v = 1 then giveP d i k ls P else P

set_option maxRecDepth 100000 in
set_option maxHeartbeats 2000000 in
theorem gSteal_any {w : World} {ρ : Nat → Nat} {gb : Nat} {C : Cfg} {now : Rest} {sv : Value} {m : List Cs} {g cap : Nat} {ls : List Le} {P : List Pl} (h : GS w ρ gb C now sv m g cap ls P) (hI : Inv (m.map (·.s))) (i : Nat) (hi : i < now.n) (k : Nat) (hk : k < m.length) (p : Pl) (hp : P[i * 16 + k]? = some p) (v : Int) (hv : (stgUp (m.map (·.s)) (dnP now.dn) m.length)[k]? = some v) :
    Calls Try.prog 28 #[.pointer (some ⟨gb, 0, none⟩), .int .i64 i, .int .i64 k] w fun e w' => e = .returned (.int .i64 (stealV p.held v)) ∧ GSP w ρ gb C now sv m g cap (stealLs p.held v i k ls) (stealP p.held v (dnP now.dn k) i k ls P) w' := by
  have h0 : 0 < m.length := by omega
  have h16 : m.length ≤ 16 := GrpL.le h
  have k16 : k < 16 := by omega
  have HK := hide (hasWorker_any h i)
  rw [show decide (0 ≤ (i : Int) ∧ (i : Int) < now.n) = true by simp; omega] at HK
  have HL := hide (gHas_any h h0 k)
  rw [show decide (0 ≤ (k : Int) ∧ (k : Int) < m.length) = true by simp; omega] at HL
  have c88 : w.cell? ⟨gb, 88, none⟩ = some (.slice (some ⟨g, 0, none⟩) now.n cap) := h.wcell
  have H1 : Hid (Calls Try.prog 55 #[.pointer (some ⟨g, i * 128, none⟩), .int .i64 k] w fun e w' => e = .returned (.tuple #[if p.held = true then .agg #[.int .i64 p.h.sh, .int .i64 p.h.ep, .int .i64 p.h.at_, .int .i64 p.h.bf] else .agg #[.int .i64 0, .int .i64 0, .int .i64 0, .int .i64 0], .bool p.held]) ∧ GSP w ρ gb C now sv m g cap ls P w') := gHold_any (now := now.up ls P) h i k k16 p hp
  have H2 : Hid (∀ W, GS W ρ gb C now sv m g cap ls P → Calls Try.prog 56 #[.pointer (some ⟨gb, 8, none⟩), .pointer (some ⟨gb, 7, none⟩), .int .i64 k] W fun e w' => e = .returned (.int .i64 v) ∧ GSP W ρ gb C now sv m g cap ls P w') := fun W hW => (gStage_any hW hI k k16).mono fun e w' q => by
    obtain ⟨⟨v', hv', rfl⟩, q2⟩ := q
    rw [hv] at hv'
    injection hv' with hv'
    subst hv'
    exact ⟨rfl, hW.below q2⟩
  have H3 : Hid (∀ W, GS W ρ gb C now sv m g cap ls P → Calls Try.prog 53 #[.pointer (some ⟨gb, 0, none⟩), .int .i64 i, .pointer (some ⟨g, i * 128, none⟩), .int .i64 k] W fun e w' => e = .returned (.tuple #[]) ∧ GSP W ρ gb C now sv m g cap (giveLs i k ls) (giveP (dnP now.dn k) i k ls P) w') := fun W hW => give_any hW i k hi k16
  obtain ⟨ha, hb, hc, hd, hhv⟩ : ∃ a b c d : Int, (if p.held = true then Value.agg #[.int .i64 p.h.sh, .int .i64 p.h.ep, .int .i64 p.h.at_, .int .i64 p.h.bf] else .agg #[.int .i64 0, .int .i64 0, .int .i64 0, .int .i64 0]) = .agg #[.int .i64 a, .int .i64 b, .int .i64 c, .int .i64 d] := by
    cases p.held
    · exact ⟨_, _, _, _, rfl⟩
    · exact ⟨_, _, _, _, rfl⟩
  rw [hhv] at H1
  generalize dnP now.dn k = dk at *
  generalize p.held = held at *
  have HG := hide h
  clear h hI hv hp hhv
  go_enter Try.func28, Try.ntmps28
  go_wp2_with (first | (go_at_call 48; refine (unhide HK).mono ?_; rintro e w1 ⟨rfl, rfl⟩) | (go_at_call 54; refine (unhide HL).mono ?_; rintro e w1 ⟨rfl, rfl⟩))
  refine (unhide H1).mono ?_
  rintro e w1 ⟨rfl, q1⟩
  have Q1 := hide (q1.alloc (w1 := w1) (.cells #[.int .i64 ha, .int .i64 hb, .int .i64 hc, .int .i64 hd] 75))
  clear q1
  cases held
  · go_wp2_with fail
    generalize w1.alloc (.cells #[.int .i64 ha, .int .i64 hb, .int .i64 hc, .int .i64 hd] 75) = W at *
    have QD := hide ((unhide Q1).trans ((unhide Q1).1.below (Below.refl _ _).drew))
    have HSd := hide (unhide H2 _ (unhide QD).1)
    go_region_held3 (fun _ => True) (trivial) ((go_at_call 56; refine (unhide HSd).mono ?_; rintro e w2 ⟨rfl, q2⟩))
    have Q2 := hide ((unhide QD).trans q2)
    clear q2
    by_cases hv1 : v = 1
    · subst hv1
      go_wp2_with fail
      refine (unhide H3 _ (unhide Q2).1).mono ?_
      rintro e w3 ⟨rfl, q3⟩
      have Q3 := hide ((unhide Q2).trans q3)
      clear q3
      go_wp2
      go_ret
      exact ⟨rfl, unhide Q3⟩
    · go_wp2
      go_ret
      refine ⟨by simp [stealV, hv1], ?_⟩
      rw [stealLs, stealP, if_neg (fun e => hv1 e.2), if_neg (fun e => hv1 e.2)]
      exact unhide Q2
  · go_wp2
    go_ret
    refine ⟨by simp [stealV], ?_⟩
    rw [stealLs, stealP, if_neg (by simp), if_neg (by simp)]
    exact unhide Q1

end Go.Proofs.Ytpnkmnmchdabkaa
