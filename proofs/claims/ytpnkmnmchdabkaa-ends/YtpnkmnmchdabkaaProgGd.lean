import Derived.Test.YtpnkmnmchdabkaaProgGc
namespace Go.Proofs.Ytpnkmnmchdabkaa
open Go.RowKit
attribute [local go_sem ↓] Go.wp_at_zero Go.wp_at_succ
attribute [local go_sem ↓] zvStg ldS_shut stS_shut
attribute [local go_sem] stS_new

theorem there_of {w : World} {b : Nat} {K : List Int} {t : TypeId} (h : w.heap[b]? = some (.cells (stA K) t (0, 0))) (hK : K.length = 16) (n : Nat) (hn : n ≤ 16) : w.there b 0 n := by
  intro j hj
  refine ⟨?_, frozen_of h _⟩
  rw [cell_of h]
  unfold stA
  simp
  omega
theorem stSet {w : World} {b : Nat} {K L : List Int} {t : TypeId} (h : w.heap[b]? = some (.cells (stA K) t (0, 0))) (hK : K.length = 16) (hL : L.length = 16) : w.setCells b 0 (List.map (Value.int .i64) L) = w.setRow b (stA L) := by
  have h1 := stStg h hK hL
  have h2 := run_storeVar_mid (P := Try.prog) w b 0 108 (stA L) (there_of h hK _ (by rw [stA_size hL]; exact Nat.le_refl _)) (by rw [stA_size hL]; exact infoStgSize) (all_oneCell_toArray (stCells_one L))
  have h3 := h1.symm.trans h2
  simp only [Result.ok.injEq, true_and] at h3
  rw [h3]
  unfold stA
  rw [List.toList_toArray]
/-- The stages, laid into a block of their own. -/
theorem stLaid {w W V : World} {ρ : Nat → Nat} {gb : Nat} {C : Cfg} {now : Rest} {sv : Value} {m : List Cs} {g cap : Nat} {ls : List Le} {P : List Pl} (hW : GSP w ρ gb C now sv m g cap ls P W) {b : Nat} {K L : List Int} (h : W.heap[b]? = some (.cells (stA K) 108 (0, 0))) (hK : K.length = 16) (hL : L.length = 16) (hb : w.heap.size ≤ b) (hf : Fits w ρ) (hV : V = W.setCells b 0 (List.map (Value.int .i64) L)) :
    V.heap[b]? = some (.cells (stA L) 108 (0, 0)) ∧ GSP w ρ gb C now sv m g cap ls P V ∧ ¬ mine ρ b := by
  have hz : ρ b = 0 := hf b hb
  rw [stSet h hK hL] at hV
  subst hV
  have hk : Keeps (fun k => k = b) W (W.setRow b (stA L)) := ⟨rfl, rfl, rfl, by simp [World.setRow], fun k _ hne => setRow_other hne⟩
  refine ⟨setRow_same h, ⟨?_, hW.2.os, hW.2.tape, hW.2.output, by have := hW.2.size; simpa [World.setRow] using this, fun k hk' hn => (setRow_other (by omega)).trans (hW.2.block k hk' hn)⟩, by unfold mine; omega⟩
  have hG : GrpL W ρ gb C (now.up ls P) sv m g cap P := hW.1
  exact ⟨hG.G.keeps hk (fun k e => Or.inl (by subst e; unfold mine; omega)) (fun _ _ => rfl) hG.le, hG.hw, hG.hm, hG.hl, hG.le, fun k hk' => hG.fits k (by simpa [World.setRow] using hk')⟩
theorem gStages_any {w : World} {ρ : Nat → Nat} {gb : Nat} {C : Cfg} {now : Rest} {sv : Value} {m : List Cs} {g cap : Nat} {ls : List Le} {P : List Pl} (h : GS w ρ gb C now sv m g cap ls P) (hI : Inv (m.map (·.s))) :
    Calls Try.prog 49 #[.pointer (some ⟨gb, 8, none⟩), .pointer (some ⟨gb, 7, none⟩)] w fun e w' => e = .returned (.agg (stA (stgUp (m.map (·.s)) (dnP now.dn) m.length))) ∧ Below w.heap.size w w' :=
  stages_any (now := now.up ls P) h hI

/-- Is shard n free, as far as worker i can see? -/
def freeP (ls : List Le) (P : List Pl) (t L : Int) (i n : Nat) : Bool := match ls[n]?, P[i * 16 + n]? with
  | some x, some p => decide (x.o = -1) || (p.made && decide (p.c = x.c) && decide (L ≤ dif t p.s))
  | _, _ => false

set_option maxRecDepth 100000 in
set_option maxHeartbeats 2000000 in
theorem isFree_any {w : World} {ρ : Nat → Nat} {gb : Nat} {C : Cfg} {now : Rest} {sv : Value} {m : List Cs} {g cap : Nat} {ls : List Le} {P : List Pl} (h : GS w ρ gb C now sv m g cap ls P) (i n : Nat) (hi : i < now.n) (hn : n < 16) :
    Calls Try.prog 87 #[.pointer (some ⟨gb, 0, none⟩), .pointer (some ⟨g, i * 128, none⟩), .int .i64 n] w fun e w' => e = .returned (.bool (freeP ls P now.t C.l i n)) ∧ GSP w ρ gb C now sv m g cap ls P w' := by
  obtain ⟨x, hx⟩ := h.lease hn
  obtain ⟨p, hp⟩ := h.pl hi hn
  have E1 : Hid (freeP ls P now.t C.l i n = (decide (x.o = -1) || (p.made && decide (p.c = x.c) && decide (C.l ≤ dif now.t p.s)))) := by unfold Hid freeP; rw [hx, hp]
  have H1 : Hid (Calls Try.prog 65 #[.pointer (some ⟨gb, 40, none⟩), .int .i64 n] w fun e w' => e = .returned (.agg #[.int .i64 x.o, .int .i64 x.c, .int .i64 x.e]) ∧ GSP w ρ gb C now sv m g cap ls P w') := gOf_any h n x hx
  have H2 : Hid (∀ W, GS W ρ gb C now sv m g cap ls P → ∀ c s u : Int, Calls Try.prog 108 #[.pointer (some ⟨g, i * 128, none⟩), .int .i64 n, .int .i64 c, .int .i64 s, .int .i64 u] W fun e w' => e = .returned (.bool (p.made && decide (p.c = c) && decide (u ≤ dif s p.s))) ∧ GSP W ρ gb C now sv m g cap ls P w') := fun W hW c s u => gNoted_any hW i n hn p hp c s u
  have H3 : Hid (∀ W, GS W ρ gb C now sv m g cap ls P → W.cell? ⟨gb, 6, none⟩ = some (.int .i64 now.t) ∧ W.cell? ⟨gb, 1, none⟩ = some (.int .i64 C.l)) := fun W hW => ⟨(GrpL.tcell hW).1, (GrpL.tcell hW).2.2.1⟩
  clear h hx hp
  by_cases ho : x.o = -1
  · go_enter Try.func87, Try.ntmps87
    go_wp2_with fail
    refine (unhide H1).mono ?_
    rintro e w1 ⟨rfl, q1⟩
    have Q1 := hide q1
    clear q1
    go_wp2
    go_ret
    exact ⟨by rw [unhide E1]; simp [ho], (unhide Q1).alloc _⟩
  · go_enter Try.func87, Try.ntmps87
    go_wp2_with fail
    refine (unhide H1).mono ?_
    rintro e w1 ⟨rfl, q1⟩
    have Q1 := hide q1
    have A1 := hide (q1.alloc (w1 := w1) (.cells #[.int .i64 x.o, .int .i64 x.c, .int .i64 x.e] 70))
    obtain ⟨c6, c1⟩ := unhide H3 _ (unhide A1).1
    clear q1
    go_wp2_with fail
    have cl : (w1.alloc (.cells #[.int .i64 x.o, .int .i64 x.c, .int .i64 x.e] 70)).cell? ⟨w1.heap.size, 1, none⟩ = some (.int .i64 x.c) := cell_of (heap_alloc_new w1 _) 1
    have hlt : w1.heap.size < (w1.alloc (.cells #[.int .i64 x.o, .int .i64 x.c, .int .i64 x.e] 70)).heap.size := by simp
    have AD := hide ((unhide A1).1.below ((Below.refl _ _).drew))
    have hz : Hid (¬ mine ρ w1.heap.size) := fun hm => by have := (unhide Q1).1.fits _ (Nat.le_refl _); unfold mine at hm; omega
    generalize w1.alloc (.cells #[.int .i64 x.o, .int .i64 x.c, .int .i64 x.e] 70) = W at *
    have HC := hide (unhide H2 _ (unhide AD).1 x.c now.t C.l)
    go_region_held3 (fun w' => w'.cell? ⟨w1.heap.size, 1, none⟩ = some (.int .i64 x.c) ∧ w'.cell? ⟨gb, 6, none⟩ = some (.int .i64 now.t) ∧ w'.cell? ⟨gb, 1, none⟩ = some (.int .i64 C.l)) (first | go_keep | trivial) ((go_at_call 108; refine (unhide HC).mono ?_; rintro e w2 ⟨rfl, q2⟩; have d1 := (q2.2.cell (p := ⟨w1.heap.size, 1, none⟩) hlt (unhide hz)).trans cl; obtain ⟨d6, d2⟩ := unhide H3 _ q2.1; have Q2 := hide q2; clear q2))
    go_wp2
    go_ret
    exact ⟨by rw [unhide E1]; simp [ho], (unhide A1).trans ((unhide AD).trans (unhide Q2))⟩

/-- The notes of worker i, for the first n shards. -/
def notesP (ls : List Le) (t : Int) (i : Nat) : Nat → List Pl → List Pl
  | 0, P => P
  | n + 1, P => match ls[n]?, (notesP ls t i n P)[i * 16 + n]? with
    | some x, some p => (notesP ls t i n P).set (i * 16 + n) (noted p x.c t)
    | _, _ => notesP ls t i n P
theorem notesP_len (ls : List Le) (t : Int) (i n : Nat) (P : List Pl) : (notesP ls t i n P).length = P.length := by
  induction n with
  | zero => rfl
  | succ n ih =>
    unfold notesP
    cases ls[n]? with
    | none => exact ih
    | some x =>
      cases (notesP ls t i n P)[i * 16 + n]? with
      | none => exact ih
      | some p => simp [ih]

set_option maxRecDepth 100000 in
set_option maxHeartbeats 2000000 in
theorem makeNotes_any {w : World} {ρ : Nat → Nat} {gb : Nat} {C : Cfg} {now : Rest} {sv : Value} {m : List Cs} {g cap : Nat} {ls : List Le} {P : List Pl} (h : GS w ρ gb C now sv m g cap ls P) (h0 : 0 < m.length) (i : Nat) (hi : i < now.n) :
    Calls Try.prog 51 #[.pointer (some ⟨gb, 0, none⟩), .pointer (some ⟨g, i * 128, none⟩)] w fun e w' => e = .returned (.tuple #[]) ∧ GSP w ρ gb C now sv m g cap ls (notesP ls now.t i m.length P) w' := by
  have h16 := GrpL.le h
  have HN : Hid (Calls Try.prog 79 #[.pointer (some ⟨gb, 7, none⟩)] w fun e w' => e = .returned (.int .i64 m.length) ∧ w = w') := gLen_any h h0
  have H1 : Hid (∀ W P' n x, ls[n]? = some x → GS W ρ gb C now sv m g cap ls P' → Calls Try.prog 65 #[.pointer (some ⟨gb, 40, none⟩), .int .i64 (n : Nat)] W fun e w' => e = .returned (.agg #[.int .i64 x.o, .int .i64 x.c, .int .i64 x.e]) ∧ GSP W ρ gb C now sv m g cap ls P' w') := fun W P' n x hx hW => gOf_any hW n x hx
  have H2 : Hid (∀ W P' n p, n < 16 → P'[i * 16 + n]? = some p → GS W ρ gb C now sv m g cap ls P' → ∀ c s : Int, Calls Try.prog 86 #[.pointer (some ⟨g, i * 128, none⟩), .int .i64 (n : Nat), .int .i64 c, .int .i64 s] W fun e w' => e = .returned (.tuple #[]) ∧ GSP W ρ gb C now sv m g cap ls (P'.set (i * 16 + n) (noted p c s)) w') := fun W P' n p hn hp hW c s => gNote_any hW i n hn p hp c s
  have H3 : Hid (∀ W P', GS W ρ gb C now sv m g cap ls P' → W.cell? ⟨gb, 6, none⟩ = some (.int .i64 now.t)) := fun W P' hW => (GrpL.tcell hW).1
  have HX := hide h.lsL
  have HG := hide h
  clear h
  go_enter Try.func51, Try.ntmps51
  go_wp2_with fail
  refine (unhide HN).mono ?_
  rintro e w1 ⟨rfl, rfl⟩
  go_wp2
  go_loopw [5] (fun q wr => ∃ k : Nat, k ≤ m.length ∧ q = .int .i64 k ∧ GSP w ρ gb C now sv m g cap ls (notesP ls now.t i k P) wr) (fun q _ => m.length - (intOf q).toNat)
  case atStart => exact ⟨0, by omega, rfl, GSP.refl (unhide HG)⟩
  case round =>
    obtain ⟨k, hk, rfl, q0⟩ := hrel
    by_cases hlt : k < m.length
    · obtain ⟨x, hx⟩ : ∃ x, ls[k]? = some x := ⟨ls[k]'(by rw [unhide HX]; omega), List.getElem?_eq_getElem _⟩
      obtain ⟨p, hp⟩ : ∃ p, (notesP ls now.t i k P)[i * 16 + k]? = some p := ⟨(notesP ls now.t i k P)[i * 16 + k]'(by rw [q0.1.plL]; omega), List.getElem?_eq_getElem _⟩
      have HU : Hid (notesP ls now.t i (k + 1) P = (notesP ls now.t i k P).set (i * 16 + k) (noted p x.c now.t)) := by unfold Hid; rw [notesP, hx, hp]
      have Q0 := hide q0
      have HXk := hide hx
      have HPk := hide hp
      clear q0 hx hp
      go_wp2_with fail
      refine (unhide H1 _ _ k x (unhide HXk) (unhide Q0).1).mono ?_
      rintro e w1 ⟨rfl, q1⟩
      have hz : Hid (¬ mine ρ w1.heap.size) := fun hm => by have := q1.1.fits _ (Nat.le_refl _); unfold mine at hm; omega
      have A1 := hide (q1.alloc (w1 := w1) (.cells #[.int .i64 x.o, .int .i64 x.c, .int .i64 x.e] 70))
      have c6 := unhide H3 _ _ (unhide A1).1
      clear q1
      go_wp2_with fail
      have cl : (w1.alloc (.cells #[.int .i64 x.o, .int .i64 x.c, .int .i64 x.e] 70)).cell? ⟨w1.heap.size, 1, none⟩ = some (.int .i64 x.c) := cell_of (heap_alloc_new w1 _) 1
      have hlt' : w1.heap.size < (w1.alloc (.cells #[.int .i64 x.o, .int .i64 x.c, .int .i64 x.e] 70)).heap.size := by simp
      have AD := hide ((unhide A1).1.below ((Below.refl _ _).drew))
      generalize w1.alloc (.cells #[.int .i64 x.o, .int .i64 x.c, .int .i64 x.e] 70) = W at *
      have HC := hide (unhide H2 _ _ k p (by omega) (unhide HPk) (unhide AD).1 x.c now.t)
      go_region_held3 (fun w' => w'.cell? ⟨w1.heap.size, 1, none⟩ = some (.int .i64 x.c) ∧ w'.cell? ⟨gb, 6, none⟩ = some (.int .i64 now.t)) (first | go_keep | trivial) ((go_at_call 86; refine (unhide HC).mono ?_; rintro e w2 ⟨rfl, q2⟩; have d1 := (q2.2.cell (p := ⟨w1.heap.size, 1, none⟩) hlt' (unhide hz)).trans cl; have d6 := unhide H3 _ _ q2.1; have Q2 := hide q2; clear q2))
      go_wp2
      go_roundw
      case rel => exact ⟨k + 1, by omega, by go_num, by rw [unhide HU]; exact (unhide Q0).trans ((unhide A1).trans ((unhide AD).trans (unhide Q2)))⟩
      case measure => simp [intOf]; omega
    · have e : k = m.length := by omega
      subst e
      have Q0 := hide q0
      clear q0
      go_wp2
      go_end0
      exact ⟨rfl, unhide Q0⟩

/-- May worker i take shard n? -/
def mayP (st : List Int) (ls : List Le) (P : List Pl) (t L : Int) (i n : Nat) : Bool := match P[i * 16 + n]? with
  | some p => decide (st[n]? = some 1) && !p.held && freeP ls P t L i n
  | none => false
/-- What findFree answers. -/
def FreePost (f : Nat → Bool) (e : Ending) : Prop :=
  (∃ n : Nat, n < 16 ∧ f n = true ∧ (∀ k, k < n → f k = false) ∧ e = .returned (.tuple #[.int .i64 n, .bool true])) ∨ ((∀ k, k < 16 → f k = false) ∧ e = .returned (.tuple #[.int .i64 0, .bool false]))

set_option maxRecDepth 100000 in
set_option maxHeartbeats 4000000 in
theorem findFree_any {w : World} {ρ : Nat → Nat} {gb : Nat} {C : Cfg} {now : Rest} {sv : Value} {m : List Cs} {g cap : Nat} {ls : List Le} {P : List Pl} (h : GS w ρ gb C now sv m g cap ls P) (hI : Inv (m.map (·.s))) (i : Nat) (hi : i < now.n) :
    Calls Try.prog 52 #[.pointer (some ⟨gb, 0, none⟩), .pointer (some ⟨g, i * 128, none⟩)] w fun e w' => FreePost (mayP (stgUp (m.map (·.s)) (dnP now.dn) m.length) ls P now.t C.l i) e ∧ GSP w ρ gb C now sv m g cap ls P w' := by
  have HS : Hid (∀ W, GS W ρ gb C now sv m g cap ls P → Calls Try.prog 49 #[.pointer (some ⟨gb, 8, none⟩), .pointer (some ⟨gb, 7, none⟩)] W fun e w' => e = .returned (.agg (stA (stgUp (m.map (·.s)) (dnP now.dn) m.length))) ∧ Below W.heap.size W w') := fun W hW => gStages_any hW hI
  have HLn := stgUp_len (m.map (·.s)) (dnP now.dn) m.length
  generalize stgUp (m.map (·.s)) (dnP now.dn) m.length = st at HS HLn ⊢
  have H1 : Hid (∀ W n p, n < 16 → P[i * 16 + n]? = some p → GS W ρ gb C now sv m g cap ls P → Calls Try.prog 55 #[.pointer (some ⟨g, i * 128, none⟩), .int .i64 (n : Nat)] W fun e w' => e = .returned (.tuple #[if p.held = true then .agg #[.int .i64 p.h.sh, .int .i64 p.h.ep, .int .i64 p.h.at_, .int .i64 p.h.bf] else .agg #[.int .i64 0, .int .i64 0, .int .i64 0, .int .i64 0], .bool p.held]) ∧ GSP W ρ gb C now sv m g cap ls P w') := fun W n p hn hp hW => gHold_any hW i n hn p hp
  have H2 : Hid (∀ W (n : Nat), n < 16 → GS W ρ gb C now sv m g cap ls P → Calls Try.prog 87 #[.pointer (some ⟨gb, 0, none⟩), .pointer (some ⟨g, i * 128, none⟩), .int .i64 n] W fun e w' => e = .returned (.bool (freeP ls P now.t C.l i n)) ∧ GSP W ρ gb C now sv m g cap ls P w') := fun W n hn hW => isFree_any hW i n hi hn
  have HP : Hid (∀ n, n < 16 → ∃ p, P[i * 16 + n]? = some p) := fun n hn => h.pl hi hn
  have HG := hide h
  clear h hI
  go_enter Try.func52, Try.ntmps52
  go_wp2_with fail
  have hN : (w.alloc (.cells (stA st0) 108)).heap[w.heap.size]? = some (.cells (stA st0) 108 (0, 0)) := heap_alloc_new w _
  have hA := (unhide HG).alloc (.cells (stA st0) 108)
  have hone : ∀ v, v ∈ List.map (Value.int IntKind.i64) st → v.oneCell' = true := stCells_one st
  have hinf : Option.map (fun x => x.size) (Try.prog.info? 108) = some (List.map (Value.int IntKind.i64) st).length := by rw [infoStgSize]; simp [HLn]
  have HSd := hide (unhide HS _ (hA.1.below (Below.refl _ _).drew).1)
  have HSe := hide (unhide HS _ ((unhide HG).below (Below.refl _ _).drew).1)
  have HD := hide (hA.1.below (Below.refl _ _).drew)
  have HA := hide hA
  have HN := hide hN
  clear hA hN
  go_region_held3 (fun _ => True) (trivial) (first | (go_at_call 49; refine (unhide HSd).mono ?_; rintro e w1 ⟨rfl, hbA⟩; have hNA := (hbA.block _ (lt_of_heap (unhide HN))).trans (unhide HN); have htA := there_of hNA st0_len (List.map (Value.int IntKind.i64) st).length (by simp [HLn])) | (go_at_call 49; refine (unhide HSe).mono ?_; rintro e w1 ⟨rfl, hbB⟩; have htB := there_of (heap_alloc_new w1 (.cells (stA st0) 108)) st0_len (List.map (Value.int IntKind.i64) st).length (by simp [HLn])))
  all_goals
    first
    | (have hX := stLaid ((unhide HA).trans ((unhide HD).trans ((unhide HD).1.below hbA))) hNA st0_len HLn (Nat.le_refl _) (unhide HG).fits rfl
       clear hbA hNA htA
       generalize hB : w.heap.size = B at *
       generalize w1.setCells B 0 (List.map (Value.int IntKind.i64) st) = V at *)
    | (have hX := stLaid ((((unhide HG).below (Below.refl _ _).drew).trans (((unhide HG).below (Below.refl _ _).drew).1.below hbB)).alloc (w1 := w1) (.cells (stA st0) 108)) (heap_alloc_new w1 _) st0_len HLn hbB.size (unhide HG).fits rfl
       clear hbB htB
       generalize (w1.alloc (.cells (stA st0) 108)).setCells w1.heap.size 0 (List.map (Value.int IntKind.i64) st) = V at *
       generalize hB : w1.heap.size = B at *)
    obtain ⟨hX1, hX2, hX3⟩ := hX
    have V1 := hide hX1
    have V2 := hide hX2
    have V3 := hide hX3
    clear hX1 hX2 hX3 hB HSd HSe HD HA HN
    go_wp2
    go_loopw [7] (fun q wr => ∃ k : Nat, k ≤ 16 ∧ q = .int .i64 k ∧ (∀ j, j < k → mayP st ls P now.t C.l i j = false) ∧ wr.heap[B]? = some (.cells (stA st) 108 (0, 0)) ∧ GSP w ρ gb C now sv m g cap ls P wr) (fun q _ => 16 - (intOf q).toNat)
    case atStart => exact ⟨0, by omega, rfl, fun j hj => by omega, unhide V1, unhide V2⟩
    case round =>
      obtain ⟨k, hk, rfl, hno, hrow, hgs⟩ := hrel
      by_cases hlt : k < 16
      · obtain ⟨p, hp⟩ := unhide HP k hlt
        have HM : Hid (mayP st ls P now.t C.l i k = (decide (st[k]? = some 1) && !p.held && freeP ls P now.t C.l i k)) := by unfold Hid mayP; rw [hp]
        have C1 := hide (unhide H1 wr k p hlt hp hgs.1)
        have HNo := hide hno
        have ROW := hide hrow
        have HGS := hide hgs
        have hB := lt_of_heap hrow
        have hsk : k < st.length := by omega
        have hstk : Hid (st[k]? = some st[k]) := List.getElem?_eq_getElem hsk
        generalize st[k] = v at hstk
        clear hno hrow hgs hp
        obtain ⟨ha, hb, hc, hd, hhv⟩ : ∃ a b c d : Int, (if p.held = true then Value.agg #[.int .i64 p.h.sh, .int .i64 p.h.ep, .int .i64 p.h.at_, .int .i64 p.h.bf] else .agg #[.int .i64 0, .int .i64 0, .int .i64 0, .int .i64 0]) = .agg #[.int .i64 a, .int .i64 b, .int .i64 c, .int .i64 d] := by
          cases p.held
          · exact ⟨_, _, _, _, rfl⟩
          · exact ⟨_, _, _, _, rfl⟩
        rw [hhv] at C1
        clear hhv
        generalize p.held = held at *
        go_wp2_with fail
        refine (unhide C1).mono ?_
        rintro e w1 ⟨rfl, q1⟩
        have hr1 := (q1.2.block _ hB (unhide V3)).trans (unhide ROW)
        have ROW1 := hide ((Below.heap_alloc w1 (.cells #[.int .i64 ha, .int .i64 hb, .int .i64 hc, .int .i64 hd] 75) _ (lt_of_heap hr1)).trans hr1)
        have Q1 := hide (((unhide HGS).trans q1).alloc (w1 := w1) (.cells #[.int .i64 ha, .int .i64 hb, .int .i64 hc, .int .i64 hd] 75))
        clear q1 hr1
        go_wp2_with fail
        refine (unhide H2 _ k hlt (unhide Q1).1).mono ?_
        rintro e w2 ⟨rfl, q2⟩
        have hr2 := (q2.2.block _ (lt_of_heap (unhide ROW1)) (unhide V3)).trans (unhide ROW1)
        have cst : w2.cell? ⟨B, k, none⟩ = some (.int .i64 v) := by
          rw [cell_of hr2]
          unfold stA
          have := unhide hstk
          simp [this]
        have ROW2 := hide hr2
        have Q2 := hide ((unhide Q1).trans q2)
        clear q2 hr2
        generalize freeP ls P now.t C.l i k = fr at *
        have nxt : Hid (mayP st ls P now.t C.l i k = false → ∀ j, j < k + 1 → mayP st ls P now.t C.l i j = false) := fun hf j hj => by
          by_cases e : j = k
          · rw [e]; exact hf
          · exact unhide HNo j (by omega)
        by_cases hv1 : v = 1
        · subst hv1
          cases held
          · cases fr
            · go_wp2
              go_roundw
              case rel => exact ⟨k + 1, by omega, by go_num, unhide nxt (by rw [unhide HM]; simp), unhide ROW2, unhide Q2⟩
              case measure => simp [intOf]; omega
            · go_wp2
              go_ret2
              exact ⟨Or.inl ⟨k, hlt, by rw [unhide HM, unhide hstk]; simp, unhide HNo, rfl⟩, unhide Q2⟩
          · go_wp2
            go_roundw
            case rel => exact ⟨k + 1, by omega, by go_num, unhide nxt (by rw [unhide HM]; simp), unhide ROW2, unhide Q2⟩
            case measure => simp [intOf]; omega
        · go_wp2
          go_roundw
          case rel => exact ⟨k + 1, by omega, by go_num, unhide nxt (by rw [unhide HM, unhide hstk]; simp [hv1]), unhide ROW2, unhide Q2⟩
          case measure => simp [intOf]; omega
      · have e : k = 16 := by omega
        subst e
        have HNo := hide hno
        have HGS := hide hgs
        clear hno hrow hgs
        go_wp2
        go_ret2
        exact ⟨Or.inr ⟨unhide HNo, rfl⟩, unhide HGS⟩

end Go.Proofs.Ytpnkmnmchdabkaa
