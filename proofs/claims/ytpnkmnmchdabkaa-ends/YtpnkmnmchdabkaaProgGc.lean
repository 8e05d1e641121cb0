import Derived.Test.YtpnkmnmchdabkaaProgSt
namespace Go.Proofs.Ytpnkmnmchdabkaa
open Go.RowKit
attribute [local go_sem ↓] Go.wp_at_zero Go.wp_at_succ

/-- A group's rest, with other leases and places. -/
def Rest.up (now : Rest) (ls : List Le) (P : List Pl) : Rest := { now with ls := ls, mem := plsCells P }
/-- The group, its leases and places named. -/
def GS (w : World) (ρ : Nat → Nat) (gb : Nat) (C : Cfg) (now : Rest) (sv : Value) (m : List Cs) (g cap : Nat) (ls : List Le) (P : List Pl) : Prop := GrpL w ρ gb C (now.up ls P) sv m g cap P
/-- What a call leaves. -/
def GSP (w : World) (ρ : Nat → Nat) (gb : Nat) (C : Cfg) (now : Rest) (sv : Value) (m : List Cs) (g cap : Nat) (ls : List Le) (P : List Pl) (w' : World) : Prop := GS w' ρ gb C now sv m g cap ls P ∧ Keeps (mine ρ) w w'
theorem GrpL.gs {w : World} {ρ : Nat → Nat} {gb : Nat} {C : Cfg} {now : Rest} {sv : Value} {m : List Cs} {g cap : Nat} {P : List Pl} (h : GrpL w ρ gb C now sv m g cap P) : GS w ρ gb C now sv m g cap now.ls P := by
  have e : now.up now.ls P = now := by
    have := h.hm
    cases now
    simp only [Rest.up] at this ⊢
    rw [this]
  unfold GS
  rw [e]
  exact h
theorem GSP.refl {w : World} {ρ : Nat → Nat} {gb : Nat} {C : Cfg} {now : Rest} {sv : Value} {m : List Cs} {g cap : Nat} {ls : List Le} {P : List Pl} (h : GS w ρ gb C now sv m g cap ls P) : GSP w ρ gb C now sv m g cap ls P w := ⟨h, Keeps.refl _ w⟩
theorem GSP.trans {w w1 w2 : World} {ρ : Nat → Nat} {gb : Nat} {C : Cfg} {now : Rest} {sv : Value} {m : List Cs} {g cap : Nat} {ls ls' : List Le} {P P' : List Pl} (h : GSP w ρ gb C now sv m g cap ls P w1) (h' : GSP w1 ρ gb C now sv m g cap ls' P' w2) : GSP w ρ gb C now sv m g cap ls' P' w2 := ⟨h'.1, h.2.trans h'.2⟩
theorem GS.below {w : World} {ρ : Nat → Nat} {gb : Nat} {C : Cfg} {now : Rest} {sv : Value} {m : List Cs} {g cap : Nat} {ls : List Le} {P : List Pl} (h : GS w ρ gb C now sv m g cap ls P) {w' : World} (hb : Below w.heap.size w w') : GSP w ρ gb C now sv m g cap ls P w' := GrpL.below h hb
theorem GSP.alloc {w w1 : World} {ρ : Nat → Nat} {gb : Nat} {C : Cfg} {now : Rest} {sv : Value} {m : List Cs} {g cap : Nat} {ls : List Le} {P : List Pl} (h : GSP w ρ gb C now sv m g cap ls P w1) (o : Obj) : GSP w ρ gb C now sv m g cap ls P (w1.alloc o) := h.trans (h.1.below ((Below.refl _ w1).alloc (Nat.le_refl _) o))
theorem GS.alloc {w : World} {ρ : Nat → Nat} {gb : Nat} {C : Cfg} {now : Rest} {sv : Value} {m : List Cs} {g cap : Nat} {ls : List Le} {P : List Pl} (h : GS w ρ gb C now sv m g cap ls P) (o : Obj) : GSP w ρ gb C now sv m g cap ls P (w.alloc o) := h.below ((Below.refl _ w).alloc (Nat.le_refl _) o)
/-- A new block stands behind a call. -/
theorem new_stands {w1 w2 : World} {ρ : Nat → Nat} {cs : Array Value} {t : TypeId} (hf : Fits w1 ρ) (hk : Keeps (mine ρ) (w1.alloc (.cells cs t)) w2) : w2.heap[w1.heap.size]? = some (.cells cs t (0, 0)) :=
  (hk.block _ (by simp) (by unfold mine; rw [hf _ (Nat.le_refl _)]; omega)).trans (heap_alloc_new w1 _)
theorem GS.fits {w : World} {ρ : Nat → Nat} {gb : Nat} {C : Cfg} {now : Rest} {sv : Value} {m : List Cs} {g cap : Nat} {ls : List Le} {P : List Pl} (h : GS w ρ gb C now sv m g cap ls P) : Fits w ρ := GrpL.fits h
theorem cell_alloc {w : World} {b i : Nat} {v : Value} {cs : Array Value} {t : TypeId} {f : Nat × Nat} (h : w.heap[b]? = some (.cells cs t f)) (hv : cs[i]? = some v) (o : Obj) : (w.alloc o).cell? ⟨b, i, none⟩ = some v := by
  rw [World.cell?_of_block (w := w) (Below.heap_alloc _ _ _ (lt_of_heap h)), cell_of h, hv]
theorem GS.lsL {w : World} {ρ : Nat → Nat} {gb : Nat} {C : Cfg} {now : Rest} {sv : Value} {m : List Cs} {g cap : Nat} {ls : List Le} {P : List Pl} (h : GS w ρ gb C now sv m g cap ls P) : ls.length = 16 := GrpAt.lsL (GrpL.G h)
theorem GS.plL {w : World} {ρ : Nat → Nat} {gb : Nat} {C : Cfg} {now : Rest} {sv : Value} {m : List Cs} {g cap : Nat} {ls : List Le} {P : List Pl} (h : GS w ρ gb C now sv m g cap ls P) : P.length = now.n * 16 := (GrpL.hl (show GrpL w ρ gb C (now.up ls P) sv m g cap P from h) :)
theorem GS.lease {w : World} {ρ : Nat → Nat} {gb : Nat} {C : Cfg} {now : Rest} {sv : Value} {m : List Cs} {g cap : Nat} {ls : List Le} {P : List Pl} (h : GS w ρ gb C now sv m g cap ls P) {n : Nat} (hn : n < 16) : ∃ x, ls[n]? = some x := ⟨ls[n]'(by rw [h.lsL]; exact hn), List.getElem?_eq_getElem _⟩
theorem GS.pl {w : World} {ρ : Nat → Nat} {gb : Nat} {C : Cfg} {now : Rest} {sv : Value} {m : List Cs} {g cap : Nat} {ls : List Le} {P : List Pl} (h : GS w ρ gb C now sv m g cap ls P) {i n : Nat} (hi : i < now.n) (hn : n < 16) : ∃ p, P[i * 16 + n]? = some p := ⟨P[i * 16 + n]'(by rw [h.plL]; omega), List.getElem?_eq_getElem _⟩

set_option maxHeartbeats 400000 in
theorem hasWorker_any {w : World} {ρ : Nat → Nat} {gb : Nat} {C : Cfg} {now : Rest} {sv : Value} {m : List Cs} {g cap : Nat} {ls : List Le} {P : List Pl} (h : GS w ρ gb C now sv m g cap ls P) (i : Int) :
    Calls Try.prog 48 #[.pointer (some ⟨gb, 0, none⟩), .int .i64 i] w fun e w' => e = .returned (.bool (decide (0 ≤ i ∧ i < now.n))) ∧ w = w' := by
  have c := GrpL.wcell h
  have c0 : w.cell? ⟨gb, 88, none⟩ = some (.slice (some ⟨g, 0, none⟩) now.n cap) := c
  clear h c
  by_cases h1 : 0 ≤ i
  · by_cases h2 : i < now.n
    all_goals
      go_enter Try.func48, Try.ntmps48
      go_wp2
      go_ret
      exact ⟨by simp [h1, h2], rfl⟩
  · go_enter Try.func48, Try.ntmps48
    go_wp2
    go_ret
    exact ⟨by simp; omega, rfl⟩

/-- A place whose hold is lost. -/
def dropped (p : Pl) : Pl := { p with held := false, h := ⟨0, 0, 0, 0⟩ }
/-- renewHold: the leases, the places, the answer. -/
def rhLs (i n : Nat) (f : Bool) (ls : List Le) (P : List Pl) : List Le := match ls[n]?, P[i * 16 + n]? with
  | some x, some p => if p.held = true ∧ x.o = i ∧ x.e = p.h.ep then (if f = true then ls.set n ⟨-1, inc x.c, x.e⟩ else ls.set n { x with c := inc x.c }) else ls
  | _, _ => ls
def rhP (i n : Nat) (f : Bool) (ls : List Le) (P : List Pl) : List Pl := match ls[n]?, P[i * 16 + n]? with
  | some x, some p => if p.held = true ∧ ¬ (x.o = i ∧ x.e = p.h.ep ∧ f = false) then P.set (i * 16 + n) (dropped p) else P
  | _, _ => P
def rhKeep (i n : Nat) (f : Bool) (ls : List Le) (P : List Pl) : Bool := match ls[n]?, P[i * 16 + n]? with
  | some x, some p => decide (p.held = true ∧ x.o = i ∧ x.e = p.h.ep ∧ f = false)
  | _, _ => false

set_option maxRecDepth 100000 in
set_option maxHeartbeats 2000000 in
theorem renewHold_any {w : World} {ρ : Nat → Nat} {gb : Nat} {C : Cfg} {now : Rest} {sv : Value} {m : List Cs} {g cap : Nat} {ls : List Le} {P : List Pl} (h : GS w ρ gb C now sv m g cap ls P) (i n : Nat) (hi : i < now.n) (hn : n < 16) (f : Bool) :
    Calls Try.prog 50 #[.pointer (some ⟨gb, 0, none⟩), .int .i64 i, .pointer (some ⟨g, i * 128, none⟩), .int .i64 n, .bool f] w fun e w' => e = .returned (.bool (rhKeep i n f ls P)) ∧ GSP w ρ gb C now sv m g cap (rhLs i n f ls P) (rhP i n f ls P) w' := by
  obtain ⟨x, hx⟩ := h.lease hn
  obtain ⟨p, hp⟩ := h.pl hi hn
  have E1 : Hid (rhKeep i n f ls P = decide (p.held = true ∧ x.o = i ∧ x.e = p.h.ep ∧ f = false)) := by unfold Hid rhKeep; rw [hx, hp]
  have E2 : Hid (rhLs i n f ls P = if p.held = true ∧ x.o = i ∧ x.e = p.h.ep then (if f = true then ls.set n ⟨-1, inc x.c, x.e⟩ else ls.set n { x with c := inc x.c }) else ls) := by unfold Hid rhLs; rw [hx, hp]
  have E3 : Hid (rhP i n f ls P = if p.held = true ∧ ¬ (x.o = i ∧ x.e = p.h.ep ∧ f = false) then P.set (i * 16 + n) (dropped p) else P) := by unfold Hid rhP; rw [hx, hp]
  have H1 := hide (gHold_any h i n hn p hp)
  have H2 : Hid (∀ W, GS W ρ gb C now sv m g cap ls P → Calls Try.prog 65 #[.pointer (some ⟨gb, 40, none⟩), .int .i64 n] W fun e w' => e = .returned (.agg #[.int .i64 x.o, .int .i64 x.c, .int .i64 x.e]) ∧ GSP W ρ gb C now sv m g cap ls P w') := fun W hW => gOf_any hW n x hx
  have H3 : Hid (∀ W ls', GS W ρ gb C now sv m g cap ls' P → Calls Try.prog 83 #[.pointer (some ⟨g, i * 128, none⟩), .int .i64 n] W fun e w' => e = .returned (.tuple #[]) ∧ GSP W ρ gb C now sv m g cap ls' (P.set (i * 16 + n) (dropped p)) w') := fun W ls' hW => gDrop_any hW i n hn p hp
  have H4 : Hid (∀ W, GS W ρ gb C now sv m g cap ls P → Calls Try.prog 84 #[.pointer (some ⟨gb, 40, none⟩), .int .i64 n] W fun e w' => e = .returned (.tuple #[]) ∧ GSP W ρ gb C now sv m g cap (ls.set n ⟨-1, inc x.c, x.e⟩) P w') := fun W hW => gFree_any hW n x hx
  have H5 : Hid (∀ W, GS W ρ gb C now sv m g cap ls P → Calls Try.prog 85 #[.pointer (some ⟨gb, 40, none⟩), .int .i64 n] W fun e w' => e = .returned (.tuple #[]) ∧ GSP W ρ gb C now sv m g cap (ls.set n { x with c := inc x.c }) P w') := fun W hW => gLRenew_any hW n x hx
  have H0 := hide h
  clear h hx hp
  cases hh : p.held
  · rw [hh] at H1 E1 E2 E3
    simp only [Bool.false_eq_true, if_false] at H1
    go_enter Try.func50, Try.ntmps50
    go_wp2_with fail
    refine (unhide H1).mono ?_
    rintro e w1 ⟨rfl, q1⟩
    have Q1 : Hid (GSP w ρ gb C now sv m g cap ls P w1) := q1
    clear q1
    go_wp2
    go_ret
    refine ⟨by rw [unhide E1]; simp, ?_⟩
    rw [unhide E2, unhide E3, if_neg (by simp), if_neg (by simp)]
    exact (unhide Q1).alloc _
  · rw [hh] at H1 E1 E2 E3
    simp only [if_true] at H1
    by_cases ho : x.o = i ∧ x.e = p.h.ep
    · obtain ⟨ho, he⟩ := ho
      rw [ho, he] at H2
      cases f
      · go_enter Try.func50, Try.ntmps50
        go_wp2_with fail
        refine (unhide H1).mono ?_
        rintro e w1 ⟨rfl, q1⟩
        have Q1 : Hid (GSP w ρ gb C now sv m g cap ls P w1) := q1
        clear q1
        go_wp2_with fail
        have A1 := hide ((unhide Q1).alloc (w1 := w1) (.cells #[.int .i64 p.h.sh, .int .i64 p.h.ep, .int .i64 p.h.at_, .int .i64 p.h.bf] 75))
        refine (unhide H2 _ (unhide A1).1).mono ?_
        rintro e w2 ⟨rfl, q2⟩
        have S2 := new_stands (unhide Q1).1.fits q2.2
        have ce : (w2.alloc (.cells #[.int .i64 i, .int .i64 x.c, .int .i64 p.h.ep] 70)).cell? ⟨w1.heap.size, 1, none⟩ = some (.int .i64 p.h.ep) := cell_alloc S2 rfl _
        have Q2 := hide (q2.alloc (w1 := w2) (.cells #[.int .i64 i, .int .i64 x.c, .int .i64 p.h.ep] 70))
        clear q2 S2
        go_wp2_with fail
        refine (unhide H5 _ (unhide Q2).1).mono ?_
        rintro e w3 ⟨rfl, q3⟩
        have Q3 := hide q3
        clear q3
        go_wp2
        go_ret
        refine ⟨by rw [unhide E1]; simp [ho, he], ?_⟩
        rw [show rhLs i n false ls P = ls.set n { x with c := inc x.c } from by rw [unhide E2]; simp [ho, he], show rhP i n false ls P = P from by rw [unhide E3]; simp [ho, he]]
        exact (unhide A1).trans ((unhide Q2).trans (unhide Q3))
      · go_enter Try.func50, Try.ntmps50
        go_wp2_with fail
        refine (unhide H1).mono ?_
        rintro e w1 ⟨rfl, q1⟩
        have Q1 : Hid (GSP w ρ gb C now sv m g cap ls P w1) := q1
        clear q1
        go_wp2_with fail
        have A1 := hide ((unhide Q1).alloc (w1 := w1) (.cells #[.int .i64 p.h.sh, .int .i64 p.h.ep, .int .i64 p.h.at_, .int .i64 p.h.bf] 75))
        refine (unhide H2 _ (unhide A1).1).mono ?_
        rintro e w2 ⟨rfl, q2⟩
        have S2 := new_stands (unhide Q1).1.fits q2.2
        have ce : (w2.alloc (.cells #[.int .i64 i, .int .i64 x.c, .int .i64 p.h.ep] 70)).cell? ⟨w1.heap.size, 1, none⟩ = some (.int .i64 p.h.ep) := cell_alloc S2 rfl _
        have Q2 := hide (q2.alloc (w1 := w2) (.cells #[.int .i64 i, .int .i64 x.c, .int .i64 p.h.ep] 70))
        clear q2 S2
        go_wp2_with fail
        refine (unhide H4 _ (unhide Q2).1).mono ?_
        rintro e w3 ⟨rfl, q3⟩
        have Q3 := hide q3
        clear q3
        go_wp2_with fail
        refine (unhide H3 _ _ (unhide Q3).1).mono ?_
        rintro e w4 ⟨rfl, q4⟩
        have Q4 := hide q4
        clear q4
        go_wp2
        go_ret
        refine ⟨by rw [unhide E1]; simp, ?_⟩
        rw [show rhLs i n true ls P = ls.set n ⟨-1, inc x.c, x.e⟩ from by rw [unhide E2]; simp [ho, he], show rhP i n true ls P = P.set (i * 16 + n) (dropped p) from by rw [unhide E3]; simp]
        exact (unhide A1).trans ((unhide Q2).trans ((unhide Q3).trans (unhide Q4)))
    · have hb : (x.o = i ∧ ¬ x.e = p.h.ep) ∨ ¬ x.o = i := by
        by_cases h1 : x.o = i
        · exact Or.inl ⟨h1, fun e => ho ⟨h1, e⟩⟩
        · exact Or.inr h1
      have e2 : Hid (rhLs i n f ls P = ls) := by unfold Hid; rw [unhide E2, if_neg (fun hc => ho hc.2)]
      have e3 : Hid (rhP i n f ls P = P.set (i * 16 + n) (dropped p)) := by unfold Hid; rw [unhide E3, if_pos ⟨rfl, fun hc => ho ⟨hc.1, hc.2.1⟩⟩]
      have e1 : Hid (rhKeep i n f ls P = false) := by unfold Hid; rw [unhide E1]; simp only [decide_eq_false_iff_not]; exact fun hc => ho ⟨hc.2.1, hc.2.2.1⟩
      clear E1 E2 E3 ho
      rcases hb with ⟨h1, h2⟩ | h1
      · rw [h1] at H2
        go_enter Try.func50, Try.ntmps50
        go_wp2_with fail
        refine (unhide H1).mono ?_
        rintro e w1 ⟨rfl, q1⟩
        have Q1 : Hid (GSP w ρ gb C now sv m g cap ls P w1) := q1
        clear q1
        go_wp2_with fail
        have A1 := hide ((unhide Q1).alloc (w1 := w1) (.cells #[.int .i64 p.h.sh, .int .i64 p.h.ep, .int .i64 p.h.at_, .int .i64 p.h.bf] 75))
        refine (unhide H2 _ (unhide A1).1).mono ?_
        rintro e w2 ⟨rfl, q2⟩
        have S2 := new_stands (unhide Q1).1.fits q2.2
        have ce : (w2.alloc (.cells #[.int .i64 i, .int .i64 x.c, .int .i64 x.e] 70)).cell? ⟨w1.heap.size, 1, none⟩ = some (.int .i64 p.h.ep) := cell_alloc S2 rfl _
        have Q2 := hide (q2.alloc (w1 := w2) (.cells #[.int .i64 i, .int .i64 x.c, .int .i64 x.e] 70))
        clear q2 S2
        go_wp2_with fail
        refine (unhide H3 _ _ (unhide Q2).1).mono ?_
        rintro e w4 ⟨rfl, q4⟩
        have Q4 := hide q4
        clear q4
        go_wp2
        go_ret
        refine ⟨by rw [unhide e1]; rfl, ?_⟩
        rw [unhide e2, unhide e3]
        exact (unhide A1).trans ((unhide Q2).trans (unhide Q4))
      · go_enter Try.func50, Try.ntmps50
        go_wp2_with fail
        refine (unhide H1).mono ?_
        rintro e w1 ⟨rfl, q1⟩
        have Q1 : Hid (GSP w ρ gb C now sv m g cap ls P w1) := q1
        clear q1
        go_wp2_with fail
        have A1 := hide ((unhide Q1).alloc (w1 := w1) (.cells #[.int .i64 p.h.sh, .int .i64 p.h.ep, .int .i64 p.h.at_, .int .i64 p.h.bf] 75))
        refine (unhide H2 _ (unhide A1).1).mono ?_
        rintro e w2 ⟨rfl, q2⟩
        have S2 := new_stands (unhide Q1).1.fits q2.2
        have ce : (w2.alloc (.cells #[.int .i64 x.o, .int .i64 x.c, .int .i64 x.e] 70)).cell? ⟨w1.heap.size, 1, none⟩ = some (.int .i64 p.h.ep) := cell_alloc S2 rfl _
        have Q2 := hide (q2.alloc (w1 := w2) (.cells #[.int .i64 x.o, .int .i64 x.c, .int .i64 x.e] 70))
        clear q2 S2
        go_wp2_with fail
        refine (unhide H3 _ _ (unhide Q2).1).mono ?_
        rintro e w4 ⟨rfl, q4⟩
        have Q4 := hide q4
        clear q4
        go_wp2
        go_ret
        refine ⟨by rw [unhide e1]; rfl, ?_⟩
        rw [unhide e2, unhide e3]
        exact (unhide A1).trans ((unhide Q2).trans (unhide Q4))

/-- A worker takes a shard. -/
def giveLs (i n : Nat) (ls : List Le) : List Le := match ls[n]? with
  | some x => ls.set n ⟨i, inc x.c, inc x.e⟩
  | none => ls
def giveP (d : Int) (i n : Nat) (ls : List Le) (P : List Pl) : List Pl := match ls[n]?, P[i * 16 + n]? with
  | some x, some p => P.set (i * 16 + n) { p with held := true, h := ⟨n, inc x.e, d, 0⟩ }
  | _, _ => P

set_option maxRecDepth 100000 in
set_option maxHeartbeats 2000000 in
theorem give_any {w : World} {ρ : Nat → Nat} {gb : Nat} {C : Cfg} {now : Rest} {sv : Value} {m : List Cs} {g cap : Nat} {ls : List Le} {P : List Pl} (h : GS w ρ gb C now sv m g cap ls P) (i n : Nat) (hi : i < now.n) (hn : n < 16) :
    Calls Try.prog 53 #[.pointer (some ⟨gb, 0, none⟩), .int .i64 i, .pointer (some ⟨g, i * 128, none⟩), .int .i64 n] w fun e w' => e = .returned (.tuple #[]) ∧ GSP w ρ gb C now sv m g cap (giveLs i n ls) (giveP (dnP now.dn n) i n ls P) w' := by
  obtain ⟨x, hx⟩ := h.lease hn
  obtain ⟨p, hp⟩ := h.pl hi hn
  have E2 : Hid (giveLs i n ls = ls.set n ⟨i, inc x.c, inc x.e⟩) := by unfold Hid giveLs; rw [hx]
  have E3 : Hid (giveP (dnP now.dn n) i n ls P = P.set (i * 16 + n) { p with held := true, h := ⟨n, inc x.e, dnP now.dn n, 0⟩ }) := by unfold Hid giveP; rw [hx, hp]
  have H1 : Hid (Calls Try.prog 88 #[.pointer (some ⟨gb, 40, none⟩), .int .i64 n, .int .i64 i] w fun e w' => e = .returned (.int .i64 (inc x.e)) ∧ GSP w ρ gb C now sv m g cap (ls.set n ⟨i, inc x.c, inc x.e⟩) P w') := gGive_any h n x hx i
  have H2 : Hid (∀ W ls', GS W ρ gb C now sv m g cap ls' P → Calls Try.prog 89 #[.pointer (some ⟨gb, 8, none⟩), .int .i64 n] W fun e w' => e = .returned (.int .i64 (dnP now.dn n)) ∧ W = w') := fun W ls' hW => gDone_any hW n hn
  have H3 : Hid (∀ W ls' ep at_, GS W ρ gb C now sv m g cap ls' P → Calls Try.prog 60 #[.pointer (some ⟨g, i * 128, none⟩), .agg #[.int .i64 n, .int .i64 ep, .int .i64 at_, .int .i64 0]] W fun e w' => e = .returned (.tuple #[]) ∧ GSP W ρ gb C now sv m g cap ls' (P.set (i * 16 + n) { p with held := true, h := ⟨n, ep, at_, 0⟩ }) w') := fun W ls' ep at_ hW => gKeep_any hW i n hn p hp ep at_ 0
  clear h hx hp
  generalize inc x.c = xc at *
  generalize inc x.e = xe at *
  generalize dnP now.dn n = d at *
  go_enter Try.func53, Try.ntmps53
  go_wp2_with fail
  refine (unhide H1).mono ?_
  rintro e w1 ⟨rfl, q1⟩
  have Q1 := hide q1
  clear q1
  go_wp2_with fail
  refine (unhide H2 _ _ (unhide Q1).1).mono ?_
  rintro e w2 ⟨rfl, rfl⟩
  go_wp2_with fail
  refine (unhide H3 _ _ _ _ (unhide Q1).1).mono ?_
  rintro e w3 ⟨rfl, q3⟩
  have Q3 := hide q3
  clear q3
  go_wp2
  go_end0
  refine ⟨rfl, ?_⟩
  rw [unhide E2, unhide E3]
  exact (unhide Q1).trans (unhide Q3)

end Go.Proofs.Ytpnkmnmchdabkaa
