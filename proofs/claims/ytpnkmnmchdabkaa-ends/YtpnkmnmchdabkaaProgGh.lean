import Derived.Test.YtpnkmnmchdabkaaM17
namespace Go.Proofs.Ytpnkmnmchdabkaa
open Go.RowKit
attribute [local go_sem ↓] Go.wp_at_zero Go.wp_at_succ

theorem GSP.transN {w w1 w2 : World} {ρ : Nat → Nat} {gb : Nat} {C : Cfg} {now now' : Rest} {sv : Value} {m : List Cs} {g cap : Nat} {ls ls' : List Le} {P P' : List Pl} (h : GSP w ρ gb C now sv m g cap ls P w1) (h' : GSP w1 ρ gb C now' sv m g cap ls' P' w2) : GSP w ρ gb C now' sv m g cap ls' P' w2 := ⟨h'.1, h.2.trans h'.2⟩
theorem gCount_any {w : World} {ρ : Nat → Nat} {gb : Nat} {C : Cfg} {now : Rest} {sv : Value} {m : List Cs} {g cap : Nat} {ls : List Le} {P : List Pl} (h : GS w ρ gb C now sv m g cap ls P) (k : Nat) (s : Cs) (hs : m[k]? = some s) :
    Calls Try.prog 59 #[.pointer (some ⟨gb, 7, none⟩), .int .i64 k] w fun e w' => e = .returned (.int .i64 s.s.cnt) ∧ w = w' := by
  have hG : GrpL w ρ gb C (now.up ls P) sv m g cap P := h
  have hk' := (List.getElem?_eq_some_iff.1 hs).1
  obtain ⟨bs, cp, rfl, hbs, hbsl, hcap, hcm, ff, cc⟩ := hG.G.log.shape (by omega)
  obtain ⟨a0, a1, a2, a3, a4⟩ := cc k s hs
  obtain ⟨xs, hx⟩ := hG.G.log.rcs k s hs
  obtain ⟨ra, rcap, hrv⟩ := ownsRow_len hx
  exact logCount_any gb 7 m.length cp bs k s.s.cnt rcap ra w hk' hG.tcell.2.1 (by rw [a4, hrv])

/-- What Fetch reads. -/
def bufV (cnt : Nat) (at_ b : Int) : Int := if b < dif cnt at_ then b else dif cnt at_

set_option maxRecDepth 100000 in
set_option maxHeartbeats 2000000 in
theorem gFetch_no {w : World} {ρ : Nat → Nat} {gb : Nat} {C : Cfg} {now : Rest} {sv : Value} {m : List Cs} {g cap : Nat} {ls : List Le} {P : List Pl} (h : GS w ρ gb C now sv m g cap ls P) (i : Nat) (hi : i < now.n) (k : Nat) (hk : k < m.length) (p : Pl) (hp : P[i * 16 + k]? = some p) (hh : p.held = false) :
    Calls Try.prog 30 #[.pointer (some ⟨gb, 0, none⟩), .int .i64 i, .int .i64 k] w fun e w' => e = .returned (.tuple #[.int .i64 0, .int .i64 13]) ∧ GSP w ρ gb C now sv m g cap ls P w' := by
  have H1 := hide (findHold_any h i hi k hk p hp)
  rw [hh] at H1
  simp only [Bool.false_eq_true, if_false] at H1
  clear h
  go_enter Try.func30, Try.ntmps30
  go_wp2_with fail
  refine (unhide H1).mono ?_
  rintro e w1 ⟨rfl, q1⟩
  have Q1 := hide (q1.alloc (w1 := w1) (.cells #[.int .i64 0, .int .i64 0, .int .i64 0, .int .i64 0] 75))
  clear q1
  go_wp2
  go_ret2
  exact ⟨rfl, unhide Q1⟩

set_option maxRecDepth 100000 in
set_option maxHeartbeats 2000000 in
theorem gFetch_yes {w : World} {ρ : Nat → Nat} {gb : Nat} {C : Cfg} {now : Rest} {sv : Value} {m : List Cs} {g cap : Nat} {ls : List Le} {P : List Pl} (h : GS w ρ gb C now sv m g cap ls P) (i : Nat) (hi : i < now.n) (k : Nat) (hk : k < m.length) (p : Pl) (hp : P[i * 16 + k]? = some p) (hh : p.held = true) (hsh : p.h.sh = k) (s : Cs) (hs : m[k]? = some s) :
    Calls Try.prog 30 #[.pointer (some ⟨gb, 0, none⟩), .int .i64 i, .int .i64 k] w fun e w' => e = .returned (.tuple #[.int .i64 (bufV s.s.cnt p.h.at_ C.b), .int .i64 0]) ∧ GSP w ρ gb C now sv m g cap ls (P.set (i * 16 + k) { p with held := true, h := ⟨k, p.h.ep, p.h.at_, bufV s.s.cnt p.h.at_ C.b⟩ }) w' := by
  have h16 : m.length ≤ 16 := GrpL.le h
  have k16 : k < 16 := by omega
  have H1 := hide (findHold_any h i hi k hk p hp)
  rw [hh, hsh] at H1
  simp only [if_true] at H1
  have H2 : Hid (∀ W, GS W ρ gb C now sv m g cap ls P → Calls Try.prog 59 #[.pointer (some ⟨gb, 7, none⟩), .int .i64 k] W fun e w' => e = .returned (.int .i64 s.s.cnt) ∧ W = w') := fun W hW => gCount_any hW k s hs
  have H3 : Hid (∀ W, GS W ρ gb C now sv m g cap ls P → ∀ bf : Int, Calls Try.prog 60 #[.pointer (some ⟨g, i * 128, none⟩), .agg #[.int .i64 k, .int .i64 p.h.ep, .int .i64 p.h.at_, .int .i64 bf]] W fun e w' => e = .returned (.tuple #[]) ∧ GSP W ρ gb C now sv m g cap ls (P.set (i * 16 + k) { p with held := true, h := ⟨k, p.h.ep, p.h.at_, bf⟩ }) w') := fun W hW bf => gKeep_any (now := now.up ls P) hW i k k16 p hp p.h.ep p.h.at_ bf
  have H4 : Hid (∀ W, GS W ρ gb C now sv m g cap ls P → W.cell? ⟨gb, 2, none⟩ = some (.int .i64 C.b)) := fun W hW => (GrpL.tcell hW).2.2.2
  have HFit := hide h.fits
  have wd : IntKind.i64.wrap ((s.s.cnt : Int) - p.h.at_) = dif s.s.cnt p.h.at_ := rfl
  clear h hp hs
  go_enter Try.func30, Try.ntmps30
  go_wp2_with fail
  refine (unhide H1).mono ?_
  rintro e w1 ⟨rfl, q1⟩
  have Q1 := hide (q1.alloc (w1 := w1) (.cells #[.int .i64 k, .int .i64 p.h.ep, .int .i64 p.h.at_, .int .i64 p.h.bf] 75))
  have hsz := q1.2.size
  clear q1
  go_wp2_with fail
  obtain ⟨t0, t1, t2, t3, f0, f1, f2, f3⟩ := four_cells (heap_alloc_new w1 (.cells #[.int .i64 k, .int .i64 p.h.ep, .int .i64 p.h.at_, .int .i64 p.h.bf] 75))
  have HN := hide (heap_alloc_new w1 (.cells #[.int .i64 k, .int .i64 p.h.ep, .int .i64 p.h.at_, .int .i64 p.h.bf] 75))
  generalize w1.alloc (.cells #[.int .i64 k, .int .i64 p.h.ep, .int .i64 p.h.at_, .int .i64 p.h.bf] 75) = V at *
  have QD := hide ((unhide Q1).trans ((unhide Q1).1.below (Below.refl _ _).drew))
  have HC := hide (unhide H2 _ (unhide QD).1)
  have hoff : ∀ u, (V.setCell ⟨w1.heap.size, 3, none⟩ u).drew.cell? ⟨w1.heap.size, 2, none⟩ = some (.int .i64 p.h.at_) := fun u => cell_of (heap_setCell_same (i := 3) (unhide HN) u) 2
  go_region_held3 (fun w' => w'.cell? ⟨w1.heap.size, 2, none⟩ = some (.int .i64 p.h.at_)) (first | go_keep | exact hoff _ | (simp only [hoff])) ((go_at_call 59; refine (unhide HC).mono ?_; rintro e w2 ⟨rfl, rfl⟩))
  have N1 := heap_setCell_same (i := 3) (unhide HN) (.int .i64 (dif (s.s.cnt : Int) p.h.at_))
  have Q2 := hide ((unhide Q1).setNew (unhide HFit) (b := w1.heap.size) (i := 3) hsz (.int .i64 (dif (s.s.cnt : Int) p.h.at_)))
  have Q3 := hide ((unhide Q2).trans ((unhide Q2).1.below (Below.refl _ _).drew))
  have N2 : (V.setCell ⟨w1.heap.size, 3, none⟩ (.int .i64 (dif (s.s.cnt : Int) p.h.at_))).drew.heap[w1.heap.size]? = some (.cells #[.int .i64 k, .int .i64 p.h.ep, .int .i64 p.h.at_, .int .i64 (dif (s.s.cnt : Int) p.h.at_)] 75 (0, 0)) := N1
  have HU : Hid (bufV s.s.cnt p.h.at_ C.b = if C.b < dif (s.s.cnt : Int) p.h.at_ then C.b else dif (s.s.cnt : Int) p.h.at_) := rfl
  clear N1 Q2 HN t0 t1 t2 t3 f0 f1 f2 f3 hoff HC QD
  generalize dif (s.s.cnt : Int) p.h.at_ = d at *
  generalize (V.setCell ⟨w1.heap.size, 3, none⟩ (.int .i64 d)).drew = U at *
  obtain ⟨t0, t1, t2, t3, f0, f1, f2, f3⟩ := four_cells N2
  have c2 := unhide H4 _ (unhide Q3).1
  have HN := hide N2
  clear N2 wd
  by_cases hbd : C.b < d
  · have hbe : Hid (bufV s.s.cnt p.h.at_ C.b = C.b) := by unfold Hid; rw [unhide HU, if_pos hbd]
    go_wp2_with fail
    go_region_held3 (fun w' => w'.cell? ⟨w1.heap.size, 3, none⟩ = some (.int .i64 d) ∧ w'.cell? ⟨gb, 2, none⟩ = some (.int .i64 C.b)) (first | go_keep | trivial) (fail)
    have NE : U.drew.heap[w1.heap.size]? = some (.cells #[.int .i64 k, .int .i64 p.h.ep, .int .i64 p.h.at_, .int .i64 d] 75 (0, 0)) := unhide HN
    have QE := hide ((unhide Q3).trans ((unhide Q3).1.below (Below.refl _ _).drew))
    clear t0 t1 t2 t3 f0 f1 f2 f3 c2 HN Q3
    generalize U.drew = U1 at *
    obtain ⟨t0, t1, t2, t3, f0, f1, f2, f3⟩ := four_cells NE
    have c2 := unhide H4 _ (unhide QE).1
    have HNE := hide NE
    clear NE
    go_wp2_with fail
    have NK : (U1.setCell ⟨w1.heap.size, 3, none⟩ (.int .i64 C.b)).heap[w1.heap.size]? = some (.cells #[.int .i64 k, .int .i64 p.h.ep, .int .i64 p.h.at_, .int .i64 C.b] 75 (0, 0)) := heap_setCell_same (i := 3) (unhide HNE) (.int .i64 C.b)
    have QK := hide ((unhide QE).setNew (unhide HFit) (b := w1.heap.size) (i := 3) hsz (.int .i64 C.b))
    generalize U1.setCell ⟨w1.heap.size, 3, none⟩ (.int .i64 C.b) = U2 at *
    clear t0 t1 t2 t3 f0 f1 f2 f3
    have hz : ¬ mine ρ w1.heap.size := by unfold mine; rw [unhide HFit _ hsz]; omega
    have HC := hide (unhide H3 _ (unhide QK).1 C.b)
    have hltk := lt_of_heap NK
    refine (unhide HC).mono ?_
    rintro e w3 ⟨rfl, q3⟩
    have c3 : w3.cell? ⟨w1.heap.size, 3, none⟩ = some (.int .i64 C.b) := (q3.2.cell (p := ⟨w1.heap.size, 3, none⟩) hltk hz).trans (cell_of NK 3)
    have QF := hide ((unhide QK).trans q3)
    clear q3
    go_wp2
    go_ret2
    rw [unhide hbe]
    exact ⟨rfl, unhide QF⟩
  · have hbe : Hid (bufV s.s.cnt p.h.at_ C.b = d) := by unfold Hid; rw [unhide HU, if_neg hbd]
    go_wp2_with fail
    go_region_held3 (fun w' => w'.cell? ⟨w1.heap.size, 3, none⟩ = some (.int .i64 d) ∧ w'.cell? ⟨gb, 2, none⟩ = some (.int .i64 C.b)) (first | go_keep | trivial) (fail)
    have NE : U.drew.heap[w1.heap.size]? = some (.cells #[.int .i64 k, .int .i64 p.h.ep, .int .i64 p.h.at_, .int .i64 d] 75 (0, 0)) := unhide HN
    have QE := hide ((unhide Q3).trans ((unhide Q3).1.below (Below.refl _ _).drew))
    clear t0 t1 t2 t3 f0 f1 f2 f3 c2 HN Q3
    generalize U.drew = U1 at *
    obtain ⟨t0, t1, t2, t3, f0, f1, f2, f3⟩ := four_cells NE
    have c2 := unhide H4 _ (unhide QE).1
    have HNE := hide NE
    clear NE
    go_wp2_with fail
    have NK := unhide HNE
    have QK := QE
    clear t0 t1 t2 t3 f0 f1 f2 f3
    have hz : ¬ mine ρ w1.heap.size := by unfold mine; rw [unhide HFit _ hsz]; omega
    have HC := hide (unhide H3 _ (unhide QK).1 d)
    have hltk := lt_of_heap NK
    refine (unhide HC).mono ?_
    rintro e w3 ⟨rfl, q3⟩
    have c3 : w3.cell? ⟨w1.heap.size, 3, none⟩ = some (.int .i64 d) := (q3.2.cell (p := ⟨w1.heap.size, 3, none⟩) hltk hz).trans (cell_of NK 3)
    have QF := hide ((unhide QK).trans q3)
    clear q3
    go_wp2
    go_ret2
    rw [unhide hbe]
    exact ⟨rfl, unhide QF⟩

set_option maxRecDepth 100000 in
set_option maxHeartbeats 2000000 in
theorem hear_no {w : World} {ρ : Nat → Nat} {gb : Nat} {C : Cfg} {now : Rest} {sv : Value} {m : List Cs} {g cap : Nat} {ls : List Le} {P : List Pl} (h : GS w ρ gb C now sv m g cap ls P) (i k : Nat) (k16 : k < 16) (p : Pl) (hp : P[i * 16 + k]? = some p) (ep at_ bf : Int) :
    Calls Try.prog 62 #[.pointer (some ⟨g, i * 128, none⟩), .agg #[.int .i64 k, .int .i64 ep, .int .i64 at_, .int .i64 bf], .bool false] w fun e w' => e = .returned (.tuple #[]) ∧ GSP w ρ gb C now sv m g cap ls (P.set (i * 16 + k) (dropped p)) w' := by
  have H3 : Hid (∀ W, GS W ρ gb C now sv m g cap ls P → Calls Try.prog 83 #[.pointer (some ⟨g, i * 128, none⟩), .int .i64 k] W fun e w' => e = .returned (.tuple #[]) ∧ GSP W ρ gb C now sv m g cap ls (P.set (i * 16 + k) (dropped p)) w') := fun W hW => gDrop_any (now := now.up ls P) hW i k k16 p hp
  have Q1 := hide (h.alloc (.cells #[.int .i64 k, .int .i64 ep, .int .i64 at_, .int .i64 bf] 75))
  clear h hp
  go_enter Try.func62, Try.ntmps62
  go_wp2_with fail
  refine (unhide H3 _ (unhide Q1).1).mono ?_
  rintro e w3 ⟨rfl, q3⟩
  have QF := hide ((unhide Q1).trans q3)
  clear q3
  go_wp2
  refine bodyPost_ret (v := .tuple #[]) ?_ rfl ⟨rfl, unhide QF⟩
  simp [results, Try.results62, go_sem]

set_option maxRecDepth 100000 in
set_option maxHeartbeats 2000000 in
theorem hear_yes {w : World} {ρ : Nat → Nat} {gb : Nat} {C : Cfg} {now : Rest} {sv : Value} {m : List Cs} {g cap : Nat} {ls : List Le} {P : List Pl} (h : GS w ρ gb C now sv m g cap ls P) (i k : Nat) (k16 : k < 16) (p : Pl) (hp : P[i * 16 + k]? = some p) (ep at_ bf : Int) :
    Calls Try.prog 62 #[.pointer (some ⟨g, i * 128, none⟩), .agg #[.int .i64 k, .int .i64 ep, .int .i64 at_, .int .i64 bf], .bool true] w fun e w' => e = .returned (.tuple #[]) ∧ GSP w ρ gb C now sv m g cap ls (P.set (i * 16 + k) { p with held := true, h := ⟨k, ep, plus at_ bf, 0⟩ }) w' := by
  have H3 : Hid (∀ W, GS W ρ gb C now sv m g cap ls P → ∀ a : Int, Calls Try.prog 60 #[.pointer (some ⟨g, i * 128, none⟩), .agg #[.int .i64 k, .int .i64 ep, .int .i64 a, .int .i64 0]] W fun e w' => e = .returned (.tuple #[]) ∧ GSP W ρ gb C now sv m g cap ls (P.set (i * 16 + k) { p with held := true, h := ⟨k, ep, a, 0⟩ }) w') := fun W hW a => gKeep_any (now := now.up ls P) hW i k k16 p hp ep a 0
  have Q1 := hide (h.alloc (.cells #[.int .i64 k, .int .i64 ep, .int .i64 (plus at_ bf), .int .i64 0] 75))
  have HFit := hide h.fits
  have wp : IntKind.i64.wrap (at_ + bf) = plus at_ bf := rfl
  clear h hp
  go_enter Try.func62, Try.ntmps62
  go_wp2_with fail
  refine (unhide H3 _ (unhide Q1).1 _).mono ?_
  rintro e w3 ⟨rfl, q3⟩
  have QF := hide ((unhide Q1).trans q3)
  clear q3
  go_wp2
  go_end0
  exact ⟨rfl, unhide QF⟩

set_option maxRecDepth 100000 in
set_option maxHeartbeats 2000000 in
theorem gCommit_no {w : World} {ρ : Nat → Nat} {gb : Nat} {C : Cfg} {now : Rest} {sv : Value} {m : List Cs} {g cap : Nat} {ls : List Le} {P : List Pl} (h : GS w ρ gb C now sv m g cap ls P) (i : Nat) (hi : i < now.n) (k : Nat) (hk : k < m.length) (p : Pl) (hp : P[i * 16 + k]? = some p) (hh : p.held = false) (lost : Bool) :
    Calls Try.prog 31 #[.pointer (some ⟨gb, 0, none⟩), .int .i64 i, .int .i64 k, .bool lost] w fun e w' => e = .returned (.int .i64 13) ∧ GSP w ρ gb C now sv m g cap ls P w' := by
  have H1 := hide (findHold_any h i hi k hk p hp)
  rw [hh] at H1
  simp only [Bool.false_eq_true, if_false] at H1
  clear h
  go_enter Try.func31, Try.ntmps31
  go_wp2_with fail
  refine (unhide H1).mono ?_
  rintro e w1 ⟨rfl, q1⟩
  have Q1 := hide (q1.alloc (w1 := w1) (.cells #[.int .i64 0, .int .i64 0, .int .i64 0, .int .i64 0] 75))
  clear q1
  go_wp2
  go_ret
  exact ⟨rfl, unhide Q1⟩
set_option maxRecDepth 100000 in
set_option maxHeartbeats 2000000 in
theorem gCommit_empty {w : World} {ρ : Nat → Nat} {gb : Nat} {C : Cfg} {now : Rest} {sv : Value} {m : List Cs} {g cap : Nat} {ls : List Le} {P : List Pl} (h : GS w ρ gb C now sv m g cap ls P) (i : Nat) (hi : i < now.n) (k : Nat) (hk : k < m.length) (p : Pl) (hp : P[i * 16 + k]? = some p) (hh : p.held = true) (hbf : p.h.bf = 0) (lost : Bool) :
    Calls Try.prog 31 #[.pointer (some ⟨gb, 0, none⟩), .int .i64 i, .int .i64 k, .bool lost] w fun e w' => e = .returned (.int .i64 14) ∧ GSP w ρ gb C now sv m g cap ls P w' := by
  have H1 := hide (findHold_any h i hi k hk p hp)
  rw [hh, hbf] at H1
  simp only [if_true] at H1
  clear h
  go_enter Try.func31, Try.ntmps31
  go_wp2_with fail
  refine (unhide H1).mono ?_
  rintro e w1 ⟨rfl, q1⟩
  have Q1 := hide (q1.alloc (w1 := w1) (.cells #[.int .i64 p.h.sh, .int .i64 p.h.ep, .int .i64 p.h.at_, .int .i64 0] 75))
  clear q1
  go_wp2
  go_ret
  exact ⟨rfl, unhide Q1⟩

/-- The places behind a commit that is heard. -/
def heardP (f : Bool) (i k : Nat) (p : Pl) (P : List Pl) : List Pl := if f = true then P.set (i * 16 + k) { p with held := true, h := ⟨k, p.h.ep, plus p.h.at_ p.h.bf, 0⟩ } else P.set (i * 16 + k) (dropped p)
def commitV (f : Bool) : Int := if f = true then 0 else 15
theorem hear_any {w : World} {ρ : Nat → Nat} {gb : Nat} {C : Cfg} {now : Rest} {sv : Value} {m : List Cs} {g cap : Nat} {ls : List Le} {P : List Pl} (h : GS w ρ gb C now sv m g cap ls P) (i k : Nat) (k16 : k < 16) (p : Pl) (hp : P[i * 16 + k]? = some p) (f : Bool) :
    Calls Try.prog 62 #[.pointer (some ⟨g, i * 128, none⟩), .agg #[.int .i64 k, .int .i64 p.h.ep, .int .i64 p.h.at_, .int .i64 p.h.bf], .bool f] w fun e w' => e = .returned (.tuple #[]) ∧ GSP w ρ gb C now sv m g cap ls (heardP f i k p P) w' := by
  cases f
  · exact hear_no h i k k16 p hp _ _ _
  · exact hear_yes h i k k16 p hp _ _ _

set_option maxRecDepth 100000 in
set_option maxHeartbeats 2000000 in
theorem gCommit_any {w : World} {ρ : Nat → Nat} {gb : Nat} {C : Cfg} {now : Rest} {sv : Value} {m : List Cs} {g cap : Nat} {ls : List Le} {P : List Pl} (h : GS w ρ gb C now sv m g cap ls P) (i : Nat) (hi : i < now.n) (k : Nat) (hk : k < m.length) (p : Pl) (hp : P[i * 16 + k]? = some p) (hh : p.held = true) (hsh : p.h.sh = k) (hbf : ¬ p.h.bf = 0) (lost : Bool) :
    Calls Try.prog 31 #[.pointer (some ⟨gb, 0, none⟩), .int .i64 i, .int .i64 k, .bool lost] w fun e w' => e = .returned (.int .i64 (commitV (folds now.dn k p.h.ep p.h.at_))) ∧ GSP w ρ gb C (now.fold k p.h.ep p.h.at_ p.h.bf) sv m g cap ls (if lost = true then P else heardP (folds now.dn k p.h.ep p.h.at_) i k p P) w' := by
  have h16 : m.length ≤ 16 := GrpL.le h
  have k16 : k < 16 := by omega
  have H1 := hide (findHold_any h i hi k hk p hp)
  rw [hh, hsh] at H1
  simp only [if_true] at H1
  have H2 : Hid (∀ W, GS W ρ gb C now sv m g cap ls P → Calls Try.prog 61 #[.pointer (some ⟨gb, 8, none⟩), .agg #[.int .i64 k, .int .i64 p.h.ep, .int .i64 p.h.at_, .int .i64 p.h.bf]] W fun r w' => r = .returned (.bool (folds now.dn k p.h.ep p.h.at_)) ∧ GSP W ρ gb C (now.fold k p.h.ep p.h.at_ p.h.bf) sv m g cap ls P w') := fun W hW => gsCommit_any hW k k16 _ _ _
  have H3 : Hid (∀ W now' f, GS W ρ gb C now' sv m g cap ls P → Calls Try.prog 62 #[.pointer (some ⟨g, i * 128, none⟩), .agg #[.int .i64 k, .int .i64 p.h.ep, .int .i64 p.h.at_, .int .i64 p.h.bf], .bool f] W fun e w' => e = .returned (.tuple #[]) ∧ GSP W ρ gb C now' sv m g cap ls (heardP f i k p P) w') := fun W now' f hW => hear_any hW i k k16 p hp f
  have HFit := hide h.fits
  generalize folds now.dn k p.h.ep p.h.at_ = fo at *
  generalize now.fold k p.h.ep p.h.at_ p.h.bf = now2 at *
  clear h hp
  go_enter Try.func31, Try.ntmps31
  go_wp2_with fail
  refine (unhide H1).mono ?_
  rintro e w1 ⟨rfl, q1⟩
  have hsz := q1.2.size
  have hN := heap_alloc_new w1 (.cells #[.int .i64 k, .int .i64 p.h.ep, .int .i64 p.h.at_, .int .i64 p.h.bf] 75)
  have Q1 := hide (q1.alloc (w1 := w1) (.cells #[.int .i64 k, .int .i64 p.h.ep, .int .i64 p.h.at_, .int .i64 p.h.bf] 75))
  clear q1
  go_wp2_with fail
  obtain ⟨t0, t1, t2, t3, f0, f1, f2, f3⟩ := four_cells hN
  have hz : Hid (¬ mine ρ w1.heap.size) := by unfold Hid mine; rw [unhide HFit _ hsz]; omega
  have hlt := hide (lt_of_heap hN)
  have HN := hide hN
  generalize w1.alloc (.cells #[.int .i64 k, .int .i64 p.h.ep, .int .i64 p.h.at_, .int .i64 p.h.bf] 75) = V at *
  have QD := hide ((unhide Q1).trans ((unhide Q1).1.below (Below.refl _ _).drew))
  have HC := hide (unhide H2 _ (unhide QD).1)
  clear hN
  go_region_held3 (fun w' => w'.cell? ⟨w1.heap.size, 0, none⟩ = some (.int .i64 k) ∧ w'.cell? ⟨w1.heap.size, 1, none⟩ = some (.int .i64 p.h.ep) ∧ w'.cell? ⟨w1.heap.size, 2, none⟩ = some (.int .i64 p.h.at_) ∧ w'.cell? ⟨w1.heap.size, 3, none⟩ = some (.int .i64 p.h.bf)) (first | go_keep | trivial) ((go_at_call 61; refine (unhide HC).mono ?_; rintro e w2 ⟨rfl, q2⟩; have n2 := (q2.2.block _ (unhide hlt) (unhide hz)).trans (unhide HN); obtain ⟨u0, u1, u2, u3, _⟩ := four_cells n2))
  have Q2 := hide ((unhide QD).transN q2)
  clear q2 n2
  cases lost
  · go_wp2_with fail
    refine (unhide H3 _ _ _ (unhide Q2).1).mono ?_
    rintro e w3 ⟨rfl, q3⟩
    have Q3 := hide ((unhide Q2).trans q3)
    clear q3
    cases fo
    · go_wp2
      go_ret
      exact ⟨rfl, unhide Q3⟩
    · go_wp2
      go_ret
      exact ⟨rfl, unhide Q3⟩
  · cases fo
    · go_wp2
      go_ret
      exact ⟨rfl, unhide Q2⟩
    · go_wp2
      go_ret
      exact ⟨rfl, unhide Q2⟩

end Go.Proofs.Ytpnkmnmchdabkaa
