import Derived.Test.YtpnkmnmchdabkaaProgMem
namespace Go.Proofs.Ytpnkmnmchdabkaa
open Go.RowKit

/-- The cells of many places. -/
def plsCells : List Pl → List Value
  | [] => []
  | p :: r => plCells p ++ plsCells r

theorem plsCells_get (P : List Pl) (q j : Nat) (hj : j < 8) (p : Pl) (h : P[q]? = some p) : (plsCells P)[q * 8 + j]? = (plCells p)[j]? := by
  induction P generalizing q with
  | nil => simp at h
  | cons a r ih =>
    cases q with
    | zero =>
      simp only [List.getElem?_cons_zero, Option.some.injEq] at h
      subst h
      rw [plsCells, List.getElem?_append_left (by simp [plCells]; omega)]
      simp
    | succ q =>
      simp only [List.getElem?_cons_succ] at h
      rw [plsCells, List.getElem?_append_right (by simp [plCells]; omega)]
      have e : (q + 1) * 8 + j - (plCells a).length = q * 8 + j := by simp [plCells]; omega
      rw [e]
      exact ih q h

theorem plsCells_set (P : List Pl) (q j : Nat) (hj : j < 8) (p p' : Pl) (u : Value) (h : P[q]? = some p) (e : (plCells p).set j u = plCells p') : (plsCells P).set (q * 8 + j) u = plsCells (P.set q p') := by
  induction P generalizing q with
  | nil => simp at h
  | cons a r ih =>
    cases q with
    | zero =>
      simp only [List.getElem?_cons_zero, Option.some.injEq] at h
      subst h
      rw [plsCells, List.set_append_left _ _ (by simp [plCells]; omega), List.set_cons_zero, plsCells]
      simp [e]
    | succ q =>
      simp only [List.getElem?_cons_succ] at h
      rw [plsCells, List.set_append_right _ _ (by simp [plCells]; omega), List.set_cons_succ, plsCells]
      have e' : (q + 1) * 8 + j - (plCells a).length = q * 8 + j := by simp [plCells]; omega
      rw [e', ih q h]

/-- The memories of N workers: 16 places each, one behind the other. -/
structure PlsAt (w : World) (g cap N : Nat) (P : List Pl) : Prop where
  row : w.ownsRow 0 105 128 (.slice (some ⟨g, 0, none⟩) N cap) N (plsCells P)
  len : P.length = N * 16

theorem PlsAt.lt {w : World} {g cap N : Nat} {P : List Pl} (h : PlsAt w g cap N P) : g < w.heap.size := (h.row.lt g rfl).2

theorem PlsAt.place {w : World} {g cap N : Nat} {P : List Pl} (h : PlsAt w g cap N P) {i n : Nat} {p : Pl} (hp : P[i * 16 + n]? = some p) : PlAt w g (i * 128 + n * 8) p := by
  have hl := (List.getElem?_eq_some_iff.1 hp).1
  have hn := h.len
  have c : ∀ j, j < 8 → w.cell? ⟨g, i * 128 + n * 8 + j, none⟩ = (plCells p)[j]? := fun j hj => by
    have e : i * 128 + n * 8 + j = (i * 16 + n) * 8 + j := by omega
    rw [e, h.row.cellAt _ (by omega), plsCells_get P _ j hj p hp]
  exact ⟨h.lt, c 0 (by omega), c 1 (by omega), c 2 (by omega), c 3 (by omega), c 4 (by omega), c 5 (by omega), c 6 (by omega), c 7 (by omega), fun q => h.row.frozenAt q⟩

theorem PlsAt.set {w : World} {g cap N : Nat} {P : List Pl} (h : PlsAt w g cap N P) {i n j : Nat} (hj : j < 8) {p : Pl} (p' : Pl) (hp : P[i * 16 + n]? = some p) (u : Value) (e : (plCells p).set j u = plCells p') :
    PlsAt (w.setCell ⟨g, i * 128 + n * 8 + j, none⟩ u) g cap N (P.set (i * 16 + n) p') := by
  have he : i * 128 + n * 8 + j = (i * 16 + n) * 8 + j := by omega
  refine ⟨?_, by simpa using h.len⟩
  rw [he, ← plsCells_set P _ j hj p p' u hp e]
  exact (h.row.stored _ u).1

theorem PlsAt.block {w w' : World} {g cap N : Nat} {P : List Pl} (h : PlsAt w g cap N P) (hb : w'.heap[g]? = w.heap[g]?) : PlsAt w' g cap N P :=
  ⟨ownsRow_of_block h.row fun k hk => by
    have e : g = k := by simpa [Value.ownBlock] using hk
    subst e; exact hb, h.len⟩

/-- What an edit of one place leaves. -/
def PlPost (w : World) (g cap N : Nat) (P : List Pl) (w' : World) : Prop := PlsAt w' g cap N P ∧ Keeps (fun k => k = g) w w'

theorem set_set_at {P : List Pl} {q : Nat} {a b : Pl} : (P.set q a).set q b = P.set q b := by simp
theorem get_set_at {P : List Pl} {q : Nat} {p a : Pl} (h : P[q]? = some p) : (P.set q a)[q]? = some a := by
  have := (List.getElem?_eq_some_iff.1 h).1
  simp [this]

theorem keep_chain {w : World} {g cap N : Nat} {P : List Pl} (h : PlsAt w g cap N P) {i n : Nat} {p : Pl} (hp : P[i * 16 + n]? = some p) (held : Bool) (sh ep at_ bf : Int) {w' : World}
    (hb : Below w.heap.size (((((w.setCell ⟨g, i * 128 + n * 8, none⟩ (.bool held)).setCell ⟨g, i * 128 + n * 8 + 1, none⟩ (.int .i64 sh)).setCell ⟨g, i * 128 + n * 8 + 1 + 1, none⟩ (.int .i64 ep)).setCell ⟨g, i * 128 + n * 8 + 1 + 2, none⟩ (.int .i64 at_)).setCell ⟨g, i * 128 + n * 8 + 1 + 3, none⟩ (.int .i64 bf)) w') :
    PlPost w g cap N (P.set (i * 16 + n) { p with held := held, h := ⟨sh, ep, at_, bf⟩ }) w' := by
  have s1 := h.set (j := 0) (by omega) { p with held := held } hp (.bool held) rfl
  have s2 := s1.set (j := 1) (by omega) { p with held := held, h := { p.h with sh := sh } } (get_set_at hp) (.int .i64 sh) rfl
  rw [set_set_at] at s2
  have s3 := s2.set (j := 2) (by omega) { p with held := held, h := ⟨sh, ep, p.h.at_, p.h.bf⟩ } (get_set_at hp) (.int .i64 ep) rfl
  rw [set_set_at] at s3
  have s4 := s3.set (j := 3) (by omega) { p with held := held, h := ⟨sh, ep, at_, p.h.bf⟩ } (get_set_at hp) (.int .i64 at_) rfl
  rw [set_set_at] at s4
  have s5 := s4.set (j := 4) (by omega) { p with held := held, h := ⟨sh, ep, at_, bf⟩ } (get_set_at hp) (.int .i64 bf) rfl
  rw [set_set_at] at s5
  refine ⟨s5.block (hb.block g h.lt), ?_⟩
  have k0 : Keeps (fun k => k = g) w (((((w.setCell ⟨g, i * 128 + n * 8, none⟩ (.bool held)).setCell ⟨g, i * 128 + n * 8 + 1, none⟩ (.int .i64 sh)).setCell ⟨g, i * 128 + n * 8 + 1 + 1, none⟩ (.int .i64 ep)).setCell ⟨g, i * 128 + n * 8 + 1 + 2, none⟩ (.int .i64 at_)).setCell ⟨g, i * 128 + n * 8 + 1 + 3, none⟩ (.int .i64 bf)) := by
    iterate 5 refine Keeps.setCell (S := fun k => k = g) ?_ (by exact Or.inl rfl) _
    exact Keeps.refl _ w
  exact k0.trans ((Keeps.of_below hb).mono fun k hk hs => by simp at hk; omega)

theorem note_chain {w : World} {g cap N : Nat} {P : List Pl} (h : PlsAt w g cap N P) {i n : Nat} {p : Pl} (hp : P[i * 16 + n]? = some p) (c s : Int) {w' : World}
    (hb : Below w.heap.size (((w.setCell ⟨g, i * 128 + n * 8 + 5, none⟩ (.bool true)).setCell ⟨g, i * 128 + n * 8 + 5 + 1, none⟩ (.int .i64 c)).setCell ⟨g, i * 128 + n * 8 + 5 + 2, none⟩ (.int .i64 s)) w') :
    PlPost w g cap N (P.set (i * 16 + n) { p with made := true, c := c, s := s }) w' := by
  have s1 := h.set (j := 5) (by omega) { p with made := true } hp (.bool true) rfl
  have s2 := s1.set (j := 6) (by omega) { p with made := true, c := c } (get_set_at hp) (.int .i64 c) rfl
  rw [set_set_at] at s2
  have s3 := s2.set (j := 7) (by omega) { p with made := true, c := c, s := s } (get_set_at hp) (.int .i64 s) rfl
  rw [set_set_at] at s3
  refine ⟨s3.block (hb.block g h.lt), ?_⟩
  have k0 : Keeps (fun k => k = g) w (((w.setCell ⟨g, i * 128 + n * 8 + 5, none⟩ (.bool true)).setCell ⟨g, i * 128 + n * 8 + 5 + 1, none⟩ (.int .i64 c)).setCell ⟨g, i * 128 + n * 8 + 5 + 2, none⟩ (.int .i64 s)) := by
    iterate 3 refine Keeps.setCell (S := fun k => k = g) ?_ (by exact Or.inl rfl) _
    exact Keeps.refl _ w
  exact k0.trans ((Keeps.of_below hb).mono fun k hk hs => by simp at hk; omega)

theorem plKeep_any (w : World) (g cap N : Nat) (P : List Pl) (i n : Nat) (hn : n < 16) (p : Pl) (ep at_ bf : Int) (h : PlsAt w g cap N P) (hp : P[i * 16 + n]? = some p) :
    Calls Try.prog 60 #[.pointer (some ⟨g, i * 128, none⟩), .agg #[.int .i64 n, .int .i64 ep, .int .i64 at_, .int .i64 bf]] w fun e w' => e = .returned (.tuple #[]) ∧ PlPost w g cap N (P.set (i * 16 + n) { p with held := true, h := ⟨n, ep, at_, bf⟩ }) w' :=
  (memKeep_any g (i * 128) n hn p ep at_ bf w (h.place hp)).mono fun _ _ q => ⟨q.1, keep_chain h hp _ _ _ _ _ q.2⟩

theorem plDrop_any (w : World) (g cap N : Nat) (P : List Pl) (i n : Nat) (hn : n < 16) (p : Pl) (h : PlsAt w g cap N P) (hp : P[i * 16 + n]? = some p) :
    Calls Try.prog 83 #[.pointer (some ⟨g, i * 128, none⟩), .int .i64 n] w fun e w' => e = .returned (.tuple #[]) ∧ PlPost w g cap N (P.set (i * 16 + n) { p with held := false, h := ⟨0, 0, 0, 0⟩ }) w' :=
  (memDrop_any g (i * 128) n hn p w (h.place hp)).mono fun _ _ q => ⟨q.1, keep_chain h hp _ _ _ _ _ q.2⟩

/-- What a note makes of a place. -/
def noted (p : Pl) (c s : Int) : Pl := if p.made = true ∧ p.c = c then p else { p with made := true, c := c, s := s }

theorem plNote_any (w : World) (g cap N : Nat) (P : List Pl) (i n : Nat) (hn : n < 16) (p : Pl) (c s : Int) (h : PlsAt w g cap N P) (hp : P[i * 16 + n]? = some p) :
    Calls Try.prog 86 #[.pointer (some ⟨g, i * 128, none⟩), .int .i64 n, .int .i64 c, .int .i64 s] w fun e w' => e = .returned (.tuple #[]) ∧ PlPost w g cap N (P.set (i * 16 + n) (noted p c s)) w' := by
  by_cases hm : p.made = true ∧ p.c = c
  · obtain ⟨h1, rfl⟩ := hm
    have e : P.set (i * 16 + n) (noted p p.c s) = P := by
      have hl := List.getElem?_eq_some_iff.1 hp
      rw [noted, if_pos ⟨h1, rfl⟩, ← hl.2, List.set_getElem_self]
    rw [e]
    exact (memNote_old g (i * 128) n hn p s w (h.place hp) h1).mono fun _ _ q => ⟨q.1, h.block (q.2.block g h.lt), (Keeps.of_below q.2).mono fun k hk hs => by omega⟩
  · rw [noted, if_neg hm]
    exact (memNote_new g (i * 128) n hn p c s w (h.place hp) hm).mono fun _ _ q => ⟨q.1, note_chain h hp _ _ q.2⟩

theorem plHold_any (w : World) (g cap N : Nat) (P : List Pl) (i n : Nat) (hn : n < 16) (p : Pl) (h : PlsAt w g cap N P) (hp : P[i * 16 + n]? = some p) :
    Calls Try.prog 55 #[.pointer (some ⟨g, i * 128, none⟩), .int .i64 n] w fun e w' => e = .returned (.tuple #[if p.held = true then .agg #[.int .i64 p.h.sh, .int .i64 p.h.ep, .int .i64 p.h.at_, .int .i64 p.h.bf] else .agg #[.int .i64 0, .int .i64 0, .int .i64 0, .int .i64 0], .bool p.held]) ∧ Below w.heap.size w w' :=
  memHold_any g (i * 128) n hn p w (h.place hp)

end Go.Proofs.Ytpnkmnmchdabkaa
