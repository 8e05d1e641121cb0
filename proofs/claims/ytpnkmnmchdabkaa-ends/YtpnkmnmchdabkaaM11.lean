import Derived.Test.YtpnkmnmchdabkaaM10
import Derived.Test.YtpnkmnmchdabkaaM00
namespace Go.Proofs.Ytpnkmnmchdabkaa
open Go.RowKit

/-- Sixteen leases lie in a block, behind A and ahead of B. -/
structure LeRow (w : World) (b : Nat) (t : TypeId) (A : List Value) (ls : List Le) (B : List Value) : Prop where
  blk : w.heap[b]? = some (.cells (A ++ (leCells ls ++ B)).toArray t (0, 0))
  len : ls.length = 16

theorem LeRow.cellAt {w : World} {b : Nat} {t : TypeId} {A B : List Value} {ls : List Le} (h : LeRow w b t A ls B) (j : Nat) (hj : j < 48) : w.cell? ⟨b, A.length + j, none⟩ = (leCells ls)[j]? := by
  rw [cell_of h.blk, List.getElem?_toArray, List.getElem?_append_right (by omega), Nat.add_sub_cancel_left, List.getElem?_append_left (by rw [leCells_len, h.len]; omega)]

theorem LeRow.setAt {w : World} {b : Nat} {t : TypeId} {A B : List Value} {ls ls' : List Le} (h : LeRow w b t A ls B) (j : Nat) (hj : j < 48) (u : Value) (e : (leCells ls).set j u = leCells ls') (hl : ls'.length = ls.length) : LeRow (w.setCell ⟨b, A.length + j, none⟩ u) b t A ls' B := by
  refine ⟨?_, hl.trans h.len⟩
  rw [heap_setCell_same h.blk, List.setIfInBounds_toArray, List.set_append_right _ _ (by omega), Nat.add_sub_cancel_left, List.set_append_left _ _ (by rw [leCells_len, h.len]; omega), e]

theorem LeRow.block {w w' : World} {b : Nat} {t : TypeId} {A B : List Value} {ls : List Le} (h : LeRow w b t A ls B) (hb : w'.heap[b]? = w.heap[b]?) : LeRow w' b t A ls B := ⟨hb.trans h.blk, h.len⟩

theorem LeRow.three {w : World} {b : Nat} {t : TypeId} {A B : List Value} {ls : List Le} (h : LeRow w b t A ls B) {n : Nat} {x : Le} (hx : ls[n]? = some x) :
    w.cell? ⟨b, A.length + n * 3, none⟩ = some (.int .i64 x.o) ∧ w.cell? ⟨b, A.length + n * 3 + 1, none⟩ = some (.int .i64 x.c) ∧ w.cell? ⟨b, A.length + n * 3 + 2, none⟩ = some (.int .i64 x.e) := by
  have hn := (List.getElem?_eq_some_iff.1 hx).1
  have hl := h.len
  obtain ⟨g0, g1, g2⟩ := leCells_get ls n x hx
  exact ⟨(h.cellAt _ (by omega)).trans g0, (h.cellAt (n * 3 + 1) (by omega)).trans g1, (h.cellAt (n * 3 + 2) (by omega)).trans g2⟩

theorem leGet_set {ls : List Le} {n : Nat} {x y : Le} (h : ls[n]? = some x) : (ls.set n y)[n]? = some y := by
  have := (List.getElem?_eq_some_iff.1 h).1
  simp [this]

/-- What an edit of the leases leaves. -/
def LePost (w : World) (b : Nat) (t : TypeId) (A : List Value) (ls : List Le) (B : List Value) (w' : World) : Prop := LeRow w' b t A ls B ∧ Keeps (fun k => k = b) w w'

theorem rowOf_any (w : World) (b : Nat) (t : TypeId) (A B : List Value) (ls : List Le) (n : Nat) (x : Le) (h : LeRow w b t A ls B) (hx : ls[n]? = some x) :
    Calls Try.prog 65 #[.pointer (some ⟨b, A.length, none⟩), .int .i64 n] w fun e w' => e = .returned (.agg #[.int .i64 x.o, .int .i64 x.c, .int .i64 x.e]) ∧ Below w.heap.size w w' := by
  have hn := (List.getElem?_eq_some_iff.1 hx).1
  have hl := h.len
  obtain ⟨c0, c1, c2⟩ := h.three hx
  exact leOf_any b A.length n (by omega) x w (lt_of_heap h.blk) c0 c1 c2

theorem rowGive_any (w : World) (b : Nat) (t : TypeId) (A B : List Value) (ls : List Le) (n : Nat) (x : Le) (wk : Int) (h : LeRow w b t A ls B) (hx : ls[n]? = some x) :
    Calls Try.prog 88 #[.pointer (some ⟨b, A.length, none⟩), .int .i64 n, .int .i64 wk] w fun e w' => e = .returned (.int .i64 (inc x.e)) ∧ LePost w b t A (ls.set n ⟨wk, inc x.c, inc x.e⟩) B w' := by
  have hn := (List.getElem?_eq_some_iff.1 hx).1
  have hl := h.len
  obtain ⟨c0, c1, c2⟩ := h.three hx
  refine (leGive_any b A.length n (by omega) x wk w c0 c1 c2 (fun q => frozen_of h.blk q)).mono ?_
  intro e w' hq
  have s0 := h.setAt (n * 3) (by omega) (.int .i64 wk) (leCells_set0 ls n x hx wk) (by simp)
  have s1 := s0.setAt (n * 3 + 1) (by omega) (.int .i64 (inc x.c)) (leCells_set1 _ n _ (leGet_set hx) _) (by simp)
  have s2 := s1.setAt (n * 3 + 2) (by omega) (.int .i64 (inc x.e)) (leCells_set2 _ n _ (leGet_set (leGet_set hx)) _) (by simp)
  rw [List.set_set, List.set_set] at s2
  refine ⟨hq.1, s2.block (hq.2.block b (lt_of_heap h.blk)), ?_⟩
  have k0 : Keeps (fun k => k = b) w (((w.setCell ⟨b, A.length + n * 3, none⟩ (.int .i64 wk)).setCell ⟨b, A.length + n * 3 + 1, none⟩ (.int .i64 (inc x.c))).setCell ⟨b, A.length + n * 3 + 2, none⟩ (.int .i64 (inc x.e))) := by
    iterate 3 refine Keeps.setCell (S := fun k => k = b) ?_ (by exact Or.inl rfl) _
    exact Keeps.refl _ w
  exact k0.trans ((Keeps.of_below hq.2).mono fun k hk hs => by simp at hk; omega)

theorem rowRenew_any (w : World) (b : Nat) (t : TypeId) (A B : List Value) (ls : List Le) (n : Nat) (x : Le) (h : LeRow w b t A ls B) (hx : ls[n]? = some x) :
    Calls Try.prog 85 #[.pointer (some ⟨b, A.length, none⟩), .int .i64 n] w fun e w' => e = .returned (.tuple #[]) ∧ LePost w b t A (ls.set n { x with c := inc x.c }) B w' := by
  have hn := (List.getElem?_eq_some_iff.1 hx).1
  have hl := h.len
  obtain ⟨c0, c1, c2⟩ := h.three hx
  refine (leRenew_any b A.length n (by omega) x w c1 (fun q => frozen_of h.blk q)).mono ?_
  intro e w' hq
  have s1 := h.setAt (n * 3 + 1) (by omega) (.int .i64 (inc x.c)) (leCells_set1 _ n _ hx _) (by simp)
  refine ⟨hq.1, s1.block (hq.2.block b (lt_of_heap h.blk)), ?_⟩
  have k0 : Keeps (fun k => k = b) w (w.setCell ⟨b, A.length + n * 3 + 1, none⟩ (.int .i64 (inc x.c))) := by
    refine Keeps.setCell (S := fun k => k = b) ?_ (by exact Or.inl rfl) _
    exact Keeps.refl _ w
  exact k0.trans ((Keeps.of_below hq.2).mono fun k hk hs => by simp at hk; omega)

theorem rowFree_any (w : World) (b : Nat) (t : TypeId) (A B : List Value) (ls : List Le) (n : Nat) (x : Le) (h : LeRow w b t A ls B) (hx : ls[n]? = some x) :
    Calls Try.prog 84 #[.pointer (some ⟨b, A.length, none⟩), .int .i64 n] w fun e w' => e = .returned (.tuple #[]) ∧ LePost w b t A (ls.set n ⟨-1, inc x.c, x.e⟩) B w' := by
  have hn := (List.getElem?_eq_some_iff.1 hx).1
  have hl := h.len
  obtain ⟨c0, c1, c2⟩ := h.three hx
  refine (leFree_any b A.length n (by omega) x w c0 c1 (fun q => frozen_of h.blk q)).mono ?_
  intro e w' hq
  have s0 := h.setAt (n * 3) (by omega) (.int .i64 (-1)) (leCells_set0 ls n x hx (-1)) (by simp)
  have s1 := s0.setAt (n * 3 + 1) (by omega) (.int .i64 (inc x.c)) (leCells_set1 _ n _ (leGet_set hx) _) (by simp)
  rw [List.set_set] at s1
  refine ⟨hq.1, s1.block (hq.2.block b (lt_of_heap h.blk)), ?_⟩
  have k0 : Keeps (fun k => k = b) w ((w.setCell ⟨b, A.length + n * 3, none⟩ (.int .i64 (-1))).setCell ⟨b, A.length + n * 3 + 1, none⟩ (.int .i64 (inc x.c))) := by
    iterate 2 refine Keeps.setCell (S := fun k => k = b) ?_ (by exact Or.inl rfl) _
    exact Keeps.refl _ w
  exact k0.trans ((Keeps.of_below hq.2).mono fun k hk hs => by simp at hk; omega)

end Go.Proofs.Ytpnkmnmchdabkaa
namespace Go.Proofs.Ytpnkmnmchdabkaa
open Go.RowKit

/-- A hold. -/
structure Hd where
  sh : Int
  ep : Int
  at_ : Int
  bf : Int
def hdCells (x : Hd) : List Value := [.int .i64 x.sh, .int .i64 x.ep, .int .i64 x.at_, .int .i64 x.bf]
def rowHd : List Hd → List Value
  | [] => []
  | s :: r => hdCells s ++ rowHd r
theorem rowHd_get (l : List Hd) (i j : Nat) (hj : j < 4) (s : Hd) (h : l[i]? = some s) : (rowHd l)[i * 4 + j]? = (hdCells s)[j]? := by
  induction l generalizing i with
  | nil => simp at h
  | cons x r ih =>
    cases i with
    | zero =>
      simp at h; subst h
      simp only [rowHd, Nat.zero_mul, Nat.zero_add]
      rw [List.getElem?_append_left (by simpa [hdCells] using hj)]
    | succ i =>
      simp at h
      simp only [rowHd]
      rw [List.getElem?_append_right (by simp only [hdCells, List.length_cons, List.length_nil]; omega), ← ih i h]
      congr 1
      simp only [hdCells, List.length_cons, List.length_nil]; omega
theorem rowHd_append (l k : List Hd) : rowHd (l ++ k) = rowHd l ++ rowHd k := by
  induction l with
  | nil => rfl
  | cons s r ih => simp [rowHd, ih]
theorem infoHold : (Try.prog.info? 75).map (fun i => (i.zero, i.size, i.bytes)) = some (some (.agg #[.int .i64 0, .int .i64 0, .int .i64 0, .int .i64 0]), 4, 32) := by kernel_rfl
end Go.Proofs.Ytpnkmnmchdabkaa
namespace Go.Proofs.Ytpnkmnmchdabkaa
open Go.RowKit
attribute [local go_sem ↓] Go.wp_at_zero Go.wp_at_succ

/-- What a worker's memory has of one shard. -/
structure Pl where
  held : Bool
  h : Hd
  made : Bool
  c : Int
  s : Int
def plCells (p : Pl) : List Value := [.bool p.held, .int .i64 p.h.sh, .int .i64 p.h.ep, .int .i64 p.h.at_, .int .i64 p.h.bf, .bool p.made, .int .i64 p.c, .int .i64 p.s]
/-- It lies there. -/
structure PlAt (w : World) (b o : Nat) (p : Pl) : Prop where
  lt : b < w.heap.size
  a0 : w.cell? ⟨b, o, none⟩ = some (.bool p.held)
  a1 : w.cell? ⟨b, o + 1, none⟩ = some (.int .i64 p.h.sh)
  a2 : w.cell? ⟨b, o + 1 + 1, none⟩ = some (.int .i64 p.h.ep)
  a3 : w.cell? ⟨b, o + 1 + 2, none⟩ = some (.int .i64 p.h.at_)
  a4 : w.cell? ⟨b, o + 1 + 3, none⟩ = some (.int .i64 p.h.bf)
  a5 : w.cell? ⟨b, o + 5, none⟩ = some (.bool p.made)
  a6 : w.cell? ⟨b, o + 5 + 1, none⟩ = some (.int .i64 p.c)
  a7 : w.cell? ⟨b, o + 5 + 2, none⟩ = some (.int .i64 p.s)
  fr : ∀ q, w.frozen? ⟨b, q, none⟩ = false

set_option maxHeartbeats 400000 in
theorem memHas_any (n : Int) (w : World) :
    Calls Try.prog 90 #[.int .i64 n] w fun e w' => e = .returned (.bool (decide (0 ≤ n ∧ n < 16))) ∧ w = w' := by
  by_cases h1 : 0 ≤ n
  · by_cases h2 : n < 16
    all_goals
      go_enter Try.func90, Try.ntmps90
      go_wp2
      go_ret
      exact ⟨by simp [h1, h2], rfl⟩
  · go_enter Try.func90, Try.ntmps90
    go_wp2
    go_ret
    exact ⟨by simp; omega, rfl⟩

theorem hasM16 {n : Nat} (h : n < 16) : decide (0 ≤ (n : Int) ∧ (n : Int) < 16) = true := by simp; omega

set_option maxRecDepth 100000 in
set_option maxHeartbeats 1000000 in
theorem memHold_any (b o n : Nat) (hn : n < 16) (p : Pl) (w : World) (h : PlAt w b (o + n * 8) p) :
    Calls Try.prog 55 #[.pointer (some ⟨b, o, none⟩), .int .i64 n] w fun e w' => e = .returned (.tuple #[if p.held = true then .agg #[.int .i64 p.h.sh, .int .i64 p.h.ep, .int .i64 p.h.at_, .int .i64 p.h.bf] else .agg #[.int .i64 0, .int .i64 0, .int .i64 0, .int .i64 0], .bool p.held]) ∧ Below w.heap.size w w' := by
  obtain ⟨hl, a0, a1, a2, a3, a4, a5, a6, a7, fr⟩ := h
  clear a5 a6 a7 fr
  have HH := fun w => hide (memHas_any n w)
  rw [hasM16 hn] at HH
  cases hh : p.held
  · rw [hh] at a0
    go_enter Try.func55, Try.ntmps55
    go_wp2_with (go_at_call 90; refine (unhide (HH _)).mono ?_; rintro e w1 ⟨rfl, rfl⟩)
    refine bodyPost_ret (v := .tuple #[.agg #[.int .i64 0, .int .i64 0, .int .i64 0, .int .i64 0], .bool false]) ?_ rfl ⟨rfl, ?_⟩
    · simp [results, Try.results55, go_sem]
    · exact (Below.refl _ w).alloc (Nat.le_refl _) _
  · rw [hh] at a0
    go_enter Try.func55, Try.ntmps55
    go_wp2_with (go_at_call 90; refine (unhide (HH _)).mono ?_; rintro e w1 ⟨rfl, rfl⟩)
    refine bodyPost_ret (v := .tuple #[.agg #[.int .i64 p.h.sh, .int .i64 p.h.ep, .int .i64 p.h.at_, .int .i64 p.h.bf], .bool true]) ?_ rfl ⟨rfl, ?_⟩
    · simp [results, Try.results55, go_sem]
    · exact (Below.refl _ w).alloc (Nat.le_refl _) _

set_option maxRecDepth 100000 in
set_option maxHeartbeats 1000000 in
theorem memKeep_any (b o n : Nat) (hn : n < 16) (p : Pl) (ep at_ bf : Int) (w : World) (h : PlAt w b (o + n * 8) p) :
    Calls Try.prog 60 #[.pointer (some ⟨b, o, none⟩), .agg #[.int .i64 n, .int .i64 ep, .int .i64 at_, .int .i64 bf]] w fun e w' => e = .returned (.tuple #[]) ∧ Below w.heap.size (((((w.setCell ⟨b, o + n * 8, none⟩ (.bool true)).setCell ⟨b, o + n * 8 + 1, none⟩ (.int .i64 n)).setCell ⟨b, o + n * 8 + 1 + 1, none⟩ (.int .i64 ep)).setCell ⟨b, o + n * 8 + 1 + 2, none⟩ (.int .i64 at_)).setCell ⟨b, o + n * 8 + 1 + 3, none⟩ (.int .i64 bf)) w' := by
  obtain ⟨hl, a0, a1, a2, a3, a4, a5, a6, a7, fr⟩ := h
  have HH := fun w => hide (memHas_any n w)
  rw [hasM16 hn] at HH
  have f0 := fr (o + n * 8)
  have f1 := fr (o + n * 8 + 1)
  have f2 := fr (o + n * 8 + 1 + 1)
  have f3 := fr (o + n * 8 + 1 + 2)
  have f4 := fr (o + n * 8 + 1 + 3)
  have f5 := fr (o + n * 8 + 5)
  have f6 := fr (o + n * 8 + 5 + 1)
  have f7 := fr (o + n * 8 + 5 + 2)
  go_enter Try.func60, Try.ntmps60
  go_wp2_with (go_at_call 90; refine (unhide (HH _)).mono ?_; rintro e w1 ⟨rfl, rfl⟩)
  go_region
  go_wp2
  go_region
  go_wp2
  go_end0
  exact ⟨rfl, ((Below.refl _ _).alloc (by simp) _).drew.drew⟩

set_option maxRecDepth 100000 in
set_option maxHeartbeats 1000000 in
theorem memDrop_any (b o n : Nat) (hn : n < 16) (p : Pl) (w : World) (h : PlAt w b (o + n * 8) p) :
    Calls Try.prog 83 #[.pointer (some ⟨b, o, none⟩), .int .i64 n] w fun e w' => e = .returned (.tuple #[]) ∧ Below w.heap.size (((((w.setCell ⟨b, o + n * 8, none⟩ (.bool false)).setCell ⟨b, o + n * 8 + 1, none⟩ (.int .i64 0)).setCell ⟨b, o + n * 8 + 1 + 1, none⟩ (.int .i64 0)).setCell ⟨b, o + n * 8 + 1 + 2, none⟩ (.int .i64 0)).setCell ⟨b, o + n * 8 + 1 + 3, none⟩ (.int .i64 0)) w' := by
  obtain ⟨hl, a0, a1, a2, a3, a4, a5, a6, a7, fr⟩ := h
  have HH := fun w => hide (memHas_any n w)
  rw [hasM16 hn] at HH
  have f0 := fr (o + n * 8)
  have f1 := fr (o + n * 8 + 1)
  have f2 := fr (o + n * 8 + 1 + 1)
  have f3 := fr (o + n * 8 + 1 + 2)
  have f4 := fr (o + n * 8 + 1 + 3)
  have f5 := fr (o + n * 8 + 5)
  have f6 := fr (o + n * 8 + 5 + 1)
  have f7 := fr (o + n * 8 + 5 + 2)
  go_enter Try.func83, Try.ntmps83
  go_wp2_with (go_at_call 90; refine (unhide (HH _)).mono ?_; rintro e w1 ⟨rfl, rfl⟩)
  go_end0
  exact ⟨rfl, Below.refl _ _⟩

set_option maxRecDepth 100000 in
set_option maxHeartbeats 1000000 in
theorem memNote_new (b o n : Nat) (hn : n < 16) (p : Pl) (c s : Int) (w : World) (h : PlAt w b (o + n * 8) p) (hm : ¬ (p.made = true ∧ p.c = c)) :
    Calls Try.prog 86 #[.pointer (some ⟨b, o, none⟩), .int .i64 n, .int .i64 c, .int .i64 s] w fun e w' => e = .returned (.tuple #[]) ∧ Below w.heap.size (((w.setCell ⟨b, o + n * 8 + 5, none⟩ (.bool true)).setCell ⟨b, o + n * 8 + 5 + 1, none⟩ (.int .i64 c)).setCell ⟨b, o + n * 8 + 5 + 2, none⟩ (.int .i64 s)) w' := by
  obtain ⟨hl, a0, a1, a2, a3, a4, a5, a6, a7, fr⟩ := h
  have HH := fun w => hide (memHas_any n w)
  rw [hasM16 hn] at HH
  have f0 := fr (o + n * 8)
  have f1 := fr (o + n * 8 + 1)
  have f2 := fr (o + n * 8 + 1 + 1)
  have f3 := fr (o + n * 8 + 1 + 2)
  have f4 := fr (o + n * 8 + 1 + 3)
  have f5 := fr (o + n * 8 + 5)
  have f6 := fr (o + n * 8 + 5 + 1)
  have f7 := fr (o + n * 8 + 5 + 2)
  cases hh : p.made
  · rw [hh] at a5
    clear hm
    go_enter Try.func86, Try.ntmps86
    go_wp2_with (go_at_call 90; refine (unhide (HH _)).mono ?_; rintro e w1 ⟨rfl, rfl⟩)
    go_end0
    exact ⟨rfl, (Below.refl _ _).alloc (by simp) _⟩
  · rw [hh] at a5
    have hq : ¬ p.c = c := fun e => hm ⟨hh, e⟩
    clear hm
    go_enter Try.func86, Try.ntmps86
    go_wp2_with (go_at_call 90; refine (unhide (HH _)).mono ?_; rintro e w1 ⟨rfl, rfl⟩)
    go_end0
    exact ⟨rfl, (Below.refl _ _).alloc (by simp) _⟩

set_option maxRecDepth 100000 in
set_option maxHeartbeats 1000000 in
theorem memNote_old (b o n : Nat) (hn : n < 16) (p : Pl) (s : Int) (w : World) (h : PlAt w b (o + n * 8) p) (hm : p.made = true) :
    Calls Try.prog 86 #[.pointer (some ⟨b, o, none⟩), .int .i64 n, .int .i64 p.c, .int .i64 s] w fun e w' => e = .returned (.tuple #[]) ∧ Below w.heap.size w w' := by
  obtain ⟨hl, a0, a1, a2, a3, a4, a5, a6, a7, fr⟩ := h
  have HH := fun w => hide (memHas_any n w)
  rw [hasM16 hn] at HH
  rw [hm] at a5
  go_enter Try.func86, Try.ntmps86
  go_wp2_with (go_at_call 90; refine (unhide (HH _)).mono ?_; rintro e w1 ⟨rfl, rfl⟩)
  refine bodyPost_ret (v := .tuple #[]) ?_ rfl ⟨rfl, (Below.refl _ _).alloc (by simp) _⟩
  simp [results, Try.results86, go_sem]

set_option maxRecDepth 100000 in
set_option maxHeartbeats 1000000 in
theorem memNoted_any (b o n : Nat) (hn : n < 16) (p : Pl) (c s u : Int) (w : World) (h : PlAt w b (o + n * 8) p) :
    Calls Try.prog 108 #[.pointer (some ⟨b, o, none⟩), .int .i64 n, .int .i64 c, .int .i64 s, .int .i64 u] w fun e w' => e = .returned (.bool (p.made && decide (p.c = c) && decide (u ≤ dif s p.s))) ∧ Below w.heap.size w w' := by
  obtain ⟨hl, a0, a1, a2, a3, a4, a5, a6, a7, fr⟩ := h
  have HH := fun w => hide (memHas_any n w)
  rw [hasM16 hn] at HH
  have ws : IntKind.i64.wrap (s - p.s) = dif s p.s := rfl
  cases hh : p.made
  · rw [hh] at a5
    go_enter Try.func108, Try.ntmps108
    go_wp2_with (go_at_call 90; refine (unhide (HH _)).mono ?_; rintro e w1 ⟨rfl, rfl⟩)
    go_ret
    exact ⟨by simp, (Below.refl _ _).alloc (by simp) _⟩
  · rw [hh] at a5
    by_cases hq : p.c = c
    · go_enter Try.func108, Try.ntmps108
      go_wp2_with (go_at_call 90; refine (unhide (HH _)).mono ?_; rintro e w1 ⟨rfl, rfl⟩)
      go_ret
      exact ⟨by simp [hq], (Below.refl _ _).alloc (by simp) _⟩
    · go_enter Try.func108, Try.ntmps108
      go_wp2_with (go_at_call 90; refine (unhide (HH _)).mono ?_; rintro e w1 ⟨rfl, rfl⟩)
      go_ret
      exact ⟨by simp [hq], (Below.refl _ _).alloc (by simp) _⟩

end Go.Proofs.Ytpnkmnmchdabkaa
namespace Go.Proofs.Ytpnkmnmchdabkaa
open Go.RowKit

/-- The cells of many places. -/
def plsCells : List Pl → List Value
  | [] => []
  | p :: r => plCells p ++ plsCells r

theorem plsCells_get (P : List Pl) (q j : Nat) (hj : j < 8) (p : Pl) (h : P[q]? = some p) : (plsCells P)[q * 8 + j]? = (plCells p)[j]? := by
  induction P generalizing q with
  | nil => simp at h
  | cons a r ih =>
    cases q with
    | zero =>
      simp only [List.getElem?_cons_zero, Option.some.injEq] at h
      subst h
      rw [plsCells, List.getElem?_append_left (by simp [plCells]; omega)]
      simp
    | succ q =>
      simp only [List.getElem?_cons_succ] at h
      rw [plsCells, List.getElem?_append_right (by simp [plCells]; omega)]
      have e : (q + 1) * 8 + j - (plCells a).length = q * 8 + j := by simp [plCells]; omega
      rw [e]
      exact ih q h

theorem plsCells_set (P : List Pl) (q j : Nat) (hj : j < 8) (p p' : Pl) (u : Value) (h : P[q]? = some p) (e : (plCells p).set j u = plCells p') : (plsCells P).set (q * 8 + j) u = plsCells (P.set q p') := by
  induction P generalizing q with
  | nil => simp at h
  | cons a r ih =>
    cases q with
    | zero =>
      simp only [List.getElem?_cons_zero, Option.some.injEq] at h
      subst h
      rw [plsCells, List.set_append_left _ _ (by simp [plCells]; omega), List.set_cons_zero, plsCells]
      simp [e]
    | succ q =>
      simp only [List.getElem?_cons_succ] at h
      rw [plsCells, List.set_append_right _ _ (by simp [plCells]; omega), List.set_cons_succ, plsCells]
      have e' : (q + 1) * 8 + j - (plCells a).length = q * 8 + j := by simp [plCells]; omega
      rw [e', ih q h]

/-- The memories of N workers: 16 places each, one behind the other. -/
structure PlsAt (w : World) (g cap N : Nat) (P : List Pl) : Prop where
  row : w.ownsRow 0 105 128 (.slice (some ⟨g, 0, none⟩) N cap) N (plsCells P)
  len : P.length = N * 16

theorem PlsAt.lt {w : World} {g cap N : Nat} {P : List Pl} (h : PlsAt w g cap N P) : g < w.heap.size := (h.row.lt g rfl).2

theorem PlsAt.place {w : World} {g cap N : Nat} {P : List Pl} (h : PlsAt w g cap N P) {i n : Nat} {p : Pl} (hp : P[i * 16 + n]? = some p) : PlAt w g (i * 128 + n * 8) p := by
  have hl := (List.getElem?_eq_some_iff.1 hp).1
  have hn := h.len
  have c : ∀ j, j < 8 → w.cell? ⟨g, i * 128 + n * 8 + j, none⟩ = (plCells p)[j]? := fun j hj => by
    have e : i * 128 + n * 8 + j = (i * 16 + n) * 8 + j := by omega
    rw [e, h.row.cellAt _ (by omega), plsCells_get P _ j hj p hp]
  exact ⟨h.lt, c 0 (by omega), c 1 (by omega), c 2 (by omega), c 3 (by omega), c 4 (by omega), c 5 (by omega), c 6 (by omega), c 7 (by omega), fun q => h.row.frozenAt q⟩

theorem PlsAt.set {w : World} {g cap N : Nat} {P : List Pl} (h : PlsAt w g cap N P) {i n j : Nat} (hj : j < 8) {p : Pl} (p' : Pl) (hp : P[i * 16 + n]? = some p) (u : Value) (e : (plCells p).set j u = plCells p') :
    PlsAt (w.setCell ⟨g, i * 128 + n * 8 + j, none⟩ u) g cap N (P.set (i * 16 + n) p') := by
  have he : i * 128 + n * 8 + j = (i * 16 + n) * 8 + j := by omega
  refine ⟨?_, by simpa using h.len⟩
  rw [he, ← plsCells_set P _ j hj p p' u hp e]
  exact (h.row.stored _ u).1

theorem PlsAt.block {w w' : World} {g cap N : Nat} {P : List Pl} (h : PlsAt w g cap N P) (hb : w'.heap[g]? = w.heap[g]?) : PlsAt w' g cap N P :=
  ⟨ownsRow_of_block h.row fun k hk => by
    have e : g = k := by simpa [Value.ownBlock] using hk
    subst e; exact hb, h.len⟩

/-- What an edit of one place leaves. -/
def PlPost (w : World) (g cap N : Nat) (P : List Pl) (w' : World) : Prop := PlsAt w' g cap N P ∧ Keeps (fun k => k = g) w w'

theorem set_set_at {P : List Pl} {q : Nat} {a b : Pl} : (P.set q a).set q b = P.set q b := by simp
theorem get_set_at {P : List Pl} {q : Nat} {p a : Pl} (h : P[q]? = some p) : (P.set q a)[q]? = some a := by
  have := (List.getElem?_eq_some_iff.1 h).1
  simp [this]

theorem keep_chain {w : World} {g cap N : Nat} {P : List Pl} (h : PlsAt w g cap N P) {i n : Nat} {p : Pl} (hp : P[i * 16 + n]? = some p) (held : Bool) (sh ep at_ bf : Int) {w' : World}
    (hb : Below w.heap.size (((((w.setCell ⟨g, i * 128 + n * 8, none⟩ (.bool held)).setCell ⟨g, i * 128 + n * 8 + 1, none⟩ (.int .i64 sh)).setCell ⟨g, i * 128 + n * 8 + 1 + 1, none⟩ (.int .i64 ep)).setCell ⟨g, i * 128 + n * 8 + 1 + 2, none⟩ (.int .i64 at_)).setCell ⟨g, i * 128 + n * 8 + 1 + 3, none⟩ (.int .i64 bf)) w') :
    PlPost w g cap N (P.set (i * 16 + n) { p with held := held, h := ⟨sh, ep, at_, bf⟩ }) w' := by
  have s1 := h.set (j := 0) (by omega) { p with held := held } hp (.bool held) rfl
  have s2 := s1.set (j := 1) (by omega) { p with held := held, h := { p.h with sh := sh } } (get_set_at hp) (.int .i64 sh) rfl
  rw [set_set_at] at s2
  have s3 := s2.set (j := 2) (by omega) { p with held := held, h := ⟨sh, ep, p.h.at_, p.h.bf⟩ } (get_set_at hp) (.int .i64 ep) rfl
  rw [set_set_at] at s3
  have s4 := s3.set (j := 3) (by omega) { p with held := held, h := ⟨sh, ep, at_, p.h.bf⟩ } (get_set_at hp) (.int .i64 at_) rfl
  rw [set_set_at] at s4
  have s5 := s4.set (j := 4) (by omega) { p with held := held, h := ⟨sh, ep, at_, bf⟩ } (get_set_at hp) (.int .i64 bf) rfl
  rw [set_set_at] at s5
  refine ⟨s5.block (hb.block g h.lt), ?_⟩
  have k0 : Keeps (fun k => k = g) w (((((w.setCell ⟨g, i * 128 + n * 8, none⟩ (.bool held)).setCell ⟨g, i * 128 + n * 8 + 1, none⟩ (.int .i64 sh)).setCell ⟨g, i * 128 + n * 8 + 1 + 1, none⟩ (.int .i64 ep)).setCell ⟨g, i * 128 + n * 8 + 1 + 2, none⟩ (.int .i64 at_)).setCell ⟨g, i * 128 + n * 8 + 1 + 3, none⟩ (.int .i64 bf)) := by
    iterate 5 refine Keeps.setCell (S := fun k => k = g) ?_ (by exact Or.inl rfl) _
    exact Keeps.refl _ w
  exact k0.trans ((Keeps.of_below hb).mono fun k hk hs => by simp at hk; omega)

theorem note_chain {w : World} {g cap N : Nat} {P : List Pl} (h : PlsAt w g cap N P) {i n : Nat} {p : Pl} (hp : P[i * 16 + n]? = some p) (c s : Int) {w' : World}
    (hb : Below w.heap.size (((w.setCell ⟨g, i * 128 + n * 8 + 5, none⟩ (.bool true)).setCell ⟨g, i * 128 + n * 8 + 5 + 1, none⟩ (.int .i64 c)).setCell ⟨g, i * 128 + n * 8 + 5 + 2, none⟩ (.int .i64 s)) w') :
    PlPost w g cap N (P.set (i * 16 + n) { p with made := true, c := c, s := s }) w' := by
  have s1 := h.set (j := 5) (by omega) { p with made := true } hp (.bool true) rfl
  have s2 := s1.set (j := 6) (by omega) { p with made := true, c := c } (get_set_at hp) (.int .i64 c) rfl
  rw [set_set_at] at s2
  have s3 := s2.set (j := 7) (by omega) { p with made := true, c := c, s := s } (get_set_at hp) (.int .i64 s) rfl
  rw [set_set_at] at s3
  refine ⟨s3.block (hb.block g h.lt), ?_⟩
  have k0 : Keeps (fun k => k = g) w (((w.setCell ⟨g, i * 128 + n * 8 + 5, none⟩ (.bool true)).setCell ⟨g, i * 128 + n * 8 + 5 + 1, none⟩ (.int .i64 c)).setCell ⟨g, i * 128 + n * 8 + 5 + 2, none⟩ (.int .i64 s)) := by
    iterate 3 refine Keeps.setCell (S := fun k => k = g) ?_ (by exact Or.inl rfl) _
    exact Keeps.refl _ w
  exact k0.trans ((Keeps.of_below hb).mono fun k hk hs => by simp at hk; omega)

theorem plKeep_any (w : World) (g cap N : Nat) (P : List Pl) (i n : Nat) (hn : n < 16) (p : Pl) (ep at_ bf : Int) (h : PlsAt w g cap N P) (hp : P[i * 16 + n]? = some p) :
    Calls Try.prog 60 #[.pointer (some ⟨g, i * 128, none⟩), .agg #[.int .i64 n, .int .i64 ep, .int .i64 at_, .int .i64 bf]] w fun e w' => e = .returned (.tuple #[]) ∧ PlPost w g cap N (P.set (i * 16 + n) { p with held := true, h := ⟨n, ep, at_, bf⟩ }) w' :=
  (memKeep_any g (i * 128) n hn p ep at_ bf w (h.place hp)).mono fun _ _ q => ⟨q.1, keep_chain h hp _ _ _ _ _ q.2⟩

theorem plDrop_any (w : World) (g cap N : Nat) (P : List Pl) (i n : Nat) (hn : n < 16) (p : Pl) (h : PlsAt w g cap N P) (hp : P[i * 16 + n]? = some p) :
    Calls Try.prog 83 #[.pointer (some ⟨g, i * 128, none⟩), .int .i64 n] w fun e w' => e = .returned (.tuple #[]) ∧ PlPost w g cap N (P.set (i * 16 + n) { p with held := false, h := ⟨0, 0, 0, 0⟩ }) w' :=
  (memDrop_any g (i * 128) n hn p w (h.place hp)).mono fun _ _ q => ⟨q.1, keep_chain h hp _ _ _ _ _ q.2⟩

/-- What a note makes of a place. -/
def noted (p : Pl) (c s : Int) : Pl := if p.made = true ∧ p.c = c then p else { p with made := true, c := c, s := s }

theorem plNote_any (w : World) (g cap N : Nat) (P : List Pl) (i n : Nat) (hn : n < 16) (p : Pl) (c s : Int) (h : PlsAt w g cap N P) (hp : P[i * 16 + n]? = some p) :
    Calls Try.prog 86 #[.pointer (some ⟨g, i * 128, none⟩), .int .i64 n, .int .i64 c, .int .i64 s] w fun e w' => e = .returned (.tuple #[]) ∧ PlPost w g cap N (P.set (i * 16 + n) (noted p c s)) w' := by
  by_cases hm : p.made = true ∧ p.c = c
  · obtain ⟨h1, rfl⟩ := hm
    have e : P.set (i * 16 + n) (noted p p.c s) = P := by
      have hl := List.getElem?_eq_some_iff.1 hp
      rw [noted, if_pos ⟨h1, rfl⟩, ← hl.2, List.set_getElem_self]
    rw [e]
    exact (memNote_old g (i * 128) n hn p s w (h.place hp) h1).mono fun _ _ q => ⟨q.1, h.block (q.2.block g h.lt), (Keeps.of_below q.2).mono fun k hk hs => by omega⟩
  · rw [noted, if_neg hm]
    exact (memNote_new g (i * 128) n hn p c s w (h.place hp) hm).mono fun _ _ q => ⟨q.1, note_chain h hp _ _ q.2⟩

theorem plHold_any (w : World) (g cap N : Nat) (P : List Pl) (i n : Nat) (hn : n < 16) (p : Pl) (h : PlsAt w g cap N P) (hp : P[i * 16 + n]? = some p) :
    Calls Try.prog 55 #[.pointer (some ⟨g, i * 128, none⟩), .int .i64 n] w fun e w' => e = .returned (.tuple #[if p.held = true then .agg #[.int .i64 p.h.sh, .int .i64 p.h.ep, .int .i64 p.h.at_, .int .i64 p.h.bf] else .agg #[.int .i64 0, .int .i64 0, .int .i64 0, .int .i64 0], .bool p.held]) ∧ Below w.heap.size w w' :=
  memHold_any g (i * 128) n hn p w (h.place hp)

end Go.Proofs.Ytpnkmnmchdabkaa
