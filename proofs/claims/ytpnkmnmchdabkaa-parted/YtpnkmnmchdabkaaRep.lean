import Derived.Test.YtpnkmnmchdabkaaBase
import Derived.Deep.AppendLies
import Derived.Deep.RegionHeld3
namespace Go.Proofs.Ytpnkmnmchdabkaa
open Go.RowKit

/-- A shard: its range, whether it is open, its parents, how many records it has. -/
structure Sh where
  lo : Int
  hi : Int
  op : Bool
  par : List Int
  cnt : Nat
/-- A shard in memory: and the slices of its parents and of its records. -/
structure Cs where
  s : Sh
  pv : Value
  rv : Value

def shCells (s : Cs) : List Value := [.int .i64 s.s.lo, .int .i64 s.s.hi, .bool s.s.op, s.pv, s.rv]
def logCells : List Cs → List Value
  | [] => []
  | s :: r => shCells s ++ logCells r

theorem logCells_len (l : List Cs) : (logCells l).length = l.length * 5 := by
  induction l with
  | nil => rfl
  | cons s r ih => simp only [logCells, List.length_append, ih, shCells, List.length_cons, List.length_nil]; omega
theorem logCells_append (l k : List Cs) : logCells (l ++ k) = logCells l ++ logCells k := by
  induction l with
  | nil => rfl
  | cons s r ih => simp [logCells, ih]
theorem logCells_get (l : List Cs) (i j : Nat) (hj : j < 5) (s : Cs) (h : l[i]? = some s) : (logCells l)[i * 5 + j]? = (shCells s)[j]? := by
  induction l generalizing i with
  | nil => simp at h
  | cons x r ih =>
    cases i with
    | zero =>
      simp at h; subst h
      simp only [logCells, Nat.zero_mul, Nat.zero_add]
      rw [List.getElem?_append_left (by simpa [shCells] using hj)]
    | succ i =>
      simp at h
      simp only [logCells]
      rw [List.getElem?_append_right (by simp only [shCells, List.length_cons, List.length_nil]; omega), ← ih i h]
      congr 1
      simp only [shCells, List.length_cons, List.length_nil]; omega
theorem logCells_set (l : List Cs) (i j : Nat) (hj : j < 5) (s s' : Cs) (h : l[i]? = some s) (v : Value) (hs : (shCells s).set j v = shCells s') :
    (logCells l).set (i * 5 + j) v = logCells (l.set i s') := by
  induction l generalizing i with
  | nil => simp at h
  | cons x r ih =>
    cases i with
    | zero =>
      simp at h; subst h
      simp only [logCells, Nat.zero_mul, Nat.zero_add, List.set_cons_zero]
      rw [List.set_append_left _ _ (by simpa [shCells] using hj), hs]
    | succ i =>
      simp at h
      simp only [logCells, List.set_cons_succ]
      rw [List.set_append_right _ _ (by simp only [shCells, List.length_cons, List.length_nil]; omega), ← ih i h]
      congr 2
      simp only [shCells, List.length_cons, List.length_nil]; omega

/-- THE LOG IN MEMORY. ρ: which block is whose: 2 the shards' row; 3 + 2i, 4 + 2i the parents and the records of shard i. -/
structure LogAt (w : World) (ρ : Nat → Nat) (sv : Value) (m : List Cs) : Prop where
  row : w.ownsRow 0 141 5 sv m.length (logCells m)
  rowT : ∀ k, sv.ownBlock = some k → ρ k = 2
  par : ∀ (i : Nat) (s : Cs), m[i]? = some s → w.ownsRow 0 3 1 s.pv s.s.par.length (s.s.par.map (Value.int .i64))
  parT : ∀ (i : Nat) (s : Cs), m[i]? = some s → ∀ k, s.pv.ownBlock = some k → ρ k = 3 + 2 * i
  rcs : ∀ (i : Nat) (s : Cs), m[i]? = some s → ∃ xs, w.ownsRow 0 145 10 s.rv s.s.cnt xs
  rcT : ∀ (i : Nat) (s : Cs), m[i]? = some s → ∀ k, s.rv.ownBlock = some k → ρ k = 4 + 2 * i

structure Cfg where
  a : Int
  l : Int
  b : Int
  n : Int
  s : Int
  t : Int

def Cfg.arr (C : Cfg) : Array Value := #[.int .i64 C.a, .int .i64 C.l, .int .i64 C.b, .int .i64 C.n, .int .i64 C.s, .int .i64 C.t]
/-- A lease. -/
structure Le where
  o : Int
  c : Int
  e : Int
def leCells : List Le → List Value
  | [] => []
  | x :: r => .int .i64 x.o :: .int .i64 x.c :: .int .i64 x.e :: leCells r
/-- What a group has beside its log: the time, the sink's marks, the leases, the workers' row and their memories. -/
structure Rest where
  t : Int
  dn : List Int
  ls : List Le
  wv : Value
  n : Nat
  mem : List Value
def Rest.cells (r : Rest) : List Value := r.dn.map (Value.int .i64) ++ (leCells r.ls ++ [r.wv])
def grpArr (C : Cfg) (sv : Value) (now : Rest) : Array Value := (.int .i64 C.a :: .int .i64 C.l :: .int .i64 C.b :: .int .i64 C.n :: .int .i64 C.s :: .int .i64 C.t :: .int .i64 now.t :: sv :: now.cells).toArray

/-- THE GROUP IN MEMORY, with its parts named. -/
structure GrpAt (w : World) (ρ : Nat → Nat) (gb : Nat) (C : Cfg) (now : Rest) (sv : Value) (m : List Cs) : Prop where
  blk : w.heap[gb]? = some (.cells (grpArr C sv now) 94 (0, 0))
  tag : ρ gb = 1
  log : LogAt w ρ sv m
  wk : w.ownsRow 0 105 128 now.wv now.n now.mem
  wkT : ∀ k, now.wv.ownBlock = some k → ρ k = 40
  dnL : now.dn.length = 32
  lsL : now.ls.length = 16

/-- The blocks of the program's: their tags go from 1 to 99. -/
def mine (ρ : Nat → Nat) (k : Nat) : Prop := 1 ≤ ρ k ∧ ρ k < 100
/-- The tags of what was there stand; what is new may be the program's. -/
def Ext (N : Nat) (ρ ρ' : Nat → Nat) : Prop := (∀ k, k < N → ρ' k = ρ k) ∧ ∀ k, N ≤ k → ρ' k < 100
/-- Nothing is tagged that is not there. -/
def Fits (w : World) (ρ : Nat → Nat) : Prop := ∀ k, w.heap.size ≤ k → ρ k = 0

theorem LogAt.keeps {S : Nat → Prop} {w w' : World} {ρ ρ' : Nat → Nat} {sv : Value} {m : List Cs} (h : LogAt w ρ sv m) (hk : Keeps S w w') (hS : ∀ k, S k → ¬ mine ρ k ∨ w.heap.size ≤ k) (he : ∀ k, k < w.heap.size → ρ' k = ρ k) (hm : m.length ≤ 16) : LogAt w' ρ' sv m := by
  have lt : ∀ {i : Nat} {s : Cs}, m[i]? = some s → i < 16 := fun hi => by have := (List.getElem?_eq_some_iff.1 hi).1; omega
  refine ⟨?_, ?_, ?_, ?_, ?_, ?_⟩
  · refine ownsRow_keeps h.row hk fun k hkk hs => ?_
    have := h.rowT k hkk; have := (h.row.lt k hkk).2
    rcases hS k hs with h1 | h1
    · exact h1 ⟨by omega, by omega⟩
    · omega
  · intro k hkk; rw [he k (h.row.lt k hkk).2]; exact h.rowT k hkk
  · intro i s hi
    refine ownsRow_keeps (h.par i s hi) hk fun k hkk hs => ?_
    have := h.parT i s hi k hkk; have := ((h.par i s hi).lt k hkk).2; have := lt hi
    rcases hS k hs with h1 | h1
    · exact h1 ⟨by omega, by omega⟩
    · omega
  · intro i s hi k hkk; rw [he k ((h.par i s hi).lt k hkk).2]; exact h.parT i s hi k hkk
  · intro i s hi
    obtain ⟨xs, hx⟩ := h.rcs i s hi
    refine ⟨xs, ownsRow_keeps hx hk fun k hkk hs => ?_⟩
    have := h.rcT i s hi k hkk; have := (hx.lt k hkk).2; have := lt hi
    rcases hS k hs with h1 | h1
    · exact h1 ⟨by omega, by omega⟩
    · omega
  · intro i s hi k hkk
    obtain ⟨xs, hx⟩ := h.rcs i s hi
    rw [he k (hx.lt k hkk).2]; exact h.rcT i s hi k hkk

theorem GrpAt.keeps {S : Nat → Prop} {w w' : World} {ρ ρ' : Nat → Nat} {gb : Nat} {C : Cfg} {now : Rest} {sv : Value} {m : List Cs} (h : GrpAt w ρ gb C now sv m) (hk : Keeps S w w') (hS : ∀ k, S k → ¬ mine ρ k ∨ w.heap.size ≤ k) (he : ∀ k, k < w.heap.size → ρ' k = ρ k) (hm : m.length ≤ 16) : GrpAt w' ρ' gb C now sv m := by
  have hlt := lt_of_heap h.blk
  refine ⟨?_, ?_, h.log.keeps hk hS he hm, ?_, fun k hkk => by rw [he k (h.wk.lt k hkk).2]; exact h.wkT k hkk, h.dnL, h.lsL⟩
  · rw [hk.block gb hlt fun hs => ?_]
    · exact h.blk
    · rcases hS gb hs with h1 | h1
      · exact h1 (by rw [mine, h.tag]; omega)
      · omega
  · rw [he gb hlt]; exact h.tag
  · refine ownsRow_keeps h.wk hk fun k hkk hs => ?_
    have := h.wkT k hkk; have := (h.wk.lt k hkk).2
    rcases hS k hs with h1 | h1
    · exact h1 ⟨by omega, by omega⟩
    · omega

/-- What a walk wants of the log: where its row lies, and the cells. -/
theorem LogAt.shape {w : World} {ρ : Nat → Nat} {sv : Value} {m : List Cs} (h : LogAt w ρ sv m) (hm : 0 < m.length) :
    ∃ bs cap, sv = .slice (some ⟨bs, 0, none⟩) m.length cap ∧ ρ bs = 2 ∧ bs < w.heap.size ∧ m.length ≤ cap ∧ cap ≤ maxLen ∧ (∀ j, w.frozen? ⟨bs, j, none⟩ = false) ∧
      (∀ (i : Nat) (s : Cs), m[i]? = some s → w.cell? ⟨bs, i * 5, none⟩ = some (.int .i64 s.s.lo) ∧ w.cell? ⟨bs, i * 5 + 1, none⟩ = some (.int .i64 s.s.hi) ∧ w.cell? ⟨bs, i * 5 + 2, none⟩ = some (.bool s.s.op) ∧
        w.cell? ⟨bs, i * 5 + 3, none⟩ = some s.pv ∧ w.cell? ⟨bs, i * 5 + 4, none⟩ = some s.rv) := by
  obtain ⟨g, cap, cur, hv, hb, hg, hn, hc, hsz, ht⟩ := ownsRow_shape h.row hm
  subst hv
  refine ⟨g, cap, rfl, h.rowT g rfl, lt_of_heap hg, hn, hc, fun j => frozen_of hg j, fun i s hi => ?_⟩
  have hlt := (List.getElem?_eq_some_iff.1 hi).1
  have hcell : ∀ j, j < 5 → w.cell? ⟨g, i * 5 + j, none⟩ = (shCells s)[j]? := by
    intro j hj
    have := World.ownsRow.cellAt h.row (i * 5 + j) (by omega)
    rw [this, logCells_get m i j hj s hi]
  exact ⟨hcell 0 (by omega), hcell 1 (by omega), hcell 2 (by omega), hcell 3 (by omega), hcell 4 (by omega)⟩

end Go.Proofs.Ytpnkmnmchdabkaa
