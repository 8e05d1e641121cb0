import Derived.Test.YtpnkmnmchdabkaaRows
import Derived.WalkKit
import Derived.WalkSpells
import Derived.WalkLawsBesides
import Derived.BigQuiet
import Derived.Deep.QuietTactic
import Derived.Deep.AppendLies
import Derived.Deep.RegionHeld3
namespace Go.Proofs.Ytpnkmnmchdabkaa
open Go.RowKit

theorem hide {p : Prop} (h : p) : Hid p := h
theorem unhide {p : Prop} (h : Hid p) : p := h
theorem ret_int {k : IntKind} {a b : Int} (h : a = b) : Ending.returned (.int k a) = .returned (.int k b) := by rw [h]
theorem ret_bool {a b : Bool} (h : a = b) : Ending.returned (.bool a) = .returned (.bool b) := by rw [h]

/-- All blocks but those of S are as they were. -/
structure Keeps (S : Nat → Prop) (w w' : World) : Prop where
  os : w'.os = w.os
  tape : w'.tape = w.tape
  output : w'.output = w.output
  size : w.heap.size ≤ w'.heap.size
  block : ∀ k, k < w.heap.size → ¬ S k → w'.heap[k]? = w.heap[k]?

theorem Keeps.refl (S : Nat → Prop) (w : World) : Keeps S w w := ⟨rfl, rfl, rfl, Nat.le_refl _, fun _ _ _ => rfl⟩
theorem Keeps.trans {S : Nat → Prop} {a b c : World} (h : Keeps S a b) (k : Keeps S b c) : Keeps S a c :=
  ⟨k.os.trans h.os, k.tape.trans h.tape, k.output.trans h.output, Nat.le_trans h.size k.size, fun i hi hs => (k.block i (Nat.lt_of_lt_of_le hi h.size) hs).trans (h.block i hi hs)⟩
theorem Keeps.mono {S T : Nat → Prop} {w w' : World} (h : Keeps S w w') (hT : ∀ k, k < w.heap.size → S k → T k) : Keeps T w w' :=
  ⟨h.os, h.tape, h.output, h.size, fun k hk hn => h.block k hk fun hs => hn (hT k hk hs)⟩
theorem Keeps.drew {S : Nat → Prop} {a w : World} (h : Keeps S a w) : Keeps S a w.drew := ⟨h.os, h.tape, h.output, h.size, h.block⟩
theorem Keeps.alloc {S : Nat → Prop} {a w : World} (h : Keeps S a w) (o : Obj) : Keeps S a (w.alloc o) :=
  ⟨h.os, h.tape, h.output, by have := h.size; simp; omega, fun k hk hs => (Below.heap_alloc _ _ _ (Nat.lt_of_lt_of_le hk h.size)).trans (h.block k hk hs)⟩
theorem Keeps.setCell {S : Nat → Prop} {a w : World} (h : Keeps S a w) {p : Addr} (hp : S p.block ∨ a.heap.size ≤ p.block) (u : Value) : Keeps S a (w.setCell p u) :=
  ⟨h.os, h.tape, h.output, by have := h.size; simp [World.setCell]; omega, fun k hk hs => (Below.heap_setCell _ _ _ _ (by rintro rfl; rcases hp with hp | hp; exact hs hp; omega)).trans (h.block k hk hs)⟩
theorem Keeps.grown {S : Nat → Prop} {a w w' : World} {row : Option Nat} (h : Keeps S a w) (hg : w.grownBy w' row) (hr : ∀ k, row = some k → S k ∨ a.heap.size ≤ k) : Keeps S a w' :=
  ⟨hg.os.trans h.os, hg.tape.trans h.tape, hg.output.trans h.output, Nat.le_trans h.size hg.size, fun k hk hs =>
    (hg.block k (Nat.lt_of_lt_of_le hk h.size) (fun e => by rcases hr k e.symm with h | h; exact hs h; omega)).trans (h.block k hk hs)⟩
theorem Keeps.of_below {B : Nat} {w w' : World} (h : Below B w w') : Keeps (fun k => B ≤ k) w w' := ⟨h.os, h.tape, h.output, h.size, fun k _ hs => h.block k (by omega)⟩
theorem Keeps.below {S : Nat → Prop} {B : Nat} {w w' : World} (h : Keeps S w w') (hB : B ≤ w.heap.size) (hS : ∀ k, k < w.heap.size → S k → B ≤ k) : Below B w w' :=
  ⟨h.os, h.tape, h.output, h.size, fun k hk => h.block k (by omega) fun hs => by have := hS k (by omega) hs; omega⟩
theorem Keeps.cell {S : Nat → Prop} {w w' : World} (h : Keeps S w w') {p : Addr} (hp : p.block < w.heap.size) (hs : ¬ S p.block) : w'.cell? p = w.cell? p := World.cell?_of_block (w := w) (h.block p.block hp hs)

theorem bcell {W w1 : World} (hb : Below W.heap.size W w1) : (∀ b o, b < W.heap.size → w1.cell? ⟨b, o, none⟩ = W.cell? ⟨b, o, none⟩) ∧ (∀ b o, b < W.heap.size → w1.frozen? ⟨b, o, none⟩ = W.frozen? ⟨b, o, none⟩) :=
  ⟨fun b o h => hb.cell (p := ⟨b, o, none⟩) h, fun b o h => hb.frozen (p := ⟨b, o, none⟩) h⟩

theorem cell_of {w : World} {b : Nat} {cs : Array Value} {e : TypeId} {f : Nat × Nat} (h : w.heap[b]? = some (.cells cs e f)) (i : Nat) : w.cell? ⟨b, i, none⟩ = cs[i]? := by
  simp [World.cell?, h]
theorem frozen_of {w : World} {b : Nat} {cs : Array Value} {e : TypeId} (h : w.heap[b]? = some (.cells cs e (0, 0))) (i : Nat) : w.frozen? ⟨b, i, none⟩ = false := by
  simp [World.frozen?, h]
theorem lt_of_heap {w : World} {b : Nat} {o : Obj} (h : w.heap[b]? = some o) : b < w.heap.size := by
  rcases Nat.lt_or_ge b w.heap.size with hh | hh
  · exact hh
  · rw [Array.getElem?_eq_none hh] at h; cases h
theorem heap_setCell_same {w : World} {b i : Nat} {cs : Array Value} {e : TypeId} {f : Nat × Nat} (h : w.heap[b]? = some (.cells cs e f)) (u : Value) :
    (w.setCell ⟨b, i, none⟩ u).heap[b]? = some (.cells (cs.setIfInBounds i u) e f) := by
  simp [World.setCell, Array.getElem?_modify, h]

/-- ownsRow asks of one block alone. -/
theorem ownsRow_of_block {w w' : World} {base : Nat} {e : TypeId} {size : Nat} {v : Value} {n : Nat} {xs : List Value} (h : w.ownsRow base e size v n xs)
    (hb : ∀ k, v.ownBlock = some k → w'.heap[k]? = w.heap[k]?) : w'.ownsRow base e size v n xs := by
  obtain ⟨h1, h2⟩ := h
  refine ⟨h1, ?_⟩
  rcases h2 with h2 | ⟨g, cap, cur, hv, hg, hh, r⟩
  · exact Or.inl h2
  · refine Or.inr ⟨g, cap, cur, hv, hg, ?_, r⟩
    rw [hb g (by rw [hv]; rfl)]; exact hh
theorem ownsRow_base {w : World} {base base' : Nat} {e : TypeId} {size : Nat} {v : Value} {n : Nat} {xs : List Value} (h : w.ownsRow base e size v n xs) (hb : base' ≤ base) : w.ownsRow base' e size v n xs := by
  obtain ⟨h1, h2⟩ := h
  refine ⟨h1, ?_⟩
  rcases h2 with h2 | ⟨g, cap, cur, hv, hg, r⟩
  · exact Or.inl h2
  · exact Or.inr ⟨g, cap, cur, hv, by omega, r⟩
theorem ownsRow_keeps {S : Nat → Prop} {w w' : World} {base : Nat} {e : TypeId} {size : Nat} {v : Value} {n : Nat} {xs : List Value} (h : w.ownsRow base e size v n xs)
    (hk : Keeps S w w') (hs : ∀ k, v.ownBlock = some k → ¬ S k) : w'.ownsRow base e size v n xs :=
  ownsRow_of_block h fun k hkk => hk.block k (h.lt k hkk).2 (hs k hkk)
/-- Not empty: its shape. -/
theorem ownsRow_shape {w : World} {base : Nat} {e : TypeId} {size : Nat} {v : Value} {n : Nat} {xs : List Value} (h : w.ownsRow base e size v n xs) (hn : 0 < n) :
    ∃ g cap cur, v = .slice (some ⟨g, 0, none⟩) n cap ∧ base ≤ g ∧ w.heap[g]? = some (.cells cur e (0, 0)) ∧ n ≤ cap ∧ cap ≤ maxLen ∧ cur.size = cap * size ∧ cur.toList.take (n * size) = xs := by
  rcases h.2 with h2 | h2
  · omega
  · exact h2
theorem ownsRow_len {w : World} {base : Nat} {e : TypeId} {size : Nat} {v : Value} {n : Nat} {xs : List Value} (h : w.ownsRow base e size v n xs) :
    ∃ a cap, v = .slice a n cap := by
  rcases h.2 with ⟨h1, h2⟩ | ⟨g, cap, cur, hv, _⟩
  · exact ⟨none, 0, by rw [h1, h2]⟩
  · exact ⟨_, _, hv⟩

/-- Does a shard take a hash? -/
def accB (o : Bool) (lo hi h : Int) : Bool := o && decide (lo ≤ h) && decide (h < hi)
def withinB (n a b : Int) : Bool := decide (a ≤ n ∧ n ≤ b)
def winB (width slide : Int) : Bool := decide (1 ≤ width ∧ width ≤ 100 ∧ 1 ≤ slide ∧ slide ≤ width ∧ width ≤ 4 * slide)
def validB (w l b width slide late : Int) : Bool := decide ((1 ≤ w ∧ w ≤ 4) ∧ (1 ≤ l ∧ l ≤ 10) ∧ (1 ≤ b ∧ b ≤ 8) ∧ (0 ≤ late ∧ late ≤ 100) ∧ (1 ≤ width ∧ width ≤ 100) ∧ (1 ≤ slide ∧ slide ≤ width) ∧ width ≤ 4 * slide)
def inRange (x : Int) : Prop := -9223372036854775808 ≤ x ∧ x ≤ 9223372036854775807

theorem validB_iff (w l b width slide late : Int) : validB w l b width slide late = true ↔ ((1 ≤ w ∧ w ≤ 4) ∧ (1 ≤ l ∧ l ≤ 10) ∧ (1 ≤ b ∧ b ≤ 8) ∧ (0 ≤ late ∧ late ≤ 100) ∧ (1 ≤ width ∧ width ≤ 100) ∧ (1 ≤ slide ∧ slide ≤ width) ∧ width ≤ 4 * slide) := by
  simp only [validB, decide_eq_true_eq]

end Go.Proofs.Ytpnkmnmchdabkaa
namespace Go.Proofs.Ytpnkmnmchdabkaa
open Go.RowKit

def byteAt (l : List UInt8) (i : Nat) : Int := ((l[i]?.getD 0).toNat : Int)
/-- A record's cells. -/
def recArr (l : List UInt8) (v t : Int) : Array Value := #[.int .u8 (byteAt l 0), .int .u8 (byteAt l 1), .int .u8 (byteAt l 2), .int .u8 (byteAt l 3), .int .u8 (byteAt l 4), .int .u8 (byteAt l 5), .int .u8 (byteAt l 6), .int .u8 (byteAt l 7), .int .i64 v, .int .i64 t]

/-- A record: its key, value, time. -/
structure Rc where
  kb : List UInt8
  v : Int
  t : Int
def rcCells (r : Rc) : List Value := (recArr r.kb r.v r.t).toList
def rcRow : List Rc → List Value
  | [] => []
  | r :: s => rcCells r ++ rcRow s
theorem rcRow_append (l k : List Rc) : rcRow (l ++ k) = rcRow l ++ rcRow k := by
  induction l with
  | nil => rfl
  | cons s r ih => simp [rcRow, ih]
theorem rcRow_get (l : List Rc) (i j : Nat) (hj : j < 10) (s : Rc) (h : l[i]? = some s) : (rcRow l)[i * 10 + j]? = (rcCells s)[j]? := by
  induction l generalizing i with
  | nil => simp at h
  | cons x r ih =>
    cases i with
    | zero =>
      simp at h; subst h
      simp only [rcRow, Nat.zero_mul, Nat.zero_add]
      rw [List.getElem?_append_left (by simpa [rcCells, recArr] using hj)]
    | succ i =>
      simp at h
      simp only [rcRow]
      rw [List.getElem?_append_right (by simp only [rcCells, recArr, List.length_cons, List.length_nil]; omega), ← ih i h]
      congr 1
      simp only [rcCells, recArr, List.length_cons, List.length_nil]; omega

end Go.Proofs.Ytpnkmnmchdabkaa
namespace Go.Proofs.Ytpnkmnmchdabkaa
open Go.RowKit

/-- A shard: its range, whether it is open, its parents, how many records it has. -/
structure Sh where
  lo : Int
  hi : Int
  op : Bool
  par : List Int
  rl : List Rc
/-- How many records. -/
def Sh.cnt (s : Sh) : Nat := s.rl.length
@[simp] theorem Sh.cnt_nil (a b : Int) (o : Bool) (p : List Int) : (⟨a, b, o, p, []⟩ : Sh).cnt = 0 := rfl
@[simp] theorem Sh.cnt_add (s : Sh) (r : Rc) : ({ s with rl := s.rl ++ [r] } : Sh).cnt = s.cnt + 1 := by simp [Sh.cnt]
@[simp] theorem Sh.cnt_op (s : Sh) (b : Bool) : ({ s with op := b } : Sh).cnt = s.cnt := rfl
/-- A shard in memory: and the slices of its parents and of its records. -/
structure Cs where
  s : Sh
  pv : Value
  rv : Value

def shCells (s : Cs) : List Value := [.int .i64 s.s.lo, .int .i64 s.s.hi, .bool s.s.op, s.pv, s.rv]
def logCells : List Cs → List Value
  | [] => []
  | s :: r => shCells s ++ logCells r

theorem logCells_len (l : List Cs) : (logCells l).length = l.length * 5 := by
  induction l with
  | nil => rfl
  | cons s r ih => simp only [logCells, List.length_append, ih, shCells, List.length_cons, List.length_nil]; omega
theorem logCells_append (l k : List Cs) : logCells (l ++ k) = logCells l ++ logCells k := by
  induction l with
  | nil => rfl
  | cons s r ih => simp [logCells, ih]
theorem logCells_get (l : List Cs) (i j : Nat) (hj : j < 5) (s : Cs) (h : l[i]? = some s) : (logCells l)[i * 5 + j]? = (shCells s)[j]? := by
  induction l generalizing i with
  | nil => simp at h
  | cons x r ih =>
    cases i with
    | zero =>
      simp at h; subst h
      simp only [logCells, Nat.zero_mul, Nat.zero_add]
      rw [List.getElem?_append_left (by simpa [shCells] using hj)]
    | succ i =>
      simp at h
      simp only [logCells]
      rw [List.getElem?_append_right (by simp only [shCells, List.length_cons, List.length_nil]; omega), ← ih i h]
      congr 1
      simp only [shCells, List.length_cons, List.length_nil]; omega
theorem logCells_set (l : List Cs) (i j : Nat) (hj : j < 5) (s s' : Cs) (h : l[i]? = some s) (v : Value) (hs : (shCells s).set j v = shCells s') :
    (logCells l).set (i * 5 + j) v = logCells (l.set i s') := by
  induction l generalizing i with
  | nil => simp at h
  | cons x r ih =>
    cases i with
    | zero =>
      simp at h; subst h
      simp only [logCells, Nat.zero_mul, Nat.zero_add, List.set_cons_zero]
      rw [List.set_append_left _ _ (by simpa [shCells] using hj), hs]
    | succ i =>
      simp at h
      simp only [logCells, List.set_cons_succ]
      rw [List.set_append_right _ _ (by simp only [shCells, List.length_cons, List.length_nil]; omega), ← ih i h]
      congr 2
      simp only [shCells, List.length_cons, List.length_nil]; omega

/-- THE LOG IN MEMORY. ρ: which block is whose: 2 the shards' row; 3 + 2i, 4 + 2i the parents and the records of shard i. -/
structure LogAt (w : World) (ρ : Nat → Nat) (sv : Value) (m : List Cs) : Prop where
  row : w.ownsRow 0 141 5 sv m.length (logCells m)
  rowT : ∀ k, sv.ownBlock = some k → ρ k = 2
  par : ∀ (i : Nat) (s : Cs), m[i]? = some s → w.ownsRow 0 3 1 s.pv s.s.par.length (s.s.par.map (Value.int .i64))
  parT : ∀ (i : Nat) (s : Cs), m[i]? = some s → ∀ k, s.pv.ownBlock = some k → ρ k = 3 + 2 * i
  rcv : ∀ (i : Nat) (s : Cs), m[i]? = some s → w.ownsRow 0 145 10 s.rv s.s.cnt (rcRow s.s.rl)
  rcT : ∀ (i : Nat) (s : Cs), m[i]? = some s → ∀ k, s.rv.ownBlock = some k → ρ k = 4 + 2 * i

theorem LogAt.rcs {w : World} {ρ : Nat → Nat} {sv : Value} {m : List Cs} (h : LogAt w ρ sv m) (i : Nat) (s : Cs) (hi : m[i]? = some s) : ∃ xs, w.ownsRow 0 145 10 s.rv s.s.cnt xs := ⟨_, h.rcv i s hi⟩

structure Cfg where
  a : Int
  l : Int
  b : Int
  n : Int
  s : Int
  t : Int

def Cfg.arr (C : Cfg) : Array Value := #[.int .i64 C.a, .int .i64 C.l, .int .i64 C.b, .int .i64 C.n, .int .i64 C.s, .int .i64 C.t]
/-- A lease. -/
structure Le where
  o : Int
  c : Int
  e : Int
def leCells : List Le → List Value
  | [] => []
  | x :: r => .int .i64 x.o :: .int .i64 x.c :: .int .i64 x.e :: leCells r
/-- What a group has beside its log: the time, the sink's marks, the leases, the workers' row and their memories. -/
structure Rest where
  t : Int
  dn : List Int
  ls : List Le
  wv : Value
  n : Nat
  mem : List Value
def Rest.cells (r : Rest) : List Value := r.dn.map (Value.int .i64) ++ (leCells r.ls ++ [r.wv])
def grpArr (C : Cfg) (sv : Value) (now : Rest) : Array Value := (.int .i64 C.a :: .int .i64 C.l :: .int .i64 C.b :: .int .i64 C.n :: .int .i64 C.s :: .int .i64 C.t :: .int .i64 now.t :: sv :: now.cells).toArray

/-- THE GROUP IN MEMORY, with its parts named. -/
structure GrpAt (w : World) (ρ : Nat → Nat) (gb : Nat) (C : Cfg) (now : Rest) (sv : Value) (m : List Cs) : Prop where
  blk : w.heap[gb]? = some (.cells (grpArr C sv now) 94 (0, 0))
  tag : ρ gb = 1
  log : LogAt w ρ sv m
  wk : w.ownsRow 0 105 128 now.wv now.n now.mem
  wkT : ∀ k, now.wv.ownBlock = some k → ρ k = 40
  dnL : now.dn.length = 32
  lsL : now.ls.length = 16

/-- The blocks of the program's: their tags go from 1 to 99. -/
def mine (ρ : Nat → Nat) (k : Nat) : Prop := 1 ≤ ρ k ∧ ρ k < 100
/-- The tags of what was there stand; what is new may be the program's. -/
def Ext (N : Nat) (ρ ρ' : Nat → Nat) : Prop := (∀ k, k < N → ρ' k = ρ k) ∧ ∀ k, N ≤ k → ρ' k < 100
/-- Nothing is tagged that is not there. -/
def Fits (w : World) (ρ : Nat → Nat) : Prop := ∀ k, w.heap.size ≤ k → ρ k = 0

theorem LogAt.keeps {S : Nat → Prop} {w w' : World} {ρ ρ' : Nat → Nat} {sv : Value} {m : List Cs} (h : LogAt w ρ sv m) (hk : Keeps S w w') (hS : ∀ k, S k → ¬ mine ρ k ∨ w.heap.size ≤ k) (he : ∀ k, k < w.heap.size → ρ' k = ρ k) (hm : m.length ≤ 16) : LogAt w' ρ' sv m := by
  have lt : ∀ {i : Nat} {s : Cs}, m[i]? = some s → i < 16 := fun hi => by have := (List.getElem?_eq_some_iff.1 hi).1; omega
  refine ⟨?_, ?_, ?_, ?_, ?_, ?_⟩
  · refine ownsRow_keeps h.row hk fun k hkk hs => ?_
    have := h.rowT k hkk; have := (h.row.lt k hkk).2
    rcases hS k hs with h1 | h1
    · exact h1 ⟨by omega, by omega⟩
    · omega
  · intro k hkk; rw [he k (h.row.lt k hkk).2]; exact h.rowT k hkk
  · intro i s hi
    refine ownsRow_keeps (h.par i s hi) hk fun k hkk hs => ?_
    have := h.parT i s hi k hkk; have := ((h.par i s hi).lt k hkk).2; have := lt hi
    rcases hS k hs with h1 | h1
    · exact h1 ⟨by omega, by omega⟩
    · omega
  · intro i s hi k hkk; rw [he k ((h.par i s hi).lt k hkk).2]; exact h.parT i s hi k hkk
  · intro i s hi
    have hx := h.rcv i s hi
    refine ownsRow_keeps hx hk fun k hkk hs => ?_
    have := h.rcT i s hi k hkk; have := (hx.lt k hkk).2; have := lt hi
    rcases hS k hs with h1 | h1
    · exact h1 ⟨by omega, by omega⟩
    · omega
  · intro i s hi k hkk
    obtain ⟨xs, hx⟩ := h.rcs i s hi
    rw [he k (hx.lt k hkk).2]; exact h.rcT i s hi k hkk

theorem GrpAt.keeps {S : Nat → Prop} {w w' : World} {ρ ρ' : Nat → Nat} {gb : Nat} {C : Cfg} {now : Rest} {sv : Value} {m : List Cs} (h : GrpAt w ρ gb C now sv m) (hk : Keeps S w w') (hS : ∀ k, S k → ¬ mine ρ k ∨ w.heap.size ≤ k) (he : ∀ k, k < w.heap.size → ρ' k = ρ k) (hm : m.length ≤ 16) : GrpAt w' ρ' gb C now sv m := by
  have hlt := lt_of_heap h.blk
  refine ⟨?_, ?_, h.log.keeps hk hS he hm, ?_, fun k hkk => by rw [he k (h.wk.lt k hkk).2]; exact h.wkT k hkk, h.dnL, h.lsL⟩
  · rw [hk.block gb hlt fun hs => ?_]
    · exact h.blk
    · rcases hS gb hs with h1 | h1
      · exact h1 (by rw [mine, h.tag]; omega)
      · omega
  · rw [he gb hlt]; exact h.tag
  · refine ownsRow_keeps h.wk hk fun k hkk hs => ?_
    have := h.wkT k hkk; have := (h.wk.lt k hkk).2
    rcases hS k hs with h1 | h1
    · exact h1 ⟨by omega, by omega⟩
    · omega

/-- What a walk wants of the log: where its row lies, and the cells. -/
theorem LogAt.shape {w : World} {ρ : Nat → Nat} {sv : Value} {m : List Cs} (h : LogAt w ρ sv m) (hm : 0 < m.length) :
    ∃ bs cap, sv = .slice (some ⟨bs, 0, none⟩) m.length cap ∧ ρ bs = 2 ∧ bs < w.heap.size ∧ m.length ≤ cap ∧ cap ≤ maxLen ∧ (∀ j, w.frozen? ⟨bs, j, none⟩ = false) ∧
      (∀ (i : Nat) (s : Cs), m[i]? = some s → w.cell? ⟨bs, i * 5, none⟩ = some (.int .i64 s.s.lo) ∧ w.cell? ⟨bs, i * 5 + 1, none⟩ = some (.int .i64 s.s.hi) ∧ w.cell? ⟨bs, i * 5 + 2, none⟩ = some (.bool s.s.op) ∧
        w.cell? ⟨bs, i * 5 + 3, none⟩ = some s.pv ∧ w.cell? ⟨bs, i * 5 + 4, none⟩ = some s.rv) := by
  obtain ⟨g, cap, cur, hv, hb, hg, hn, hc, hsz, ht⟩ := ownsRow_shape h.row hm
  subst hv
  refine ⟨g, cap, rfl, h.rowT g rfl, lt_of_heap hg, hn, hc, fun j => frozen_of hg j, fun i s hi => ?_⟩
  have hlt := (List.getElem?_eq_some_iff.1 hi).1
  have hcell : ∀ j, j < 5 → w.cell? ⟨g, i * 5 + j, none⟩ = (shCells s)[j]? := by
    intro j hj
    have := World.ownsRow.cellAt h.row (i * 5 + j) (by omega)
    rw [this, logCells_get m i j hj s hi]
  exact ⟨hcell 0 (by omega), hcell 1 (by omega), hcell 2 (by omega), hcell 3 (by omega), hcell 4 (by omega)⟩

end Go.Proofs.Ytpnkmnmchdabkaa
