import Derived.Test.YtpnkmnmchdabkaaM00
import Derived.Deep.DeepMust
import Derived.Deep.MidRow
import Derived.Deep.WholeRow
import Derived.Laws.ResultCell
import Derived.Deep.DrawnRows
import Derived.Test.YtpnkmnmchdabkaaM01
import Derived.Test.YtpnkmnmchdabkaaM09
import Derived.Test.YtpnkmnmchdabkaaMake
namespace Go.Proofs.Ytpnkmnmchdabkaa
open Go.RowKit
attribute [local go_sem ↓] Go.wp_at_zero Go.wp_at_succ

theorem leCells_len (l : List Le) : (leCells l).length = l.length * 3 := by
  induction l with
  | nil => rfl
  | cons s r ih => simp only [leCells, List.length_cons, ih]; omega
theorem leCells_get (l : List Le) (i : Nat) (x : Le) (h : l[i]? = some x) : (leCells l)[i * 3]? = some (.int .i64 x.o) ∧ (leCells l)[i * 3 + 1]? = some (.int .i64 x.c) ∧ (leCells l)[i * 3 + 2]? = some (.int .i64 x.e) := by
  induction l generalizing i with
  | nil => simp at h
  | cons y r ih =>
    cases i with
    | zero => simp at h; subst h; exact ⟨rfl, rfl, rfl⟩
    | succ i =>
      simp at h
      obtain ⟨a, b, c⟩ := ih i h
      rw [show (i + 1) * 3 = i * 3 + 3 by omega]
      exact ⟨a, b, c⟩
theorem leCells_set0 (l : List Le) (i : Nat) (x : Le) (h : l[i]? = some x) (v : Int) : (leCells l).set (i * 3) (.int .i64 v) = leCells (l.set i { x with o := v }) := by
  induction l generalizing i with
  | nil => simp at h
  | cons y r ih =>
    cases i with
    | zero => simp at h; subst h; rfl
    | succ i =>
      simp at h
      rw [show (i + 1) * 3 = i * 3 + 3 by omega]
      simp only [leCells, List.set_cons_succ, ih i h]
theorem leCells_set1 (l : List Le) (i : Nat) (x : Le) (h : l[i]? = some x) (v : Int) : (leCells l).set (i * 3 + 1) (.int .i64 v) = leCells (l.set i { x with c := v }) := by
  induction l generalizing i with
  | nil => simp at h
  | cons y r ih =>
    cases i with
    | zero => simp at h; subst h; rfl
    | succ i =>
      simp at h
      rw [show (i + 1) * 3 + 1 = (i * 3 + 1) + 3 by omega]
      simp only [leCells, List.set_cons_succ, ih i h]
theorem leCells_set2 (l : List Le) (i : Nat) (x : Le) (h : l[i]? = some x) (v : Int) : (leCells l).set (i * 3 + 2) (.int .i64 v) = leCells (l.set i { x with e := v }) := by
  induction l generalizing i with
  | nil => simp at h
  | cons y r ih =>
    cases i with
    | zero => simp at h; subst h; rfl
    | succ i =>
      simp at h
      rw [show (i + 1) * 3 + 2 = (i * 3 + 2) + 3 by omega]
      simp only [leCells, List.set_cons_succ, ih i h]

/-- The leases at first; in the making. -/
def noneL (k : Nat) : List Le := List.replicate k ⟨-1, 0, 0⟩ ++ List.replicate (16 - k) ⟨0, 0, 0⟩
theorem noneL_set {k : Nat} (hk : k < 16) : (noneL k).set k ⟨-1, 0, 0⟩ = noneL (k + 1) := by
  unfold noneL
  rw [List.set_append_right _ _ (by simp), List.length_replicate, Nat.sub_self, show 16 - k = (16 - (k + 1)) + 1 by omega, List.replicate_succ, List.set_cons_zero, List.replicate_succ', List.append_assoc]
  rfl
theorem noneL_get {k : Nat} (hk : k < 16) : (noneL k)[k]? = some ⟨0, 0, 0⟩ := by
  unfold noneL
  rw [List.getElem?_append_right (by simp), List.length_replicate, Nat.sub_self, show 16 - k = (16 - (k + 1)) + 1 by omega, List.replicate_succ]
  rfl

/-- A table of leases, as a row of cells. -/
def leA (L : List Le) : Array Value := (leCells L).toArray
theorem leA_size {L : List Le} (h : L.length = 16) : (leA L).size = 48 := by unfold leA; simp [leCells_len, h]
theorem leCells_one (L : List Le) : ∀ v ∈ leCells L, v.oneCell' = true := by
  induction L with
  | nil => intro v hv; cases hv
  | cons x r ih =>
    intro v hv
    simp only [leCells, List.mem_cons] at hv
    rcases hv with rfl | rfl | rfl | hv
    · rfl
    · rfl
    · rfl
    · exact ih v hv
theorem noneL_len {k : Nat} (hk : k ≤ 16) : (noneL k).length = 16 := by unfold noneL; simp; omega

theorem infoTab : (Try.prog.info? 85).map (fun i => (i.zero, i.size)) = some (some (.agg (leA (noneL 0))), 48) := by kernel_rfl
theorem infoTabSize : (Try.prog.info? 85).map (·.size) = some 48 := by kernel_rfl
theorem zvTab (w : World) : (zeroValue 85).run Try.prog w = .ok (.agg (leA (noneL 0))) w := (zero_of_info infoTab).1 w
theorem ldTab {w : World} {b : Nat} {L : List Le} {t : TypeId} {f : Nat × Nat} (h : w.heap[b]? = some (.cells (leA L) t f)) (hL : L.length = 16) : (loadVar 85 ⟨b, 0, none⟩).run Try.prog w = .ok (.agg (leA L)) w :=
  run_loadVar_row w b t _ (leA L) f _ h Try.underlying85 rfl (by rw [leA_size hL]; exact infoTabSize)
theorem stTab {w : World} {b : Nat} {K L : List Le} {t : TypeId} (h : w.heap[b]? = some (.cells (leA K) t (0, 0))) (hK : K.length = 16) (hL : L.length = 16) : (storeVar 85 ⟨b, 0, none⟩ (.agg (leA L))).run Try.prog w = .ok () (w.setRow b (leA L)) :=
  run_storeVar_row w b t _ (leA K) (leA L) h (by rw [leA_size hL]; exact infoTabSize) (by rw [leA_size hK, leA_size hL]) (all_oneCell_toArray (leCells_one L))

theorem setRow_same {w : World} {b : Nat} {cs cs' : Array Value} {t : TypeId} {f : Nat × Nat} (h : w.heap[b]? = some (.cells cs t f)) : (w.setRow b cs').heap[b]? = some (.cells cs' t f) := by
  simp only [World.setRow, Array.getElem?_modify, if_true, h]
  rfl
theorem setRow_other {w : World} {b k : Nat} {cs' : Array Value} (hk : k ≠ b) : (w.setRow b cs').heap[k]? = w.heap[k]? := by
  simp only [World.setRow, Array.getElem?_modify]
  rw [if_neg (fun e => hk e.symm)]
theorem setRow_below {B : Nat} {a w : World} {b : Nat} (h : Below B a w) (hb : B ≤ b) (cs : Array Value) : Below B a (w.setRow b cs) :=
  h.trans ⟨rfl, rfl, rfl, by simp [World.setRow], fun k hk => setRow_other (by omega)⟩

/-- The load and the store of a whole table, kept shut for the walk. -/
def ldT (a : Addr) : Sem Value := loadVar 85 a
def stT (a : Addr) (v : Value) : Sem Unit := storeVar 85 a v
theorem ldT_shut (a : Addr) : loadVar 85 a = ldT a := rfl
theorem stT_shut (a : Addr) (v : Value) : storeVar 85 a v = stT a v := rfl
theorem ldT_is {w : World} {b : Nat} {L : List Le} {t : TypeId} {f : Nat × Nat} (h : w.heap[b]? = some (.cells (leA L) t f)) (hL : L.length = 16) : (ldT ⟨b, 0, none⟩).run Try.prog w = .ok (.agg (leA L)) w := ldTab h hL
theorem stT_is {w : World} {b : Nat} {K L : List Le} {t : TypeId} (h : w.heap[b]? = some (.cells (leA K) t (0, 0))) (hK : K.length = 16) (hL : L.length = 16) : (stT ⟨b, 0, none⟩ (.agg (leA L))).run Try.prog w = .ok () (w.setRow b (leA L)) := stTab h hK hL
theorem stT_new (w : World) (n : Nat) (K L : List Le) (hn : n = w.heap.size) (hK : K.length = 16) (hL : L.length = 16) : (stT ⟨n, 0, none⟩ (.agg (leA L))).run Try.prog (w.alloc (.cells (leA K) 85)) = .ok () (w.alloc (.cells (leA L) 85)) := by
  subst hn
  rw [stT_is (heap_alloc_new w _) hK hL, World.setRow_alloc_new]

attribute [local go_sem ↓] zvTab ldT_shut stT_shut
attribute [local go_sem] stT_new

set_option maxRecDepth 100000 in
set_option maxHeartbeats 4000000 in
theorem leasesNew_any (w : World) :
    Calls Try.prog 43 #[] w fun e w' => e = .returned (.agg (leA (noneL 16))) ∧ Below w.heap.size w w' := by
  have z0 := noneL_len (k := 0) (by omega)
  have s0 := leA_size z0
  go_enter Try.func43, Try.ntmps43
  go_wp2
  have h0 : Hid (((w.alloc (.cells (leA (noneL 0)) 85)).alloc (.cells (leA (noneL 0)) 85)).heap[w.heap.size]? = some (.cells (leA (noneL 0)) 85 (0, 0))) := by
    unfold Hid
    rw [Below.heap_alloc _ _ _ (by simp)]; exact heap_alloc_new w _
  have h1 : Hid (((w.alloc (.cells (leA (noneL 0)) 85)).alloc (.cells (leA (noneL 0)) 85)).heap[w.heap.size + 1]? = some (.cells (leA (noneL 0)) 85 (0, 0))) := by
    unfold Hid
    have := heap_alloc_new (w.alloc (.cells (leA (noneL 0)) 85)) (.cells (leA (noneL 0)) 85)
    simpa using this
  have hb : Hid (Below w.heap.size w ((w.alloc (.cells (leA (noneL 0)) 85)).alloc (.cells (leA (noneL 0)) 85))) := ((Below.refl _ w).alloc (Nat.le_refl _) _).alloc (by simp) _
  generalize (w.alloc (.cells (leA (noneL 0)) 85)).alloc (.cells (leA (noneL 0)) 85) = W at *
  go_loopw [2] (fun i wr => ∃ k : Nat, k ≤ 16 ∧ i = .int .i64 k ∧ wr.heap[w.heap.size]? = some (.cells (leA (noneL 0)) 85 (0, 0)) ∧ wr.heap[w.heap.size + 1]? = some (.cells (leA (noneL k)) 85 (0, 0)) ∧ Below w.heap.size w wr) (fun i _ => 16 - (intOf i).toNat)
  case atStart => exact ⟨0, by omega, rfl, unhide h0, unhide h1, unhide hb⟩
  case round =>
    obtain ⟨k, hk, rfl, q0, q1, qb⟩ := hrel
    by_cases hlt : k < 16
    · have fz := frozen_of q1 (k * 3)
      have cz : wr.cell? ⟨w.heap.size + 1, k * 3, none⟩ = some (.int .i64 0) := (cell_of q1 (k * 3)).trans (by have := (leCells_get _ k _ (noneL_get hlt)).1; simpa [leA] using this)
      have Q0 := hide q0
      have Q1 := hide q1
      have QB := hide qb
      clear q0 q1 qb
      go_wp2
      go_roundw
      case rel =>
        refine ⟨k + 1, by omega, by go_num, ?_, ?_, (unhide QB).setCell (p := ⟨w.heap.size + 1, k * 3, none⟩) (by simp) _⟩
        · rw [Below.heap_setCell _ _ _ _ (by simp)]; exact unhide Q0
        · rw [heap_setCell_same (unhide Q1)]
          unfold leA
          rw [List.setIfInBounds_toArray, leCells_set0 _ k _ (noneL_get hlt), noneL_set hlt]
      case measure => simp [intOf]; omega
    · have e : k = 16 := by omega
      subst e
      have z16 := noneL_len (k := 16) (by omega)
      have HL := ldT_is q1 z16
      have HS := stT_is q0 z0 z16
      have hs16 := leA_size z16
      have H2 := hide (setRow_same (cs' := leA (noneL 16)) q0)
      have QB := hide (setRow_below qb (Nat.le_refl _) (leA (noneL 16)))
      clear q0 q1 qb
      go_wp2
      refine bodyPost_ret (v := .agg (leA (noneL 16))) ?_ rfl ⟨rfl, unhide QB⟩
      exact results_cell_row rfl _ _ w.heap.size _ _ _ _ rfl (unhide H2) Try.underlying85 rfl (by rw [leA_size z16]; exact infoTabSize)
end Go.Proofs.Ytpnkmnmchdabkaa
namespace Go.Proofs.Ytpnkmnmchdabkaa
open Go.RowKit
attribute [local go_sem ↓] Go.wp_at_zero Go.wp_at_succ

/-- A worker's memory with nothing in it; and those of n workers. -/
def memZ : List Value := (List.replicate 16 [.bool false, .int .i64 0, .int .i64 0, .int .i64 0, .int .i64 0, .bool false, .int .i64 0, .int .i64 0]).flatten
def memN (n : Nat) : List Value := (madeCells memZ.toArray (n * 128)).toList
/-- A group's rest at first. -/
def rest0 (wv : Value) (n : Nat) (mem : List Value) : Rest := ⟨0, List.replicate 32 0, noneL 16, wv, n, mem⟩

/-- The building of a group, kept shut for the walk. -/
def bdG (parts : Array (Nat × Value)) : Sem Value := Instr.build 94 parts
theorem bdG_shut (parts : Array (Nat × Value)) : Instr.build 94 parts = bdG parts := rfl
theorem bdG_is (C : Cfg) (sv : Value) (wa : Option Addr) (k c n : Nat) (mem : List Value) (w : World) :
    (bdG #[(0, .agg C.arr), (2, .agg #[sv]), (4, .agg (leA (noneL 16))), (5, .slice wa k c)]).run Try.prog w = .ok (.agg (grpArr C sv (rest0 (.slice wa k c) n mem))) w := by
  obtain ⟨a, l, b, c, s, t⟩ := C
  kernel_rfl

theorem infoMem : (Try.prog.info? 105).map (fun i => (i.zero, i.size, i.bytes)) = some (some (.agg (memZ).toArray), 128, 1024) := by kernel_rfl

set_option maxRecDepth 100000 in
set_option maxHeartbeats 1000000 in
theorem shardsNew_any (w : World) :
    Calls Try.prog 42 #[] w fun e w' => ∃ g, e = .returned (.agg #[.slice (some ⟨g, 0, none⟩) 1 1]) ∧ w.heap.size ≤ g ∧ w'.heap[g]? = some (.cells #[.int .i64 0, .int .i64 256, .bool true, .slice none 0 0, .slice none 0 0] 141 (0, 0)) ∧ Below w.heap.size w w' := by
  go_enter Try.func42, Try.ntmps42
  go_wp2
  refine bodyPost_ret (v := .agg #[.slice (some ⟨w.heap.size + 1, 0, none⟩) 1 1]) (by simp [results, Try.results42, go_sem]) rfl ⟨w.heap.size + 1, rfl, by omega, ?_, ?_⟩
  · have := heap_alloc_new (w.alloc (.cells #[.slice (some ⟨w.heap.size + 1, 0, none⟩) 1 1] 81)) (.cells #[.int .i64 0, .int .i64 256, .bool true, .slice none 0 0, .slice none 0 0] 141)
    rw [show (w.alloc (.cells #[.slice (some ⟨w.heap.size + 1, 0, none⟩) 1 1] 81)).heap.size = w.heap.size + 1 by simp] at this
    exact this
  · exact ((Below.refl _ w).alloc (Nat.le_refl _) _).alloc (by simp) _

set_option maxRecDepth 100000 in
set_option maxHeartbeats 1000000 in
theorem new_bad (C : Cfg) (w : World) (hv : validB C.a C.l C.b C.n C.s C.t = false) :
    Calls Try.prog 20 #[.agg C.arr] w fun e w' => e = .returned (.tuple #[.pointer none, .int .i64 1]) ∧ Below w.heap.size w w' := by
  unfold Cfg.arr
  have HV := fun w => hide (valid_any C.a C.l C.b C.n C.s C.t w)
  rw [hv] at HV
  go_enter Try.func20, Try.ntmps20
  go_wp2_with (go_at_call 41; refine (unhide (HV _)).mono ?_; rintro e w1 ⟨rfl, hb⟩)
  go_ret2
  exact ⟨rfl, ((Below.refl _ w).alloc (Nat.le_refl _) _).trans (hb.mono (by simp))⟩

/-- A group of one shard. -/
def first : Sh := ⟨0, 256, true, [], []⟩

attribute [local go_sem ↓] zvTab ldT_shut stT_shut bdG_shut
attribute [local go_sem] stT_new

/-- What New leaves. -/
def NewGood (C : Cfg) (w : World) (e : Ending) (w' : World) : Prop := ∃ gb g wb kn : Nat, e = .returned (.tuple #[.pointer (some ⟨gb, 0, none⟩), .int .i64 0]) ∧ w.heap.size ≤ gb ∧ w.heap.size ≤ g ∧ w.heap.size ≤ wb ∧ g ≠ gb ∧ wb ≠ gb ∧ wb ≠ g ∧ (kn : Int) = C.a ∧
      w'.heap[gb]? = some (.cells (grpArr C (.slice (some ⟨g, 0, none⟩) 1 1) (rest0 (.slice (some ⟨wb, 0, none⟩) kn kn) kn (memN kn))) 94 (0, 0)) ∧ w'.heap[g]? = some (.cells #[.int .i64 0, .int .i64 256, .bool true, .slice none 0 0, .slice none 0 0] 141 (0, 0)) ∧
      w'.ownsRow w.heap.size 105 128 (.slice (some ⟨wb, 0, none⟩) kn kn) kn (memN kn) ∧ Below w.heap.size w w'

set_option maxRecDepth 100000 in
set_option maxHeartbeats 4000000 in
theorem new_good (C : Cfg) (w : World) (hv : validB C.a C.l C.b C.n C.s C.t = true) :
    Calls Try.prog 20 #[.agg C.arr] w (NewGood C w) := by
  obtain ⟨hw1, hw2⟩ := ((validB_iff _ _ _ _ _ _).1 hv).1
  obtain ⟨wn, hwn⟩ : ∃ wn : Nat, C.a = wn := ⟨C.a.toNat, by omega⟩
  have HW := hide hwn
  clear hwn
  have HV := fun w => hide (valid_any C.a C.l C.b C.n C.s C.t w)
  rw [hv] at HV
  have HN := fun w => hide (shardsNew_any w)
  have HL := fun w => hide (leasesNew_any w)
  have z16 := noneL_len (k := 16) (by omega)
  have z0 := noneL_len (k := 0) (by omega)
  unfold Cfg.arr
  clear hv
  go_enter Try.func20, Try.ntmps20
  go_wp2_with (go_at_call 41; refine (unhide (HV _)).mono ?_; rintro e w1 ⟨rfl, hb⟩)
  obtain ⟨h1, hB1, hsz⟩ := below_new hb
  clear hb
  have H1 := hide h1
  have HB1 := hide hB1
  clear h1 hB1
  go_wp2_with (go_at_call 42; refine (unhide (HN _)).mono ?_; rintro e w2 ⟨g, rfl, hg, hgb, hb2⟩)
  refine (unhide (HL _)).mono ?_
  rintro e w3 ⟨rfl, hb3⟩
  have hs2 := hb2.size
  have hs3 := hb3.size
  rw [World.size_alloc] at hs3
  have hgl := lt_of_heap hgb
  have P3 : w3.heap[w.heap.size]? = some (.cells #[.int .i64 C.a, .int .i64 C.l, .int .i64 C.b, .int .i64 C.n, .int .i64 C.s, .int .i64 C.t] 23 (0, 0)) := by
    have := lt_of_heap (unhide H1)
    rw [hb3.block _ (by simp; omega), Below.heap_alloc _ _ _ (by omega), hb2.block _ (by omega)]
    exact unhide H1
  have L3 : w3.heap[w2.heap.size]? = some (.cells #[.slice (some ⟨g, 0, none⟩) 1 1] 81 (0, 0)) := by
    rw [hb3.block _ (by simp)]; exact heap_alloc_new w2 _
  have G3 : w3.heap[g]? = some (.cells #[.int .i64 0, .int .i64 256, .bool true, .slice none 0 0, .slice none 0 0] 141 (0, 0)) := by
    rw [hb3.block _ (by simp; omega), Below.heap_alloc _ _ _ hgl]; exact hgb
  have hwl := lt_of_heap P3
  have BB : Below w.heap.size w w3 := (unhide HB1).trans ((hb2.mono (by omega)).trans (((Below.refl _ w2).alloc (by omega) _).trans (hb3.mono (by simp; omega))))
  clear hb2 hb3 hgb H1 HB1
  have c0 : (w3.alloc (.cells (leA (noneL 16)) 85)).cell? ⟨w.heap.size, 0, none⟩ = some (.int .i64 C.a) := (World.cell?_of_block (w := w3) (Below.heap_alloc _ _ _ hwl)).trans (cell_of P3 0)
  obtain ⟨i0, hi0, hz0, hz1, hz2⟩ := info_parts infoMem
  have HG := hide G3
  have HP := hide P3
  have HL3 := hide L3
  have HBB := hide BB
  clear G3 P3 L3 BB
  go_wp2_with (at_make; go_must (refine wpList_make_full _ rfl _ _ 87 rfl w.heap.size 105 i0 _ 128 Try.underlying87 hi0 hz0 hz1 _ _ _ _ wn rfl rfl (unhide HW) (unhide HW) ?bytes ?ml ?base ?mk))
  case bytes => rw [hz2]; have := unhide HW; omega
  case ml => have := unhide HW; unfold maxLen; omega
  case base => simp; omega
  case mk =>
    intro w4 hown hgrow
    have hs4 := hgrow.size
    rw [World.size_alloc] at hs4
    have old : ∀ k, k < w3.heap.size → w4.heap[k]? = w3.heap[k]? := fun k hk => (hgrow.block k (by simp; omega) (by simp)).trans (Below.heap_alloc _ _ _ hk)
    have P4 := (old _ hwl).trans (unhide HP)
    have L4 := (old _ (lt_of_heap (unhide HL3))).trans (unhide HL3)
    have G4 := hide ((old _ (lt_of_heap (unhide HG))).trans (unhide HG))
    have T4 : w4.heap[w3.heap.size]? = some (.cells (leA (noneL 16)) 85 (0, 0)) := (hgrow.block _ (by simp) (by simp)).trans (heap_alloc_new w3 _)
    have B4 : Hid (Below w.heap.size w w4) := ((unhide HBB).alloc (by omega) _).grown hgrow (by simp; omega) (fun k h => by cases h)
    have k0 := cell_of P4 0
    have k1 := cell_of P4 1
    have k2 := cell_of P4 2
    have k3 := cell_of P4 3
    have k4 := cell_of P4 4
    have k5 := cell_of P4 5
    have q0 := cell_of L4 0
    simp at k0 k1 k2 k3 k4 k5 q0
    have hld := ldT_is T4 z16
    have hbd := bdG_is C (.slice (some ⟨g, 0, none⟩) 1 1) (some ⟨w3.heap.size + 1, 0, none⟩) wn wn wn (memN wn) w4
    unfold Cfg.arr at hbd
    have HO := hide hown
    have hwne := (hown.lt _ rfl).2
    clear hown hgrow old P4 L4 T4 c0
    go_wp2
    go_ret2
    have hO := unhide HO
    refine ⟨w4.heap.size, g, w3.heap.size + 1, wn, rfl, by omega, by omega, by omega, by omega, by omega, by omega, (unhide HW).symm, heap_alloc_new w4 _, ?_, ?_, (unhide B4).alloc (by omega) _⟩
    · rw [Below.heap_alloc _ _ _ (by omega)]; exact unhide G4
    · have := hO.alloc (.cells (grpArr C (.slice (some ⟨g, 0, none⟩) 1 1) (rest0 (.slice (some ⟨w3.heap.size + 1, 0, none⟩) wn wn) wn (memN wn))) 94)
      simpa [memN] using this

end Go.Proofs.Ytpnkmnmchdabkaa
