import Derived.Test.YtpnkmnmchdabkaaGreatM00
import Derived.Deep.DeepMust
import Derived.Deep.MidRow
import Derived.Deep.WholeRow
import Derived.Laws.ResultCell
import Derived.Deep.DrawnRows
import Derived.Test.YtpnkmnmchdabkaaGreatMake
namespace Go.Proofs.YtpnkmnmchdabkaaGreat
open Go.RowKit
attribute [local go_sem ↓] Go.wp_at_zero Go.wp_at_succ

theorem leCells_len (l : List Le) : (leCells l).length = l.length * 3 := by
  induction l with
  | nil => rfl
  | cons s r ih => simp only [leCells, List.length_cons, ih]; omega
theorem leCells_get (l : List Le) (i : Nat) (x : Le) (h : l[i]? = some x) : (leCells l)[i * 3]? = some (.int .i64 x.o) ∧ (leCells l)[i * 3 + 1]? = some (.int .i64 x.c) ∧ (leCells l)[i * 3 + 2]? = some (.int .i64 x.e) := by
  induction l generalizing i with
  | nil => simp at h
  | cons y r ih =>
    cases i with
    | zero => simp at h; subst h; exact ⟨rfl, rfl, rfl⟩
    | succ i =>
      simp at h
      obtain ⟨a, b, c⟩ := ih i h
      rw [show (i + 1) * 3 = i * 3 + 3 by omega]
      exact ⟨a, b, c⟩
theorem leCells_set0 (l : List Le) (i : Nat) (x : Le) (h : l[i]? = some x) (v : Int) : (leCells l).set (i * 3) (.int .i64 v) = leCells (l.set i { x with o := v }) := by
  induction l generalizing i with
  | nil => simp at h
  | cons y r ih =>
    cases i with
    | zero => simp at h; subst h; rfl
    | succ i =>
      simp at h
      rw [show (i + 1) * 3 = i * 3 + 3 by omega]
      simp only [leCells, List.set_cons_succ, ih i h]
theorem leCells_set1 (l : List Le) (i : Nat) (x : Le) (h : l[i]? = some x) (v : Int) : (leCells l).set (i * 3 + 1) (.int .i64 v) = leCells (l.set i { x with c := v }) := by
  induction l generalizing i with
  | nil => simp at h
  | cons y r ih =>
    cases i with
    | zero => simp at h; subst h; rfl
    | succ i =>
      simp at h
      rw [show (i + 1) * 3 + 1 = (i * 3 + 1) + 3 by omega]
      simp only [leCells, List.set_cons_succ, ih i h]
theorem leCells_set2 (l : List Le) (i : Nat) (x : Le) (h : l[i]? = some x) (v : Int) : (leCells l).set (i * 3 + 2) (.int .i64 v) = leCells (l.set i { x with e := v }) := by
  induction l generalizing i with
  | nil => simp at h
  | cons y r ih =>
    cases i with
    | zero => simp at h; subst h; rfl
    | succ i =>
      simp at h
      rw [show (i + 1) * 3 + 2 = (i * 3 + 2) + 3 by omega]
      simp only [leCells, List.set_cons_succ, ih i h]

/-- The leases at first; in the making. -/
def noneL (k : Nat) : List Le := List.replicate k ⟨-1, 0, 0⟩ ++ List.replicate (16 - k) ⟨0, 0, 0⟩
theorem noneL_set {k : Nat} (hk : k < 16) : (noneL k).set k ⟨-1, 0, 0⟩ = noneL (k + 1) := by
  unfold noneL
  rw [List.set_append_right _ _ (by simp), List.length_replicate, Nat.sub_self, show 16 - k = (16 - (k + 1)) + 1 by omega, List.replicate_succ, List.set_cons_zero, List.replicate_succ', List.append_assoc]
  rfl
theorem noneL_get {k : Nat} (hk : k < 16) : (noneL k)[k]? = some ⟨0, 0, 0⟩ := by
  unfold noneL
  rw [List.getElem?_append_right (by simp), List.length_replicate, Nat.sub_self, show 16 - k = (16 - (k + 1)) + 1 by omega, List.replicate_succ]
  rfl

/-- A table of leases, as a row of cells. -/
def leA (L : List Le) : Array Value := (leCells L).toArray
theorem leA_size {L : List Le} (h : L.length = 16) : (leA L).size = 48 := by unfold leA; simp [leCells_len, h]
theorem leCells_one (L : List Le) : ∀ v ∈ leCells L, v.oneCell' = true := by
  induction L with
  | nil => intro v hv; cases hv
  | cons x r ih =>
    intro v hv
    simp only [leCells, List.mem_cons] at hv
    rcases hv with rfl | rfl | rfl | hv
    · rfl
    · rfl
    · rfl
    · exact ih v hv
theorem noneL_len {k : Nat} (hk : k ≤ 16) : (noneL k).length = 16 := by unfold noneL; simp; omega

theorem infoTab : (Tryz.prog.info? 62).map (fun i => (i.zero, i.size)) = some (some (.agg (leA (noneL 0))), 48) := by kernel_rfl
theorem infoTabSize : (Tryz.prog.info? 62).map (·.size) = some 48 := by kernel_rfl
theorem zvTab (w : World) : (zeroValue 62).run Tryz.prog w = .ok (.agg (leA (noneL 0))) w := (zero_of_info infoTab).1 w
theorem ldTab {w : World} {b : Nat} {L : List Le} {t : TypeId} {f : Nat × Nat} (h : w.heap[b]? = some (.cells (leA L) t f)) (hL : L.length = 16) : (loadVar 62 ⟨b, 0, none⟩).run Tryz.prog w = .ok (.agg (leA L)) w :=
  run_loadVar_row w b t _ (leA L) f _ h Tryz.underlying62 rfl (by rw [leA_size hL]; exact infoTabSize)
theorem stTab {w : World} {b : Nat} {K L : List Le} {t : TypeId} (h : w.heap[b]? = some (.cells (leA K) t (0, 0))) (hK : K.length = 16) (hL : L.length = 16) : (storeVar 62 ⟨b, 0, none⟩ (.agg (leA L))).run Tryz.prog w = .ok () (w.setRow b (leA L)) :=
  run_storeVar_row w b t _ (leA K) (leA L) h (by rw [leA_size hL]; exact infoTabSize) (by rw [leA_size hK, leA_size hL]) (all_oneCell_toArray (leCells_one L))

theorem setRow_same {w : World} {b : Nat} {cs cs' : Array Value} {t : TypeId} {f : Nat × Nat} (h : w.heap[b]? = some (.cells cs t f)) : (w.setRow b cs').heap[b]? = some (.cells cs' t f) := by
  simp only [World.setRow, Array.getElem?_modify, if_true, h]
  rfl
theorem setRow_other {w : World} {b k : Nat} {cs' : Array Value} (hk : k ≠ b) : (w.setRow b cs').heap[k]? = w.heap[k]? := by
  simp only [World.setRow, Array.getElem?_modify]
  rw [if_neg (fun e => hk e.symm)]
theorem setRow_below {B : Nat} {a w : World} {b : Nat} (h : Below B a w) (hb : B ≤ b) (cs : Array Value) : Below B a (w.setRow b cs) :=
  h.trans ⟨rfl, rfl, rfl, by simp [World.setRow], fun k hk => setRow_other (by omega)⟩

/-- The load and the store of a whole table, kept shut for the walk. -/
def ldT (a : Addr) : Sem Value := loadVar 62 a
def stT (a : Addr) (v : Value) : Sem Unit := storeVar 62 a v
theorem ldT_shut (a : Addr) : loadVar 62 a = ldT a := rfl
theorem stT_shut (a : Addr) (v : Value) : storeVar 62 a v = stT a v := rfl
theorem ldT_is {w : World} {b : Nat} {L : List Le} {t : TypeId} {f : Nat × Nat} (h : w.heap[b]? = some (.cells (leA L) t f)) (hL : L.length = 16) : (ldT ⟨b, 0, none⟩).run Tryz.prog w = .ok (.agg (leA L)) w := ldTab h hL
theorem stT_is {w : World} {b : Nat} {K L : List Le} {t : TypeId} (h : w.heap[b]? = some (.cells (leA K) t (0, 0))) (hK : K.length = 16) (hL : L.length = 16) : (stT ⟨b, 0, none⟩ (.agg (leA L))).run Tryz.prog w = .ok () (w.setRow b (leA L)) := stTab h hK hL
theorem stT_new (w : World) (n : Nat) (K L : List Le) (hn : n = w.heap.size) (hK : K.length = 16) (hL : L.length = 16) : (stT ⟨n, 0, none⟩ (.agg (leA L))).run Tryz.prog (w.alloc (.cells (leA K) 62)) = .ok () (w.alloc (.cells (leA L) 62)) := by
  subst hn
  rw [stT_is (heap_alloc_new w _) hK hL, World.setRow_alloc_new]

attribute [local go_sem ↓] zvTab ldT_shut stT_shut
attribute [local go_sem] stT_new

set_option maxRecDepth 100000 in
set_option maxHeartbeats 4000000 in
theorem leasesNew_any (w : World) :
    Calls Tryz.prog 17 #[] w fun e w' => e = .returned (.agg (leA (noneL 16))) ∧ Below w.heap.size w w' := by
  have z0 := noneL_len (k := 0) (by omega)
  have s0 := leA_size z0
  go_enter Tryz.func17, Tryz.ntmps17
  go_wp2
  have h0 : Hid (((w.alloc (.cells (leA (noneL 0)) 62)).alloc (.cells (leA (noneL 0)) 62)).heap[w.heap.size]? = some (.cells (leA (noneL 0)) 62 (0, 0))) := by
    unfold Hid
    rw [Below.heap_alloc _ _ _ (by simp)]; exact heap_alloc_new w _
  have h1 : Hid (((w.alloc (.cells (leA (noneL 0)) 62)).alloc (.cells (leA (noneL 0)) 62)).heap[w.heap.size + 1]? = some (.cells (leA (noneL 0)) 62 (0, 0))) := by
    unfold Hid
    have := heap_alloc_new (w.alloc (.cells (leA (noneL 0)) 62)) (.cells (leA (noneL 0)) 62)
    simpa using this
  have hb : Hid (Below w.heap.size w ((w.alloc (.cells (leA (noneL 0)) 62)).alloc (.cells (leA (noneL 0)) 62))) := ((Below.refl _ w).alloc (Nat.le_refl _) _).alloc (by simp) _
  generalize (w.alloc (.cells (leA (noneL 0)) 62)).alloc (.cells (leA (noneL 0)) 62) = W at *
  go_loopw [2] (fun i wr => ∃ k : Nat, k ≤ 16 ∧ i = .int .i64 k ∧ wr.heap[w.heap.size]? = some (.cells (leA (noneL 0)) 62 (0, 0)) ∧ wr.heap[w.heap.size + 1]? = some (.cells (leA (noneL k)) 62 (0, 0)) ∧ Below w.heap.size w wr) (fun i _ => 16 - (intOf i).toNat)
  case atStart => exact ⟨0, by omega, rfl, unhide h0, unhide h1, unhide hb⟩
  case round =>
    obtain ⟨k, hk, rfl, q0, q1, qb⟩ := hrel
    by_cases hlt : k < 16
    · have fz := frozen_of q1 (k * 3)
      have cz : wr.cell? ⟨w.heap.size + 1, k * 3, none⟩ = some (.int .i64 0) := (cell_of q1 (k * 3)).trans (by have := (leCells_get _ k _ (noneL_get hlt)).1; simpa [leA] using this)
      have Q0 := hide q0
      have Q1 := hide q1
      have QB := hide qb
      clear q0 q1 qb
      go_wp2
      go_roundw
      case rel =>
        refine ⟨k + 1, by omega, by go_num, ?_, ?_, (unhide QB).setCell (p := ⟨w.heap.size + 1, k * 3, none⟩) (by simp) _⟩
        · rw [Below.heap_setCell _ _ _ _ (by simp)]; exact unhide Q0
        · rw [heap_setCell_same (unhide Q1)]
          unfold leA
          rw [List.setIfInBounds_toArray, leCells_set0 _ k _ (noneL_get hlt), noneL_set hlt]
      case measure => simp [intOf]; omega
    · have e : k = 16 := by omega
      subst e
      have z16 := noneL_len (k := 16) (by omega)
      have HL := ldT_is q1 z16
      have HS := stT_is q0 z0 z16
      have hs16 := leA_size z16
      have H2 := hide (setRow_same (cs' := leA (noneL 16)) q0)
      have QB := hide (setRow_below qb (Nat.le_refl _) (leA (noneL 16)))
      clear q0 q1 qb
      go_wp2
      refine bodyPost_ret (v := .agg (leA (noneL 16))) ?_ rfl ⟨rfl, unhide QB⟩
      exact results_cell_row rfl _ _ w.heap.size _ _ _ _ rfl (unhide H2) Tryz.underlying62 rfl (by rw [leA_size z16]; exact infoTabSize)
end Go.Proofs.YtpnkmnmchdabkaaGreat
namespace Go.Proofs.YtpnkmnmchdabkaaGreat
open Go.RowKit
attribute [local go_sem ↓] Go.wp_at_zero Go.wp_at_succ

/-- A worker's memory with nothing in it; and those of n workers. -/
def memZ : List Value := (List.replicate 16 [.bool false, .int .i64 0, .int .i64 0, .int .i64 0, .int .i64 0, .bool false, .int .i64 0, .int .i64 0]).flatten
def memN (n : Nat) : List Value := (madeCells memZ.toArray (n * 128)).toList
/-- A group's rest at first. -/
def rest0 (wv : Value) (n : Nat) (mem : List Value) : Rest := ⟨0, List.replicate 32 0, noneL 16, wv, n, mem⟩

/-- The building of a group, kept shut for the walk. -/
def bdG (parts : Array (Nat × Value)) : Sem Value := Instr.build 71 parts
theorem bdG_shut (parts : Array (Nat × Value)) : Instr.build 71 parts = bdG parts := rfl
theorem bdG_is (C : Cfg) (sv : Value) (wa : Option Addr) (k c n : Nat) (mem : List Value) (w : World) :
    (bdG #[(0, .agg C.arr), (2, .agg #[sv]), (4, .agg (leA (noneL 16))), (5, .slice wa k c)]).run Tryz.prog w = .ok (.agg (grpArr C sv (rest0 (.slice wa k c) n mem))) w := by
  obtain ⟨a, l, b, c, s, t⟩ := C
  kernel_rfl

theorem infoMem : (Tryz.prog.info? 162).map (fun i => (i.zero, i.size, i.bytes)) = some (some (.agg (memZ).toArray), 128, 1024) := by kernel_rfl

set_option maxRecDepth 100000 in
set_option maxHeartbeats 1000000 in
theorem shardsNew_any (w : World) :
    Calls Tryz.prog 16 #[] w fun e w' => ∃ g, e = .returned (.agg #[.slice (some ⟨g, 0, none⟩) 1 1]) ∧ w.heap.size ≤ g ∧ w'.heap[g]? = some (.cells #[.int .i64 0, .int .i64 256, .bool true, .slice none 0 0, .slice none 0 0] 113 (0, 0)) ∧ Below w.heap.size w w' := by
  go_enter Tryz.func16, Tryz.ntmps16
  go_wp2
  refine bodyPost_ret (v := .agg #[.slice (some ⟨w.heap.size + 1, 0, none⟩) 1 1]) (by simp [results, Tryz.results16, go_sem]) rfl ⟨w.heap.size + 1, rfl, by omega, ?_, ?_⟩
  · have := heap_alloc_new (w.alloc (.cells #[.slice (some ⟨w.heap.size + 1, 0, none⟩) 1 1] 56)) (.cells #[.int .i64 0, .int .i64 256, .bool true, .slice none 0 0, .slice none 0 0] 113)
    rw [show (w.alloc (.cells #[.slice (some ⟨w.heap.size + 1, 0, none⟩) 1 1] 56)).heap.size = w.heap.size + 1 by simp] at this
    exact this
  · exact ((Below.refl _ w).alloc (Nat.le_refl _) _).alloc (by simp) _

set_option maxRecDepth 100000 in
set_option maxHeartbeats 1000000 in
theorem new_bad (C : Cfg) (w : World) (hv : validB C.a C.l C.b C.n C.s C.t = false) :
    Calls Tryz.prog 8 #[.agg C.arr] w fun e w' => e = .returned (.tuple #[.pointer none, .int .i64 1]) ∧ Below w.heap.size w w' := by
  unfold Cfg.arr
  have HV := fun w => hide (valid_any C.a C.l C.b C.n C.s C.t w)
  rw [hv] at HV
  go_enter Tryz.func8, Tryz.ntmps8
  go_wp2_with (go_at_call 15; refine (unhide (HV _)).mono ?_; rintro e w1 ⟨rfl, hb⟩)
  go_ret2
  exact ⟨rfl, ((Below.refl _ w).alloc (Nat.le_refl _) _).trans (hb.mono (by simp))⟩

/-- A group of one shard. -/
def first : Sh := ⟨0, 256, true, [], 0⟩

attribute [local go_sem ↓] zvTab ldT_shut stT_shut bdG_shut
attribute [local go_sem] stT_new

/-- What New leaves. -/
def NewGood (C : Cfg) (w : World) (e : Ending) (w' : World) : Prop := ∃ gb g wb kn : Nat, e = .returned (.tuple #[.pointer (some ⟨gb, 0, none⟩), .int .i64 0]) ∧ w.heap.size ≤ gb ∧ w.heap.size ≤ g ∧ w.heap.size ≤ wb ∧ g ≠ gb ∧ wb ≠ gb ∧ wb ≠ g ∧ (kn : Int) = C.a ∧
      w'.heap[gb]? = some (.cells (grpArr C (.slice (some ⟨g, 0, none⟩) 1 1) (rest0 (.slice (some ⟨wb, 0, none⟩) kn kn) kn (memN kn))) 71 (0, 0)) ∧ w'.heap[g]? = some (.cells #[.int .i64 0, .int .i64 256, .bool true, .slice none 0 0, .slice none 0 0] 113 (0, 0)) ∧
      w'.ownsRow w.heap.size 162 128 (.slice (some ⟨wb, 0, none⟩) kn kn) kn (memN kn) ∧ Below w.heap.size w w'

set_option maxRecDepth 100000 in
set_option maxHeartbeats 4000000 in
theorem new_good (C : Cfg) (w : World) (hv : validB C.a C.l C.b C.n C.s C.t = true) :
    Calls Tryz.prog 8 #[.agg C.arr] w (NewGood C w) := by
  obtain ⟨hw1, hw2⟩ := ((validB_iff _ _ _ _ _ _).1 hv).1
  obtain ⟨wn, hwn⟩ : ∃ wn : Nat, C.a = wn := ⟨C.a.toNat, by omega⟩
  have HW := hide hwn
  clear hwn
  have HV := fun w => hide (valid_any C.a C.l C.b C.n C.s C.t w)
  rw [hv] at HV
  have HN := fun w => hide (shardsNew_any w)
  have HL := fun w => hide (leasesNew_any w)
  have z16 := noneL_len (k := 16) (by omega)
  have z0 := noneL_len (k := 0) (by omega)
  unfold Cfg.arr
  clear hv
  go_enter Tryz.func8, Tryz.ntmps8
  go_wp2_with (go_at_call 15; refine (unhide (HV _)).mono ?_; rintro e w1 ⟨rfl, hb⟩)
  obtain ⟨h1, hB1, hsz⟩ := below_new hb
  clear hb
  have H1 := hide h1
  have HB1 := hide hB1
  clear h1 hB1
  go_wp2_with (go_at_call 16; refine (unhide (HN _)).mono ?_; rintro e w2 ⟨g, rfl, hg, hgb, hb2⟩)
  refine (unhide (HL _)).mono ?_
  rintro e w3 ⟨rfl, hb3⟩
  have hs2 := hb2.size
  have hs3 := hb3.size
  rw [World.size_alloc] at hs3
  have hgl := lt_of_heap hgb
  have P3 : w3.heap[w.heap.size]? = some (.cells #[.int .i64 C.a, .int .i64 C.l, .int .i64 C.b, .int .i64 C.n, .int .i64 C.s, .int .i64 C.t] 23 (0, 0)) := by
    have := lt_of_heap (unhide H1)
    rw [hb3.block _ (by simp; omega), Below.heap_alloc _ _ _ (by omega), hb2.block _ (by omega)]
    exact unhide H1
  have L3 : w3.heap[w2.heap.size]? = some (.cells #[.slice (some ⟨g, 0, none⟩) 1 1] 56 (0, 0)) := by
    rw [hb3.block _ (by simp)]; exact heap_alloc_new w2 _
  have G3 : w3.heap[g]? = some (.cells #[.int .i64 0, .int .i64 256, .bool true, .slice none 0 0, .slice none 0 0] 113 (0, 0)) := by
    rw [hb3.block _ (by simp; omega), Below.heap_alloc _ _ _ hgl]; exact hgb
  have hwl := lt_of_heap P3
  have BB : Below w.heap.size w w3 := (unhide HB1).trans ((hb2.mono (by omega)).trans (((Below.refl _ w2).alloc (by omega) _).trans (hb3.mono (by simp; omega))))
  clear hb2 hb3 hgb H1 HB1
  have c0 : (w3.alloc (.cells (leA (noneL 16)) 62)).cell? ⟨w.heap.size, 0, none⟩ = some (.int .i64 C.a) := (World.cell?_of_block (w := w3) (Below.heap_alloc _ _ _ hwl)).trans (cell_of P3 0)
  obtain ⟨i0, hi0, hz0, hz1, hz2⟩ := info_parts infoMem
  have HG := hide G3
  have HP := hide P3
  have HL3 := hide L3
  have HBB := hide BB
  clear G3 P3 L3 BB
  go_wp2_with (at_make; go_must (refine wpList_make_full _ rfl _ _ 64 rfl w.heap.size 162 i0 _ 128 Tryz.underlying64 hi0 hz0 hz1 _ _ _ _ wn rfl rfl (unhide HW) (unhide HW) ?bytes ?ml ?base ?mk))
  case bytes => rw [hz2]; have := unhide HW; omega
  case ml => have := unhide HW; unfold maxLen; omega
  case base => simp; omega
  case mk =>
    intro w4 hown hgrow
    have hs4 := hgrow.size
    rw [World.size_alloc] at hs4
    have old : ∀ k, k < w3.heap.size → w4.heap[k]? = w3.heap[k]? := fun k hk => (hgrow.block k (by simp; omega) (by simp)).trans (Below.heap_alloc _ _ _ hk)
    have P4 := (old _ hwl).trans (unhide HP)
    have L4 := (old _ (lt_of_heap (unhide HL3))).trans (unhide HL3)
    have G4 := hide ((old _ (lt_of_heap (unhide HG))).trans (unhide HG))
    have T4 : w4.heap[w3.heap.size]? = some (.cells (leA (noneL 16)) 62 (0, 0)) := (hgrow.block _ (by simp) (by simp)).trans (heap_alloc_new w3 _)
    have B4 : Hid (Below w.heap.size w w4) := ((unhide HBB).alloc (by omega) _).grown hgrow (by simp; omega) (fun k h => by cases h)
    have k0 := cell_of P4 0
    have k1 := cell_of P4 1
    have k2 := cell_of P4 2
    have k3 := cell_of P4 3
    have k4 := cell_of P4 4
    have k5 := cell_of P4 5
    have q0 := cell_of L4 0
    simp at k0 k1 k2 k3 k4 k5 q0
    have hld := ldT_is T4 z16
    have hbd := bdG_is C (.slice (some ⟨g, 0, none⟩) 1 1) (some ⟨w3.heap.size + 1, 0, none⟩) wn wn wn (memN wn) w4
    unfold Cfg.arr at hbd
    have HO := hide hown
    have hwne := (hown.lt _ rfl).2
    clear hown hgrow old P4 L4 T4 c0
    go_wp2
    go_ret2
    have hO := unhide HO
    refine ⟨w4.heap.size, g, w3.heap.size + 1, wn, rfl, by omega, by omega, by omega, by omega, by omega, by omega, (unhide HW).symm, heap_alloc_new w4 _, ?_, ?_, (unhide B4).alloc (by omega) _⟩
    · rw [Below.heap_alloc _ _ _ (by omega)]; exact unhide G4
    · have := hO.alloc (.cells (grpArr C (.slice (some ⟨g, 0, none⟩) 1 1) (rest0 (.slice (some ⟨w3.heap.size + 1, 0, none⟩) wn wn) wn (memN wn))) 71)
      simpa [memN] using this

end Go.Proofs.YtpnkmnmchdabkaaGreat
namespace Go.Proofs.YtpnkmnmchdabkaaGreat
open Go.RowKit
attribute [local go_sem ↓] Go.wp_at_zero Go.wp_at_succ

/-- One more, as a machine counts. -/
def inc (x : Int) : Int := IntKind.i64.wrap (x + 1)
theorem inc_is {x : Int} (h : 0 ≤ x ∧ x ≤ 1000000000000) : inc x = x + 1 := by unfold inc; rw [IntKind.wrap_i64]; omega
/-- So much later, as a machine counts. -/
def dif (s p : Int) : Int := IntKind.i64.wrap (s - p)
theorem dif_is {s p : Int} (h : 0 ≤ s ∧ s ≤ 1000000000000) (h' : 0 ≤ p ∧ p ≤ 1000000000000) : dif s p = s - p := by unfold dif; rw [IntKind.wrap_i64]; omega

set_option maxHeartbeats 400000 in
theorem leHas_any (b o : Nat) (n : Int) (w : World) :
    Calls Tryz.prog 122 #[.pointer (some ⟨b, o, none⟩), .int .i64 n] w fun e w' => e = .returned (.bool (decide (0 ≤ n ∧ n < 16))) ∧ w = w' := by
  by_cases h1 : 0 ≤ n
  · by_cases h2 : n < 16
    all_goals
      go_enter Tryz.func122, Tryz.ntmps122
      go_wp2
      go_ret
      exact ⟨by simp [h1, h2], rfl⟩
  · go_enter Tryz.func122, Tryz.ntmps122
    go_wp2
    go_ret
    exact ⟨by simp; omega, rfl⟩

theorem has16 {n : Nat} (h : n < 16) : decide (0 ≤ (n : Int) ∧ (n : Int) < 16) = true := by simp; omega

set_option maxRecDepth 100000 in
set_option maxHeartbeats 1000000 in
theorem leOf_any (b o n : Nat) (hn : n < 16) (x : Le) (w : World) (hb : b < w.heap.size) (c0 : w.cell? ⟨b, o + n * 3, none⟩ = some (.int .i64 x.o)) (c1 : w.cell? ⟨b, o + n * 3 + 1, none⟩ = some (.int .i64 x.c)) (c2 : w.cell? ⟨b, o + n * 3 + 2, none⟩ = some (.int .i64 x.e)) :
    Calls Tryz.prog 97 #[.pointer (some ⟨b, o, none⟩), .int .i64 n] w fun e w' => e = .returned (.agg #[.int .i64 x.o, .int .i64 x.c, .int .i64 x.e]) ∧ Below w.heap.size w w' := by
  have HH := fun w => hide (leHas_any b o n w)
  rw [has16 hn] at HH
  go_enter Tryz.func97, Tryz.ntmps97
  go_wp2_with (go_at_call 122; refine (unhide (HH _)).mono ?_; rintro e w1 ⟨rfl, rfl⟩)
  refine bodyPost_ret (v := .agg #[.int .i64 x.o, .int .i64 x.c, .int .i64 x.e]) ?_ rfl ⟨rfl, (Below.refl _ w).alloc (Nat.le_refl _) _⟩
  simp [results, Tryz.results97, go_sem]

set_option maxRecDepth 100000 in
set_option maxHeartbeats 1000000 in
theorem leGive_any (b o n : Nat) (hn : n < 16) (x : Le) (wk : Int) (w : World) (c0 : w.cell? ⟨b, o + n * 3, none⟩ = some (.int .i64 x.o)) (c1 : w.cell? ⟨b, o + n * 3 + 1, none⟩ = some (.int .i64 x.c)) (c2 : w.cell? ⟨b, o + n * 3 + 2, none⟩ = some (.int .i64 x.e)) (f : ∀ q, w.frozen? ⟨b, q, none⟩ = false) :
    Calls Tryz.prog 121 #[.pointer (some ⟨b, o, none⟩), .int .i64 n, .int .i64 wk] w fun e w' => e = .returned (.int .i64 (inc x.e)) ∧ Below w.heap.size (((w.setCell ⟨b, o + n * 3, none⟩ (.int .i64 wk)).setCell ⟨b, o + n * 3 + 1, none⟩ (.int .i64 (inc x.c))).setCell ⟨b, o + n * 3 + 2, none⟩ (.int .i64 (inc x.e))) w' := by
  have we : IntKind.i64.wrap (x.e + 1) = inc x.e := rfl
  have wc : IntKind.i64.wrap (x.c + 1) = inc x.c := rfl
  have f0 : w.frozen? ⟨b, o + n * 3, none⟩ = false := f _
  have f1 : w.frozen? ⟨b, o + n * 3 + 1, none⟩ = false := f _
  have f2 : w.frozen? ⟨b, o + n * 3 + 2, none⟩ = false := f _
  have HH := fun w => hide (leHas_any b o n w)
  rw [has16 hn] at HH
  go_enter Tryz.func121, Tryz.ntmps121
  go_wp2_with (go_at_call 122; refine (unhide (HH _)).mono ?_; rintro e w1 ⟨rfl, rfl⟩)
  go_region
  go_wp2
  go_region
  go_wp2
  go_ret
  exact ⟨rfl, (Below.refl _ _).drew.drew⟩

set_option maxRecDepth 100000 in
set_option maxHeartbeats 1000000 in
theorem leRenew_any (b o n : Nat) (hn : n < 16) (x : Le) (w : World) (c1 : w.cell? ⟨b, o + n * 3 + 1, none⟩ = some (.int .i64 x.c)) (f : ∀ q, w.frozen? ⟨b, q, none⟩ = false) :
    Calls Tryz.prog 118 #[.pointer (some ⟨b, o, none⟩), .int .i64 n] w fun e w' => e = .returned (.tuple #[]) ∧ Below w.heap.size (w.setCell ⟨b, o + n * 3 + 1, none⟩ (.int .i64 (inc x.c))) w' := by
  have wc : IntKind.i64.wrap (x.c + 1) = inc x.c := rfl
  have f0 : w.frozen? ⟨b, o + n * 3, none⟩ = false := f _
  have f1 : w.frozen? ⟨b, o + n * 3 + 1, none⟩ = false := f _
  have f2 : w.frozen? ⟨b, o + n * 3 + 2, none⟩ = false := f _
  have HH := fun w => hide (leHas_any b o n w)
  rw [has16 hn] at HH
  go_enter Tryz.func118, Tryz.ntmps118
  go_wp2_with (go_at_call 122; refine (unhide (HH _)).mono ?_; rintro e w1 ⟨rfl, rfl⟩)
  go_region
  all_goals (try go_wp2)
  go_end0
  exact ⟨rfl, (Below.refl _ _).drew⟩

set_option maxRecDepth 100000 in
set_option maxHeartbeats 1000000 in
theorem leFree_any (b o n : Nat) (hn : n < 16) (x : Le) (w : World) (c0 : w.cell? ⟨b, o + n * 3, none⟩ = some (.int .i64 x.o)) (c1 : w.cell? ⟨b, o + n * 3 + 1, none⟩ = some (.int .i64 x.c)) (f : ∀ q, w.frozen? ⟨b, q, none⟩ = false) :
    Calls Tryz.prog 117 #[.pointer (some ⟨b, o, none⟩), .int .i64 n] w fun e w' => e = .returned (.tuple #[]) ∧ Below w.heap.size ((w.setCell ⟨b, o + n * 3, none⟩ (.int .i64 (-1))).setCell ⟨b, o + n * 3 + 1, none⟩ (.int .i64 (inc x.c))) w' := by
  have wc : IntKind.i64.wrap (x.c + 1) = inc x.c := rfl
  have f0 : w.frozen? ⟨b, o + n * 3, none⟩ = false := f _
  have f1 : w.frozen? ⟨b, o + n * 3 + 1, none⟩ = false := f _
  have f2 : w.frozen? ⟨b, o + n * 3 + 2, none⟩ = false := f _
  have HH := fun w => hide (leHas_any b o n w)
  rw [has16 hn] at HH
  go_enter Tryz.func117, Tryz.ntmps117
  go_wp2_with (go_at_call 122; refine (unhide (HH _)).mono ?_; rintro e w1 ⟨rfl, rfl⟩)
  go_region
  all_goals (try go_wp2)
  go_end0
  exact ⟨rfl, (Below.refl _ _).drew⟩

end Go.Proofs.YtpnkmnmchdabkaaGreat
namespace Go.Proofs.YtpnkmnmchdabkaaGreat
open Go.RowKit

/-- A hold. -/
structure Hd where
  sh : Int
  ep : Int
  at_ : Int
  bf : Int
def hdCells (x : Hd) : List Value := [.int .i64 x.sh, .int .i64 x.ep, .int .i64 x.at_, .int .i64 x.bf]
def rowHd : List Hd → List Value
  | [] => []
  | s :: r => hdCells s ++ rowHd r
theorem rowHd_get (l : List Hd) (i j : Nat) (hj : j < 4) (s : Hd) (h : l[i]? = some s) : (rowHd l)[i * 4 + j]? = (hdCells s)[j]? := by
  induction l generalizing i with
  | nil => simp at h
  | cons x r ih =>
    cases i with
    | zero =>
      simp at h; subst h
      simp only [rowHd, Nat.zero_mul, Nat.zero_add]
      rw [List.getElem?_append_left (by simpa [hdCells] using hj)]
    | succ i =>
      simp at h
      simp only [rowHd]
      rw [List.getElem?_append_right (by simp only [hdCells, List.length_cons, List.length_nil]; omega), ← ih i h]
      congr 1
      simp only [hdCells, List.length_cons, List.length_nil]; omega
theorem rowHd_append (l k : List Hd) : rowHd (l ++ k) = rowHd l ++ rowHd k := by
  induction l with
  | nil => rfl
  | cons s r ih => simp [rowHd, ih]
theorem infoHold : (Tryz.prog.info? 102).map (fun i => (i.zero, i.size, i.bytes)) = some (some (.agg #[.int .i64 0, .int .i64 0, .int .i64 0, .int .i64 0]), 4, 32) := by kernel_rfl
end Go.Proofs.YtpnkmnmchdabkaaGreat
namespace Go.Proofs.YtpnkmnmchdabkaaGreat
open Go.RowKit
attribute [local go_sem ↓] Go.wp_at_zero Go.wp_at_succ

/-- What a worker's memory has of one shard. -/
structure Pl where
  held : Bool
  h : Hd
  made : Bool
  c : Int
  s : Int
def plCells (p : Pl) : List Value := [.bool p.held, .int .i64 p.h.sh, .int .i64 p.h.ep, .int .i64 p.h.at_, .int .i64 p.h.bf, .bool p.made, .int .i64 p.c, .int .i64 p.s]
/-- It lies there. -/
structure PlAt (w : World) (b o : Nat) (p : Pl) : Prop where
  lt : b < w.heap.size
  a0 : w.cell? ⟨b, o, none⟩ = some (.bool p.held)
  a1 : w.cell? ⟨b, o + 1, none⟩ = some (.int .i64 p.h.sh)
  a2 : w.cell? ⟨b, o + 1 + 1, none⟩ = some (.int .i64 p.h.ep)
  a3 : w.cell? ⟨b, o + 1 + 2, none⟩ = some (.int .i64 p.h.at_)
  a4 : w.cell? ⟨b, o + 1 + 3, none⟩ = some (.int .i64 p.h.bf)
  a5 : w.cell? ⟨b, o + 5, none⟩ = some (.bool p.made)
  a6 : w.cell? ⟨b, o + 5 + 1, none⟩ = some (.int .i64 p.c)
  a7 : w.cell? ⟨b, o + 5 + 2, none⟩ = some (.int .i64 p.s)
  fr : ∀ q, w.frozen? ⟨b, q, none⟩ = false

set_option maxHeartbeats 400000 in
theorem memHas_any (n : Int) (w : World) :
    Calls Tryz.prog 78 #[.int .i64 n] w fun e w' => e = .returned (.bool (decide (0 ≤ n ∧ n < 16))) ∧ w = w' := by
  by_cases h1 : 0 ≤ n
  · by_cases h2 : n < 16
    all_goals
      go_enter Tryz.func78, Tryz.ntmps78
      go_wp2
      go_ret
      exact ⟨by simp [h1, h2], rfl⟩
  · go_enter Tryz.func78, Tryz.ntmps78
    go_wp2
    go_ret
    exact ⟨by simp; omega, rfl⟩

theorem hasM16 {n : Nat} (h : n < 16) : decide (0 ≤ (n : Int) ∧ (n : Int) < 16) = true := by simp; omega

set_option maxRecDepth 100000 in
set_option maxHeartbeats 1000000 in
theorem memHold_any (b o n : Nat) (hn : n < 16) (p : Pl) (w : World) (h : PlAt w b (o + n * 8) p) :
    Calls Tryz.prog 77 #[.pointer (some ⟨b, o, none⟩), .int .i64 n] w fun e w' => e = .returned (.tuple #[if p.held = true then .agg #[.int .i64 p.h.sh, .int .i64 p.h.ep, .int .i64 p.h.at_, .int .i64 p.h.bf] else .agg #[.int .i64 0, .int .i64 0, .int .i64 0, .int .i64 0], .bool p.held]) ∧ Below w.heap.size w w' := by
  obtain ⟨hl, a0, a1, a2, a3, a4, a5, a6, a7, fr⟩ := h
  clear a5 a6 a7 fr
  have HH := fun w => hide (memHas_any n w)
  rw [hasM16 hn] at HH
  cases hh : p.held
  · rw [hh] at a0
    go_enter Tryz.func77, Tryz.ntmps77
    go_wp2_with (go_at_call 78; refine (unhide (HH _)).mono ?_; rintro e w1 ⟨rfl, rfl⟩)
    refine bodyPost_ret (v := .tuple #[.agg #[.int .i64 0, .int .i64 0, .int .i64 0, .int .i64 0], .bool false]) ?_ rfl ⟨rfl, ?_⟩
    · simp [results, Tryz.results77, go_sem]
    · exact (Below.refl _ w).alloc (Nat.le_refl _) _
  · rw [hh] at a0
    go_enter Tryz.func77, Tryz.ntmps77
    go_wp2_with (go_at_call 78; refine (unhide (HH _)).mono ?_; rintro e w1 ⟨rfl, rfl⟩)
    refine bodyPost_ret (v := .tuple #[.agg #[.int .i64 p.h.sh, .int .i64 p.h.ep, .int .i64 p.h.at_, .int .i64 p.h.bf], .bool true]) ?_ rfl ⟨rfl, ?_⟩
    · simp [results, Tryz.results77, go_sem]
    · exact (Below.refl _ w).alloc (Nat.le_refl _) _

set_option maxRecDepth 100000 in
set_option maxHeartbeats 1000000 in
theorem memKeep_any (b o n : Nat) (hn : n < 16) (p : Pl) (ep at_ bf : Int) (w : World) (h : PlAt w b (o + n * 8) p) :
    Calls Tryz.prog 41 #[.pointer (some ⟨b, o, none⟩), .agg #[.int .i64 n, .int .i64 ep, .int .i64 at_, .int .i64 bf]] w fun e w' => e = .returned (.tuple #[]) ∧ Below w.heap.size (((((w.setCell ⟨b, o + n * 8, none⟩ (.bool true)).setCell ⟨b, o + n * 8 + 1, none⟩ (.int .i64 n)).setCell ⟨b, o + n * 8 + 1 + 1, none⟩ (.int .i64 ep)).setCell ⟨b, o + n * 8 + 1 + 2, none⟩ (.int .i64 at_)).setCell ⟨b, o + n * 8 + 1 + 3, none⟩ (.int .i64 bf)) w' := by
  obtain ⟨hl, a0, a1, a2, a3, a4, a5, a6, a7, fr⟩ := h
  have HH := fun w => hide (memHas_any n w)
  rw [hasM16 hn] at HH
  have f0 := fr (o + n * 8)
  have f1 := fr (o + n * 8 + 1)
  have f2 := fr (o + n * 8 + 1 + 1)
  have f3 := fr (o + n * 8 + 1 + 2)
  have f4 := fr (o + n * 8 + 1 + 3)
  have f5 := fr (o + n * 8 + 5)
  have f6 := fr (o + n * 8 + 5 + 1)
  have f7 := fr (o + n * 8 + 5 + 2)
  go_enter Tryz.func41, Tryz.ntmps41
  go_wp2_with (go_at_call 78; refine (unhide (HH _)).mono ?_; rintro e w1 ⟨rfl, rfl⟩)
  go_region
  go_wp2
  go_region
  go_wp2
  go_end0
  exact ⟨rfl, ((Below.refl _ _).alloc (by simp) _).drew.drew⟩

set_option maxRecDepth 100000 in
set_option maxHeartbeats 1000000 in
theorem memDrop_any (b o n : Nat) (hn : n < 16) (p : Pl) (w : World) (h : PlAt w b (o + n * 8) p) :
    Calls Tryz.prog 82 #[.pointer (some ⟨b, o, none⟩), .int .i64 n] w fun e w' => e = .returned (.tuple #[]) ∧ Below w.heap.size (((((w.setCell ⟨b, o + n * 8, none⟩ (.bool false)).setCell ⟨b, o + n * 8 + 1, none⟩ (.int .i64 0)).setCell ⟨b, o + n * 8 + 1 + 1, none⟩ (.int .i64 0)).setCell ⟨b, o + n * 8 + 1 + 2, none⟩ (.int .i64 0)).setCell ⟨b, o + n * 8 + 1 + 3, none⟩ (.int .i64 0)) w' := by
  obtain ⟨hl, a0, a1, a2, a3, a4, a5, a6, a7, fr⟩ := h
  have HH := fun w => hide (memHas_any n w)
  rw [hasM16 hn] at HH
  have f0 := fr (o + n * 8)
  have f1 := fr (o + n * 8 + 1)
  have f2 := fr (o + n * 8 + 1 + 1)
  have f3 := fr (o + n * 8 + 1 + 2)
  have f4 := fr (o + n * 8 + 1 + 3)
  have f5 := fr (o + n * 8 + 5)
  have f6 := fr (o + n * 8 + 5 + 1)
  have f7 := fr (o + n * 8 + 5 + 2)
  go_enter Tryz.func82, Tryz.ntmps82
  go_wp2_with (go_at_call 78; refine (unhide (HH _)).mono ?_; rintro e w1 ⟨rfl, rfl⟩)
  go_end0
  exact ⟨rfl, Below.refl _ _⟩

set_option maxRecDepth 100000 in
set_option maxHeartbeats 1000000 in
theorem memNote_new (b o n : Nat) (hn : n < 16) (p : Pl) (c s : Int) (w : World) (h : PlAt w b (o + n * 8) p) (hm : ¬ (p.made = true ∧ p.c = c)) :
    Calls Tryz.prog 119 #[.pointer (some ⟨b, o, none⟩), .int .i64 n, .int .i64 c, .int .i64 s] w fun e w' => e = .returned (.tuple #[]) ∧ Below w.heap.size (((w.setCell ⟨b, o + n * 8 + 5, none⟩ (.bool true)).setCell ⟨b, o + n * 8 + 5 + 1, none⟩ (.int .i64 c)).setCell ⟨b, o + n * 8 + 5 + 2, none⟩ (.int .i64 s)) w' := by
  obtain ⟨hl, a0, a1, a2, a3, a4, a5, a6, a7, fr⟩ := h
  have HH := fun w => hide (memHas_any n w)
  rw [hasM16 hn] at HH
  have f0 := fr (o + n * 8)
  have f1 := fr (o + n * 8 + 1)
  have f2 := fr (o + n * 8 + 1 + 1)
  have f3 := fr (o + n * 8 + 1 + 2)
  have f4 := fr (o + n * 8 + 1 + 3)
  have f5 := fr (o + n * 8 + 5)
  have f6 := fr (o + n * 8 + 5 + 1)
  have f7 := fr (o + n * 8 + 5 + 2)
  cases hh : p.made
  · rw [hh] at a5
    clear hm
    go_enter Tryz.func119, Tryz.ntmps119
    go_wp2_with (go_at_call 78; refine (unhide (HH _)).mono ?_; rintro e w1 ⟨rfl, rfl⟩)
    go_end0
    exact ⟨rfl, (Below.refl _ _).alloc (by simp) _⟩
  · rw [hh] at a5
    have hq : ¬ p.c = c := fun e => hm ⟨hh, e⟩
    clear hm
    go_enter Tryz.func119, Tryz.ntmps119
    go_wp2_with (go_at_call 78; refine (unhide (HH _)).mono ?_; rintro e w1 ⟨rfl, rfl⟩)
    go_end0
    exact ⟨rfl, (Below.refl _ _).alloc (by simp) _⟩

set_option maxRecDepth 100000 in
set_option maxHeartbeats 1000000 in
theorem memNote_old (b o n : Nat) (hn : n < 16) (p : Pl) (s : Int) (w : World) (h : PlAt w b (o + n * 8) p) (hm : p.made = true) :
    Calls Tryz.prog 119 #[.pointer (some ⟨b, o, none⟩), .int .i64 n, .int .i64 p.c, .int .i64 s] w fun e w' => e = .returned (.tuple #[]) ∧ Below w.heap.size w w' := by
  obtain ⟨hl, a0, a1, a2, a3, a4, a5, a6, a7, fr⟩ := h
  have HH := fun w => hide (memHas_any n w)
  rw [hasM16 hn] at HH
  rw [hm] at a5
  go_enter Tryz.func119, Tryz.ntmps119
  go_wp2_with (go_at_call 78; refine (unhide (HH _)).mono ?_; rintro e w1 ⟨rfl, rfl⟩)
  refine bodyPost_ret (v := .tuple #[]) ?_ rfl ⟨rfl, (Below.refl _ _).alloc (by simp) _⟩
  simp [results, Tryz.results119, go_sem]

set_option maxRecDepth 100000 in
set_option maxHeartbeats 1000000 in
theorem memNoted_any (b o n : Nat) (hn : n < 16) (p : Pl) (c s u : Int) (w : World) (h : PlAt w b (o + n * 8) p) :
    Calls Tryz.prog 131 #[.pointer (some ⟨b, o, none⟩), .int .i64 n, .int .i64 c, .int .i64 s, .int .i64 u] w fun e w' => e = .returned (.bool (p.made && decide (p.c = c) && decide (u ≤ dif s p.s))) ∧ Below w.heap.size w w' := by
  obtain ⟨hl, a0, a1, a2, a3, a4, a5, a6, a7, fr⟩ := h
  have HH := fun w => hide (memHas_any n w)
  rw [hasM16 hn] at HH
  have ws : IntKind.i64.wrap (s - p.s) = dif s p.s := rfl
  cases hh : p.made
  · rw [hh] at a5
    go_enter Tryz.func131, Tryz.ntmps131
    go_wp2_with (go_at_call 78; refine (unhide (HH _)).mono ?_; rintro e w1 ⟨rfl, rfl⟩)
    go_ret
    exact ⟨by simp, (Below.refl _ _).alloc (by simp) _⟩
  · rw [hh] at a5
    by_cases hq : p.c = c
    · go_enter Tryz.func131, Tryz.ntmps131
      go_wp2_with (go_at_call 78; refine (unhide (HH _)).mono ?_; rintro e w1 ⟨rfl, rfl⟩)
      go_ret
      exact ⟨by simp [hq], (Below.refl _ _).alloc (by simp) _⟩
    · go_enter Tryz.func131, Tryz.ntmps131
      go_wp2_with (go_at_call 78; refine (unhide (HH _)).mono ?_; rintro e w1 ⟨rfl, rfl⟩)
      go_ret
      exact ⟨by simp [hq], (Below.refl _ _).alloc (by simp) _⟩

end Go.Proofs.YtpnkmnmchdabkaaGreat
namespace Go.Proofs.YtpnkmnmchdabkaaGreat
open Go.RowKit

/-- The cells of many places. -/
def plsCells : List Pl → List Value
  | [] => []
  | p :: r => plCells p ++ plsCells r

theorem plsCells_get (P : List Pl) (q j : Nat) (hj : j < 8) (p : Pl) (h : P[q]? = some p) : (plsCells P)[q * 8 + j]? = (plCells p)[j]? := by
  induction P generalizing q with
  | nil => simp at h
  | cons a r ih =>
    cases q with
    | zero =>
      simp only [List.getElem?_cons_zero, Option.some.injEq] at h
      subst h
      rw [plsCells, List.getElem?_append_left (by simp [plCells]; omega)]
      simp
    | succ q =>
      simp only [List.getElem?_cons_succ] at h
      rw [plsCells, List.getElem?_append_right (by simp [plCells]; omega)]
      have e : (q + 1) * 8 + j - (plCells a).length = q * 8 + j := by simp [plCells]; omega
      rw [e]
      exact ih q h

theorem plsCells_set (P : List Pl) (q j : Nat) (hj : j < 8) (p p' : Pl) (u : Value) (h : P[q]? = some p) (e : (plCells p).set j u = plCells p') : (plsCells P).set (q * 8 + j) u = plsCells (P.set q p') := by
  induction P generalizing q with
  | nil => simp at h
  | cons a r ih =>
    cases q with
    | zero =>
      simp only [List.getElem?_cons_zero, Option.some.injEq] at h
      subst h
      rw [plsCells, List.set_append_left _ _ (by simp [plCells]; omega), List.set_cons_zero, plsCells]
      simp [e]
    | succ q =>
      simp only [List.getElem?_cons_succ] at h
      rw [plsCells, List.set_append_right _ _ (by simp [plCells]; omega), List.set_cons_succ, plsCells]
      have e' : (q + 1) * 8 + j - (plCells a).length = q * 8 + j := by simp [plCells]; omega
      rw [e', ih q h]

/-- The memories of N workers: 16 places each, one behind the other. -/
structure PlsAt (w : World) (g cap N : Nat) (P : List Pl) : Prop where
  row : w.ownsRow 0 162 128 (.slice (some ⟨g, 0, none⟩) N cap) N (plsCells P)
  len : P.length = N * 16

theorem PlsAt.lt {w : World} {g cap N : Nat} {P : List Pl} (h : PlsAt w g cap N P) : g < w.heap.size := (h.row.lt g rfl).2

theorem PlsAt.place {w : World} {g cap N : Nat} {P : List Pl} (h : PlsAt w g cap N P) {i n : Nat} {p : Pl} (hp : P[i * 16 + n]? = some p) : PlAt w g (i * 128 + n * 8) p := by
  have hl := (List.getElem?_eq_some_iff.1 hp).1
  have hn := h.len
  have c : ∀ j, j < 8 → w.cell? ⟨g, i * 128 + n * 8 + j, none⟩ = (plCells p)[j]? := fun j hj => by
    have e : i * 128 + n * 8 + j = (i * 16 + n) * 8 + j := by omega
    rw [e, h.row.cellAt _ (by omega), plsCells_get P _ j hj p hp]
  exact ⟨h.lt, c 0 (by omega), c 1 (by omega), c 2 (by omega), c 3 (by omega), c 4 (by omega), c 5 (by omega), c 6 (by omega), c 7 (by omega), fun q => h.row.frozenAt q⟩

theorem PlsAt.set {w : World} {g cap N : Nat} {P : List Pl} (h : PlsAt w g cap N P) {i n j : Nat} (hj : j < 8) {p : Pl} (p' : Pl) (hp : P[i * 16 + n]? = some p) (u : Value) (e : (plCells p).set j u = plCells p') :
    PlsAt (w.setCell ⟨g, i * 128 + n * 8 + j, none⟩ u) g cap N (P.set (i * 16 + n) p') := by
  have he : i * 128 + n * 8 + j = (i * 16 + n) * 8 + j := by omega
  refine ⟨?_, by simpa using h.len⟩
  rw [he, ← plsCells_set P _ j hj p p' u hp e]
  exact (h.row.stored _ u).1

theorem PlsAt.block {w w' : World} {g cap N : Nat} {P : List Pl} (h : PlsAt w g cap N P) (hb : w'.heap[g]? = w.heap[g]?) : PlsAt w' g cap N P :=
  ⟨ownsRow_of_block h.row fun k hk => by
    have e : g = k := by simpa [Value.ownBlock] using hk
    subst e; exact hb, h.len⟩

/-- What an edit of one place leaves. -/
def PlPost (w : World) (g cap N : Nat) (P : List Pl) (w' : World) : Prop := PlsAt w' g cap N P ∧ Keeps (fun k => k = g) w w'

theorem set_set_at {P : List Pl} {q : Nat} {a b : Pl} : (P.set q a).set q b = P.set q b := by simp
theorem get_set_at {P : List Pl} {q : Nat} {p a : Pl} (h : P[q]? = some p) : (P.set q a)[q]? = some a := by
  have := (List.getElem?_eq_some_iff.1 h).1
  simp [this]

theorem keep_chain {w : World} {g cap N : Nat} {P : List Pl} (h : PlsAt w g cap N P) {i n : Nat} {p : Pl} (hp : P[i * 16 + n]? = some p) (held : Bool) (sh ep at_ bf : Int) {w' : World}
    (hb : Below w.heap.size (((((w.setCell ⟨g, i * 128 + n * 8, none⟩ (.bool held)).setCell ⟨g, i * 128 + n * 8 + 1, none⟩ (.int .i64 sh)).setCell ⟨g, i * 128 + n * 8 + 1 + 1, none⟩ (.int .i64 ep)).setCell ⟨g, i * 128 + n * 8 + 1 + 2, none⟩ (.int .i64 at_)).setCell ⟨g, i * 128 + n * 8 + 1 + 3, none⟩ (.int .i64 bf)) w') :
    PlPost w g cap N (P.set (i * 16 + n) { p with held := held, h := ⟨sh, ep, at_, bf⟩ }) w' := by
  have s1 := h.set (j := 0) (by omega) { p with held := held } hp (.bool held) rfl
  have s2 := s1.set (j := 1) (by omega) { p with held := held, h := { p.h with sh := sh } } (get_set_at hp) (.int .i64 sh) rfl
  rw [set_set_at] at s2
  have s3 := s2.set (j := 2) (by omega) { p with held := held, h := ⟨sh, ep, p.h.at_, p.h.bf⟩ } (get_set_at hp) (.int .i64 ep) rfl
  rw [set_set_at] at s3
  have s4 := s3.set (j := 3) (by omega) { p with held := held, h := ⟨sh, ep, at_, p.h.bf⟩ } (get_set_at hp) (.int .i64 at_) rfl
  rw [set_set_at] at s4
  have s5 := s4.set (j := 4) (by omega) { p with held := held, h := ⟨sh, ep, at_, bf⟩ } (get_set_at hp) (.int .i64 bf) rfl
  rw [set_set_at] at s5
  refine ⟨s5.block (hb.block g h.lt), ?_⟩
  have k0 : Keeps (fun k => k = g) w (((((w.setCell ⟨g, i * 128 + n * 8, none⟩ (.bool held)).setCell ⟨g, i * 128 + n * 8 + 1, none⟩ (.int .i64 sh)).setCell ⟨g, i * 128 + n * 8 + 1 + 1, none⟩ (.int .i64 ep)).setCell ⟨g, i * 128 + n * 8 + 1 + 2, none⟩ (.int .i64 at_)).setCell ⟨g, i * 128 + n * 8 + 1 + 3, none⟩ (.int .i64 bf)) := by
    iterate 5 refine Keeps.setCell (S := fun k => k = g) ?_ (by exact Or.inl rfl) _
    exact Keeps.refl _ w
  exact k0.trans ((Keeps.of_below hb).mono fun k hk hs => by simp at hk; omega)

theorem note_chain {w : World} {g cap N : Nat} {P : List Pl} (h : PlsAt w g cap N P) {i n : Nat} {p : Pl} (hp : P[i * 16 + n]? = some p) (c s : Int) {w' : World}
    (hb : Below w.heap.size (((w.setCell ⟨g, i * 128 + n * 8 + 5, none⟩ (.bool true)).setCell ⟨g, i * 128 + n * 8 + 5 + 1, none⟩ (.int .i64 c)).setCell ⟨g, i * 128 + n * 8 + 5 + 2, none⟩ (.int .i64 s)) w') :
    PlPost w g cap N (P.set (i * 16 + n) { p with made := true, c := c, s := s }) w' := by
  have s1 := h.set (j := 5) (by omega) { p with made := true } hp (.bool true) rfl
  have s2 := s1.set (j := 6) (by omega) { p with made := true, c := c } (get_set_at hp) (.int .i64 c) rfl
  rw [set_set_at] at s2
  have s3 := s2.set (j := 7) (by omega) { p with made := true, c := c, s := s } (get_set_at hp) (.int .i64 s) rfl
  rw [set_set_at] at s3
  refine ⟨s3.block (hb.block g h.lt), ?_⟩
  have k0 : Keeps (fun k => k = g) w (((w.setCell ⟨g, i * 128 + n * 8 + 5, none⟩ (.bool true)).setCell ⟨g, i * 128 + n * 8 + 5 + 1, none⟩ (.int .i64 c)).setCell ⟨g, i * 128 + n * 8 + 5 + 2, none⟩ (.int .i64 s)) := by
    iterate 3 refine Keeps.setCell (S := fun k => k = g) ?_ (by exact Or.inl rfl) _
    exact Keeps.refl _ w
  exact k0.trans ((Keeps.of_below hb).mono fun k hk hs => by simp at hk; omega)

theorem plKeep_any (w : World) (g cap N : Nat) (P : List Pl) (i n : Nat) (hn : n < 16) (p : Pl) (ep at_ bf : Int) (h : PlsAt w g cap N P) (hp : P[i * 16 + n]? = some p) :
    Calls Tryz.prog 41 #[.pointer (some ⟨g, i * 128, none⟩), .agg #[.int .i64 n, .int .i64 ep, .int .i64 at_, .int .i64 bf]] w fun e w' => e = .returned (.tuple #[]) ∧ PlPost w g cap N (P.set (i * 16 + n) { p with held := true, h := ⟨n, ep, at_, bf⟩ }) w' :=
  (memKeep_any g (i * 128) n hn p ep at_ bf w (h.place hp)).mono fun _ _ q => ⟨q.1, keep_chain h hp _ _ _ _ _ q.2⟩

theorem plDrop_any (w : World) (g cap N : Nat) (P : List Pl) (i n : Nat) (hn : n < 16) (p : Pl) (h : PlsAt w g cap N P) (hp : P[i * 16 + n]? = some p) :
    Calls Tryz.prog 82 #[.pointer (some ⟨g, i * 128, none⟩), .int .i64 n] w fun e w' => e = .returned (.tuple #[]) ∧ PlPost w g cap N (P.set (i * 16 + n) { p with held := false, h := ⟨0, 0, 0, 0⟩ }) w' :=
  (memDrop_any g (i * 128) n hn p w (h.place hp)).mono fun _ _ q => ⟨q.1, keep_chain h hp _ _ _ _ _ q.2⟩

/-- What a note makes of a place. -/
def noted (p : Pl) (c s : Int) : Pl := if p.made = true ∧ p.c = c then p else { p with made := true, c := c, s := s }

theorem plNote_any (w : World) (g cap N : Nat) (P : List Pl) (i n : Nat) (hn : n < 16) (p : Pl) (c s : Int) (h : PlsAt w g cap N P) (hp : P[i * 16 + n]? = some p) :
    Calls Tryz.prog 119 #[.pointer (some ⟨g, i * 128, none⟩), .int .i64 n, .int .i64 c, .int .i64 s] w fun e w' => e = .returned (.tuple #[]) ∧ PlPost w g cap N (P.set (i * 16 + n) (noted p c s)) w' := by
  by_cases hm : p.made = true ∧ p.c = c
  · obtain ⟨h1, rfl⟩ := hm
    have e : P.set (i * 16 + n) (noted p p.c s) = P := by
      have hl := List.getElem?_eq_some_iff.1 hp
      rw [noted, if_pos ⟨h1, rfl⟩, ← hl.2, List.set_getElem_self]
    rw [e]
    exact (memNote_old g (i * 128) n hn p s w (h.place hp) h1).mono fun _ _ q => ⟨q.1, h.block (q.2.block g h.lt), (Keeps.of_below q.2).mono fun k hk hs => by omega⟩
  · rw [noted, if_neg hm]
    exact (memNote_new g (i * 128) n hn p c s w (h.place hp) hm).mono fun _ _ q => ⟨q.1, note_chain h hp _ _ q.2⟩

theorem plHold_any (w : World) (g cap N : Nat) (P : List Pl) (i n : Nat) (hn : n < 16) (p : Pl) (h : PlsAt w g cap N P) (hp : P[i * 16 + n]? = some p) :
    Calls Tryz.prog 77 #[.pointer (some ⟨g, i * 128, none⟩), .int .i64 n] w fun e w' => e = .returned (.tuple #[if p.held = true then .agg #[.int .i64 p.h.sh, .int .i64 p.h.ep, .int .i64 p.h.at_, .int .i64 p.h.bf] else .agg #[.int .i64 0, .int .i64 0, .int .i64 0, .int .i64 0], .bool p.held]) ∧ Below w.heap.size w w' :=
  memHold_any g (i * 128) n hn p w (h.place hp)

end Go.Proofs.YtpnkmnmchdabkaaGreat
