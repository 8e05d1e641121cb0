import Derived.Test.YtpnkmnmchdabkaaRep
import Derived.Deep.DeepMust
import Derived.Deep.MidRow
import Derived.Deep.WholeRow
import Derived.Laws.ResultCell
import Derived.Deep.DrawnRows
namespace Go.Proofs.Ytpnkmnmchdabkaa
open Go.RowKit
attribute [local go_sem ↓] Go.wp_at_zero Go.wp_at_succ

theorem leCells_len (l : List Le) : (leCells l).length = l.length * 3 := by
  induction l with
  | nil => rfl
  | cons s r ih => simp only [leCells, List.length_cons, ih]; omega
theorem leCells_get (l : List Le) (i : Nat) (x : Le) (h : l[i]? = some x) : (leCells l)[i * 3]? = some (.int .i64 x.o) ∧ (leCells l)[i * 3 + 1]? = some (.int .i64 x.c) ∧ (leCells l)[i * 3 + 2]? = some (.int .i64 x.e) := by
  induction l generalizing i with
  | nil => simp at h
  | cons y r ih =>
    cases i with
    | zero => simp at h; subst h; exact ⟨rfl, rfl, rfl⟩
    | succ i =>
      simp at h
      obtain ⟨a, b, c⟩ := ih i h
      rw [show (i + 1) * 3 = i * 3 + 3 by omega]
      exact ⟨a, b, c⟩
theorem leCells_set0 (l : List Le) (i : Nat) (x : Le) (h : l[i]? = some x) (v : Int) : (leCells l).set (i * 3) (.int .i64 v) = leCells (l.set i { x with o := v }) := by
  induction l generalizing i with
  | nil => simp at h
  | cons y r ih =>
    cases i with
    | zero => simp at h; subst h; rfl
    | succ i =>
      simp at h
      rw [show (i + 1) * 3 = i * 3 + 3 by omega]
      simp only [leCells, List.set_cons_succ, ih i h]
theorem leCells_set1 (l : List Le) (i : Nat) (x : Le) (h : l[i]? = some x) (v : Int) : (leCells l).set (i * 3 + 1) (.int .i64 v) = leCells (l.set i { x with c := v }) := by
  induction l generalizing i with
  | nil => simp at h
  | cons y r ih =>
    cases i with
    | zero => simp at h; subst h; rfl
    | succ i =>
      simp at h
      rw [show (i + 1) * 3 + 1 = (i * 3 + 1) + 3 by omega]
      simp only [leCells, List.set_cons_succ, ih i h]
theorem leCells_set2 (l : List Le) (i : Nat) (x : Le) (h : l[i]? = some x) (v : Int) : (leCells l).set (i * 3 + 2) (.int .i64 v) = leCells (l.set i { x with e := v }) := by
  induction l generalizing i with
  | nil => simp at h
  | cons y r ih =>
    cases i with
    | zero => simp at h; subst h; rfl
    | succ i =>
      simp at h
      rw [show (i + 1) * 3 + 2 = (i * 3 + 2) + 3 by omega]
      simp only [leCells, List.set_cons_succ, ih i h]

/-- The leases at first; in the making. -/
def noneL (k : Nat) : List Le := List.replicate k ⟨-1, 0, 0⟩ ++ List.replicate (16 - k) ⟨0, 0, 0⟩
theorem noneL_set {k : Nat} (hk : k < 16) : (noneL k).set k ⟨-1, 0, 0⟩ = noneL (k + 1) := by
  unfold noneL
  rw [List.set_append_right _ _ (by simp), List.length_replicate, Nat.sub_self, show 16 - k = (16 - (k + 1)) + 1 by omega, List.replicate_succ, List.set_cons_zero, List.replicate_succ', List.append_assoc]
  rfl
theorem noneL_get {k : Nat} (hk : k < 16) : (noneL k)[k]? = some ⟨0, 0, 0⟩ := by
  unfold noneL
  rw [List.getElem?_append_right (by simp), List.length_replicate, Nat.sub_self, show 16 - k = (16 - (k + 1)) + 1 by omega, List.replicate_succ]
  rfl

/-- A table of leases, as a row of cells. -/
def leA (L : List Le) : Array Value := (leCells L).toArray
theorem leA_size {L : List Le} (h : L.length = 16) : (leA L).size = 48 := by unfold leA; simp [leCells_len, h]
theorem leCells_one (L : List Le) : ∀ v ∈ leCells L, v.oneCell' = true := by
  induction L with
  | nil => intro v hv; cases hv
  | cons x r ih =>
    intro v hv
    simp only [leCells, List.mem_cons] at hv
    rcases hv with rfl | rfl | rfl | hv
    · rfl
    · rfl
    · rfl
    · exact ih v hv
theorem noneL_len {k : Nat} (hk : k ≤ 16) : (noneL k).length = 16 := by unfold noneL; simp; omega

theorem infoTab : (Try.prog.info? 85).map (fun i => (i.zero, i.size)) = some (some (.agg (leA (noneL 0))), 48) := by kernel_rfl
theorem infoTabSize : (Try.prog.info? 85).map (·.size) = some 48 := by kernel_rfl
theorem zvTab (w : World) : (zeroValue 85).run Try.prog w = .ok (.agg (leA (noneL 0))) w := (zero_of_info infoTab).1 w
theorem ldTab {w : World} {b : Nat} {L : List Le} {t : TypeId} {f : Nat × Nat} (h : w.heap[b]? = some (.cells (leA L) t f)) (hL : L.length = 16) : (loadVar 85 ⟨b, 0, none⟩).run Try.prog w = .ok (.agg (leA L)) w :=
  run_loadVar_row w b t _ (leA L) f _ h Try.underlying85 rfl (by rw [leA_size hL]; exact infoTabSize)
theorem stTab {w : World} {b : Nat} {K L : List Le} {t : TypeId} (h : w.heap[b]? = some (.cells (leA K) t (0, 0))) (hK : K.length = 16) (hL : L.length = 16) : (storeVar 85 ⟨b, 0, none⟩ (.agg (leA L))).run Try.prog w = .ok () (w.setRow b (leA L)) :=
  run_storeVar_row w b t _ (leA K) (leA L) h (by rw [leA_size hL]; exact infoTabSize) (by rw [leA_size hK, leA_size hL]) (all_oneCell_toArray (leCells_one L))

theorem setRow_same {w : World} {b : Nat} {cs cs' : Array Value} {t : TypeId} {f : Nat × Nat} (h : w.heap[b]? = some (.cells cs t f)) : (w.setRow b cs').heap[b]? = some (.cells cs' t f) := by
  simp only [World.setRow, Array.getElem?_modify, if_true, h]
  rfl
theorem setRow_other {w : World} {b k : Nat} {cs' : Array Value} (hk : k ≠ b) : (w.setRow b cs').heap[k]? = w.heap[k]? := by
  simp only [World.setRow, Array.getElem?_modify]
  rw [if_neg (fun e => hk e.symm)]
theorem setRow_below {B : Nat} {a w : World} {b : Nat} (h : Below B a w) (hb : B ≤ b) (cs : Array Value) : Below B a (w.setRow b cs) :=
  h.trans ⟨rfl, rfl, rfl, by simp [World.setRow], fun k hk => setRow_other (by omega)⟩

/-- The load and the store of a whole table, kept shut for the walk. -/
def ldT (a : Addr) : Sem Value := loadVar 85 a
def stT (a : Addr) (v : Value) : Sem Unit := storeVar 85 a v
theorem ldT_shut (a : Addr) : loadVar 85 a = ldT a := rfl
theorem stT_shut (a : Addr) (v : Value) : storeVar 85 a v = stT a v := rfl
theorem ldT_is {w : World} {b : Nat} {L : List Le} {t : TypeId} {f : Nat × Nat} (h : w.heap[b]? = some (.cells (leA L) t f)) (hL : L.length = 16) : (ldT ⟨b, 0, none⟩).run Try.prog w = .ok (.agg (leA L)) w := ldTab h hL
theorem stT_is {w : World} {b : Nat} {K L : List Le} {t : TypeId} (h : w.heap[b]? = some (.cells (leA K) t (0, 0))) (hK : K.length = 16) (hL : L.length = 16) : (stT ⟨b, 0, none⟩ (.agg (leA L))).run Try.prog w = .ok () (w.setRow b (leA L)) := stTab h hK hL
theorem stT_new (w : World) (n : Nat) (K L : List Le) (hn : n = w.heap.size) (hK : K.length = 16) (hL : L.length = 16) : (stT ⟨n, 0, none⟩ (.agg (leA L))).run Try.prog (w.alloc (.cells (leA K) 85)) = .ok () (w.alloc (.cells (leA L) 85)) := by
  subst hn
  rw [stT_is (heap_alloc_new w _) hK hL, World.setRow_alloc_new]

attribute [local go_sem ↓] zvTab ldT_shut stT_shut
attribute [local go_sem] stT_new

set_option maxRecDepth 100000 in
set_option maxHeartbeats 4000000 in
theorem leasesNew_any (w : World) :
    Calls Try.prog 43 #[] w fun e w' => e = .returned (.agg (leA (noneL 16))) ∧ Below w.heap.size w w' := by
  have z0 := noneL_len (k := 0) (by omega)
  have s0 := leA_size z0
  go_enter Try.func43, Try.ntmps43
  go_wp2
  have h0 : Hid (((w.alloc (.cells (leA (noneL 0)) 85)).alloc (.cells (leA (noneL 0)) 85)).heap[w.heap.size]? = some (.cells (leA (noneL 0)) 85 (0, 0))) := by
    unfold Hid
    rw [Below.heap_alloc _ _ _ (by simp)]; exact heap_alloc_new w _
  have h1 : Hid (((w.alloc (.cells (leA (noneL 0)) 85)).alloc (.cells (leA (noneL 0)) 85)).heap[w.heap.size + 1]? = some (.cells (leA (noneL 0)) 85 (0, 0))) := by
    unfold Hid
    have := heap_alloc_new (w.alloc (.cells (leA (noneL 0)) 85)) (.cells (leA (noneL 0)) 85)
    simpa using this
  have hb : Hid (Below w.heap.size w ((w.alloc (.cells (leA (noneL 0)) 85)).alloc (.cells (leA (noneL 0)) 85))) := ((Below.refl _ w).alloc (Nat.le_refl _) _).alloc (by simp) _
  generalize (w.alloc (.cells (leA (noneL 0)) 85)).alloc (.cells (leA (noneL 0)) 85) = W at *
  go_loopw [2] (fun i wr => ∃ k : Nat, k ≤ 16 ∧ i = .int .i64 k ∧ wr.heap[w.heap.size]? = some (.cells (leA (noneL 0)) 85 (0, 0)) ∧ wr.heap[w.heap.size + 1]? = some (.cells (leA (noneL k)) 85 (0, 0)) ∧ Below w.heap.size w wr) (fun i _ => 16 - (intOf i).toNat)
  case atStart => exact ⟨0, by omega, rfl, unhide h0, unhide h1, unhide hb⟩
  case round =>
    obtain ⟨k, hk, rfl, q0, q1, qb⟩ := hrel
    by_cases hlt : k < 16
    · have fz := frozen_of q1 (k * 3)
      have cz : wr.cell? ⟨w.heap.size + 1, k * 3, none⟩ = some (.int .i64 0) := (cell_of q1 (k * 3)).trans (by have := (leCells_get _ k _ (noneL_get hlt)).1; simpa [leA] using this)
      have Q0 := hide q0
      have Q1 := hide q1
      have QB := hide qb
      clear q0 q1 qb
      go_wp2
      go_roundw
      case rel =>
        refine ⟨k + 1, by omega, by go_num, ?_, ?_, (unhide QB).setCell (p := ⟨w.heap.size + 1, k * 3, none⟩) (by simp) _⟩
        · rw [Below.heap_setCell _ _ _ _ (by simp)]; exact unhide Q0
        · rw [heap_setCell_same (unhide Q1)]
          unfold leA
          rw [List.setIfInBounds_toArray, leCells_set0 _ k _ (noneL_get hlt), noneL_set hlt]
      case measure => simp [intOf]; omega
    · have e : k = 16 := by omega
      subst e
      have z16 := noneL_len (k := 16) (by omega)
      have HL := ldT_is q1 z16
      have HS := stT_is q0 z0 z16
      have hs16 := leA_size z16
      have H2 := hide (setRow_same (cs' := leA (noneL 16)) q0)
      have QB := hide (setRow_below qb (Nat.le_refl _) (leA (noneL 16)))
      clear q0 q1 qb
      go_wp2
      refine bodyPost_ret (v := .agg (leA (noneL 16))) ?_ rfl ⟨rfl, unhide QB⟩
      exact results_cell_row rfl _ _ w.heap.size _ _ _ _ rfl (unhide H2) Try.underlying85 rfl (by rw [leA_size z16]; exact infoTabSize)
end Go.Proofs.Ytpnkmnmchdabkaa
