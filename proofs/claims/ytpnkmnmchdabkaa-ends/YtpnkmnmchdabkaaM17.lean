import Derived.Test.YtpnkmnmchdabkaaProgGe
namespace Go.Proofs.Ytpnkmnmchdabkaa
open Go.RowKit
attribute [local go_sem ↓] Go.wp_at_zero Go.wp_at_succ

/-- So many more, as a machine counts. -/
def plus (a b : Int) : Int := IntKind.i64.wrap (a + b)

theorem below_set2 {B : Nat} {a w : World} (h : Below B a w) (p : Addr) (u : Value) : Below B (a.setCell p u) (w.setCell p u) :=
  ⟨h.os, h.tape, h.output, by simpa [World.setCell] using h.size, fun k hk => by
    simp only [World.setCell, Array.getElem?_modify]
    split
    · rw [h.block k hk]
    · exact h.block k hk⟩
theorem cell_alloc' {W : World} {b i : Nat} {v : Value} (h : W.cell? ⟨b, i, none⟩ = some v) (hb : b < W.heap.size) (o : Obj) : (W.alloc o).drew.cell? ⟨b, i, none⟩ = some v := by
  have : (W.alloc o).cell? ⟨b, i, none⟩ = some v := by rw [World.cell?_of_block (w := W) (Below.heap_alloc _ _ _ hb)]; exact h
  exact this

set_option maxRecDepth 100000 in
set_option maxHeartbeats 1000000 in
theorem sinkCommit_yes (b o k : Nat) (hk : k < 16) (d e : Int) (ep at_ bf : Int) (w : World) (hb : b < w.heap.size) (c0 : w.cell? ⟨b, o + k * 2, none⟩ = some (.int .i64 d)) (c1 : w.cell? ⟨b, o + k * 2 + 1, none⟩ = some (.int .i64 e)) (f : ∀ q, w.frozen? ⟨b, q, none⟩ = false) (he : e ≤ ep) (ha : at_ = d) :
    Calls Try.prog 61 #[.pointer (some ⟨b, o, none⟩), .agg #[.int .i64 k, .int .i64 ep, .int .i64 at_, .int .i64 bf]] w fun r w' => r = .returned (.bool true) ∧ Below w.heap.size ((w.setCell ⟨b, o + k * 2, none⟩ (.int .i64 (plus d bf))).setCell ⟨b, o + k * 2 + 1, none⟩ (.int .i64 ep)) w' := by
  subst ha
  have wp : IntKind.i64.wrap (at_ + bf) = plus at_ bf := rfl
  have HZ := fun w => hide (sinkHas_any k w)
  rw [hasS16 hk] at HZ
  have a0 : (w.alloc (.cells #[.int .i64 k, .int .i64 ep, .int .i64 at_, .int .i64 bf] 75)).cell? ⟨b, o + k * 2, none⟩ = some (.int .i64 at_) := (World.cell?_of_block (w := w) (Below.heap_alloc _ _ _ hb)).trans c0
  have a1 : (w.alloc (.cells #[.int .i64 k, .int .i64 ep, .int .i64 at_, .int .i64 bf] 75)).cell? ⟨b, o + k * 2 + 1, none⟩ = some (.int .i64 e) := (World.cell?_of_block (w := w) (Below.heap_alloc _ _ _ hb)).trans c1
  have hne : ¬ ep < e := by omega
  have q1 : ¬ ((k : Int) < 0) := by omega
  have q2 : (k : Int) < 16 := by omega
  have hBW := (Below.refl w.heap.size w).alloc (Nat.le_refl _) (.cells #[.int .i64 k, .int .i64 ep, .int .i64 at_, .int .i64 bf] 75)
  go_enter Try.func61, Try.ntmps61
  go_wp2_with (go_at_call 91; refine (unhide (HZ _)).mono ?_; rintro e w1 ⟨rfl, rfl⟩)
  have b0 : (w.alloc (.cells #[.int .i64 k, .int .i64 ep, .int .i64 at_, .int .i64 bf] 75)).cell? ⟨w.heap.size, 0, none⟩ = some (.int .i64 k) := cell_of (heap_alloc_new w _) 0
  have b1 : (w.alloc (.cells #[.int .i64 k, .int .i64 ep, .int .i64 at_, .int .i64 bf] 75)).cell? ⟨w.heap.size, 1, none⟩ = some (.int .i64 ep) := cell_of (heap_alloc_new w _) 1
  have b2 : (w.alloc (.cells #[.int .i64 k, .int .i64 ep, .int .i64 at_, .int .i64 bf] 75)).cell? ⟨w.heap.size, 2, none⟩ = some (.int .i64 at_) := cell_of (heap_alloc_new w _) 2
  have b3 : (w.alloc (.cells #[.int .i64 k, .int .i64 ep, .int .i64 at_, .int .i64 bf] 75)).cell? ⟨w.heap.size, 3, none⟩ = some (.int .i64 bf) := cell_of (heap_alloc_new w _) 3
  have hsz : (w.alloc (.cells #[.int .i64 k, .int .i64 ep, .int .i64 at_, .int .i64 bf] 75)).heap.size = w.heap.size + 1 := by simp
  generalize w.alloc (.cells #[.int .i64 k, .int .i64 ep, .int .i64 at_, .int .i64 bf] 75) = W at *
  go_region_held3 (fun w' => w'.cell? ⟨w.heap.size, 0, none⟩ = some (.int .i64 k) ∧ w'.cell? ⟨b, o + k * 2, none⟩ = some (.int .i64 at_) ∧ w'.cell? ⟨b, o + k * 2 + 1, none⟩ = some (.int .i64 e)) (first | go_keep | trivial) (fail)
  have hbW : Below w.heap.size w W := hBW
  have hb1 : b < W.heap.size := by omega
  have hw1 : w.heap.size < W.heap.size := by omega
  have V0 := cell_alloc' (W := W) a0 hb1 (.cells #[.int .i64 at_, .int .i64 e] 89)
  have V1 := cell_alloc' (W := W) a1 hb1 (.cells #[.int .i64 at_, .int .i64 e] 89)
  have U0 := cell_alloc' (W := W) b0 hw1 (.cells #[.int .i64 at_, .int .i64 e] 89)
  have U1 := cell_alloc' (W := W) b1 hw1 (.cells #[.int .i64 at_, .int .i64 e] 89)
  have U2 := cell_alloc' (W := W) b2 hw1 (.cells #[.int .i64 at_, .int .i64 e] 89)
  have U3 := cell_alloc' (W := W) b3 hw1 (.cells #[.int .i64 at_, .int .i64 e] 89)
  have M0 : (W.alloc (.cells #[.int .i64 at_, .int .i64 e] 89)).drew.cell? ⟨w.heap.size + 1, 0, none⟩ = some (.int .i64 at_) := by rw [← hsz]; exact cell_of (heap_alloc_new W _) 0
  have M1 : (W.alloc (.cells #[.int .i64 at_, .int .i64 e] 89)).drew.cell? ⟨w.heap.size + 1, 1, none⟩ = some (.int .i64 e) := by rw [← hsz]; exact cell_of (heap_alloc_new W _) 1
  have hV : Hid (Below w.heap.size w (W.alloc (.cells #[.int .i64 at_, .int .i64 e] 89)).drew) := (hbW.alloc (by omega) _).drew
  have fV : ∀ q, (W.alloc (.cells #[.int .i64 at_, .int .i64 e] 89)).drew.frozen? ⟨b, q, none⟩ = false := fun q => ((unhide hV).frozen (p := ⟨b, q, none⟩) hb).trans (f q)
  have f0 := fV (o + k * 2)
  have f1 := fV (o + k * 2 + 1)
  generalize (W.alloc (.cells #[.int .i64 at_, .int .i64 e] 89)).drew = V at *
  clear fV a0 a1 b0 b1 b2 b3 hBW hbW f c0 c1 HZ
  go_wp2_with fail
  have hn1 : b ≠ w.heap.size := by omega
  have hn2 : b ≠ w.heap.size + 1 := by omega
  go_region_held3 (fun w' => w'.cell? ⟨w.heap.size, 0, none⟩ = some (.int .i64 k) ∧ w'.cell? ⟨w.heap.size, 1, none⟩ = some (.int .i64 ep) ∧ w'.cell? ⟨w.heap.size, 3, none⟩ = some (.int .i64 bf) ∧ w'.cell? ⟨w.heap.size + 1, 0, none⟩ = some (.int .i64 at_)) (first | go_keep | trivial) (fail)
  go_wp2
  go_ret
  exact ⟨rfl, (below_set2 (below_set2 (unhide hV) _ _) _ _).drew⟩

set_option maxRecDepth 100000 in
set_option maxHeartbeats 1000000 in
theorem sinkCommit_no (b o k : Nat) (hk : k < 16) (d e : Int) (ep at_ bf : Int) (w : World) (hb : b < w.heap.size) (c0 : w.cell? ⟨b, o + k * 2, none⟩ = some (.int .i64 d)) (c1 : w.cell? ⟨b, o + k * 2 + 1, none⟩ = some (.int .i64 e)) (f : ∀ q, w.frozen? ⟨b, q, none⟩ = false) (hno : ¬ (e ≤ ep ∧ at_ = d)) :
    Calls Try.prog 61 #[.pointer (some ⟨b, o, none⟩), .agg #[.int .i64 k, .int .i64 ep, .int .i64 at_, .int .i64 bf]] w fun r w' => r = .returned (.bool false) ∧ Below w.heap.size w w' := by
  have HZ := fun w => hide (sinkHas_any k w)
  rw [hasS16 hk] at HZ
  have a0 : (w.alloc (.cells #[.int .i64 k, .int .i64 ep, .int .i64 at_, .int .i64 bf] 75)).cell? ⟨b, o + k * 2, none⟩ = some (.int .i64 d) := (World.cell?_of_block (w := w) (Below.heap_alloc _ _ _ hb)).trans c0
  have a1 : (w.alloc (.cells #[.int .i64 k, .int .i64 ep, .int .i64 at_, .int .i64 bf] 75)).cell? ⟨b, o + k * 2 + 1, none⟩ = some (.int .i64 e) := (World.cell?_of_block (w := w) (Below.heap_alloc _ _ _ hb)).trans c1
  have q1 : ¬ ((k : Int) < 0) := by omega
  have q2 : (k : Int) < 16 := by omega
  have hBW := (Below.refl w.heap.size w).alloc (Nat.le_refl _) (.cells #[.int .i64 k, .int .i64 ep, .int .i64 at_, .int .i64 bf] 75)
  go_enter Try.func61, Try.ntmps61
  go_wp2_with (go_at_call 91; refine (unhide (HZ _)).mono ?_; rintro e w1 ⟨rfl, rfl⟩)
  have b0 : (w.alloc (.cells #[.int .i64 k, .int .i64 ep, .int .i64 at_, .int .i64 bf] 75)).cell? ⟨w.heap.size, 0, none⟩ = some (.int .i64 k) := cell_of (heap_alloc_new w _) 0
  have b1 : (w.alloc (.cells #[.int .i64 k, .int .i64 ep, .int .i64 at_, .int .i64 bf] 75)).cell? ⟨w.heap.size, 1, none⟩ = some (.int .i64 ep) := cell_of (heap_alloc_new w _) 1
  have b2 : (w.alloc (.cells #[.int .i64 k, .int .i64 ep, .int .i64 at_, .int .i64 bf] 75)).cell? ⟨w.heap.size, 2, none⟩ = some (.int .i64 at_) := cell_of (heap_alloc_new w _) 2
  have b3 : (w.alloc (.cells #[.int .i64 k, .int .i64 ep, .int .i64 at_, .int .i64 bf] 75)).cell? ⟨w.heap.size, 3, none⟩ = some (.int .i64 bf) := cell_of (heap_alloc_new w _) 3
  have hsz : (w.alloc (.cells #[.int .i64 k, .int .i64 ep, .int .i64 at_, .int .i64 bf] 75)).heap.size = w.heap.size + 1 := by simp
  generalize w.alloc (.cells #[.int .i64 k, .int .i64 ep, .int .i64 at_, .int .i64 bf] 75) = W at *
  go_region_held3 (fun w' => w'.cell? ⟨w.heap.size, 0, none⟩ = some (.int .i64 k) ∧ w'.cell? ⟨b, o + k * 2, none⟩ = some (.int .i64 d) ∧ w'.cell? ⟨b, o + k * 2 + 1, none⟩ = some (.int .i64 e)) (first | go_keep | trivial) (fail)
  have hbW : Below w.heap.size w W := hBW
  have hb1 : b < W.heap.size := by omega
  have hw1 : w.heap.size < W.heap.size := by omega
  have V0 := cell_alloc' (W := W) a0 hb1 (.cells #[.int .i64 d, .int .i64 e] 89)
  have V1 := cell_alloc' (W := W) a1 hb1 (.cells #[.int .i64 d, .int .i64 e] 89)
  have U0 := cell_alloc' (W := W) b0 hw1 (.cells #[.int .i64 d, .int .i64 e] 89)
  have U1 := cell_alloc' (W := W) b1 hw1 (.cells #[.int .i64 d, .int .i64 e] 89)
  have U2 := cell_alloc' (W := W) b2 hw1 (.cells #[.int .i64 d, .int .i64 e] 89)
  have U3 := cell_alloc' (W := W) b3 hw1 (.cells #[.int .i64 d, .int .i64 e] 89)
  have M0 : (W.alloc (.cells #[.int .i64 d, .int .i64 e] 89)).drew.cell? ⟨w.heap.size + 1, 0, none⟩ = some (.int .i64 d) := by rw [← hsz]; exact cell_of (heap_alloc_new W _) 0
  have M1 : (W.alloc (.cells #[.int .i64 d, .int .i64 e] 89)).drew.cell? ⟨w.heap.size + 1, 1, none⟩ = some (.int .i64 e) := by rw [← hsz]; exact cell_of (heap_alloc_new W _) 1
  have hV : Hid (Below w.heap.size w (W.alloc (.cells #[.int .i64 d, .int .i64 e] 89)).drew) := (hbW.alloc (by omega) _).drew
  have fV : ∀ q, (W.alloc (.cells #[.int .i64 d, .int .i64 e] 89)).drew.frozen? ⟨b, q, none⟩ = false := fun q => ((unhide hV).frozen (p := ⟨b, q, none⟩) hb).trans (f q)
  have f0 := fV (o + k * 2)
  have f1 := fV (o + k * 2 + 1)
  generalize (W.alloc (.cells #[.int .i64 d, .int .i64 e] 89)).drew = V at *
  clear fV a0 a1 b0 b1 b2 b3 hBW hbW f c0 c1 HZ
  by_cases h1 : ep < e
  · go_wp2
    go_ret
    exact ⟨rfl, unhide hV⟩
  · have h2 : ¬ at_ = d := fun h2 => hno ⟨by omega, h2⟩
    go_wp2
    go_ret
    exact ⟨rfl, unhide hV⟩

/-- The sink's cells behind a commit. -/
def dnSet (dn : List Int) (k : Nat) (d e : Int) : List Int := (dn.set (k * 2) d).set (k * 2 + 1) e
def epP (dn : List Int) (k : Nat) : Int := (dn[k * 2 + 1]?).getD 0
theorem epP_get {dn : List Int} (h : dn.length = 32) {k : Nat} (hk : k < 16) : dn[k * 2 + 1]? = some (epP dn k) := by
  unfold epP
  rw [List.getElem?_eq_getElem (by omega)]
  rfl
/-- Does the sink fold it? -/
def folds (dn : List Int) (k : Nat) (ep at_ : Int) : Bool := decide (epP dn k ≤ ep ∧ at_ = dnP dn k)
def Rest.fold (now : Rest) (k : Nat) (ep at_ bf : Int) : Rest := if folds now.dn k ep at_ = true then { now with dn := dnSet now.dn k (plus (dnP now.dn k) bf) ep } else now

theorem gsCommit_any {w : World} {ρ : Nat → Nat} {gb : Nat} {C : Cfg} {now : Rest} {sv : Value} {m : List Cs} {g cap : Nat} {ls : List Le} {P : List Pl} (h : GS w ρ gb C now sv m g cap ls P) (k : Nat) (hk : k < 16) (ep at_ bf : Int) :
    Calls Try.prog 61 #[.pointer (some ⟨gb, 8, none⟩), .agg #[.int .i64 k, .int .i64 ep, .int .i64 at_, .int .i64 bf]] w fun r w' => r = .returned (.bool (folds now.dn k ep at_)) ∧ GSP w ρ gb C (now.fold k ep at_ bf) sv m g cap ls P w' := by
  have hG : GrpL w ρ gb C (now.up ls P) sv m g cap P := h
  have hl : now.dn.length = 32 := hG.G.dnL
  have c0 := hG.dcell (k * 2) _ (dnP_get (dn := now.dn) hl hk)
  have c1 := hG.dcell (k * 2 + 1) _ (epP_get (dn := now.dn) hl hk)
  have fz := fun q => frozen_of hG.G.blk q
  have hlt := lt_of_heap hG.G.blk
  by_cases hf : epP now.dn k ≤ ep ∧ at_ = dnP now.dn k
  · refine (sinkCommit_yes gb 8 k hk _ _ ep at_ bf w hlt c0 c1 fz hf.1 hf.2).mono fun r w' q => ⟨?_, ?_⟩
    · rw [q.1, folds, decide_eq_true hf]
    · have e : now.fold k ep at_ bf = { now with dn := dnSet now.dn k (plus (dnP now.dn k) bf) ep } := by unfold Rest.fold folds; rw [decide_eq_true hf, if_pos rfl]
      rw [e]
      have s1 := hG.setDn (k * 2) (by omega) (plus (dnP now.dn k) bf)
      have s2 := s1.1.setDn (k * 2 + 1) (by omega) ep
      rw [show 8 + (k * 2 + 1) = 8 + k * 2 + 1 by omega] at s2
      have s3 := s2.1.below (w' := w') (by simpa [World.setCell] using q.2)
      exact ⟨s3.1, s1.2.trans (s2.2.trans s3.2)⟩
  · refine (sinkCommit_no gb 8 k hk _ _ ep at_ bf w hlt c0 c1 fz hf).mono fun r w' q => ⟨?_, ?_⟩
    · rw [q.1, folds, decide_eq_false hf]
    · have e : now.fold k ep at_ bf = now := by unfold Rest.fold folds; rw [decide_eq_false hf, if_neg (by simp)]
      rw [e]
      exact h.below q.2

end Go.Proofs.Ytpnkmnmchdabkaa
namespace Go.Proofs.Ytpnkmnmchdabkaa
open Go.RowKit
attribute [local go_sem ↓] Go.wp_at_zero Go.wp_at_succ

/-- A store into a block that is new. -/
theorem GSP.setNew {w W : World} {ρ : Nat → Nat} {gb : Nat} {C : Cfg} {now : Rest} {sv : Value} {m : List Cs} {g cap : Nat} {ls : List Le} {P : List Pl} (hW : GSP w ρ gb C now sv m g cap ls P W) (hf : Fits w ρ) {b i : Nat} (hb : w.heap.size ≤ b) (u : Value) : GSP w ρ gb C now sv m g cap ls P (W.setCell ⟨b, i, none⟩ u) := by
  have hz : ρ b = 0 := hf b hb
  have hk : Keeps (fun k => k = b) W (W.setCell ⟨b, i, none⟩ u) := Keeps.setCell (S := fun k => k = b) (Keeps.refl _ W) (by exact Or.inl rfl) _
  have hG : GrpL W ρ gb C (now.up ls P) sv m g cap P := hW.1
  refine ⟨⟨hG.G.keeps hk (fun k e => Or.inl (by subst e; unfold mine; omega)) (fun _ _ => rfl) hG.le, hG.hw, hG.hm, hG.hl, hG.le, fun k hk' => hG.fits k (by simpa [World.setCell] using hk')⟩, ?_⟩
  exact Keeps.setCell hW.2 (Or.inr hb) _
/-- A block of four cells, written over. -/
theorem four_set {V : World} {b : Nat} {u0 u1 u2 u3 : Value} {t : TypeId} (h : V.heap[b]? = some (.cells #[u0, u1, u2, u3] t (0, 0))) (v0 v1 v2 v3 : Value) :
    ((((V.setCell ⟨b, 0, none⟩ v0).setCell ⟨b, 1, none⟩ v1).setCell ⟨b, 2, none⟩ v2).setCell ⟨b, 3, none⟩ v3).heap[b]? = some (.cells #[v0, v1, v2, v3] t (0, 0)) := by
  have M1 := heap_setCell_same (i := 0) h v0
  have M2 := heap_setCell_same (i := 1) M1 v1
  have M3 := heap_setCell_same (i := 2) M2 v2
  have M4 := heap_setCell_same (i := 3) M3 v3
  simpa using M4
theorem four_cells {V : World} {b : Nat} {u0 u1 u2 u3 : Value} {t : TypeId} (h : V.heap[b]? = some (.cells #[u0, u1, u2, u3] t (0, 0))) :
    V.cell? ⟨b, 0, none⟩ = some u0 ∧ V.cell? ⟨b, 1, none⟩ = some u1 ∧ V.cell? ⟨b, 2, none⟩ = some u2 ∧ V.cell? ⟨b, 3, none⟩ = some u3 ∧ V.frozen? ⟨b, 0, none⟩ = false ∧ V.frozen? ⟨b, 1, none⟩ = false ∧ V.frozen? ⟨b, 2, none⟩ = false ∧ V.frozen? ⟨b, 3, none⟩ = false :=
  ⟨cell_of h 0, cell_of h 1, cell_of h 2, cell_of h 3, frozen_of h 0, frozen_of h 1, frozen_of h 2, frozen_of h 3⟩

set_option maxRecDepth 100000 in
set_option maxHeartbeats 2000000 in
theorem findHold_any {w : World} {ρ : Nat → Nat} {gb : Nat} {C : Cfg} {now : Rest} {sv : Value} {m : List Cs} {g cap : Nat} {ls : List Le} {P : List Pl} (h : GS w ρ gb C now sv m g cap ls P) (i : Nat) (hi : i < now.n) (k : Nat) (hk : k < m.length) (p : Pl) (hp : P[i * 16 + k]? = some p) :
    Calls Try.prog 58 #[.pointer (some ⟨gb, 0, none⟩), .int .i64 i, .int .i64 k] w fun e w' => e = .returned (if p.held = true then .tuple #[.pointer (some ⟨g, i * 128, none⟩), .agg #[.int .i64 p.h.sh, .int .i64 p.h.ep, .int .i64 p.h.at_, .int .i64 p.h.bf], .int .i64 0] else .tuple #[.pointer none, .agg #[.int .i64 0, .int .i64 0, .int .i64 0, .int .i64 0], .int .i64 13]) ∧ GSP w ρ gb C now sv m g cap ls P w' := by
  have h0 : 0 < m.length := by omega
  have h16 : m.length ≤ 16 := GrpL.le h
  have k16 : k < 16 := by omega
  have hA := h.alloc (.cells #[.int .i64 0, .int .i64 0, .int .i64 0, .int .i64 0] 75)
  have HK := hide (hasWorker_any hA.1 i)
  rw [show decide (0 ≤ (i : Int) ∧ (i : Int) < now.n) = true by simp; omega] at HK
  have HL := hide (gHas_any hA.1 h0 k)
  rw [show decide (0 ≤ (k : Int) ∧ (k : Int) < m.length) = true by simp; omega] at HL
  have c88 : (w.alloc (.cells #[.int .i64 0, .int .i64 0, .int .i64 0, .int .i64 0] 75)).cell? ⟨gb, 88, none⟩ = some (.slice (some ⟨g, 0, none⟩) now.n cap) := hA.1.wcell
  have H1 : Hid (Calls Try.prog 55 #[.pointer (some ⟨g, i * 128, none⟩), .int .i64 k] (w.alloc (.cells #[.int .i64 0, .int .i64 0, .int .i64 0, .int .i64 0] 75)) fun e w' => e = .returned (.tuple #[if p.held = true then .agg #[.int .i64 p.h.sh, .int .i64 p.h.ep, .int .i64 p.h.at_, .int .i64 p.h.bf] else .agg #[.int .i64 0, .int .i64 0, .int .i64 0, .int .i64 0], .bool p.held]) ∧ GSP (w.alloc (.cells #[.int .i64 0, .int .i64 0, .int .i64 0, .int .i64 0] 75)) ρ gb C now sv m g cap ls P w') := gHold_any (now := now.up ls P) hA.1 i k k16 p hp
  have N0 := heap_alloc_new w (.cells #[.int .i64 0, .int .i64 0, .int .i64 0, .int .i64 0] 75)
  have HA := hide hA
  have HN := hide N0
  have HFit := hide h.fits
  have hz : Hid (¬ mine ρ w.heap.size) := fun hm => by have := h.fits _ (Nat.le_refl _); unfold mine at hm; omega
  clear h hp hA N0
  cases hh : p.held
  · rw [hh] at H1
    simp only [Bool.false_eq_true, if_false] at H1 ⊢
    go_enter Try.func58, Try.ntmps58
    go_wp2_with (first | (go_at_call 48; refine (unhide HK).mono ?_; rintro e w1 ⟨rfl, rfl⟩) | (go_at_call 54; refine (unhide HL).mono ?_; rintro e w1 ⟨rfl, rfl⟩))
    generalize w.alloc (.cells #[.int .i64 0, .int .i64 0, .int .i64 0, .int .i64 0] 75) = W at *
    refine (unhide H1).mono ?_
    rintro e w1 ⟨rfl, q1⟩
    have hN1 := (q1.2.block _ (lt_of_heap (unhide HN)) (unhide hz)).trans (unhide HN)
    have hN2 := (Below.heap_alloc w1 (.cells #[.int .i64 0, .int .i64 0, .int .i64 0, .int .i64 0] 75) _ (lt_of_heap hN1)).trans hN1
    have hH := heap_alloc_new w1 (.cells #[.int .i64 0, .int .i64 0, .int .i64 0, .int .i64 0] 75)
    have Q1 := hide (((unhide HA).trans q1).alloc (w1 := w1) (.cells #[.int .i64 0, .int .i64 0, .int .i64 0, .int .i64 0] 75))
    have hlt1 := hide (lt_of_heap hN1)
    clear q1 hN1
    obtain ⟨r0, r1, r2, r3, f0, f1, f2, f3⟩ := four_cells hN2
    obtain ⟨t0, t1, t2, t3, _⟩ := four_cells hH
    have HN2 := hide hN2
    clear hN2 hH
    go_wp2
    have M := four_set (unhide HN2) (.int .i64 0) (.int .i64 0) (.int .i64 0) (.int .i64 0)
    have HQ := hide ((((( unhide Q1).setNew (unhide HFit) (b := w.heap.size) (i := 0) (Nat.le_refl _) (.int .i64 0)).setNew (unhide HFit) (b := w.heap.size) (i := 1) (Nat.le_refl _) (.int .i64 0)).setNew (unhide HFit) (b := w.heap.size) (i := 2) (Nat.le_refl _) (.int .i64 0)).setNew (unhide HFit) (b := w.heap.size) (i := 3) (Nat.le_refl _) (.int .i64 0))
    generalize ((((w1.alloc (.cells #[.int .i64 0, .int .i64 0, .int .i64 0, .int .i64 0] 75)).setCell ⟨w.heap.size, 0, none⟩ (.int .i64 0)).setCell ⟨w.heap.size, 1, none⟩ (.int .i64 0)).setCell ⟨w.heap.size, 2, none⟩ (.int .i64 0)).setCell ⟨w.heap.size, 3, none⟩ (.int .i64 0) = U at *
    obtain ⟨m0, m1, m2, m3, _⟩ := four_cells M
    refine bodyPost_ret (v := .tuple #[.pointer none, .agg #[.int .i64 0, .int .i64 0, .int .i64 0, .int .i64 0], .int .i64 13]) ?_ rfl ⟨rfl, unhide HQ⟩
    simp [results, Try.results58, go_sem, m0, m1, m2, m3]
  · rw [hh] at H1
    simp only [if_true] at H1 ⊢
    go_enter Try.func58, Try.ntmps58
    go_wp2_with (first | (go_at_call 48; refine (unhide HK).mono ?_; rintro e w1 ⟨rfl, rfl⟩) | (go_at_call 54; refine (unhide HL).mono ?_; rintro e w1 ⟨rfl, rfl⟩))
    generalize w.alloc (.cells #[.int .i64 0, .int .i64 0, .int .i64 0, .int .i64 0] 75) = W at *
    refine (unhide H1).mono ?_
    rintro e w1 ⟨rfl, q1⟩
    have hN1 := (q1.2.block _ (lt_of_heap (unhide HN)) (unhide hz)).trans (unhide HN)
    have hN2 := (Below.heap_alloc w1 (.cells #[.int .i64 p.h.sh, .int .i64 p.h.ep, .int .i64 p.h.at_, .int .i64 p.h.bf] 75) _ (lt_of_heap hN1)).trans hN1
    have hH := heap_alloc_new w1 (.cells #[.int .i64 p.h.sh, .int .i64 p.h.ep, .int .i64 p.h.at_, .int .i64 p.h.bf] 75)
    have Q1 := hide (((unhide HA).trans q1).alloc (w1 := w1) (.cells #[.int .i64 p.h.sh, .int .i64 p.h.ep, .int .i64 p.h.at_, .int .i64 p.h.bf] 75))
    have hlt1 := hide (lt_of_heap hN1)
    clear q1 hN1
    obtain ⟨r0, r1, r2, r3, f0, f1, f2, f3⟩ := four_cells hN2
    obtain ⟨t0, t1, t2, t3, _⟩ := four_cells hH
    have HN2 := hide hN2
    clear hN2 hH
    go_wp2_with fail
    have hne : w.heap.size ≠ w1.heap.size := by have := unhide hlt1; omega
    generalize w1.alloc (.cells #[.int .i64 p.h.sh, .int .i64 p.h.ep, .int .i64 p.h.at_, .int .i64 p.h.bf] 75) = V at *
    go_region_held3 (fun w' => w'.cell? ⟨w1.heap.size, 0, none⟩ = some (.int .i64 p.h.sh) ∧ w'.cell? ⟨w1.heap.size, 1, none⟩ = some (.int .i64 p.h.ep) ∧ w'.cell? ⟨w1.heap.size, 2, none⟩ = some (.int .i64 p.h.at_) ∧ w'.cell? ⟨w1.heap.size, 3, none⟩ = some (.int .i64 p.h.bf)) (first | go_keep | trivial) (fail)
    go_wp2
    have M := four_set (unhide HN2) (.int .i64 p.h.sh) (.int .i64 p.h.ep) (.int .i64 p.h.at_) (.int .i64 p.h.bf)
    have HQ := hide (((((unhide Q1).setNew (unhide HFit) (b := w.heap.size) (i := 0) (Nat.le_refl _) (.int .i64 p.h.sh)).setNew (unhide HFit) (b := w.heap.size) (i := 1) (Nat.le_refl _) (.int .i64 p.h.ep)).setNew (unhide HFit) (b := w.heap.size) (i := 2) (Nat.le_refl _) (.int .i64 p.h.at_)).setNew (unhide HFit) (b := w.heap.size) (i := 3) (Nat.le_refl _) (.int .i64 p.h.bf))
    generalize (((V.setCell ⟨w.heap.size, 0, none⟩ (.int .i64 p.h.sh)).setCell ⟨w.heap.size, 1, none⟩ (.int .i64 p.h.ep)).setCell ⟨w.heap.size, 2, none⟩ (.int .i64 p.h.at_)).setCell ⟨w.heap.size, 3, none⟩ (.int .i64 p.h.bf) = U at *
    obtain ⟨m0, m1, m2, m3, _⟩ := four_cells (V := U.drew) M
    refine bodyPost_ret (v := .tuple #[.pointer (some ⟨g, i * 128, none⟩), .agg #[.int .i64 p.h.sh, .int .i64 p.h.ep, .int .i64 p.h.at_, .int .i64 p.h.bf], .int .i64 0]) ?_ rfl ⟨rfl, (unhide HQ).trans ((unhide HQ).1.below (Below.refl _ _).drew)⟩
    simp [results, Try.results58, go_sem, m0, m1, m2, m3]


end Go.Proofs.Ytpnkmnmchdabkaa
