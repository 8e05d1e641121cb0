import Derived.Test.YtpnkmnmchdabkaaProgGe
namespace Go.Proofs.Ytpnkmnmchdabkaa
open Go.RowKit
attribute [local go_sem ↓] Go.wp_at_zero Go.wp_at_succ

/-- So many more, as a machine counts. -/
def plus (a b : Int) : Int := IntKind.i64.wrap (a + b)

theorem below_set2 {B : Nat} {a w : World} (h : Below B a w) (p : Addr) (u : Value) : Below B (a.setCell p u) (w.setCell p u) :=
  ⟨h.os, h.tape, h.output, by simpa [World.setCell] using h.size, fun k hk => by
    simp only [World.setCell, Array.getElem?_modify]
    split
    · rw [h.block k hk]
    · exact h.block k hk⟩
theorem cell_alloc' {W : World} {b i : Nat} {v : Value} (h : W.cell? ⟨b, i, none⟩ = some v) (hb : b < W.heap.size) (o : Obj) : (W.alloc o).drew.cell? ⟨b, i, none⟩ = some v := by
  have : (W.alloc o).cell? ⟨b, i, none⟩ = some v := by rw [World.cell?_of_block (w := W) (Below.heap_alloc _ _ _ hb)]; exact h
  exact this

set_option maxRecDepth 100000 in
set_option maxHeartbeats 1000000 in
theorem sinkCommit_yes (b o k : Nat) (hk : k < 16) (d e : Int) (ep at_ bf : Int) (w : World) (hb : b < w.heap.size) (c0 : w.cell? ⟨b, o + k * 2, none⟩ = some (.int .i64 d)) (c1 : w.cell? ⟨b, o + k * 2 + 1, none⟩ = some (.int .i64 e)) (f : ∀ q, w.frozen? ⟨b, q, none⟩ = false) (he : e ≤ ep) (ha : at_ = d) :
    Calls Try.prog 61 #[.pointer (some ⟨b, o, none⟩), .agg #[.int .i64 k, .int .i64 ep, .int .i64 at_, .int .i64 bf]] w fun r w' => r = .returned (.bool true) ∧ Below w.heap.size ((w.setCell ⟨b, o + k * 2, none⟩ (.int .i64 (plus d bf))).setCell ⟨b, o + k * 2 + 1, none⟩ (.int .i64 ep)) w' := by
  subst ha
  have wp : IntKind.i64.wrap (at_ + bf) = plus at_ bf := rfl
  have HZ := fun w => hide (sinkHas_any k w)
  rw [hasS16 hk] at HZ
  have a0 : (w.alloc (.cells #[.int .i64 k, .int .i64 ep, .int .i64 at_, .int .i64 bf] 75)).cell? ⟨b, o + k * 2, none⟩ = some (.int .i64 at_) := (World.cell?_of_block (w := w) (Below.heap_alloc _ _ _ hb)).trans c0
  have a1 : (w.alloc (.cells #[.int .i64 k, .int .i64 ep, .int .i64 at_, .int .i64 bf] 75)).cell? ⟨b, o + k * 2 + 1, none⟩ = some (.int .i64 e) := (World.cell?_of_block (w := w) (Below.heap_alloc _ _ _ hb)).trans c1
  have hne : ¬ ep < e := by omega
  have q1 : ¬ ((k : Int) < 0) := by omega
  have q2 : (k : Int) < 16 := by omega
  have hBW := (Below.refl w.heap.size w).alloc (Nat.le_refl _) (.cells #[.int .i64 k, .int .i64 ep, .int .i64 at_, .int .i64 bf] 75)
  go_enter Try.func61, Try.ntmps61
  go_wp2_with (go_at_call 91; refine (unhide (HZ _)).mono ?_; rintro e w1 ⟨rfl, rfl⟩)
  have b0 : (w.alloc (.cells #[.int .i64 k, .int .i64 ep, .int .i64 at_, .int .i64 bf] 75)).cell? ⟨w.heap.size, 0, none⟩ = some (.int .i64 k) := cell_of (heap_alloc_new w _) 0
  have b1 : (w.alloc (.cells #[.int .i64 k, .int .i64 ep, .int .i64 at_, .int .i64 bf] 75)).cell? ⟨w.heap.size, 1, none⟩ = some (.int .i64 ep) := cell_of (heap_alloc_new w _) 1
  have b2 : (w.alloc (.cells #[.int .i64 k, .int .i64 ep, .int .i64 at_, .int .i64 bf] 75)).cell? ⟨w.heap.size, 2, none⟩ = some (.int .i64 at_) := cell_of (heap_alloc_new w _) 2
  have b3 : (w.alloc (.cells #[.int .i64 k, .int .i64 ep, .int .i64 at_, .int .i64 bf] 75)).cell? ⟨w.heap.size, 3, none⟩ = some (.int .i64 bf) := cell_of (heap_alloc_new w _) 3
  have hsz : (w.alloc (.cells #[.int .i64 k, .int .i64 ep, .int .i64 at_, .int .i64 bf] 75)).heap.size = w.heap.size + 1 := by simp
  generalize w.alloc (.cells #[.int .i64 k, .int .i64 ep, .int .i64 at_, .int .i64 bf] 75) = W at *
  go_region_held3 (fun w' => w'.cell? ⟨w.heap.size, 0, none⟩ = some (.int .i64 k) ∧ w'.cell? ⟨b, o + k * 2, none⟩ = some (.int .i64 at_) ∧ w'.cell? ⟨b, o + k * 2 + 1, none⟩ = some (.int .i64 e)) (first | go_keep | trivial) (fail)
  have hbW : Below w.heap.size w W := hBW
  have hb1 : b < W.heap.size := by omega
  have hw1 : w.heap.size < W.heap.size := by omega
  have V0 := cell_alloc' (W := W) a0 hb1 (.cells #[.int .i64 at_, .int .i64 e] 89)
  have V1 := cell_alloc' (W := W) a1 hb1 (.cells #[.int .i64 at_, .int .i64 e] 89)
  have U0 := cell_alloc' (W := W) b0 hw1 (.cells #[.int .i64 at_, .int .i64 e] 89)
  have U1 := cell_alloc' (W := W) b1 hw1 (.cells #[.int .i64 at_, .int .i64 e] 89)
  have U2 := cell_alloc' (W := W) b2 hw1 (.cells #[.int .i64 at_, .int .i64 e] 89)
  have U3 := cell_alloc' (W := W) b3 hw1 (.cells #[.int .i64 at_, .int .i64 e] 89)
  have M0 : (W.alloc (.cells #[.int .i64 at_, .int .i64 e] 89)).drew.cell? ⟨w.heap.size + 1, 0, none⟩ = some (.int .i64 at_) := by rw [← hsz]; exact cell_of (heap_alloc_new W _) 0
  have M1 : (W.alloc (.cells #[.int .i64 at_, .int .i64 e] 89)).drew.cell? ⟨w.heap.size + 1, 1, none⟩ = some (.int .i64 e) := by rw [← hsz]; exact cell_of (heap_alloc_new W _) 1
  have hV : Hid (Below w.heap.size w (W.alloc (.cells #[.int .i64 at_, .int .i64 e] 89)).drew) := (hbW.alloc (by omega) _).drew
  have fV : ∀ q, (W.alloc (.cells #[.int .i64 at_, .int .i64 e] 89)).drew.frozen? ⟨b, q, none⟩ = false := fun q => ((unhide hV).frozen (p := ⟨b, q, none⟩) hb).trans (f q)
  have f0 := fV (o + k * 2)
  have f1 := fV (o + k * 2 + 1)
  generalize (W.alloc (.cells #[.int .i64 at_, .int .i64 e] 89)).drew = V at *
  clear fV a0 a1 b0 b1 b2 b3 hBW hbW f c0 c1 HZ
  go_wp2_with fail
  have hn1 : b ≠ w.heap.size := by omega
  have hn2 : b ≠ w.heap.size + 1 := by omega
  go_region_held3 (fun w' => w'.cell? ⟨w.heap.size, 0, none⟩ = some (.int .i64 k) ∧ w'.cell? ⟨w.heap.size, 1, none⟩ = some (.int .i64 ep) ∧ w'.cell? ⟨w.heap.size, 3, none⟩ = some (.int .i64 bf) ∧ w'.cell? ⟨w.heap.size + 1, 0, none⟩ = some (.int .i64 at_)) (first | go_keep | trivial) (fail)
  go_wp2
  go_ret
  exact ⟨rfl, (below_set2 (below_set2 (unhide hV) _ _) _ _).drew⟩

set_option maxRecDepth 100000 in
set_option maxHeartbeats 1000000 in
theorem sinkCommit_no (b o k : Nat) (hk : k < 16) (d e : Int) (ep at_ bf : Int) (w : World) (hb : b < w.heap.size) (c0 : w.cell? ⟨b, o + k * 2, none⟩ = some (.int .i64 d)) (c1 : w.cell? ⟨b, o + k * 2 + 1, none⟩ = some (.int .i64 e)) (f : ∀ q, w.frozen? ⟨b, q, none⟩ = false) (hno : ¬ (e ≤ ep ∧ at_ = d)) :
    Calls Try.prog 61 #[.pointer (some ⟨b, o, none⟩), .agg #[.int .i64 k, .int .i64 ep, .int .i64 at_, .int .i64 bf]] w fun r w' => r = .returned (.bool false) ∧ Below w.heap.size w w' := by
  have HZ := fun w => hide (sinkHas_any k w)
  rw [hasS16 hk] at HZ
  have a0 : (w.alloc (.cells #[.int .i64 k, .int .i64 ep, .int .i64 at_, .int .i64 bf] 75)).cell? ⟨b, o + k * 2, none⟩ = some (.int .i64 d) := (World.cell?_of_block (w := w) (Below.heap_alloc _ _ _ hb)).trans c0
  have a1 : (w.alloc (.cells #[.int .i64 k, .int .i64 ep, .int .i64 at_, .int .i64 bf] 75)).cell? ⟨b, o + k * 2 + 1, none⟩ = some (.int .i64 e) := (World.cell?_of_block (w := w) (Below.heap_alloc _ _ _ hb)).trans c1
  have q1 : ¬ ((k : Int) < 0) := by omega
  have q2 : (k : Int) < 16 := by omega
  have hBW := (Below.refl w.heap.size w).alloc (Nat.le_refl _) (.cells #[.int .i64 k, .int .i64 ep, .int .i64 at_, .int .i64 bf] 75)
  go_enter Try.func61, Try.ntmps61
  go_wp2_with (go_at_call 91; refine (unhide (HZ _)).mono ?_; rintro e w1 ⟨rfl, rfl⟩)
  have b0 : (w.alloc (.cells #[.int .i64 k, .int .i64 ep, .int .i64 at_, .int .i64 bf] 75)).cell? ⟨w.heap.size, 0, none⟩ = some (.int .i64 k) := cell_of (heap_alloc_new w _) 0
  have b1 : (w.alloc (.cells #[.int .i64 k, .int .i64 ep, .int .i64 at_, .int .i64 bf] 75)).cell? ⟨w.heap.size, 1, none⟩ = some (.int .i64 ep) := cell_of (heap_alloc_new w _) 1
  have b2 : (w.alloc (.cells #[.int .i64 k, .int .i64 ep, .int .i64 at_, .int .i64 bf] 75)).cell? ⟨w.heap.size, 2, none⟩ = some (.int .i64 at_) := cell_of (heap_alloc_new w _) 2
  have b3 : (w.alloc (.cells #[.int .i64 k, .int .i64 ep, .int .i64 at_, .int .i64 bf] 75)).cell? ⟨w.heap.size, 3, none⟩ = some (.int .i64 bf) := cell_of (heap_alloc_new w _) 3
  have hsz : (w.alloc (.cells #[.int .i64 k, .int .i64 ep, .int .i64 at_, .int .i64 bf] 75)).heap.size = w.heap.size + 1 := by simp
  generalize w.alloc (.cells #[.int .i64 k, .int .i64 ep, .int .i64 at_, .int .i64 bf] 75) = W at *
  go_region_held3 (fun w' => w'.cell? ⟨w.heap.size, 0, none⟩ = some (.int .i64 k) ∧ w'.cell? ⟨b, o + k * 2, none⟩ = some (.int .i64 d) ∧ w'.cell? ⟨b, o + k * 2 + 1, none⟩ = some (.int .i64 e)) (first | go_keep | trivial) (fail)
  have hbW : Below w.heap.size w W := hBW
  have hb1 : b < W.heap.size := by omega
  have hw1 : w.heap.size < W.heap.size := by omega
  have V0 := cell_alloc' (W := W) a0 hb1 (.cells #[.int .i64 d, .int .i64 e] 89)
  have V1 := cell_alloc' (W := W) a1 hb1 (.cells #[.int .i64 d, .int .i64 e] 89)
  have U0 := cell_alloc' (W := W) b0 hw1 (.cells #[.int .i64 d, .int .i64 e] 89)
  have U1 := cell_alloc' (W := W) b1 hw1 (.cells #[.int .i64 d, .int .i64 e] 89)
  have U2 := cell_alloc' (W := W) b2 hw1 (.cells #[.int .i64 d, .int .i64 e] 89)
  have U3 := cell_alloc' (W := W) b3 hw1 (.cells #[.int .i64 d, .int .i64 e] 89)
  have M0 : (W.alloc (.cells #[.int .i64 d, .int .i64 e] 89)).drew.cell? ⟨w.heap.size + 1, 0, none⟩ = some (.int .i64 d) := by rw [← hsz]; exact cell_of (heap_alloc_new W _) 0
  have M1 : (W.alloc (.cells #[.int .i64 d, .int .i64 e] 89)).drew.cell? ⟨w.heap.size + 1, 1, none⟩ = some (.int .i64 e) := by rw [← hsz]; exact cell_of (heap_alloc_new W _) 1
  have hV : Hid (Below w.heap.size w (W.alloc (.cells #[.int .i64 d, .int .i64 e] 89)).drew) := (hbW.alloc (by omega) _).drew
  have fV : ∀ q, (W.alloc (.cells #[.int .i64 d, .int .i64 e] 89)).drew.frozen? ⟨b, q, none⟩ = false := fun q => ((unhide hV).frozen (p := ⟨b, q, none⟩) hb).trans (f q)
  have f0 := fV (o + k * 2)
  have f1 := fV (o + k * 2 + 1)
  generalize (W.alloc (.cells #[.int .i64 d, .int .i64 e] 89)).drew = V at *
  clear fV a0 a1 b0 b1 b2 b3 hBW hbW f c0 c1 HZ
  by_cases h1 : ep < e
  · go_wp2
    go_ret
    exact ⟨rfl, unhide hV⟩
  · have h2 : ¬ at_ = d := fun h2 => hno ⟨by omega, h2⟩
    go_wp2
    go_ret
    exact ⟨rfl, unhide hV⟩

/-- The sink's cells behind a commit. -/
def dnSet (dn : List Int) (k : Nat) (d e : Int) : List Int := (dn.set (k * 2) d).set (k * 2 + 1) e
def epP (dn : List Int) (k : Nat) : Int := (dn[k * 2 + 1]?).getD 0
theorem epP_get {dn : List Int} (h : dn.length = 32) {k : Nat} (hk : k < 16) : dn[k * 2 + 1]? = some (epP dn k) := by
  unfold epP
  rw [List.getElem?_eq_getElem (by omega)]
  rfl
/-- Does the sink fold it? -/
def folds (dn : List Int) (k : Nat) (ep at_ : Int) : Bool := decide (epP dn k ≤ ep ∧ at_ = dnP dn k)
def Rest.fold (now : Rest) (k : Nat) (ep at_ bf : Int) : Rest := if folds now.dn k ep at_ = true then { now with dn := dnSet now.dn k (plus (dnP now.dn k) bf) ep } else now

theorem gsCommit_any {w : World} {ρ : Nat → Nat} {gb : Nat} {C : Cfg} {now : Rest} {sv : Value} {m : List Cs} {g cap : Nat} {ls : List Le} {P : List Pl} (h : GS w ρ gb C now sv m g cap ls P) (k : Nat) (hk : k < 16) (ep at_ bf : Int) :
    Calls Try.prog 61 #[.pointer (some ⟨gb, 8, none⟩), .agg #[.int .i64 k, .int .i64 ep, .int .i64 at_, .int .i64 bf]] w fun r w' => r = .returned (.bool (folds now.dn k ep at_)) ∧ GSP w ρ gb C (now.fold k ep at_ bf) sv m g cap ls P w' := by
  have hG : GrpL w ρ gb C (now.up ls P) sv m g cap P := h
  have hl : now.dn.length = 32 := hG.G.dnL
  have c0 := hG.dcell (k * 2) _ (dnP_get (dn := now.dn) hl hk)
  have c1 := hG.dcell (k * 2 + 1) _ (epP_get (dn := now.dn) hl hk)
  have fz := fun q => frozen_of hG.G.blk q
  have hlt := lt_of_heap hG.G.blk
  by_cases hf : epP now.dn k ≤ ep ∧ at_ = dnP now.dn k
  · refine (sinkCommit_yes gb 8 k hk _ _ ep at_ bf w hlt c0 c1 fz hf.1 hf.2).mono fun r w' q => ⟨?_, ?_⟩
    · rw [q.1, folds, decide_eq_true hf]
    · have e : now.fold k ep at_ bf = { now with dn := dnSet now.dn k (plus (dnP now.dn k) bf) ep } := by unfold Rest.fold folds; rw [decide_eq_true hf, if_pos rfl]
      rw [e]
      have s1 := hG.setDn (k * 2) (by omega) (plus (dnP now.dn k) bf)
      have s2 := s1.1.setDn (k * 2 + 1) (by omega) ep
      rw [show 8 + (k * 2 + 1) = 8 + k * 2 + 1 by omega] at s2
      have s3 := s2.1.below (w' := w') (by simpa [World.setCell] using q.2)
      exact ⟨s3.1, s1.2.trans (s2.2.trans s3.2)⟩
  · refine (sinkCommit_no gb 8 k hk _ _ ep at_ bf w hlt c0 c1 fz hf).mono fun r w' q => ⟨?_, ?_⟩
    · rw [q.1, folds, decide_eq_false hf]
    · have e : now.fold k ep at_ bf = now := by unfold Rest.fold folds; rw [decide_eq_false hf, if_neg (by simp)]
      rw [e]
      exact h.below q.2

end Go.Proofs.Ytpnkmnmchdabkaa
