import Derived.Test.YtpnkmnmchdabkaaProgWb
import Derived.Test.YtpnkmnmchdabkaaCrew
import Derived.Test.YtpnkmnmchdabkaaM23
namespace Go.Proofs.Ytpnkmnmchdabkaa
open Go.RowKit
attribute [local go_sem ↓] Go.wp_at_zero Go.wp_at_succ
attribute [local go_sem ↓] zvWm ldW_shut stW_shut
attribute [local go_sem] stW_new

set_option maxRecDepth 100000 in
set_option maxHeartbeats 2000000 in
theorem sinkMark_any {w : World} {ρ : Nat → Nat} {gb : Nat} {C : Cfg} {now : Rest} {sv : Value} {m : List Cs} {g cap : Nat} {ls : List Le} {P : List Pl} (h : GS w ρ gb C now sv m g cap ls P) (hI : Inv (m.map (·.s))) (d : Nat → Nat) (hd : ∀ k, d k ≤ 32) (hdn : ∀ k, k < 16 → dnP now.dn k = (d k : Int)) (hdc : ∀ (k : Nat) (s : Cs), m[k]? = some s → d k ≤ s.s.rl.length) (k : Nat) (hk : k < 16) (ep : Int) (hep : now.dn[k * 2 + 1]? = some ep) :
    Calls Try.prog 72 #[.pointer (some ⟨gb, 8, none⟩), .pointer (some ⟨gb, 7, none⟩), .int .i64 k] w fun e w' => e = .returned (.agg #[.int .i64 (d k), .int .i64 ep, .int .i64 (((wmUp (m.map (·.s)) d m.length)[k]?).getD 0)]) ∧ Below w.heap.size w w' := by
  have HW : Hid (∀ W, Below w.heap.size w W → Calls Try.prog 102 #[.pointer (some ⟨gb, 8, none⟩), .pointer (some ⟨gb, 7, none⟩)] W fun e w' => ∃ v, e = .returned (.tuple #[v, .agg (stA (wmUp (m.map (·.s)) d m.length))]) ∧ w'.ownsRow W.heap.size 164 11 v (fdUp (m.map (·.s)) d m.length).length (fdRow (fdUp (m.map (·.s)) d m.length)) ∧ Below W.heap.size W w') := fun W hb => walk_any (h.below hb).1 hI d hd hdn hdc
  have HZ := fun w => hide (sinkHas_any k w)
  rw [hasS16 hk] at HZ
  have hL := wmUp_len (m.map (·.s)) d m.length
  generalize wmUp (m.map (·.s)) d m.length = U at HW hL ⊢
  have hG : GrpL w ρ gb C (now.up ls P) sv m g cap P := h
  have d0 : w.cell? ⟨gb, 8 + k * 2, none⟩ = some (.int .i64 (d k)) := by rw [← hdn k hk]; exact hG.dcell (k * 2) _ (dnP_get hG.G.dnL hk)
  have d1 : w.cell? ⟨gb, 8 + k * 2 + 1, none⟩ = some (.int .i64 ep) := hG.dcell (k * 2 + 1) _ hep
  have hgb := lt_of_heap hG.G.blk
  have hkU : k < U.length := by omega
  obtain ⟨u, hU⟩ : ∃ u, U[k]? = some u := ⟨U[k], List.getElem?_eq_getElem hkU⟩
  have hUk : (U[k]?).getD 0 = u := by rw [hU]; rfl
  rw [hUk]
  have q1 : ¬ ((k : Int) < 0) := by omega
  have q2 : (k : Int) < 16 := by omega
  clear h hI hd hdn hdc hG hep
  go_enter Try.func72, Try.ntmps72
  go_wp2_with (first | (go_at_call 91; refine (unhide (HZ _)).mono ?_; rintro e w1 ⟨rfl, rfl⟩))
  have N0 := heap_alloc_new w (.cells #[.int .i64 0, .int .i64 0, .int .i64 0] 45)
  have B0 := (Below.refl w.heap.size w).alloc (Nat.le_refl _) (.cells #[.int .i64 0, .int .i64 0, .int .i64 0] 45)
  have sz0 : (w.alloc (.cells #[.int .i64 0, .int .i64 0, .int .i64 0] 45)).heap.size = w.heap.size + 1 := by simp
  generalize w.alloc (.cells #[.int .i64 0, .int .i64 0, .int .i64 0] 45) = W0 at *
  refine (unhide HW _ B0).mono ?_
  rintro e w1 ⟨v, rfl, _, hb1⟩
  have N1 := (hb1.block _ (lt_of_heap N0)).trans N0
  have B1 := B0.trans (hb1.mono B0.size)
  have z0 := st0_len
  have s1 := lt_of_heap N1
  have N2 : (w1.alloc (.cells (stA U) 171)).heap[w.heap.size]? = _ := (Below.heap_alloc _ _ _ s1).trans N1
  have N3 := heap_alloc_new w1 (.cells (stA U) 171)
  have B2 := B1.alloc B1.size (.cells (stA U) 171)
  clear hb1 N0 B0 HW N1 B1
  have c0 := (B2.cell (p := ⟨gb, 8 + k * 2, none⟩) hgb).trans d0
  have c1 := (B2.cell (p := ⟨gb, 8 + k * 2 + 1, none⟩) hgb).trans d1
  have c2 : (w1.alloc (.cells (stA U) 171)).cell? ⟨w1.heap.size, k, none⟩ = some (.int .i64 u) := by
    rw [cell_of N3]
    unfold stA
    simp [hU]
  go_wp2_with fail
  have HB2 := hide B2
  have HN2 := hide N2
  clear B2 N3 d0 d1
  have f0 := frozen_of (unhide HN2) 0
  have f1 := frozen_of (unhide HN2) 1
  have f2 := frozen_of (unhide HN2) 2
  generalize w1.alloc (.cells (stA U) 171) = W at *
  have g0 := cell_of (unhide HN2) 0
  have g1 := cell_of (unhide HN2) 1
  have g2 := cell_of (unhide HN2) 2
  simp at g0 g1 g2
  generalize hb1 : w1.heap.size = b1 at *
  have hn1 : w.heap.size ≠ gb := by omega
  have hn2 : w.heap.size ≠ b1 := by omega
  go_region_held3 (fun w' => w'.cell? ⟨gb, 8 + k * 2, none⟩ = some (.int .i64 (d k)) ∧ w'.cell? ⟨gb, 8 + k * 2 + 1, none⟩ = some (.int .i64 ep) ∧ w'.cell? ⟨b1, k, none⟩ = some (.int .i64 u)) (first | go_keep | trivial) (fail)
  have M1 := heap_setCell_same (i := 0) (unhide HN2) (.int .i64 (d k))
  have M2 := heap_setCell_same (i := 1) M1 (.int .i64 ep)
  have M3 := heap_setCell_same (i := 2) M2 (.int .i64 u)
  have B3 : Hid (Below w.heap.size w (((W.setCell ⟨w.heap.size, 0, none⟩ (.int .i64 (d k))).setCell ⟨w.heap.size, 1, none⟩ (.int .i64 ep)).setCell ⟨w.heap.size, 2, none⟩ (.int .i64 u)).drew) := ((((unhide HB2).setCell (p := ⟨w.heap.size, 0, none⟩) (Nat.le_refl _) _).setCell (p := ⟨w.heap.size, 1, none⟩) (Nat.le_refl _) _).setCell (p := ⟨w.heap.size, 2, none⟩) (Nat.le_refl _) _).drew
  have r0 := cell_of M3 0
  have r1 := cell_of M3 1
  have r2 := cell_of M3 2
  simp at r0 r1 r2
  clear M1 M2 M3
  generalize hV : ((W.setCell ⟨w.heap.size, 0, none⟩ (.int .i64 (d k))).setCell ⟨w.heap.size, 1, none⟩ (.int .i64 ep)).setCell ⟨w.heap.size, 2, none⟩ (.int .i64 u) = V at *
  clear hV
  have x0 : V.drew.cell? ⟨w.heap.size, 0, none⟩ = some (.int .i64 (d k)) := r0
  have x1 : V.drew.cell? ⟨w.heap.size, 1, none⟩ = some (.int .i64 ep) := r1
  have x2 : V.drew.cell? ⟨w.heap.size, 2, none⟩ = some (.int .i64 u) := r2
  generalize V.drew = V1 at *
  go_wp2
  refine bodyPost_ret (v := .agg #[.int .i64 (d k), .int .i64 ep, .int .i64 u]) ?_ rfl ⟨rfl, unhide B3⟩
  simp [results, Try.results72, go_sem, x0, x1, x2]

/-- What the sink has folded, as whole numbers. -/
def dnN (dn : List Int) (k : Nat) : Nat := (dnP dn k).toNat

set_option maxRecDepth 100000 in
set_option maxHeartbeats 2000000 in
theorem gMark_any {w : World} {ρ : Nat → Nat} {gb : Nat} {C : Cfg} {now : Rest} {sv : Value} {m : List Cs} {g cap : Nat} {ls : List Le} {P : List Pl} (h : GS w ρ gb C now sv m g cap ls P) (hI : Inv (m.map (·.s))) (d : Nat → Nat) (hd : ∀ k, d k ≤ 32) (hdn : ∀ k, k < 16 → dnP now.dn k = (d k : Int)) (hdc : ∀ (k : Nat) (s : Cs), m[k]? = some s → d k ≤ s.s.rl.length) (k : Nat) (hk : k < m.length) :
    Calls Try.prog 40 #[.pointer (some ⟨gb, 0, none⟩), .int .i64 k] w fun e w' => e = .returned (.tuple #[.agg #[.int .i64 (d k), .int .i64 (epP now.dn k), .int .i64 (((wmUp (m.map (·.s)) d m.length)[k]?).getD 0)], .int .i64 0]) ∧ Below w.heap.size w w' := by
  have h16 : m.length ≤ 16 := GrpL.le h
  have hG : GrpL w ρ gb C (now.up ls P) sv m g cap P := h
  have HL : Hid (Calls Try.prog 54 #[.pointer (some ⟨gb, 7, none⟩), .int .i64 k] (w.alloc (.cells #[.int .i64 0, .int .i64 0, .int .i64 0] 45)) fun e w' => e = .returned (.bool true) ∧ (w.alloc (.cells #[.int .i64 0, .int .i64 0, .int .i64 0] 45)) = w') := by
    have := gHas_any (h.alloc (.cells #[.int .i64 0, .int .i64 0, .int .i64 0] 45)).1 (by omega) k
    rw [show decide (0 ≤ (k : Int) ∧ (k : Int) < m.length) = true by simp; omega] at this
    exact this
  have HO : Hid (Calls Try.prog 72 #[.pointer (some ⟨gb, 8, none⟩), .pointer (some ⟨gb, 7, none⟩), .int .i64 k] (w.alloc (.cells #[.int .i64 0, .int .i64 0, .int .i64 0] 45)).drew fun e w' => e = .returned (.agg #[.int .i64 (d k), .int .i64 (epP now.dn k), .int .i64 (((wmUp (m.map (·.s)) d m.length)[k]?).getD 0)]) ∧ Below (w.alloc (.cells #[.int .i64 0, .int .i64 0, .int .i64 0] 45)).drew.heap.size (w.alloc (.cells #[.int .i64 0, .int .i64 0, .int .i64 0] 45)).drew w') :=
    sinkMark_any (((h.alloc _).1.below (Below.refl _ _).drew)).1 hI d hd hdn hdc k (by omega) _ (epP_get hG.G.dnL (by omega))
  generalize ((wmUp (m.map (·.s)) d m.length)[k]?).getD 0 = u at *
  generalize epP now.dn k = ep at *
  clear h hI hd hdn hdc hG
  go_enter Try.func40, Try.ntmps40
  go_wp2_with fail
  refine (unhide HL).mono ?_
  rintro e w1 ⟨rfl, rfl⟩
  go_wp2_with fail
  have N0 := heap_alloc_new w (.cells #[.int .i64 0, .int .i64 0, .int .i64 0] 45)
  have B0 := (Below.refl w.heap.size w).alloc (Nat.le_refl _) (.cells #[.int .i64 0, .int .i64 0, .int .i64 0] 45)
  generalize w.alloc (.cells #[.int .i64 0, .int .i64 0, .int .i64 0] 45) = W at *
  have ND : W.drew.heap[w.heap.size]? = some (.cells #[.int .i64 0, .int .i64 0, .int .i64 0] 45 (0, 0)) := N0
  have BD := hide B0.drew
  have HND := hide ND
  clear N0 B0 ND
  go_region_held3 (fun _ => True) (trivial) ((go_at_call 72; refine (unhide HO).mono ?_; rintro e w1 ⟨rfl, hb⟩; have N1 := (hb.block _ (lt_of_heap (unhide HND))).trans (unhide HND); have k0 := cell_of N1 0; have k1 := cell_of N1 1; have k2 := cell_of N1 2; simp at k0 k1 k2; have f0 := frozen_of N1 0; have f1 := frozen_of N1 1; have f2 := frozen_of N1 2))
  have M1 := heap_setCell_same (i := 0) N1 (.int .i64 (d k))
  have M2 := heap_setCell_same (i := 1) M1 (.int .i64 ep)
  have M3 := heap_setCell_same (i := 2) M2 (.int .i64 u)
  have B3 : Hid (Below w.heap.size w (((w1.setCell ⟨w.heap.size, 0, none⟩ (.int .i64 (d k))).setCell ⟨w.heap.size, 1, none⟩ (.int .i64 ep)).setCell ⟨w.heap.size, 2, none⟩ (.int .i64 u))) := ((((unhide BD).trans (hb.mono (unhide BD).size)).setCell (p := ⟨w.heap.size, 0, none⟩) (Nat.le_refl _) _).setCell (p := ⟨w.heap.size, 1, none⟩) (Nat.le_refl _) _).setCell (p := ⟨w.heap.size, 2, none⟩) (Nat.le_refl _) _
  have r0 := cell_of M3 0
  have r1 := cell_of M3 1
  have r2 := cell_of M3 2
  simp at r0 r1 r2
  clear M1 M2 M3 N1 k0 k1 k2 f0 f1 f2 hb
  generalize ((w1.setCell ⟨w.heap.size, 0, none⟩ (.int .i64 (d k))).setCell ⟨w.heap.size, 1, none⟩ (.int .i64 ep)).setCell ⟨w.heap.size, 2, none⟩ (.int .i64 u) = V at *
  go_wp2
  refine bodyPost_ret (v := .tuple #[.agg #[.int .i64 (d k), .int .i64 ep, .int .i64 u], .int .i64 0]) ?_ rfl ⟨rfl, unhide B3⟩
  simp [results, Try.results40, go_sem, r0, r1, r2]

end Go.Proofs.Ytpnkmnmchdabkaa
namespace Go.Proofs.Ytpnkmnmchdabkaa
open Go.RowKit
attribute [local go_sem ↓] Go.wp_at_zero Go.wp_at_succ

/-- A mark. -/
structure Mk where
  d : Int
  e : Int
  w : Int
def mkCells (x : Mk) : List Value := [.int .i64 x.d, .int .i64 x.e, .int .i64 x.w]
def mkRow : List Mk → List Value
  | [] => []
  | x :: r => mkCells x ++ mkRow r
theorem mkRow_append (l k : List Mk) : mkRow (l ++ k) = mkRow l ++ mkRow k := by
  induction l with
  | nil => rfl
  | cons s r ih => simp [mkRow, ih]
theorem mkRow_get (l : List Mk) (i j : Nat) (hj : j < 3) (s : Mk) (h : l[i]? = some s) : (mkRow l)[i * 3 + j]? = (mkCells s)[j]? := by
  induction l generalizing i with
  | nil => simp at h
  | cons x r ih =>
    cases i with
    | zero =>
      simp at h; subst h
      simp only [mkRow, Nat.zero_mul, Nat.zero_add]
      rw [List.getElem?_append_left (by simpa [mkCells] using hj)]
    | succ i =>
      simp at h
      simp only [mkRow]
      rw [List.getElem?_append_right (by simp only [mkCells, List.length_cons, List.length_nil]; omega), ← ih i h]
      congr 1
      simp only [mkCells, List.length_cons, List.length_nil]; omega
/-- The mark of shard k; of the first n. -/
def mkOf (l : List Sh) (dn : List Int) (k : Nat) : Mk := ⟨dnP dn k, epP dn k, ((wmUp l (dnN dn) l.length)[k]?).getD 0⟩
def mkUp (l : List Sh) (dn : List Int) : Nat → List Mk
  | 0 => []
  | n + 1 => mkUp l dn n ++ [mkOf l dn n]
theorem mkUp_len (l : List Sh) (dn : List Int) : ∀ n, (mkUp l dn n).length = n
  | 0 => rfl
  | n + 1 => by rw [mkUp, List.length_append, mkUp_len l dn n]; rfl
theorem mkUp_get (l : List Sh) (dn : List Int) : ∀ n k, k < n → (mkUp l dn n)[k]? = some (mkOf l dn k)
  | 0, k, h => by omega
  | n + 1, k, h => by
    rw [mkUp]
    by_cases e : k < n
    · rw [List.getElem?_append_left (by rw [mkUp_len]; exact e)]; exact mkUp_get l dn n k e
    · have e : k = n := by omega
      subst e
      rw [List.getElem?_append_right (by rw [mkUp_len]; omega), mkUp_len, Nat.sub_self]
      rfl

theorem infoMark : (Try.prog.info? 45).map (fun i => (i.zero, i.size, i.bytes)) = some (some (.agg #[.int .i64 0, .int .i64 0, .int .i64 0]), 3, 24) := by kernel_rfl

theorem kMark {t : Bool} {B : Bd} {w : World} {ρ : Nat → Nat} {gb : Nat} {C : Cfg} {now : Rest} {l : List Sh} (h : Grp w ρ gb C now l) (hf : Fits w ρ) (hI : Inv l) (hw : Wok t B C l now) (k : Nat) (hk : k < l.length) :
    Calls Try.prog 40 #[.pointer (some ⟨gb, 0, none⟩), .int .i64 k] w fun e w' => e = .returned (.tuple #[.agg #[.int .i64 (mkOf l now.dn k).d, .int .i64 (mkOf l now.dn k).e, .int .i64 (mkOf l now.dn k).w], .int .i64 0]) ∧ Below w.heap.size w w' := by
  obtain ⟨sv, m, g, cap, P, rfl, h1, h2, _⟩ := h.gs hf hI hw
  have h16 : m.length ≤ 16 := GrpL.le h1
  have hlen : (m.map (·.s)).length = m.length := by simp
  have e1 : ∀ k, k < 16 → dnP now.dn k = (dnN now.dn k : Int) := fun k hk => by
    have := (h2.mr k hk).1
    unfold dnN
    omega
  have := gMark_any h1 hI (dnN now.dn) (fun k => by
    by_cases hk : k < 16
    · have a := (h2.mr k hk).2.1
      have b := cn_le hI k
      unfold dnN; omega
    · unfold dnN dnP
      rw [List.getElem?_eq_none (by rw [h2.dnL]; omega)]
      exact Nat.zero_le _) e1 (fun k s hs => by
    have hk := (List.getElem?_eq_some_iff.1 hs).1
    have a := (h2.mr k (by omega)).2.1
    have b : cn (m.map (·.s)) k = s.s.rl.length := cn_is (by rw [List.getElem?_map, hs]; rfl)
    have c := e1 k (by omega)
    omega) k (by omega)
  refine this.mono fun e w' q => ⟨?_, q.2⟩
  rw [q.1]
  unfold mkOf
  rw [hlen, e1 k (by omega)]

set_option maxRecDepth 100000 in
set_option maxHeartbeats 4000000 in
theorem marks_any {t : Bool} {B : Bd} {N : Nat} {w : World} {ρ : Nat → Nat} {cb gb : Nat} {C : Cfg} {now : Rest} {l : List Sh} {E : List En} (h : Crew t B N w ρ cb gb C now l E l.length) :
    Calls Try.prog 17 #[.pointer (some ⟨cb, 0, none⟩)] w fun e w' => ∃ v, e = .returned (.tuple #[v, .bool true]) ∧ w'.ownsRow w.heap.size 45 3 v (mkUp l now.dn l.length).length (mkRow (mkUp l now.dn l.length)) ∧ Below w.heap.size w w' := by
  obtain ⟨i0, hi0, hz0, hz1, hz2⟩ := info_parts infoMark
  have h16 := h.inv.len
  have HM : Hid (∀ W, Below w.heap.size w W → ∀ k, k < l.length → Calls Try.prog 40 #[.pointer (some ⟨gb, 0, none⟩), .int .i64 k] W fun e w' => e = .returned (.tuple #[.agg #[.int .i64 (mkOf l now.dn k).d, .int .i64 (mkOf l now.dn k).e, .int .i64 (mkOf l now.dn k).w], .int .i64 0]) ∧ Below W.heap.size W w') := fun W hb k hk => by
    have hW := h.below hb
    exact kMark hW.grp hW.fits hW.inv hW.wok k hk
  have HC : Hid (∀ W, Below w.heap.size w W → (W.cell? ⟨cb, 6, none⟩ = some (.pointer (some ⟨gb, 0, none⟩)) ∧ W.cell? ⟨cb, 8, none⟩ = some (.int .i64 l.length)) ∧ ∀ k : Nat, Calls Try.prog 18 #[.pointer (some ⟨cb, 0, none⟩), .int .i64 k] W fun e w' => e = .returned (.int .i64 (held E k)) ∧ W = w') := fun W hb => by
    have hW := h.below hb
    obtain ⟨ea, ecap, _, c6, c7, c8, _, _, hE⟩ := crew_cells hW.ent2
    exact ⟨⟨c6, c8⟩, fun k => count_raw hW.short c7 hE k⟩
  have HK : Hid (∀ k, k < l.length → 0 ≤ (mkOf l now.dn k).d ∧ (mkOf l now.dn k).d ≤ (held E k : Int)) := fun k hk => by
    obtain ⟨_, _, _, _, g, cap, P, _, _, _, o, _⟩ := h.wok
    have a := o.mr k (by omega)
    have b := h.cnt k _ (List.getElem?_eq_getElem hk)
    have c := cn_is (List.getElem?_eq_getElem hk)
    exact ⟨a.1, by show dnP now.dn k ≤ _; omega⟩
  have HG : Hid (∀ n, mkUp l now.dn (n + 1) = mkUp l now.dn n ++ [mkOf l now.dn n]) := fun n => rfl
  have HL : Hid (∀ n, (mkUp l now.dn n).length = n) := mkUp_len l now.dn
  have H0 : Hid (mkUp l now.dn 0 = []) := rfl
  generalize mkOf l now.dn = mk at *
  generalize mkUp l now.dn = U at *
  clear h
  go_enter Try.func17, Try.ntmps17
  go_wp2
  go_loopw [4, 5] (fun p q wr => ∃ (j cp : Nat) (a : Option Addr), j ≤ l.length ∧ q = .int .i64 j ∧ p = .slice a (U j).length cp ∧ wr.ownsRow w.heap.size 45 3 (.slice a (U j).length cp) (U j).length (mkRow (U j)) ∧ Below w.heap.size w wr) (fun _ q _ => l.length - (intOf q).toNat)
  case atStart => exact ⟨0, 0, none, Nat.zero_le _, rfl, by rw [unhide H0]; rfl, by rw [unhide H0]; exact World.ownsRow_nil _ _ _ _, Below.refl _ w⟩
  case round =>
    obtain ⟨j, cp, a, hj, rfl, rfl, hown, hB⟩ := hrel
    obtain ⟨⟨c6, c8⟩, _⟩ := unhide HC wr hB
    have hUl := hide (unhide HL j)
    by_cases hlt : j < l.length
    · have HS := hide (unhide HG j)
      have hk := unhide HK j hlt
      have C1 := hide (unhide HM wr hB j hlt)
      have HO := hide hown
      have HB := hide hB
      have hws := hB.size
      have HGL := hide (fun q hq => hown.lt q hq)
      generalize mk j = x at *
      generalize hFF : U j = F at *
      have HFF := hide hFF
      clear hown hB hFF
      go_wp2_with fail
      refine (unhide C1).mono ?_
      rintro e w1 ⟨rfl, hb1⟩
      have hF16 : F.length ≤ 16 := by have := unhide hUl; omega
      have N1 := heap_alloc_new w1 (.cells #[.int .i64 x.d, .int .i64 x.e, .int .i64 x.w] 45)
      have B1 : Hid (Below w.heap.size w (w1.alloc (.cells #[.int .i64 x.d, .int .i64 x.e, .int .i64 x.w] 45))) := ((unhide HB).trans (hb1.mono hws)).alloc (by have := hb1.size; omega) _
      have hz1' : w.heap.size ≤ w1.heap.size := by have := hb1.size; omega
      have HO1 : Hid ((w1.alloc (.cells #[.int .i64 x.d, .int .i64 x.e, .int .i64 x.w] 45)).ownsRow w.heap.size 45 3 (.slice a F.length cp) F.length (mkRow F)) := (ownsRow_of_block (unhide HO) fun q hq => hb1.block q (unhide HGL q hq).2).alloc _
      have sz1 : (w1.alloc (.cells #[.int .i64 x.d, .int .i64 x.e, .int .i64 x.w] 45)).heap.size = w1.heap.size + 1 := by simp
      clear hb1 HB HO
      go_wp2_with fail
      generalize w1.alloc (.cells #[.int .i64 x.d, .int .i64 x.e, .int .i64 x.w] 45) = W at *
      generalize hmb : w1.heap.size = mb at *
      have y0 := cell_of N1 0
      have y1 := cell_of N1 1
      have y2 := cell_of N1 2
      simp at y0 y1 y2
      have hx0 : ¬ x.d < 0 := by omega
      have hx1 : ¬ (held E j : Int) < x.d := by omega
      have CN := hide ((unhide HC _ (unhide B1).drew).2 j)
      go_region_held3 (fun w' => w'.cell? ⟨mb, 0, none⟩ = some (.int .i64 x.d)) (first | go_keep | trivial) ((go_at_call 18; refine (unhide CN).mono ?_; rintro e w2 ⟨rfl, rfl⟩))
      have D0 : W.drew.cell? ⟨mb, 0, none⟩ = some (.int .i64 x.d) := y0
      have D1 : W.drew.cell? ⟨mb, 1, none⟩ = some (.int .i64 x.e) := y1
      have D2 : W.drew.cell? ⟨mb, 2, none⟩ = some (.int .i64 x.w) := y2
      have BD := hide (unhide B1).drew
      have OD : Hid (W.drew.ownsRow w.heap.size 45 3 (.slice a F.length cp) F.length (mkRow F)) := ownsRow_of_block (unhide HO1) fun q hq => rfl
      have szD : Hid (W.drew.heap.size = mb + 1) := sz1
      have hGD := hide (fun q hq => (unhide OD).lt q hq)
      clear y0 y1 y2 B1 HO1 sz1 N1 CN c6 c8
      generalize W.drew = V at *
      go_wp2_with (at_builtin; go_must (refine wpList_append_lies _ rfl _ _ _ rfl w.heap.size 45 i0 _ 3 24 Try.underlying39 hi0 hz0 hz1 hz2 rfl (by omega) _ F.length (mkRow F) rfl ?own ⟨V.heap.size, 0, none⟩ 1 1 (mkCells x) rfl rfl ?news ?one (by omega) ?h63 ?bytes ?base (V.heap.size + 1) ?hH ?next))
      case own => exact (unhide OD).alloc _
      case news => exact World.news_of_block (heap_alloc_new V _)
      case one =>
        intro u hu
        simp [mkCells] at hu
        rcases hu with rfl | rfl | rfl <;> rfl
      case h63 => unfold maxLen; omega
      case bytes => omega
      case base => have := unhide szD; simp; omega
      case hH => simp
      case next =>
        intro g2 cap2 w2 hown2 hgrow2 hat hlt2
        have hB2 : Hid (Below w.heap.size w w2) := ((unhide BD).alloc (by have := unhide szD; omega) _).grown hgrow2 (by have := unhide szD; simp; omega) (fun q hq => (unhide hGD q hq).1)
        have HN := hide hown2
        clear hown2 hgrow2 hat
        go_wp2
        go_roundw
        case rel =>
          refine ⟨j + 1, cap2, some ⟨g2, 0, none⟩, by omega, by go_num, ?_, ?_, unhide hB2⟩
          · rw [unhide HS]; simp
          · rw [unhide HS, mkRow_append]
            simpa [mkRow] using unhide HN
        case measure => simp [intOf]; omega
    · have e : j = l.length := by omega
      subst e
      have HO := hide hown
      have HB := hide hB
      clear hown hB
      go_wp2
      refine bodyPost_ret (v := .tuple #[.slice a (U l.length).length cp, .bool true]) ?_ rfl ⟨_, rfl, unhide HO, unhide HB⟩
      simp [results, Try.results17, go_sem]

end Go.Proofs.Ytpnkmnmchdabkaa
namespace Go.Proofs.Ytpnkmnmchdabkaa
open Go.RowKit
attribute [local go_sem ↓] Go.wp_at_zero Go.wp_at_succ

/-- Which of n things the number c speaks of. -/
def pickN (c n : Int) : Nat := ((if c < 0 then -(c + 1) else c) % n).toNat
theorem pickN_lt (c n : Int) (hn : 1 ≤ n) : (pickN c n : Int) < n := by
  unfold pickN
  have h0 := Int.emod_nonneg (if c < 0 then -(c + 1) else c) (show n ≠ 0 by omega)
  have h1 := Int.emod_lt_of_pos (if c < 0 then -(c + 1) else c) (show 0 < n by omega)
  omega

set_option maxHeartbeats 400000 in
theorem pick_at (c n : Int) (w : World) (h1 : -9223372036854775808 ≤ c) (h2 : c ≤ 9223372036854775807) (hn : 1 ≤ n) (hn2 : n ≤ 1000) :
    Calls Try.prog 13 #[.int .i64 c, .int .i64 n] w fun e w' => e = .returned (.int .i64 (pickN c n)) ∧ w' = w := by
  have hn0 : ¬ n = 0 := by omega
  have h0 := Int.emod_nonneg (if c < 0 then -(c + 1) else c) hn0
  by_cases hc : c < 0
  · have HR : Hid ((pickN c n : Int) = -(c + 1) % n) := by
      refine hide ?_
      unfold pickN
      rw [if_pos hc] at h0 ⊢
      omega
    clear h0
    go_enter Try.func13, Try.ntmps13
    go_wp2
    go_ret
    exact ⟨ret_int (by rw [unhide HR, ← Int.neg_tmod, Int.tmod_eq_emod_of_nonneg (by omega)]), rfl⟩
  · have HR : Hid ((pickN c n : Int) = c % n) := by
      refine hide ?_
      unfold pickN
      rw [if_neg hc] at h0 ⊢
      omega
    clear h0
    go_enter Try.func13, Try.ntmps13
    go_wp2
    go_ret
    exact ⟨ret_int (by rw [unhide HR]), rfl⟩

/-- A list of shards that came out, as a walk reads it. -/
def Told (w : World) (lb : Nat) (l : List Sh) : Prop :=
  ∀ (i : Nat) (s : Sh), l[i]? = some s → w.cell? ⟨lb, i * 5, none⟩ = some (.int .i64 s.lo) ∧ w.cell? ⟨lb, i * 5 + 1, none⟩ = some (.int .i64 s.hi) ∧ w.cell? ⟨lb, i * 5 + 2, none⟩ = some (.bool s.op) ∧
    ∃ pb pc, w.cell? ⟨lb, i * 5 + 3, none⟩ = some (.slice (some ⟨pb, 0, none⟩) s.par.length pc) ∧ ∀ j (hj : j < s.par.length), w.cell? ⟨pb, j, none⟩ = some (.int .i64 s.par[j])

def ShPost (w : World) (l : List Sh) (e : Ending) (w' : World) : Prop :=
  ∃ lb lcap, e = .returned (.slice (some ⟨lb, 0, none⟩) l.length lcap) ∧ Told w' lb l ∧ w.heap.size ≤ lb ∧ lb < w'.heap.size ∧ Below w.heap.size w w'

theorem shards_at {w : World} {ρ : Nat → Nat} {gb : Nat} {C : Cfg} {now : Rest} {l : List Sh} (hG : Grp w ρ gb C now l) (hI : Inv l) :
    Calls Try.prog 33 #[.pointer (some ⟨gb, 0, none⟩)] w (ShPost w l) := by
  refine (gShards_any w ρ gb C now l hG hI).mono ?_
  rintro e w' ⟨v, k, rfl, hk, hL, hb⟩
  have hkl : k.length = l.length := by rw [← hk]; simp
  have hrow := hL.row
  rw [hkl] at hrow
  obtain ⟨g, cap, cur, hv, hB, hg, _⟩ := ownsRow_shape hrow hI.pos
  subst hv
  refine ⟨g, cap, rfl, ?_, hB, lt_of_heap hg, hb⟩
  intro i s hi
  rw [← hk] at hi
  simp at hi
  obtain ⟨pv, hx⟩ := hi
  have hlt := (List.getElem?_eq_some_iff.1 hx).1
  have hcell : ∀ j, j < 5 → w'.cell? ⟨g, i * 5 + j, none⟩ = (outCells (s, pv))[j]? := by
    intro j hj
    rw [World.ownsRow.cellAt hrow (i * 5 + j) (by omega), listCells_get k i j hj _ hx]
  refine ⟨hcell 0 (by omega), hcell 1 (by omega), hcell 2 (by omega), ?_⟩
  have hpar := hL.par i _ hx
  obtain ⟨pg, hpg⟩ := hL.parS i _ hx
  obtain ⟨pa, pc, hpv⟩ := ownsRow_len hpar
  simp only at hpv hpg hpar
  rw [hpv] at hpg hpar
  have hpa : ∃ pb, pa = some ⟨pb, 0, none⟩ := by
    rcases hpar.2 with ⟨e, _⟩ | ⟨g', cap', cur', e, _⟩
    · injection e with e1
      rw [e1] at hpg; simp [Value.ownBlock] at hpg
    · injection e with e1
      exact ⟨g', e1⟩
  obtain ⟨pb, rfl⟩ := hpa
  refine ⟨pb, pc, (hcell 3 (by omega)).trans (by rw [hpv]; rfl), fun j hj => ?_⟩
  rw [World.ownsRow.cellAt hpar j (by omega)]
  simp [hj]

/-- It stands while only other blocks turn, up to its parents. -/
theorem Told.near {w w' : World} {lb : Nat} {l : List Sh} (h : Told w lb l) (hb : w'.heap[lb]? = w.heap[lb]?) (i : Nat) (s : Sh) (hi : l[i]? = some s) :
    w'.cell? ⟨lb, i * 5, none⟩ = some (.int .i64 s.lo) ∧ w'.cell? ⟨lb, i * 5 + 1, none⟩ = some (.int .i64 s.hi) ∧ w'.cell? ⟨lb, i * 5 + 2, none⟩ = some (.bool s.op) := by
  obtain ⟨a, b, c, _⟩ := h i s hi
  have hc : ∀ j, w'.cell? ⟨lb, j, none⟩ = w.cell? ⟨lb, j, none⟩ := fun j => World.cell?_of_block (w := w) hb
  exact ⟨(hc _).trans a, (hc _).trans b, (hc _).trans c⟩

/-- The law's own number of shards is written. -/
theorem crew_count {N : Nat} {w : World} {ρ : Nat → Nat} {cb gb : Nat} {C : Cfg} {now : Rest} {l : List Sh} {E : List En} {n : Nat} (n' : Nat) (v : Int) (hv : v = n') {ev : Value} (hG : Grp w ρ gb C now l) (hl : l.length ≤ 16)
    (hblk : w.heap[cb]? = some (.cells (crewArr C gb ev n) 31 (0, 0))) (hrow : w.ownsRow 0 59 5 ev E.length (entCells E)) (hT : ∀ k, ev.ownBlock = some k → ρ k = 101) (htag : ρ cb = 100) (hf : Fits w ρ) (hlow : ∀ k, ρ k ≠ 0 → N ≤ k) (hN : N ≤ w.heap.size) :
    (∃ ev', (w.setCell ⟨cb, 8, none⟩ (.int .i64 v)).heap[cb]? = some (.cells (crewArr C gb ev' n') 31 (0, 0)) ∧ (w.setCell ⟨cb, 8, none⟩ (.int .i64 v)).ownsRow 0 59 5 ev' E.length (entCells E) ∧ ∀ k, ev'.ownBlock = some k → ρ k = 101) ∧
      Grp (w.setCell ⟨cb, 8, none⟩ (.int .i64 v)) ρ gb C now l ∧ Fits (w.setCell ⟨cb, 8, none⟩ (.int .i64 v)) ρ ∧ Below N w (w.setCell ⟨cb, 8, none⟩ (.int .i64 v)) := by
  subst hv
  have hk : Keeps (fun k => k = cb) w (w.setCell ⟨cb, 8, none⟩ (.int .i64 n')) := (Keeps.refl (fun k => k = cb) w).setCell (p := ⟨cb, 8, none⟩) (Or.inl rfl) _
  obtain ⟨sv, m, rfl, G⟩ := hG
  refine ⟨⟨ev, ?_, ?_, hT⟩, ⟨sv, m, rfl, G.keeps hk (fun k e => Or.inl fun hm => by subst e; unfold mine at hm; omega) (fun _ _ => rfl) (by simpa using hl)⟩, fun k hkk => hf k (by simpa [World.setCell] using hkk), hk.below hN fun k _ e => hlow k (by rw [e, htag]; omega)⟩
  · rw [heap_setCell_same hblk]; rfl
  · exact ownsRow_keeps hrow hk (fun k hkk e => by subst e; have := hT _ hkk; omega)

theorem low_count {N : Nat} {X : Nat → Option Obj} {w : World} {ρ : Nat → Nat} {cb : Nat} (h : Low N X w ρ) (htag : ρ cb = 100) (v : Value) : Low N X (w.setCell ⟨cb, 8, none⟩ v) ρ :=
  h.still ((Keeps.refl (fun k => k = cb) w).setCell (p := ⟨cb, 8, none⟩) (Or.inl rfl) v) (fun k _ e => by subst e; omega)

end Go.Proofs.Ytpnkmnmchdabkaa
