import Derived.Test.YtpnkmnmchdabkaaM11
import Derived.Test.YtpnkmnmchdabkaaM10
namespace Go.Proofs.Ytpnkmnmchdabkaa
open Go.RowKit
attribute [local go_sem ↓] Go.wp_at_zero Go.wp_at_succ

/-- A place with nothing in it. -/
def pl0 : Pl := ⟨false, ⟨0, 0, 0, 0⟩, false, 0, 0⟩
/-- The first k places of worker i are empty. -/
def forgetP (P : List Pl) (i : Nat) : Nat → List Pl
  | 0 => P
  | k + 1 => (forgetP P i k).set (i * 16 + k) pl0

theorem forgetP_len (P : List Pl) (i k : Nat) : (forgetP P i k).length = P.length := by
  induction k with
  | zero => rfl
  | succ k ih => simp [forgetP, ih]

theorem forget_chain {w : World} {g cap N : Nat} {P : List Pl} (h : PlsAt w g cap N P) {i n : Nat} {p : Pl} (hp : P[i * 16 + n]? = some p) :
    PlsAt ((((((((w.setCell ⟨g, i * 128 + n * 8, none⟩ (.bool false)).setCell ⟨g, i * 128 + n * 8 + 1, none⟩ (.int .i64 0)).setCell ⟨g, i * 128 + n * 8 + 2, none⟩ (.int .i64 0)).setCell ⟨g, i * 128 + n * 8 + 3, none⟩ (.int .i64 0)).setCell ⟨g, i * 128 + n * 8 + 4, none⟩ (.int .i64 0)).setCell ⟨g, i * 128 + n * 8 + 5, none⟩ (.bool false)).setCell ⟨g, i * 128 + n * 8 + 6, none⟩ (.int .i64 0)).setCell ⟨g, i * 128 + n * 8 + 7, none⟩ (.int .i64 0)) g cap N (P.set (i * 16 + n) pl0) ∧ Keeps (fun k => k = g) w ((((((((w.setCell ⟨g, i * 128 + n * 8, none⟩ (.bool false)).setCell ⟨g, i * 128 + n * 8 + 1, none⟩ (.int .i64 0)).setCell ⟨g, i * 128 + n * 8 + 2, none⟩ (.int .i64 0)).setCell ⟨g, i * 128 + n * 8 + 3, none⟩ (.int .i64 0)).setCell ⟨g, i * 128 + n * 8 + 4, none⟩ (.int .i64 0)).setCell ⟨g, i * 128 + n * 8 + 5, none⟩ (.bool false)).setCell ⟨g, i * 128 + n * 8 + 6, none⟩ (.int .i64 0)).setCell ⟨g, i * 128 + n * 8 + 7, none⟩ (.int .i64 0)) := by
  have s1 := h.set (j := 0) (by omega) { p with held := false } hp (.bool false) rfl
  have s2 := s1.set (j := 1) (by omega) { p with held := false, h := ⟨0, p.h.ep, p.h.at_, p.h.bf⟩ } (get_set_at hp) (.int .i64 0) rfl
  rw [set_set_at] at s2
  have s3 := s2.set (j := 2) (by omega) { p with held := false, h := ⟨0, 0, p.h.at_, p.h.bf⟩ } (get_set_at hp) (.int .i64 0) rfl
  rw [set_set_at] at s3
  have s4 := s3.set (j := 3) (by omega) { p with held := false, h := ⟨0, 0, 0, p.h.bf⟩ } (get_set_at hp) (.int .i64 0) rfl
  rw [set_set_at] at s4
  have s5 := s4.set (j := 4) (by omega) ⟨false, ⟨0, 0, 0, 0⟩, p.made, p.c, p.s⟩ (get_set_at hp) (.int .i64 0) rfl
  rw [set_set_at] at s5
  have s6 := s5.set (j := 5) (by omega) ⟨false, ⟨0, 0, 0, 0⟩, false, p.c, p.s⟩ (get_set_at hp) (.bool false) rfl
  rw [set_set_at] at s6
  have s7 := s6.set (j := 6) (by omega) ⟨false, ⟨0, 0, 0, 0⟩, false, 0, p.s⟩ (get_set_at hp) (.int .i64 0) rfl
  rw [set_set_at] at s7
  have s8 := s7.set (j := 7) (by omega) pl0 (get_set_at hp) (.int .i64 0) rfl
  rw [set_set_at] at s8
  refine ⟨s8, ?_⟩
  iterate 8 refine Keeps.setCell (S := fun k => k = g) ?_ (by exact Or.inl rfl) _
  exact Keeps.refl _ w

set_option maxRecDepth 100000 in
set_option maxHeartbeats 1000000 in
theorem plForget_any (w : World) (g cap N : Nat) (P : List Pl) (i : Nat) (hi : i < N) (h : PlsAt w g cap N P) :
    Calls Try.prog 57 #[.pointer (some ⟨g, i * 128, none⟩)] w fun e w' => e = .returned (.tuple #[]) ∧ PlPost w g cap N (forgetP P i 16) w' := by
  have HP := hide h
  have hlen := h.len
  clear h
  go_enter Try.func57, Try.ntmps57
  go_wp2
  go_loopw [2] (fun n wr => ∃ k : Nat, k ≤ 16 ∧ n = .int .i64 k ∧ PlPost w g cap N (forgetP P i k) wr) (fun n _ => 16 - (intOf n).toNat)
  case atStart => exact ⟨0, by omega, rfl, unhide HP, Keeps.refl _ w⟩
  case round =>
    obtain ⟨k, hk, rfl, q1, q2⟩ := hrel
    by_cases hlt : k < 16
    · have hl : i * 16 + k < (forgetP P i k).length := by rw [forgetP_len]; omega
      have hp := List.getElem?_eq_getElem hl
      generalize (forgetP P i k)[i * 16 + k] = p at hp
      have HC := hide (forget_chain q1 hp)
      obtain ⟨hll, a0, a1, a2, a3, a4, a5, a6, a7, fr⟩ := q1.place hp
      have b2 : wr.cell? ⟨g, i * 128 + k * 8 + 2, none⟩ = some (.int .i64 p.h.ep) := a2
      have b3 : wr.cell? ⟨g, i * 128 + k * 8 + 3, none⟩ = some (.int .i64 p.h.at_) := a3
      have b4 : wr.cell? ⟨g, i * 128 + k * 8 + 4, none⟩ = some (.int .i64 p.h.bf) := a4
      have b6 : wr.cell? ⟨g, i * 128 + k * 8 + 6, none⟩ = some (.int .i64 p.c) := a6
      have b7 : wr.cell? ⟨g, i * 128 + k * 8 + 7, none⟩ = some (.int .i64 p.s) := a7
      have f0 := fr (i * 128 + k * 8)
      have f1 := fr (i * 128 + k * 8 + 1)
      have f2 := fr (i * 128 + k * 8 + 2)
      have f3 := fr (i * 128 + k * 8 + 3)
      have f4 := fr (i * 128 + k * 8 + 4)
      have f5 := fr (i * 128 + k * 8 + 5)
      have f6 := fr (i * 128 + k * 8 + 6)
      have f7 := fr (i * 128 + k * 8 + 7)
      have Q2 := hide q2
      clear q1 q2 hp hl fr a2 a3 a4 a6 a7
      go_wp2
      go_roundw
      case rel => exact ⟨k + 1, by omega, by go_num, (unhide HC).1, (unhide Q2).trans (unhide HC).2⟩
      case measure => simp [intOf]; omega
    · have e : k = 16 := by omega
      subst e
      have Q1 := hide q1
      have Q2 := hide q2
      clear q1 q2
      go_wp2
      go_end0
      exact ⟨rfl, unhide Q1, unhide Q2⟩
end Go.Proofs.Ytpnkmnmchdabkaa
namespace Go.Proofs.Ytpnkmnmchdabkaa
open Go.RowKit
attribute [local go_sem ↓] Go.wp_at_zero Go.wp_at_succ

/-- The holds of worker i for the first k shards. -/
def heldOf (P : List Pl) (i : Nat) : Nat → List Hd
  | 0 => []
  | k + 1 => heldOf P i k ++ (match P[i * 16 + k]? with | some p => if p.held = true then [p.h] else [] | none => [])

theorem heldOf_le (P : List Pl) (i k : Nat) : (heldOf P i k).length ≤ k := by
  induction k with
  | zero => simp [heldOf]
  | succ k ih =>
    rw [heldOf, List.length_append]
    cases P[i * 16 + k]? with
    | none => simp; omega
    | some p => by_cases h : p.held = true <;> simp [h] <;> omega

set_option maxRecDepth 100000 in
set_option maxHeartbeats 4000000 in
theorem plHolds_any (w : World) (g cap N : Nat) (P : List Pl) (i : Nat) (hi : i < N) (h : PlsAt w g cap N P) :
    Calls Try.prog 64 #[.pointer (some ⟨g, i * 128, none⟩)] w fun e w' => ∃ v, e = .returned v ∧ w'.ownsRow w.heap.size 75 4 v (heldOf P i 16).length (rowHd (heldOf P i 16)) ∧ Below w.heap.size w w' := by
  obtain ⟨i0, hi0, hz0, hz1, hz2⟩ := info_parts infoHold
  have hlen := h.len
  have HX : Hid (∀ W, Below w.heap.size w W → PlsAt W g cap N P) := fun W hb => h.block (hb.block g h.lt)
  have hg := h.lt
  have HS0 : Hid ((w.alloc (.cells #[] 75)).ownsRow w.heap.size 75 4 (.slice (some ⟨w.heap.size, 0, none⟩) 0 0) 0 []) := ⟨rfl, .inr ⟨w.heap.size, 0, #[], rfl, Nat.le_refl _, heap_alloc_new w _, Nat.le_refl _, by unfold maxLen; omega, rfl, rfl⟩⟩
  clear h
  go_enter Try.func64, Try.ntmps64
  go_wp2
  go_loopw [3, 4] (fun p q wr => ∃ (j cp : Nat) (a : Option Addr), j ≤ 16 ∧ q = .int .i64 j ∧ p = .slice a (heldOf P i j).length cp ∧ wr.ownsRow w.heap.size 75 4 (.slice a (heldOf P i j).length cp) (heldOf P i j).length (rowHd (heldOf P i j)) ∧ Below w.heap.size w wr) (fun _ q _ => 16 - (intOf q).toNat)
  case atStart => exact ⟨0, 0, some ⟨w.heap.size, 0, none⟩, Nat.zero_le _, rfl, rfl, unhide HS0, (Below.refl _ w).alloc (Nat.le_refl _) _⟩
  case round =>
    obtain ⟨j, cp, a, hj, rfl, rfl, hown, hB⟩ := hrel
    by_cases hlt : j < 16
    · have hl : i * 16 + j < P.length := by omega
      have hp := List.getElem?_eq_getElem hl
      generalize P[i * 16 + j] = p at hp
      have HS : Hid (heldOf P i (j + 1) = heldOf P i j ++ (if p.held = true then [p.h] else [])) := by
        unfold Hid
        rw [heldOf, hp]
      obtain ⟨_, a0, a1, a2, a3, a4, _⟩ := (unhide HX wr hB).place hp
      have hle : (heldOf P i j).length ≤ 16 := by have := heldOf_le P i j; omega
      have HO := hide hown
      have HB := hide hB
      have hws := hB.size
      have HGL := hide (fun q hq => hown.lt q hq)
      cases hh : p.held
      · rw [hh] at a0 HS
        clear hown hB hp hl
        go_wp2
        go_roundw
        case rel =>
          refine ⟨j + 1, cp, a, by omega, by go_num, ?_, ?_, unhide HB⟩
          · rw [unhide HS]; simp
          · rw [unhide HS]; simpa using unhide HO
        case measure => simp [intOf]; omega
      · rw [hh] at a0 HS
        clear hown hB hp hl
        generalize hFF : heldOf P i j = F at *
        clear hFF
        go_wp2_with (at_builtin; go_must (refine wpList_append_lies _ rfl _ _ _ rfl w.heap.size 75 i0 _ 4 32 Try.underlying66 hi0 hz0 hz1 hz2 rfl (by omega) _ F.length (rowHd F) rfl ?own ⟨wr.heap.size, 0, none⟩ 1 1 (hdCells p.h) rfl rfl ?news ?one (by omega) ?h63 ?bytes ?base (wr.heap.size + 1) ?hH ?next))
        case own => exact (unhide HO).alloc _
        case news => exact fun _ _ hj => hj
        case one =>
          intro u hu
          simp [hdCells] at hu
          rcases hu with rfl | rfl | rfl | rfl <;> rfl
        case h63 => unfold maxLen; omega
        case bytes => omega
        case base => omega
        case next =>
          intro g2 cap2 w2 hown2 hgrow2 hat hlt2
          have hB2 : Hid (Below w.heap.size w w2) := ((unhide HB).alloc hws _).grown hgrow2 (by simp; omega) (fun q hq => (unhide HGL q hq).1)
          have HN := hide hown2
          clear hown2 hgrow2 hat
          go_wp2
          go_roundw
          case rel =>
            refine ⟨j + 1, cap2, some ⟨g2, 0, none⟩, by omega, by go_num, ?_, ?_, unhide hB2⟩
            · rw [unhide HS]; simp
            · rw [unhide HS, if_pos trivial, rowHd_append]
              simpa [rowHd] using unhide HN
          case measure => simp [intOf]; omega
    · have e : j = 16 := by omega
      subst e
      have HO := hide hown
      have HB := hide hB
      clear hown hB
      go_wp2
      go_ret
      exact ⟨_, rfl, unhide HO, unhide HB⟩
end Go.Proofs.Ytpnkmnmchdabkaa
namespace Go.Proofs.Ytpnkmnmchdabkaa
open Go.RowKit

/-- The log stands where only the group's own block, the workers' row and what is not the program's is written. -/
theorem LogAt.keepsT {S : Nat → Prop} {w w' : World} {ρ : Nat → Nat} {sv : Value} {m : List Cs} (h : LogAt w ρ sv m) (hk : Keeps S w w') (hS : ∀ k, k < w.heap.size → S k → ρ k < 2 ∨ 40 ≤ ρ k) (hm : m.length ≤ 16) : LogAt w' ρ sv m := by
  have lt : ∀ {i : Nat} {s : Cs}, m[i]? = some s → i < 16 := fun hi => by have := (List.getElem?_eq_some_iff.1 hi).1; omega
  refine ⟨?_, h.rowT, ?_, h.parT, ?_, h.rcT⟩
  · refine ownsRow_keeps h.row hk fun k hkk hs => ?_
    have := h.rowT k hkk; have := hS k (h.row.lt k hkk).2 hs
    omega
  · intro i s hi
    refine ownsRow_keeps (h.par i s hi) hk fun k hkk hs => ?_
    have := h.parT i s hi k hkk; have := hS k ((h.par i s hi).lt k hkk).2 hs; have := lt hi
    omega
  · intro i s hi
    have hx := h.rcv i s hi
    refine ownsRow_keeps hx hk fun k hkk hs => ?_
    have := h.rcT i s hi k hkk; have := hS k (hx.lt k hkk).2 hs; have := lt hi
    omega

/-- The group with its workers' places. -/
structure GrpL (w : World) (ρ : Nat → Nat) (gb : Nat) (C : Cfg) (now : Rest) (sv : Value) (m : List Cs) (g cap : Nat) (P : List Pl) : Prop where
  G : GrpAt w ρ gb C now sv m
  hw : now.wv = .slice (some ⟨g, 0, none⟩) now.n cap
  hm : now.mem = plsCells P
  hl : P.length = now.n * 16
  le : m.length ≤ 16
  fits : Fits w ρ

def grpA (C : Cfg) (sv : Value) (now : Rest) : List Value := [.int .i64 C.a, .int .i64 C.l, .int .i64 C.b, .int .i64 C.n, .int .i64 C.s, .int .i64 C.t, .int .i64 now.t, sv] ++ now.dn.map (Value.int .i64)
theorem grpArr_A (C : Cfg) (sv : Value) (now : Rest) : grpArr C sv now = (grpA C sv now ++ (leCells now.ls ++ [now.wv])).toArray := by
  unfold grpArr grpA Rest.cells
  simp
theorem grpA_len (C : Cfg) (sv : Value) (now : Rest) (h : now.dn.length = 32) : (grpA C sv now).length = 40 := by
  unfold grpA; simp [h]

theorem GrpL.pls {w : World} {ρ : Nat → Nat} {gb : Nat} {C : Cfg} {now : Rest} {sv : Value} {m : List Cs} {g cap : Nat} {P : List Pl} (h : GrpL w ρ gb C now sv m g cap P) : PlsAt w g cap now.n P :=
  ⟨by have := h.G.wk; rw [h.hw, h.hm] at this; exact this, h.hl⟩
theorem GrpL.gT {w : World} {ρ : Nat → Nat} {gb : Nat} {C : Cfg} {now : Rest} {sv : Value} {m : List Cs} {g cap : Nat} {P : List Pl} (h : GrpL w ρ gb C now sv m g cap P) : ρ g = 40 ∧ ρ gb = 1 ∧ gb < w.heap.size ∧ g < w.heap.size :=
  ⟨h.G.wkT g (by rw [h.hw]; rfl), h.G.tag, lt_of_heap h.G.blk, h.pls.lt⟩
theorem GrpL.row {w : World} {ρ : Nat → Nat} {gb : Nat} {C : Cfg} {now : Rest} {sv : Value} {m : List Cs} {g cap : Nat} {P : List Pl} (h : GrpL w ρ gb C now sv m g cap P) : LeRow w gb 94 (grpA C sv now) now.ls [now.wv] :=
  ⟨by rw [← grpArr_A]; exact h.G.blk, h.G.lsL⟩
theorem GrpL.wcell {w : World} {ρ : Nat → Nat} {gb : Nat} {C : Cfg} {now : Rest} {sv : Value} {m : List Cs} {g cap : Nat} {P : List Pl} (h : GrpL w ρ gb C now sv m g cap P) : w.cell? ⟨gb, 88, none⟩ = some (.slice (some ⟨g, 0, none⟩) now.n cap) := by
  rw [cell_of h.G.blk, grpArr_A, List.getElem?_toArray, List.getElem?_append_right (by rw [grpA_len _ _ _ h.G.dnL]; omega), grpA_len _ _ _ h.G.dnL, List.getElem?_append_right (by rw [leCells_len, h.G.lsL]; omega), leCells_len, h.G.lsL]
  simp [h.hw]
theorem GrpL.dcell {w : World} {ρ : Nat → Nat} {gb : Nat} {C : Cfg} {now : Rest} {sv : Value} {m : List Cs} {g cap : Nat} {P : List Pl} (h : GrpL w ρ gb C now sv m g cap P) (j : Nat) (d : Int) (hj : now.dn[j]? = some d) : w.cell? ⟨gb, 8 + j, none⟩ = some (.int .i64 d) := by
  have hlt := (List.getElem?_eq_some_iff.1 hj).1
  have := h.G.dnL
  rw [cell_of h.G.blk, grpArr_A, List.getElem?_toArray, List.getElem?_append_left (by rw [grpA_len _ _ _ h.G.dnL]; omega)]
  unfold grpA
  rw [List.getElem?_append_right (by simp)]
  simp [hj]
theorem GrpL.tcell {w : World} {ρ : Nat → Nat} {gb : Nat} {C : Cfg} {now : Rest} {sv : Value} {m : List Cs} {g cap : Nat} {P : List Pl} (h : GrpL w ρ gb C now sv m g cap P) : w.cell? ⟨gb, 6, none⟩ = some (.int .i64 now.t) ∧ w.cell? ⟨gb, 7, none⟩ = some sv ∧ w.cell? ⟨gb, 1, none⟩ = some (.int .i64 C.l) ∧ w.cell? ⟨gb, 2, none⟩ = some (.int .i64 C.b) :=
  ⟨cell_of h.G.blk 6, cell_of h.G.blk 7, cell_of h.G.blk 1, cell_of h.G.blk 2⟩

theorem GrpL.setPl {w w' : World} {ρ : Nat → Nat} {gb : Nat} {C : Cfg} {now : Rest} {sv : Value} {m : List Cs} {g cap : Nat} {P P' : List Pl} (h : GrpL w ρ gb C now sv m g cap P) (hp : PlPost w g cap now.n P' w') : GrpL w' ρ gb C { now with mem := plsCells P' } sv m g cap P' ∧ Keeps (mine ρ) w w' := by
  obtain ⟨t1, t2, l1, l2⟩ := h.gT
  have hk := hp.2
  refine ⟨⟨⟨?_, h.G.tag, h.G.log.keepsT hk (fun k _ e => by subst e; omega) h.le, ?_, h.G.wkT, h.G.dnL, h.G.lsL⟩, h.hw, rfl, hp.1.len, h.le, fun k hk' => h.fits k (by have := hk.size; omega)⟩, hk.mono fun k _ e => by subst e; unfold mine; omega⟩
  · rw [hk.block gb l1 (by rintro rfl; omega)]; exact h.G.blk
  · have := hp.1.row
    simpa [h.hw] using this

theorem GrpL.setLe {w w' : World} {ρ : Nat → Nat} {gb : Nat} {C : Cfg} {now : Rest} {sv : Value} {m : List Cs} {g cap : Nat} {P : List Pl} {ls' : List Le} (h : GrpL w ρ gb C now sv m g cap P) (hp : LePost w gb 94 (grpA C sv now) ls' [now.wv] w') : GrpL w' ρ gb C { now with ls := ls' } sv m g cap P ∧ Keeps (mine ρ) w w' := by
  obtain ⟨t1, t2, l1, l2⟩ := h.gT
  have hk := hp.2
  refine ⟨⟨⟨?_, h.G.tag, h.G.log.keepsT hk (fun k _ e => by subst e; omega) h.le, ?_, h.G.wkT, h.G.dnL, hp.1.len⟩, h.hw, h.hm, h.hl, h.le, fun k hk' => h.fits k (by have := hk.size; omega)⟩, hk.mono fun k _ e => by subst e; unfold mine; omega⟩
  · rw [hp.1.blk, grpArr_A]; rfl
  · refine ownsRow_keeps h.G.wk hk fun k hkk e => ?_
    subst e
    have := h.G.wkT _ hkk
    omega

theorem GrpL.below {w w' : World} {ρ : Nat → Nat} {gb : Nat} {C : Cfg} {now : Rest} {sv : Value} {m : List Cs} {g cap : Nat} {P : List Pl} (h : GrpL w ρ gb C now sv m g cap P) (hb : Below w.heap.size w w') : GrpL w' ρ gb C now sv m g cap P ∧ Keeps (mine ρ) w w' :=
  ⟨⟨h.G.keeps (Keeps.of_below hb) (fun j hj => Or.inr hj) (fun _ _ => rfl) h.le, h.hw, h.hm, h.hl, h.le, fun k hk => h.fits k (by have := hb.size; omega)⟩, (Keeps.of_below hb).mono fun k hk hs => by omega⟩

/-- A store into the marks. -/
theorem GrpL.setDn {w : World} {ρ : Nat → Nat} {gb : Nat} {C : Cfg} {now : Rest} {sv : Value} {m : List Cs} {g cap : Nat} {P : List Pl} (h : GrpL w ρ gb C now sv m g cap P) (j : Nat) (hj : j < 32) (v : Int) : GrpL (w.setCell ⟨gb, 8 + j, none⟩ (.int .i64 v)) ρ gb C { now with dn := now.dn.set j v } sv m g cap P ∧ Keeps (mine ρ) w (w.setCell ⟨gb, 8 + j, none⟩ (.int .i64 v)) := by
  obtain ⟨t1, t2, l1, l2⟩ := h.gT
  have hk : Keeps (fun k => k = gb) w (w.setCell ⟨gb, 8 + j, none⟩ (.int .i64 v)) := Keeps.setCell (S := fun k => k = gb) (Keeps.refl _ w) (by exact Or.inl rfl) _
  refine ⟨⟨⟨?_, h.G.tag, h.G.log.keepsT hk (fun k _ e => by subst e; omega) h.le, ?_, h.G.wkT, by simpa using h.G.dnL, h.G.lsL⟩, h.hw, h.hm, h.hl, h.le, fun k hk' => h.fits k (by simpa [World.setCell] using hk')⟩, hk.mono fun k _ e => by subst e; unfold mine; omega⟩
  · have hd := h.G.dnL
    rw [heap_setCell_same h.G.blk, grpArr_A, grpArr_A, List.setIfInBounds_toArray, List.set_append_left _ _ (by rw [grpA_len _ _ _ hd]; omega)]
    unfold grpA
    rw [List.set_append_right _ _ (by simp)]
    simp [List.map_set]
  · refine ownsRow_keeps h.G.wk hk fun k hkk e => ?_
    subst e
    have := h.G.wkT _ hkk
    omega

/-- What a call leaves of the group, its log where it was. -/
def LP (w : World) (ρ : Nat → Nat) (gb : Nat) (C : Cfg) (now : Rest) (sv : Value) (m : List Cs) (g cap : Nat) (P : List Pl) (w' : World) : Prop := GrpL w' ρ gb C now sv m g cap P ∧ Keeps (mine ρ) w w'
theorem LP.refl {w : World} {ρ : Nat → Nat} {gb : Nat} {C : Cfg} {now : Rest} {sv : Value} {m : List Cs} {g cap : Nat} {P : List Pl} (h : GrpL w ρ gb C now sv m g cap P) : LP w ρ gb C now sv m g cap P w := ⟨h, Keeps.refl _ w⟩
theorem LP.trans {w w1 w2 : World} {ρ : Nat → Nat} {gb : Nat} {C : Cfg} {now now' : Rest} {sv : Value} {m : List Cs} {g cap : Nat} {P P' : List Pl} (h : LP w ρ gb C now sv m g cap P w1) (h' : LP w1 ρ gb C now' sv m g cap P' w2) : LP w ρ gb C now' sv m g cap P' w2 := ⟨h'.1, h.2.trans h'.2⟩

theorem gOf_any {w : World} {ρ : Nat → Nat} {gb : Nat} {C : Cfg} {now : Rest} {sv : Value} {m : List Cs} {g cap : Nat} {P : List Pl} (h : GrpL w ρ gb C now sv m g cap P) (n : Nat) (x : Le) (hx : now.ls[n]? = some x) :
    Calls Try.prog 65 #[.pointer (some ⟨gb, 40, none⟩), .int .i64 n] w fun e w' => e = .returned (.agg #[.int .i64 x.o, .int .i64 x.c, .int .i64 x.e]) ∧ LP w ρ gb C now sv m g cap P w' := by
  have := rowOf_any w gb _ _ _ _ n x h.row hx
  rw [grpA_len _ _ _ h.G.dnL] at this
  exact this.mono fun _ _ q => ⟨q.1, h.below q.2⟩
theorem gGive_any {w : World} {ρ : Nat → Nat} {gb : Nat} {C : Cfg} {now : Rest} {sv : Value} {m : List Cs} {g cap : Nat} {P : List Pl} (h : GrpL w ρ gb C now sv m g cap P) (n : Nat) (x : Le) (hx : now.ls[n]? = some x) (wk : Int) :
    Calls Try.prog 88 #[.pointer (some ⟨gb, 40, none⟩), .int .i64 n, .int .i64 wk] w fun e w' => e = .returned (.int .i64 (inc x.e)) ∧ LP w ρ gb C { now with ls := now.ls.set n ⟨wk, inc x.c, inc x.e⟩ } sv m g cap P w' := by
  have := rowGive_any w gb _ _ _ _ n x wk h.row hx
  rw [grpA_len _ _ _ h.G.dnL] at this
  exact this.mono fun _ _ q => ⟨q.1, h.setLe q.2⟩
theorem gLRenew_any {w : World} {ρ : Nat → Nat} {gb : Nat} {C : Cfg} {now : Rest} {sv : Value} {m : List Cs} {g cap : Nat} {P : List Pl} (h : GrpL w ρ gb C now sv m g cap P) (n : Nat) (x : Le) (hx : now.ls[n]? = some x) :
    Calls Try.prog 85 #[.pointer (some ⟨gb, 40, none⟩), .int .i64 n] w fun e w' => e = .returned (.tuple #[]) ∧ LP w ρ gb C { now with ls := now.ls.set n { x with c := inc x.c } } sv m g cap P w' := by
  have := rowRenew_any w gb _ _ _ _ n x h.row hx
  rw [grpA_len _ _ _ h.G.dnL] at this
  exact this.mono fun _ _ q => ⟨q.1, h.setLe q.2⟩
theorem gFree_any {w : World} {ρ : Nat → Nat} {gb : Nat} {C : Cfg} {now : Rest} {sv : Value} {m : List Cs} {g cap : Nat} {P : List Pl} (h : GrpL w ρ gb C now sv m g cap P) (n : Nat) (x : Le) (hx : now.ls[n]? = some x) :
    Calls Try.prog 84 #[.pointer (some ⟨gb, 40, none⟩), .int .i64 n] w fun e w' => e = .returned (.tuple #[]) ∧ LP w ρ gb C { now with ls := now.ls.set n ⟨-1, inc x.c, x.e⟩ } sv m g cap P w' := by
  have := rowFree_any w gb _ _ _ _ n x h.row hx
  rw [grpA_len _ _ _ h.G.dnL] at this
  exact this.mono fun _ _ q => ⟨q.1, h.setLe q.2⟩
theorem gHold_any {w : World} {ρ : Nat → Nat} {gb : Nat} {C : Cfg} {now : Rest} {sv : Value} {m : List Cs} {g cap : Nat} {P : List Pl} (h : GrpL w ρ gb C now sv m g cap P) (i n : Nat) (hn : n < 16) (p : Pl) (hp : P[i * 16 + n]? = some p) :
    Calls Try.prog 55 #[.pointer (some ⟨g, i * 128, none⟩), .int .i64 n] w fun e w' => e = .returned (.tuple #[if p.held = true then .agg #[.int .i64 p.h.sh, .int .i64 p.h.ep, .int .i64 p.h.at_, .int .i64 p.h.bf] else .agg #[.int .i64 0, .int .i64 0, .int .i64 0, .int .i64 0], .bool p.held]) ∧ LP w ρ gb C now sv m g cap P w' :=
  (plHold_any w g cap now.n P i n hn p h.pls hp).mono fun _ _ q => ⟨q.1, h.below q.2⟩
theorem gKeep_any {w : World} {ρ : Nat → Nat} {gb : Nat} {C : Cfg} {now : Rest} {sv : Value} {m : List Cs} {g cap : Nat} {P : List Pl} (h : GrpL w ρ gb C now sv m g cap P) (i n : Nat) (hn : n < 16) (p : Pl) (hp : P[i * 16 + n]? = some p) (ep at_ bf : Int) :
    Calls Try.prog 60 #[.pointer (some ⟨g, i * 128, none⟩), .agg #[.int .i64 n, .int .i64 ep, .int .i64 at_, .int .i64 bf]] w fun e w' => e = .returned (.tuple #[]) ∧ LP w ρ gb C { now with mem := plsCells (P.set (i * 16 + n) { p with held := true, h := ⟨n, ep, at_, bf⟩ }) } sv m g cap (P.set (i * 16 + n) { p with held := true, h := ⟨n, ep, at_, bf⟩ }) w' :=
  (plKeep_any w g cap now.n P i n hn p ep at_ bf h.pls hp).mono fun _ _ q => ⟨q.1, h.setPl q.2⟩
theorem gDrop_any {w : World} {ρ : Nat → Nat} {gb : Nat} {C : Cfg} {now : Rest} {sv : Value} {m : List Cs} {g cap : Nat} {P : List Pl} (h : GrpL w ρ gb C now sv m g cap P) (i n : Nat) (hn : n < 16) (p : Pl) (hp : P[i * 16 + n]? = some p) :
    Calls Try.prog 83 #[.pointer (some ⟨g, i * 128, none⟩), .int .i64 n] w fun e w' => e = .returned (.tuple #[]) ∧ LP w ρ gb C { now with mem := plsCells (P.set (i * 16 + n) { p with held := false, h := ⟨0, 0, 0, 0⟩ }) } sv m g cap (P.set (i * 16 + n) { p with held := false, h := ⟨0, 0, 0, 0⟩ }) w' :=
  (plDrop_any w g cap now.n P i n hn p h.pls hp).mono fun _ _ q => ⟨q.1, h.setPl q.2⟩
theorem gNote_any {w : World} {ρ : Nat → Nat} {gb : Nat} {C : Cfg} {now : Rest} {sv : Value} {m : List Cs} {g cap : Nat} {P : List Pl} (h : GrpL w ρ gb C now sv m g cap P) (i n : Nat) (hn : n < 16) (p : Pl) (hp : P[i * 16 + n]? = some p) (c s : Int) :
    Calls Try.prog 86 #[.pointer (some ⟨g, i * 128, none⟩), .int .i64 n, .int .i64 c, .int .i64 s] w fun e w' => e = .returned (.tuple #[]) ∧ LP w ρ gb C { now with mem := plsCells (P.set (i * 16 + n) (noted p c s)) } sv m g cap (P.set (i * 16 + n) (noted p c s)) w' :=
  (plNote_any w g cap now.n P i n hn p c s h.pls hp).mono fun _ _ q => ⟨q.1, h.setPl q.2⟩
theorem gNoted_any {w : World} {ρ : Nat → Nat} {gb : Nat} {C : Cfg} {now : Rest} {sv : Value} {m : List Cs} {g cap : Nat} {P : List Pl} (h : GrpL w ρ gb C now sv m g cap P) (i n : Nat) (hn : n < 16) (p : Pl) (hp : P[i * 16 + n]? = some p) (c s u : Int) :
    Calls Try.prog 108 #[.pointer (some ⟨g, i * 128, none⟩), .int .i64 n, .int .i64 c, .int .i64 s, .int .i64 u] w fun e w' => e = .returned (.bool (p.made && decide (p.c = c) && decide (u ≤ dif s p.s))) ∧ LP w ρ gb C now sv m g cap P w' :=
  (memNoted_any g (i * 128) n hn p c s u w (h.pls.place hp)).mono fun _ _ q => ⟨q.1, h.below q.2⟩
theorem gForget_any {w : World} {ρ : Nat → Nat} {gb : Nat} {C : Cfg} {now : Rest} {sv : Value} {m : List Cs} {g cap : Nat} {P : List Pl} (h : GrpL w ρ gb C now sv m g cap P) (i : Nat) (hi : i < now.n) :
    Calls Try.prog 57 #[.pointer (some ⟨g, i * 128, none⟩)] w fun e w' => e = .returned (.tuple #[]) ∧ LP w ρ gb C { now with mem := plsCells (forgetP P i 16) } sv m g cap (forgetP P i 16) w' :=
  (plForget_any w g cap now.n P i hi h.pls).mono fun _ _ q => ⟨q.1, h.setPl q.2⟩

end Go.Proofs.Ytpnkmnmchdabkaa
