import Derived.Test.YtpnkmnmchdabkaaM11
import Derived.Test.YtpnkmnmchdabkaaM12
import Derived.Test.YtpnkmnmchdabkaaM13
namespace Go.Proofs.Ytpnkmnmchdabkaa
open Go.RowKit

/-- The log stands where only the group's own block, the workers' row and what is not the program's is written. -/
theorem LogAt.keepsT {S : Nat → Prop} {w w' : World} {ρ : Nat → Nat} {sv : Value} {m : List Cs} (h : LogAt w ρ sv m) (hk : Keeps S w w') (hS : ∀ k, k < w.heap.size → S k → ρ k < 2 ∨ 40 ≤ ρ k) (hm : m.length ≤ 16) : LogAt w' ρ sv m := by
  have lt : ∀ {i : Nat} {s : Cs}, m[i]? = some s → i < 16 := fun hi => by have := (List.getElem?_eq_some_iff.1 hi).1; omega
  refine ⟨?_, h.rowT, ?_, h.parT, ?_, h.rcT⟩
  · refine ownsRow_keeps h.row hk fun k hkk hs => ?_
    have := h.rowT k hkk; have := hS k (h.row.lt k hkk).2 hs
    omega
  · intro i s hi
    refine ownsRow_keeps (h.par i s hi) hk fun k hkk hs => ?_
    have := h.parT i s hi k hkk; have := hS k ((h.par i s hi).lt k hkk).2 hs; have := lt hi
    omega
  · intro i s hi
    have hx := h.rcv i s hi
    refine ownsRow_keeps hx hk fun k hkk hs => ?_
    have := h.rcT i s hi k hkk; have := hS k (hx.lt k hkk).2 hs; have := lt hi
    omega

/-- The group with its workers' places. -/
structure GrpL (w : World) (ρ : Nat → Nat) (gb : Nat) (C : Cfg) (now : Rest) (sv : Value) (m : List Cs) (g cap : Nat) (P : List Pl) : Prop where
  G : GrpAt w ρ gb C now sv m
  hw : now.wv = .slice (some ⟨g, 0, none⟩) now.n cap
  hm : now.mem = plsCells P
  hl : P.length = now.n * 16
  le : m.length ≤ 16
  fits : Fits w ρ

def grpA (C : Cfg) (sv : Value) (now : Rest) : List Value := [.int .i64 C.a, .int .i64 C.l, .int .i64 C.b, .int .i64 C.n, .int .i64 C.s, .int .i64 C.t, .int .i64 now.t, sv] ++ now.dn.map (Value.int .i64)
theorem grpArr_A (C : Cfg) (sv : Value) (now : Rest) : grpArr C sv now = (grpA C sv now ++ (leCells now.ls ++ [now.wv])).toArray := by
  unfold grpArr grpA Rest.cells
  simp
theorem grpA_len (C : Cfg) (sv : Value) (now : Rest) (h : now.dn.length = 32) : (grpA C sv now).length = 40 := by
  unfold grpA; simp [h]

theorem GrpL.pls {w : World} {ρ : Nat → Nat} {gb : Nat} {C : Cfg} {now : Rest} {sv : Value} {m : List Cs} {g cap : Nat} {P : List Pl} (h : GrpL w ρ gb C now sv m g cap P) : PlsAt w g cap now.n P :=
  ⟨by have := h.G.wk; rw [h.hw, h.hm] at this; exact this, h.hl⟩
theorem GrpL.gT {w : World} {ρ : Nat → Nat} {gb : Nat} {C : Cfg} {now : Rest} {sv : Value} {m : List Cs} {g cap : Nat} {P : List Pl} (h : GrpL w ρ gb C now sv m g cap P) : ρ g = 40 ∧ ρ gb = 1 ∧ gb < w.heap.size ∧ g < w.heap.size :=
  ⟨h.G.wkT g (by rw [h.hw]; rfl), h.G.tag, lt_of_heap h.G.blk, h.pls.lt⟩
theorem GrpL.row {w : World} {ρ : Nat → Nat} {gb : Nat} {C : Cfg} {now : Rest} {sv : Value} {m : List Cs} {g cap : Nat} {P : List Pl} (h : GrpL w ρ gb C now sv m g cap P) : LeRow w gb 94 (grpA C sv now) now.ls [now.wv] :=
  ⟨by rw [← grpArr_A]; exact h.G.blk, h.G.lsL⟩
theorem GrpL.wcell {w : World} {ρ : Nat → Nat} {gb : Nat} {C : Cfg} {now : Rest} {sv : Value} {m : List Cs} {g cap : Nat} {P : List Pl} (h : GrpL w ρ gb C now sv m g cap P) : w.cell? ⟨gb, 88, none⟩ = some (.slice (some ⟨g, 0, none⟩) now.n cap) := by
  rw [cell_of h.G.blk, grpArr_A, List.getElem?_toArray, List.getElem?_append_right (by rw [grpA_len _ _ _ h.G.dnL]; omega), grpA_len _ _ _ h.G.dnL, List.getElem?_append_right (by rw [leCells_len, h.G.lsL]; omega), leCells_len, h.G.lsL]
  simp [h.hw]
theorem GrpL.dcell {w : World} {ρ : Nat → Nat} {gb : Nat} {C : Cfg} {now : Rest} {sv : Value} {m : List Cs} {g cap : Nat} {P : List Pl} (h : GrpL w ρ gb C now sv m g cap P) (j : Nat) (d : Int) (hj : now.dn[j]? = some d) : w.cell? ⟨gb, 8 + j, none⟩ = some (.int .i64 d) := by
  have hlt := (List.getElem?_eq_some_iff.1 hj).1
  have := h.G.dnL
  rw [cell_of h.G.blk, grpArr_A, List.getElem?_toArray, List.getElem?_append_left (by rw [grpA_len _ _ _ h.G.dnL]; omega)]
  unfold grpA
  rw [List.getElem?_append_right (by simp)]
  simp [hj]
theorem GrpL.tcell {w : World} {ρ : Nat → Nat} {gb : Nat} {C : Cfg} {now : Rest} {sv : Value} {m : List Cs} {g cap : Nat} {P : List Pl} (h : GrpL w ρ gb C now sv m g cap P) : w.cell? ⟨gb, 6, none⟩ = some (.int .i64 now.t) ∧ w.cell? ⟨gb, 7, none⟩ = some sv ∧ w.cell? ⟨gb, 1, none⟩ = some (.int .i64 C.l) ∧ w.cell? ⟨gb, 2, none⟩ = some (.int .i64 C.b) :=
  ⟨cell_of h.G.blk 6, cell_of h.G.blk 7, cell_of h.G.blk 1, cell_of h.G.blk 2⟩

theorem GrpL.setPl {w w' : World} {ρ : Nat → Nat} {gb : Nat} {C : Cfg} {now : Rest} {sv : Value} {m : List Cs} {g cap : Nat} {P P' : List Pl} (h : GrpL w ρ gb C now sv m g cap P) (hp : PlPost w g cap now.n P' w') : GrpL w' ρ gb C { now with mem := plsCells P' } sv m g cap P' ∧ Keeps (mine ρ) w w' := by
  obtain ⟨t1, t2, l1, l2⟩ := h.gT
  have hk := hp.2
  refine ⟨⟨⟨?_, h.G.tag, h.G.log.keepsT hk (fun k _ e => by subst e; omega) h.le, ?_, h.G.wkT, h.G.dnL, h.G.lsL⟩, h.hw, rfl, hp.1.len, h.le, fun k hk' => h.fits k (by have := hk.size; omega)⟩, hk.mono fun k _ e => by subst e; unfold mine; omega⟩
  · rw [hk.block gb l1 (by rintro rfl; omega)]; exact h.G.blk
  · have := hp.1.row
    simpa [h.hw] using this

theorem GrpL.setLe {w w' : World} {ρ : Nat → Nat} {gb : Nat} {C : Cfg} {now : Rest} {sv : Value} {m : List Cs} {g cap : Nat} {P : List Pl} {ls' : List Le} (h : GrpL w ρ gb C now sv m g cap P) (hp : LePost w gb 94 (grpA C sv now) ls' [now.wv] w') : GrpL w' ρ gb C { now with ls := ls' } sv m g cap P ∧ Keeps (mine ρ) w w' := by
  obtain ⟨t1, t2, l1, l2⟩ := h.gT
  have hk := hp.2
  refine ⟨⟨⟨?_, h.G.tag, h.G.log.keepsT hk (fun k _ e => by subst e; omega) h.le, ?_, h.G.wkT, h.G.dnL, hp.1.len⟩, h.hw, h.hm, h.hl, h.le, fun k hk' => h.fits k (by have := hk.size; omega)⟩, hk.mono fun k _ e => by subst e; unfold mine; omega⟩
  · rw [hp.1.blk, grpArr_A]; rfl
  · refine ownsRow_keeps h.G.wk hk fun k hkk e => ?_
    subst e
    have := h.G.wkT _ hkk
    omega

theorem GrpL.below {w w' : World} {ρ : Nat → Nat} {gb : Nat} {C : Cfg} {now : Rest} {sv : Value} {m : List Cs} {g cap : Nat} {P : List Pl} (h : GrpL w ρ gb C now sv m g cap P) (hb : Below w.heap.size w w') : GrpL w' ρ gb C now sv m g cap P ∧ Keeps (mine ρ) w w' :=
  ⟨⟨h.G.keeps (Keeps.of_below hb) (fun j hj => Or.inr hj) (fun _ _ => rfl) h.le, h.hw, h.hm, h.hl, h.le, fun k hk => h.fits k (by have := hb.size; omega)⟩, (Keeps.of_below hb).mono fun k hk hs => by omega⟩

/-- A store into the marks. -/
theorem GrpL.setDn {w : World} {ρ : Nat → Nat} {gb : Nat} {C : Cfg} {now : Rest} {sv : Value} {m : List Cs} {g cap : Nat} {P : List Pl} (h : GrpL w ρ gb C now sv m g cap P) (j : Nat) (hj : j < 32) (v : Int) : GrpL (w.setCell ⟨gb, 8 + j, none⟩ (.int .i64 v)) ρ gb C { now with dn := now.dn.set j v } sv m g cap P ∧ Keeps (mine ρ) w (w.setCell ⟨gb, 8 + j, none⟩ (.int .i64 v)) := by
  obtain ⟨t1, t2, l1, l2⟩ := h.gT
  have hk : Keeps (fun k => k = gb) w (w.setCell ⟨gb, 8 + j, none⟩ (.int .i64 v)) := Keeps.setCell (S := fun k => k = gb) (Keeps.refl _ w) (by exact Or.inl rfl) _
  refine ⟨⟨⟨?_, h.G.tag, h.G.log.keepsT hk (fun k _ e => by subst e; omega) h.le, ?_, h.G.wkT, by simpa using h.G.dnL, h.G.lsL⟩, h.hw, h.hm, h.hl, h.le, fun k hk' => h.fits k (by simpa [World.setCell] using hk')⟩, hk.mono fun k _ e => by subst e; unfold mine; omega⟩
  · have hd := h.G.dnL
    rw [heap_setCell_same h.G.blk, grpArr_A, grpArr_A, List.setIfInBounds_toArray, List.set_append_left _ _ (by rw [grpA_len _ _ _ hd]; omega)]
    unfold grpA
    rw [List.set_append_right _ _ (by simp)]
    simp [List.map_set]
  · refine ownsRow_keeps h.G.wk hk fun k hkk e => ?_
    subst e
    have := h.G.wkT _ hkk
    omega

/-- What a call leaves of the group, its log where it was. -/
def LP (w : World) (ρ : Nat → Nat) (gb : Nat) (C : Cfg) (now : Rest) (sv : Value) (m : List Cs) (g cap : Nat) (P : List Pl) (w' : World) : Prop := GrpL w' ρ gb C now sv m g cap P ∧ Keeps (mine ρ) w w'
theorem LP.refl {w : World} {ρ : Nat → Nat} {gb : Nat} {C : Cfg} {now : Rest} {sv : Value} {m : List Cs} {g cap : Nat} {P : List Pl} (h : GrpL w ρ gb C now sv m g cap P) : LP w ρ gb C now sv m g cap P w := ⟨h, Keeps.refl _ w⟩
theorem LP.trans {w w1 w2 : World} {ρ : Nat → Nat} {gb : Nat} {C : Cfg} {now now' : Rest} {sv : Value} {m : List Cs} {g cap : Nat} {P P' : List Pl} (h : LP w ρ gb C now sv m g cap P w1) (h' : LP w1 ρ gb C now' sv m g cap P' w2) : LP w ρ gb C now' sv m g cap P' w2 := ⟨h'.1, h.2.trans h'.2⟩

theorem gOf_any {w : World} {ρ : Nat → Nat} {gb : Nat} {C : Cfg} {now : Rest} {sv : Value} {m : List Cs} {g cap : Nat} {P : List Pl} (h : GrpL w ρ gb C now sv m g cap P) (n : Nat) (x : Le) (hx : now.ls[n]? = some x) :
    Calls Try.prog 65 #[.pointer (some ⟨gb, 40, none⟩), .int .i64 n] w fun e w' => e = .returned (.agg #[.int .i64 x.o, .int .i64 x.c, .int .i64 x.e]) ∧ LP w ρ gb C now sv m g cap P w' := by
  have := rowOf_any w gb _ _ _ _ n x h.row hx
  rw [grpA_len _ _ _ h.G.dnL] at this
  exact this.mono fun _ _ q => ⟨q.1, h.below q.2⟩
theorem gGive_any {w : World} {ρ : Nat → Nat} {gb : Nat} {C : Cfg} {now : Rest} {sv : Value} {m : List Cs} {g cap : Nat} {P : List Pl} (h : GrpL w ρ gb C now sv m g cap P) (n : Nat) (x : Le) (hx : now.ls[n]? = some x) (wk : Int) :
    Calls Try.prog 88 #[.pointer (some ⟨gb, 40, none⟩), .int .i64 n, .int .i64 wk] w fun e w' => e = .returned (.int .i64 (inc x.e)) ∧ LP w ρ gb C { now with ls := now.ls.set n ⟨wk, inc x.c, inc x.e⟩ } sv m g cap P w' := by
  have := rowGive_any w gb _ _ _ _ n x wk h.row hx
  rw [grpA_len _ _ _ h.G.dnL] at this
  exact this.mono fun _ _ q => ⟨q.1, h.setLe q.2⟩
theorem gLRenew_any {w : World} {ρ : Nat → Nat} {gb : Nat} {C : Cfg} {now : Rest} {sv : Value} {m : List Cs} {g cap : Nat} {P : List Pl} (h : GrpL w ρ gb C now sv m g cap P) (n : Nat) (x : Le) (hx : now.ls[n]? = some x) :
    Calls Try.prog 85 #[.pointer (some ⟨gb, 40, none⟩), .int .i64 n] w fun e w' => e = .returned (.tuple #[]) ∧ LP w ρ gb C { now with ls := now.ls.set n { x with c := inc x.c } } sv m g cap P w' := by
  have := rowRenew_any w gb _ _ _ _ n x h.row hx
  rw [grpA_len _ _ _ h.G.dnL] at this
  exact this.mono fun _ _ q => ⟨q.1, h.setLe q.2⟩
theorem gFree_any {w : World} {ρ : Nat → Nat} {gb : Nat} {C : Cfg} {now : Rest} {sv : Value} {m : List Cs} {g cap : Nat} {P : List Pl} (h : GrpL w ρ gb C now sv m g cap P) (n : Nat) (x : Le) (hx : now.ls[n]? = some x) :
    Calls Try.prog 84 #[.pointer (some ⟨gb, 40, none⟩), .int .i64 n] w fun e w' => e = .returned (.tuple #[]) ∧ LP w ρ gb C { now with ls := now.ls.set n ⟨-1, inc x.c, x.e⟩ } sv m g cap P w' := by
  have := rowFree_any w gb _ _ _ _ n x h.row hx
  rw [grpA_len _ _ _ h.G.dnL] at this
  exact this.mono fun _ _ q => ⟨q.1, h.setLe q.2⟩
theorem gHold_any {w : World} {ρ : Nat → Nat} {gb : Nat} {C : Cfg} {now : Rest} {sv : Value} {m : List Cs} {g cap : Nat} {P : List Pl} (h : GrpL w ρ gb C now sv m g cap P) (i n : Nat) (hn : n < 16) (p : Pl) (hp : P[i * 16 + n]? = some p) :
    Calls Try.prog 55 #[.pointer (some ⟨g, i * 128, none⟩), .int .i64 n] w fun e w' => e = .returned (.tuple #[if p.held = true then .agg #[.int .i64 p.h.sh, .int .i64 p.h.ep, .int .i64 p.h.at_, .int .i64 p.h.bf] else .agg #[.int .i64 0, .int .i64 0, .int .i64 0, .int .i64 0], .bool p.held]) ∧ LP w ρ gb C now sv m g cap P w' :=
  (plHold_any w g cap now.n P i n hn p h.pls hp).mono fun _ _ q => ⟨q.1, h.below q.2⟩
theorem gKeep_any {w : World} {ρ : Nat → Nat} {gb : Nat} {C : Cfg} {now : Rest} {sv : Value} {m : List Cs} {g cap : Nat} {P : List Pl} (h : GrpL w ρ gb C now sv m g cap P) (i n : Nat) (hn : n < 16) (p : Pl) (hp : P[i * 16 + n]? = some p) (ep at_ bf : Int) :
    Calls Try.prog 60 #[.pointer (some ⟨g, i * 128, none⟩), .agg #[.int .i64 n, .int .i64 ep, .int .i64 at_, .int .i64 bf]] w fun e w' => e = .returned (.tuple #[]) ∧ LP w ρ gb C { now with mem := plsCells (P.set (i * 16 + n) { p with held := true, h := ⟨n, ep, at_, bf⟩ }) } sv m g cap (P.set (i * 16 + n) { p with held := true, h := ⟨n, ep, at_, bf⟩ }) w' :=
  (plKeep_any w g cap now.n P i n hn p ep at_ bf h.pls hp).mono fun _ _ q => ⟨q.1, h.setPl q.2⟩
theorem gDrop_any {w : World} {ρ : Nat → Nat} {gb : Nat} {C : Cfg} {now : Rest} {sv : Value} {m : List Cs} {g cap : Nat} {P : List Pl} (h : GrpL w ρ gb C now sv m g cap P) (i n : Nat) (hn : n < 16) (p : Pl) (hp : P[i * 16 + n]? = some p) :
    Calls Try.prog 83 #[.pointer (some ⟨g, i * 128, none⟩), .int .i64 n] w fun e w' => e = .returned (.tuple #[]) ∧ LP w ρ gb C { now with mem := plsCells (P.set (i * 16 + n) { p with held := false, h := ⟨0, 0, 0, 0⟩ }) } sv m g cap (P.set (i * 16 + n) { p with held := false, h := ⟨0, 0, 0, 0⟩ }) w' :=
  (plDrop_any w g cap now.n P i n hn p h.pls hp).mono fun _ _ q => ⟨q.1, h.setPl q.2⟩
theorem gNote_any {w : World} {ρ : Nat → Nat} {gb : Nat} {C : Cfg} {now : Rest} {sv : Value} {m : List Cs} {g cap : Nat} {P : List Pl} (h : GrpL w ρ gb C now sv m g cap P) (i n : Nat) (hn : n < 16) (p : Pl) (hp : P[i * 16 + n]? = some p) (c s : Int) :
    Calls Try.prog 86 #[.pointer (some ⟨g, i * 128, none⟩), .int .i64 n, .int .i64 c, .int .i64 s] w fun e w' => e = .returned (.tuple #[]) ∧ LP w ρ gb C { now with mem := plsCells (P.set (i * 16 + n) (noted p c s)) } sv m g cap (P.set (i * 16 + n) (noted p c s)) w' :=
  (plNote_any w g cap now.n P i n hn p c s h.pls hp).mono fun _ _ q => ⟨q.1, h.setPl q.2⟩
theorem gNoted_any {w : World} {ρ : Nat → Nat} {gb : Nat} {C : Cfg} {now : Rest} {sv : Value} {m : List Cs} {g cap : Nat} {P : List Pl} (h : GrpL w ρ gb C now sv m g cap P) (i n : Nat) (hn : n < 16) (p : Pl) (hp : P[i * 16 + n]? = some p) (c s u : Int) :
    Calls Try.prog 108 #[.pointer (some ⟨g, i * 128, none⟩), .int .i64 n, .int .i64 c, .int .i64 s, .int .i64 u] w fun e w' => e = .returned (.bool (p.made && decide (p.c = c) && decide (u ≤ dif s p.s))) ∧ LP w ρ gb C now sv m g cap P w' :=
  (memNoted_any g (i * 128) n hn p c s u w (h.pls.place hp)).mono fun _ _ q => ⟨q.1, h.below q.2⟩
theorem gForget_any {w : World} {ρ : Nat → Nat} {gb : Nat} {C : Cfg} {now : Rest} {sv : Value} {m : List Cs} {g cap : Nat} {P : List Pl} (h : GrpL w ρ gb C now sv m g cap P) (i : Nat) (hi : i < now.n) :
    Calls Try.prog 57 #[.pointer (some ⟨g, i * 128, none⟩)] w fun e w' => e = .returned (.tuple #[]) ∧ LP w ρ gb C { now with mem := plsCells (forgetP P i 16) } sv m g cap (forgetP P i 16) w' :=
  (plForget_any w g cap now.n P i hi h.pls).mono fun _ _ q => ⟨q.1, h.setPl q.2⟩

end Go.Proofs.Ytpnkmnmchdabkaa
