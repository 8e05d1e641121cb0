import Derived.Test.YtpnkmnmchdabkaaM01
import Derived.Test.YtpnkmnmchdabkaaM09
import Derived.Test.YtpnkmnmchdabkaaMake
import Derived.Test.YtpnkmnmchdabkaaM07
namespace Go.Proofs.Ytpnkmnmchdabkaa
open Go.RowKit
attribute [local go_sem ↓] Go.wp_at_zero Go.wp_at_succ

/-- A worker's memory with nothing in it; and those of n workers. -/
def memZ : List Value := (List.replicate 16 [.bool false, .int .i64 0, .int .i64 0, .int .i64 0, .int .i64 0, .bool false, .int .i64 0, .int .i64 0]).flatten
def memN (n : Nat) : List Value := (madeCells memZ.toArray (n * 128)).toList
/-- A group's rest at first. -/
def rest0 (wv : Value) (n : Nat) (mem : List Value) : Rest := ⟨0, List.replicate 32 0, noneL 16, wv, n, mem⟩

/-- The building of a group, kept shut for the walk. -/
def bdG (parts : Array (Nat × Value)) : Sem Value := Instr.build 94 parts
theorem bdG_shut (parts : Array (Nat × Value)) : Instr.build 94 parts = bdG parts := rfl
theorem bdG_is (C : Cfg) (sv : Value) (wa : Option Addr) (k c n : Nat) (mem : List Value) (w : World) :
    (bdG #[(0, .agg C.arr), (2, .agg #[sv]), (4, .agg (leA (noneL 16))), (5, .slice wa k c)]).run Try.prog w = .ok (.agg (grpArr C sv (rest0 (.slice wa k c) n mem))) w := by
  obtain ⟨a, l, b, c, s, t⟩ := C
  kernel_rfl

theorem infoMem : (Try.prog.info? 105).map (fun i => (i.zero, i.size, i.bytes)) = some (some (.agg (memZ).toArray), 128, 1024) := by kernel_rfl

set_option maxRecDepth 100000 in
set_option maxHeartbeats 1000000 in
theorem shardsNew_any (w : World) :
    Calls Try.prog 42 #[] w fun e w' => ∃ g, e = .returned (.agg #[.slice (some ⟨g, 0, none⟩) 1 1]) ∧ w.heap.size ≤ g ∧ w'.heap[g]? = some (.cells #[.int .i64 0, .int .i64 256, .bool true, .slice none 0 0, .slice none 0 0] 141 (0, 0)) ∧ Below w.heap.size w w' := by
  go_enter Try.func42, Try.ntmps42
  go_wp2
  refine bodyPost_ret (v := .agg #[.slice (some ⟨w.heap.size + 1, 0, none⟩) 1 1]) (by simp [results, Try.results42, go_sem]) rfl ⟨w.heap.size + 1, rfl, by omega, ?_, ?_⟩
  · have := heap_alloc_new (w.alloc (.cells #[.slice (some ⟨w.heap.size + 1, 0, none⟩) 1 1] 81)) (.cells #[.int .i64 0, .int .i64 256, .bool true, .slice none 0 0, .slice none 0 0] 141)
    rw [show (w.alloc (.cells #[.slice (some ⟨w.heap.size + 1, 0, none⟩) 1 1] 81)).heap.size = w.heap.size + 1 by simp] at this
    exact this
  · exact ((Below.refl _ w).alloc (Nat.le_refl _) _).alloc (by simp) _

set_option maxRecDepth 100000 in
set_option maxHeartbeats 1000000 in
theorem new_bad (C : Cfg) (w : World) (hv : validB C.a C.l C.b C.n C.s C.t = false) :
    Calls Try.prog 20 #[.agg C.arr] w fun e w' => e = .returned (.tuple #[.pointer none, .int .i64 1]) ∧ Below w.heap.size w w' := by
  unfold Cfg.arr
  have HV := fun w => hide (valid_any C.a C.l C.b C.n C.s C.t w)
  rw [hv] at HV
  go_enter Try.func20, Try.ntmps20
  go_wp2_with (go_at_call 41; refine (unhide (HV _)).mono ?_; rintro e w1 ⟨rfl, hb⟩)
  go_ret2
  exact ⟨rfl, ((Below.refl _ w).alloc (Nat.le_refl _) _).trans (hb.mono (by simp))⟩

/-- A group of one shard. -/
def first : Sh := ⟨0, 256, true, [], []⟩

attribute [local go_sem ↓] zvTab ldT_shut stT_shut bdG_shut
attribute [local go_sem] stT_new

/-- What New leaves. -/
def NewGood (C : Cfg) (w : World) (e : Ending) (w' : World) : Prop := ∃ gb g wb kn : Nat, e = .returned (.tuple #[.pointer (some ⟨gb, 0, none⟩), .int .i64 0]) ∧ w.heap.size ≤ gb ∧ w.heap.size ≤ g ∧ w.heap.size ≤ wb ∧ g ≠ gb ∧ wb ≠ gb ∧ wb ≠ g ∧ (kn : Int) = C.a ∧
      w'.heap[gb]? = some (.cells (grpArr C (.slice (some ⟨g, 0, none⟩) 1 1) (rest0 (.slice (some ⟨wb, 0, none⟩) kn kn) kn (memN kn))) 94 (0, 0)) ∧ w'.heap[g]? = some (.cells #[.int .i64 0, .int .i64 256, .bool true, .slice none 0 0, .slice none 0 0] 141 (0, 0)) ∧
      w'.ownsRow w.heap.size 105 128 (.slice (some ⟨wb, 0, none⟩) kn kn) kn (memN kn) ∧ Below w.heap.size w w'

set_option maxRecDepth 100000 in
set_option maxHeartbeats 4000000 in
theorem new_good (C : Cfg) (w : World) (hv : validB C.a C.l C.b C.n C.s C.t = true) :
    Calls Try.prog 20 #[.agg C.arr] w (NewGood C w) := by
  obtain ⟨hw1, hw2⟩ := ((validB_iff _ _ _ _ _ _).1 hv).1
  obtain ⟨wn, hwn⟩ : ∃ wn : Nat, C.a = wn := ⟨C.a.toNat, by omega⟩
  have HW := hide hwn
  clear hwn
  have HV := fun w => hide (valid_any C.a C.l C.b C.n C.s C.t w)
  rw [hv] at HV
  have HN := fun w => hide (shardsNew_any w)
  have HL := fun w => hide (leasesNew_any w)
  have z16 := noneL_len (k := 16) (by omega)
  have z0 := noneL_len (k := 0) (by omega)
  unfold Cfg.arr
  clear hv
  go_enter Try.func20, Try.ntmps20
  go_wp2_with (go_at_call 41; refine (unhide (HV _)).mono ?_; rintro e w1 ⟨rfl, hb⟩)
  obtain ⟨h1, hB1, hsz⟩ := below_new hb
  clear hb
  have H1 := hide h1
  have HB1 := hide hB1
  clear h1 hB1
  go_wp2_with (go_at_call 42; refine (unhide (HN _)).mono ?_; rintro e w2 ⟨g, rfl, hg, hgb, hb2⟩)
  refine (unhide (HL _)).mono ?_
  rintro e w3 ⟨rfl, hb3⟩
  have hs2 := hb2.size
  have hs3 := hb3.size
  rw [World.size_alloc] at hs3
  have hgl := lt_of_heap hgb
  have P3 : w3.heap[w.heap.size]? = some (.cells #[.int .i64 C.a, .int .i64 C.l, .int .i64 C.b, .int .i64 C.n, .int .i64 C.s, .int .i64 C.t] 23 (0, 0)) := by
    have := lt_of_heap (unhide H1)
    rw [hb3.block _ (by simp; omega), Below.heap_alloc _ _ _ (by omega), hb2.block _ (by omega)]
    exact unhide H1
  have L3 : w3.heap[w2.heap.size]? = some (.cells #[.slice (some ⟨g, 0, none⟩) 1 1] 81 (0, 0)) := by
    rw [hb3.block _ (by simp)]; exact heap_alloc_new w2 _
  have G3 : w3.heap[g]? = some (.cells #[.int .i64 0, .int .i64 256, .bool true, .slice none 0 0, .slice none 0 0] 141 (0, 0)) := by
    rw [hb3.block _ (by simp; omega), Below.heap_alloc _ _ _ hgl]; exact hgb
  have hwl := lt_of_heap P3
  have BB : Below w.heap.size w w3 := (unhide HB1).trans ((hb2.mono (by omega)).trans (((Below.refl _ w2).alloc (by omega) _).trans (hb3.mono (by simp; omega))))
  clear hb2 hb3 hgb H1 HB1
  have c0 : (w3.alloc (.cells (leA (noneL 16)) 85)).cell? ⟨w.heap.size, 0, none⟩ = some (.int .i64 C.a) := (World.cell?_of_block (w := w3) (Below.heap_alloc _ _ _ hwl)).trans (cell_of P3 0)
  obtain ⟨i0, hi0, hz0, hz1, hz2⟩ := info_parts infoMem
  have HG := hide G3
  have HP := hide P3
  have HL3 := hide L3
  have HBB := hide BB
  clear G3 P3 L3 BB
  go_wp2_with (at_make; go_must (refine wpList_make_full _ rfl _ _ 87 rfl w.heap.size 105 i0 _ 128 Try.underlying87 hi0 hz0 hz1 _ _ _ _ wn rfl rfl (unhide HW) (unhide HW) ?bytes ?ml ?base ?mk))
  case bytes => rw [hz2]; have := unhide HW; omega
  case ml => have := unhide HW; unfold maxLen; omega
  case base => simp; omega
  case mk =>
    intro w4 hown hgrow
    have hs4 := hgrow.size
    rw [World.size_alloc] at hs4
    have old : ∀ k, k < w3.heap.size → w4.heap[k]? = w3.heap[k]? := fun k hk => (hgrow.block k (by simp; omega) (by simp)).trans (Below.heap_alloc _ _ _ hk)
    have P4 := (old _ hwl).trans (unhide HP)
    have L4 := (old _ (lt_of_heap (unhide HL3))).trans (unhide HL3)
    have G4 := hide ((old _ (lt_of_heap (unhide HG))).trans (unhide HG))
    have T4 : w4.heap[w3.heap.size]? = some (.cells (leA (noneL 16)) 85 (0, 0)) := (hgrow.block _ (by simp) (by simp)).trans (heap_alloc_new w3 _)
    have B4 : Hid (Below w.heap.size w w4) := ((unhide HBB).alloc (by omega) _).grown hgrow (by simp; omega) (fun k h => by cases h)
    have k0 := cell_of P4 0
    have k1 := cell_of P4 1
    have k2 := cell_of P4 2
    have k3 := cell_of P4 3
    have k4 := cell_of P4 4
    have k5 := cell_of P4 5
    have q0 := cell_of L4 0
    simp at k0 k1 k2 k3 k4 k5 q0
    have hld := ldT_is T4 z16
    have hbd := bdG_is C (.slice (some ⟨g, 0, none⟩) 1 1) (some ⟨w3.heap.size + 1, 0, none⟩) wn wn wn (memN wn) w4
    unfold Cfg.arr at hbd
    have HO := hide hown
    have hwne := (hown.lt _ rfl).2
    clear hown hgrow old P4 L4 T4 c0
    go_wp2
    go_ret2
    have hO := unhide HO
    refine ⟨w4.heap.size, g, w3.heap.size + 1, wn, rfl, by omega, by omega, by omega, by omega, by omega, by omega, (unhide HW).symm, heap_alloc_new w4 _, ?_, ?_, (unhide B4).alloc (by omega) _⟩
    · rw [Below.heap_alloc _ _ _ (by omega)]; exact unhide G4
    · have := hO.alloc (.cells (grpArr C (.slice (some ⟨g, 0, none⟩) 1 1) (rest0 (.slice (some ⟨w3.heap.size + 1, 0, none⟩) wn wn) wn (memN wn))) 94)
      simpa [memN] using this

end Go.Proofs.Ytpnkmnmchdabkaa
namespace Go.Proofs.Ytpnkmnmchdabkaa
open Go.RowKit
attribute [local go_sem ↓] Go.wp_at_zero Go.wp_at_succ

/-- The group with its log, as a caller knows it. -/
def Grp (w : World) (ρ : Nat → Nat) (gb : Nat) (C : Cfg) (now : Rest) (l : List Sh) : Prop := ∃ sv m, m.map (·.s) = l ∧ GrpAt w ρ gb C now sv m

theorem of_map {m : List Cs} {l : List Sh} (h : m.map (·.s) = l) : m.length = l.length := by rw [← h]; simp
theorem at_map {m : List Cs} {l : List Sh} (h : m.map (·.s) = l) {i : Nat} {s : Cs} (hi : m[i]? = some s) : l[i]? = some s.s := by rw [← h]; simp [hi]
theorem to_map {m : List Cs} {l : List Sh} (h : m.map (·.s) = l) {i : Nat} {s : Sh} (hi : l[i]? = some s) : ∃ t : Cs, m[i]? = some t ∧ t.s = s := by
  rw [← h] at hi
  simp at hi
  exact hi

theorem GrpPost.grp {w w' : World} {ρ : Nat → Nat} {gb : Nat} {C : Cfg} {now : Rest} {l : List Sh} (h : GrpPost w ρ gb C now l w') : ∃ ρ', Grp w' ρ' gb C now l ∧ Keeps (mine ρ) w w' ∧ Ext w.heap.size ρ ρ' ∧ Fits w' ρ' := by
  obtain ⟨ρ', sv, m, a, b, c, d, e⟩ := h
  exact ⟨ρ', ⟨sv, m, a, b⟩, c, d, e⟩

set_option maxHeartbeats 400000 in
theorem gSplit_any (w : World) (ρ : Nat → Nat) (gb : Nat) (C : Cfg) (now : Rest) (l : List Sh) (n a : Int) (h : Grp w ρ gb C now l) (hf : Fits w ρ) (hI : Inv l) :
    Calls Try.prog 46 #[.pointer (some ⟨gb, 0, none⟩), .int .i64 n, .int .i64 a] w fun e w' =>
      e = .returned (.tuple #[.int .i64 (aSplit l n a).2.1, .int .i64 (aSplit l n a).2.2]) ∧ GrpPost w ρ gb C now (aSplit l n a).1 w' := by
  obtain ⟨sv, m, rfl, G⟩ := h
  have hl : m.length ≤ 16 := by have := hI.len; simpa using this
  have h0 : 0 < m.length := by have := hI.pos; simpa using this
  have HS := hide (split_any w ρ gb C now sv m n a G hf h0 hl)
  obtain ⟨c6, _⟩ := G.cells
  clear G hI
  go_enter Try.func46, Try.ntmps46
  go_wp2_with (go_at_call 77; refine (unhide HS).mono ?_; rintro e w1 ⟨rfl, hp⟩)
  go_ret2
  exact ⟨rfl, hp⟩

set_option maxHeartbeats 400000 in
theorem gMerge_any (w : World) (ρ : Nat → Nat) (gb : Nat) (C : Cfg) (now : Rest) (l : List Sh) (n a : Int) (h : Grp w ρ gb C now l) (hf : Fits w ρ) (hI : Inv l) :
    Calls Try.prog 47 #[.pointer (some ⟨gb, 0, none⟩), .int .i64 n, .int .i64 a] w fun e w' =>
      e = .returned (.tuple #[.int .i64 (aMerge l n a).2.1, .int .i64 (aMerge l n a).2.2]) ∧ GrpPost w ρ gb C now (aMerge l n a).1 w' := by
  obtain ⟨sv, m, rfl, G⟩ := h
  have hl : m.length ≤ 16 := by have := hI.len; simpa using this
  have h0 : 0 < m.length := by have := hI.pos; simpa using this
  have HS := hide (merge_any w ρ gb C now sv m n a G hf h0 hl (fun i s hi => (hI.rng i s.s (by simp [hi])).2.1))
  obtain ⟨c6, _⟩ := G.cells
  clear G hI
  go_enter Try.func47, Try.ntmps47
  go_wp2_with (go_at_call 78; refine (unhide HS).mono ?_; rintro e w1 ⟨rfl, hp⟩)
  go_ret2
  exact ⟨rfl, hp⟩

set_option maxHeartbeats 400000 in
theorem gShards_any (w : World) (ρ : Nat → Nat) (gb : Nat) (C : Cfg) (now : Rest) (l : List Sh) (h : Grp w ρ gb C now l) (hI : Inv l) :
    Calls Try.prog 33 #[.pointer (some ⟨gb, 0, none⟩)] w (ListPost w l) := by
  obtain ⟨sv, m, rfl, G⟩ := h
  have hl : m.length ≤ 16 := by have := hI.len; simpa using this
  have h0 : 0 < m.length := by have := hI.pos; simpa using this
  have HS := hide (list_any w ρ gb C now sv m G h0 hl (fun i s hi => (hI.parL i s.s (by simp [hi])).1))
  obtain ⟨c6, _⟩ := G.cells
  clear G hI
  go_enter Try.func33, Try.ntmps33
  go_wp2_with (go_at_call 63; refine (unhide HS).mono ?_; rintro e w1 ⟨v, k, rfl, hp⟩)
  go_ret
  exact ⟨v, k, rfl, hp⟩

theorem GrpAt.tick {w : World} {ρ : Nat → Nat} {gb : Nat} {C : Cfg} {now : Rest} {sv : Value} {m : List Cs} (h : GrpAt w ρ gb C now sv m) (hf : Fits w ρ) (hm : m.length ≤ 16) (n' : Int) :
    GrpPost w ρ gb C { now with t := n' } (m.map (·.s)) (w.setCell ⟨gb, 6, none⟩ (.int .i64 n')) := by
  have hk : Keeps (fun k => k = gb) w (w.setCell ⟨gb, 6, none⟩ (.int .i64 n')) := (Keeps.refl (fun k => k = gb) w).setCell (p := ⟨gb, 6, none⟩) (Or.inl rfl) _
  refine ⟨ρ, sv, m, rfl, ⟨?_, h.tag, ?_, ownsRow_keeps h.wk hk (fun k hkk e => by subst e; have := h.wkT _ hkk; have := h.tag; omega), h.wkT, h.dnL, h.lsL⟩, hk.mono (fun k _ e => by subst e; unfold mine; rw [h.tag]; omega), Ext.refl hf, fun k hk => hf k (by simpa [World.setCell] using hk)⟩
  · rw [heap_setCell_same h.blk]
    unfold grpArr
    rw [List.setIfInBounds_toArray]
    rfl
  · have lt : ∀ {i : Nat} {s : Cs}, m[i]? = some s → i < 16 := fun hi => by have := (List.getElem?_eq_some_iff.1 hi).1; omega
    refine ⟨ownsRow_keeps h.log.row hk (fun k hkk e => by subst e; have := h.log.rowT _ hkk; have := h.tag; omega), h.log.rowT, fun i s hi => ownsRow_keeps (h.log.par i s hi) hk (fun k hkk e => by subst e; have := h.log.parT i s hi _ hkk; have := h.tag; omega), h.log.parT, fun i s hi => ?_, h.log.rcT⟩
    exact ownsRow_keeps (h.log.rcv i s hi) hk (fun k hkk e => by subst e; have := h.log.rcT i s hi _ hkk; have := h.tag; omega)

set_option maxHeartbeats 400000 in
theorem gTick_any (w : World) (ρ : Nat → Nat) (gb : Nat) (C : Cfg) (now : Rest) (l : List Sh) (h : Grp w ρ gb C now l) (hf : Fits w ρ) (hI : Inv l) :
    Calls Try.prog 25 #[.pointer (some ⟨gb, 0, none⟩)] w fun e w' => e = .returned (.tuple #[]) ∧ GrpPost w ρ gb C { now with t := wrap64 (now.t + 1) } l w' := by
  obtain ⟨sv, m, rfl, G⟩ := h
  have hl : m.length ≤ 16 := by have := hI.len; simpa using this
  obtain ⟨_, _, c7, f7, _⟩ := G.cells
  have HG := hide (G.tick hf hl (wrap64 (now.t + 1)))
  clear G hI
  go_enter Try.func25, Try.ntmps25
  go_wp2
  go_end0
  exact ⟨rfl, unhide HG⟩

theorem makeR_zero {s : ByteArray} {v t : Int} (h : makeR s v t = 0) : keyB s = true ∧ ¬ (1000000 < v ∨ v < -1000000) ∧ ¬ (t < 0 ∨ 1000000 < t) := by
  unfold makeR at h
  split at h
  · omega
  · rename_i hk
    split at h
    · omega
    · split at h
      · omega
      · exact ⟨by simpa using hk, by assumption, by assumption⟩
theorem keyB_len {s : ByteArray} (h : keyB s = true) : s.data.toList.length ≤ 8 ∧ ∀ b ∈ s.data.toList, b.toNat ≠ 0 := by
  simp only [keyB, Bool.and_eq_true, decide_eq_true_eq, List.all_eq_true] at h
  refine ⟨by have := h.1.2; simpa using this, fun b hb => ?_⟩
  have := h.2 b hb
  simp [letter] at this
  omega

/-- What Put leaves. -/
def PutPost (w : World) (ρ : Nat → Nat) (gb : Nat) (C : Cfg) (now : Rest) (l : List Sh) (s : ByteArray) (v t : Int) (e : Ending) (w' : World) : Prop :=
  (makeR s v t ≠ 0 ∧ e = .returned (.tuple #[.int .i64 0, .int .i64 0, .int .i64 (makeR s v t)]) ∧ GrpPost w ρ gb C now l w') ∨
  (makeR s v t = 0 ∧ ∃ k x, Home l (hashL s.data.toList) k x ∧ e = .returned (putV k x.cnt) ∧ GrpPost w ρ gb C now (putL l k x ⟨s.data.toList, v, t⟩) w')

set_option maxRecDepth 100000 in
set_option maxHeartbeats 1000000 in
theorem gPut_any (w : World) (ρ : Nat → Nat) (gb : Nat) (C : Cfg) (now : Rest) (l : List Sh) (s : ByteArray) (v t : Int) (h : Grp w ρ gb C now l) (hf : Fits w ρ) (hI : Inv l) (hs : s.size ≤ maxLen) :
    Calls Try.prog 44 #[.pointer (some ⟨gb, 0, none⟩), .string s, .int .i64 v, .int .i64 t] w (PutPost w ρ gb C now l s v t) := by
  obtain ⟨sv, m, rfl, G⟩ := h
  have hl : m.length ≤ 16 := by have := hI.len; simpa using this
  have HM := hide (make_any s v t w hs)
  obtain ⟨c6, _, _, _, hgb⟩ := G.cells
  have HX : Hid (∀ w1, Below w.heap.size w w1 → GrpAt w1 ρ gb C now sv m) := fun w1 hb => G.keeps (Keeps.of_below hb) (fun j hj => Or.inr hj) (fun _ _ => rfl) hl
  have HF := hide hf
  by_cases hr : makeR s v t = 0
  · obtain ⟨hk, _, _⟩ := makeR_zero hr
    obtain ⟨hk8, hz⟩ := keyB_len hk
    obtain ⟨hb0, hb1⟩ := hashL_bd s.data.toList
    obtain ⟨k, x, hx, hacc, hu⟩ := hI.part (hashL s.data.toList) hb0 hb1
    obtain ⟨y, hy, rfl⟩ := to_map rfl hx
    have HP : Hid (∀ w1, GrpAt w1 ρ gb C now sv m → Fits w1 ρ → Calls Try.prog 76 #[.pointer (some ⟨gb, 7, none⟩), .agg (recArr s.data.toList v t)] w1 fun e w' => e = .returned (putV k y.s.cnt) ∧ GrpPost w1 ρ gb C now (putL (m.map (·.s)) k y.s ⟨s.data.toList, v, t⟩) w') := fun w1 G1 F1 =>
      logPut_any w1 ρ gb C now sv m s.data.toList v t G1 F1 hl hk8 hz k y hy hacc (fun j t hj ha => hu j t.s (by simp [hj]) ha) (hI.cnt k y.s hx)
    have HHome := hide (⟨hx, hacc, hu⟩ : Home (m.map (·.s)) (hashL s.data.toList) k y.s)
    have HR := hide hr
    rw [madeR_yes hr] at HM
    unfold recArr at HM HP
    clear G hI hr hk hk8 hz hb0 hb1 hx hacc hu hy hf
    go_enter Try.func44, Try.ntmps44
    go_wp2_with (go_at_call 75; refine (unhide HM).mono ?_; rintro e w1 ⟨rfl, hb⟩)
    have hN := heap_alloc_new w1 (.cells #[.int .u8 (byteAt s.data.toList 0), .int .u8 (byteAt s.data.toList 1), .int .u8 (byteAt s.data.toList 2), .int .u8 (byteAt s.data.toList 3), .int .u8 (byteAt s.data.toList 4), .int .u8 (byteAt s.data.toList 5), .int .u8 (byteAt s.data.toList 6), .int .u8 (byteAt s.data.toList 7), .int .i64 v, .int .i64 t] 145)
    have hB := hb.alloc hb.size (.cells #[.int .u8 (byteAt s.data.toList 0), .int .u8 (byteAt s.data.toList 1), .int .u8 (byteAt s.data.toList 2), .int .u8 (byteAt s.data.toList 3), .int .u8 (byteAt s.data.toList 4), .int .u8 (byteAt s.data.toList 5), .int .u8 (byteAt s.data.toList 6), .int .u8 (byteAt s.data.toList 7), .int .i64 v, .int .i64 t] 145)
    have hws := hb.size
    have hZ : (w1.alloc (.cells #[.int .u8 (byteAt s.data.toList 0), .int .u8 (byteAt s.data.toList 1), .int .u8 (byteAt s.data.toList 2), .int .u8 (byteAt s.data.toList 3), .int .u8 (byteAt s.data.toList 4), .int .u8 (byteAt s.data.toList 5), .int .u8 (byteAt s.data.toList 6), .int .u8 (byteAt s.data.toList 7), .int .i64 v, .int .i64 t] 145)).heap.size = w1.heap.size + 1 := by simp
    generalize w1.alloc _ = W at hN hB hZ ⊢
    obtain ⟨k0, k1, k2, k3, k4, k5, k6, k7, k8, k9⟩ := load10 hN
    have HP1 := hide (unhide HP W.drew (unhide HX W.drew hB.drew) (fun q hq => unhide HF q (by have : W.heap.size ≤ q := hq; omega)))
    have hun : Hid (¬ mine ρ w1.heap.size) := fun hm => by have := unhide HF w1.heap.size hws; unfold mine at hm; omega
    have HB := hide hB
    have HZ := hide hZ
    clear hN hB hZ hb
    by_cases hc : 32 ≤ y.s.cnt
    · have HV : Hid (putV k y.s.cnt = .tuple #[.int .i64 0, .int .i64 0, .int .i64 8]) := by unfold putV; rw [if_pos hc]; trivial
      rw [unhide HV] at HP1
      go_region_held3 (fun w' => w'.cell? ⟨w1.heap.size, 0, none⟩ = some (.int .u8 (byteAt s.data.toList 0)) ∧ w'.cell? ⟨w1.heap.size, 1, none⟩ = some (.int .u8 (byteAt s.data.toList 1)) ∧ w'.cell? ⟨w1.heap.size, 2, none⟩ = some (.int .u8 (byteAt s.data.toList 2)) ∧ w'.cell? ⟨w1.heap.size, 3, none⟩ = some (.int .u8 (byteAt s.data.toList 3)) ∧ w'.cell? ⟨w1.heap.size, 4, none⟩ = some (.int .u8 (byteAt s.data.toList 4)) ∧ w'.cell? ⟨w1.heap.size, 5, none⟩ = some (.int .u8 (byteAt s.data.toList 5)) ∧ w'.cell? ⟨w1.heap.size, 6, none⟩ = some (.int .u8 (byteAt s.data.toList 6)) ∧ w'.cell? ⟨w1.heap.size, 7, none⟩ = some (.int .u8 (byteAt s.data.toList 7)) ∧ w'.cell? ⟨w1.heap.size, 8, none⟩ = some (.int .i64 v) ∧ w'.cell? ⟨w1.heap.size, 9, none⟩ = some (.int .i64 t))
        (first | go_keep | (go_split_ands; refine ⟨?_, ?_, ?_, ?_, ?_, ?_, ?_, ?_, ?_, ?_⟩ <;> (rw [hkp.cell (show w1.heap.size < W.heap.size by have := unhide HZ; omega) (unhide hun)]; assumption)))
        ((go_at_call 76; refine (unhide HP1).mono ?_; rintro e w2 ⟨rfl, hpost⟩; have hkp := hpost.choose_spec.choose_spec.choose_spec.2.2.1))
      go_wp2
      go_ret3
      refine Or.inr ⟨unhide HR, k, y.s, unhide HHome, by rw [unhide HV]; rfl, GrpPost.trans (w1 := W.drew) ((Keeps.of_below (unhide HB).drew).mono (fun _ _ _ => by omega)) (Ext.refl (unhide HF)) hpost⟩
    · have HV : Hid (putV k y.s.cnt = .tuple #[.int .i64 k, .int .i64 y.s.cnt, .int .i64 0]) := by unfold putV; rw [if_neg hc]; trivial
      rw [unhide HV] at HP1
      go_region_held3 (fun w' => w'.cell? ⟨w1.heap.size, 0, none⟩ = some (.int .u8 (byteAt s.data.toList 0)) ∧ w'.cell? ⟨w1.heap.size, 1, none⟩ = some (.int .u8 (byteAt s.data.toList 1)) ∧ w'.cell? ⟨w1.heap.size, 2, none⟩ = some (.int .u8 (byteAt s.data.toList 2)) ∧ w'.cell? ⟨w1.heap.size, 3, none⟩ = some (.int .u8 (byteAt s.data.toList 3)) ∧ w'.cell? ⟨w1.heap.size, 4, none⟩ = some (.int .u8 (byteAt s.data.toList 4)) ∧ w'.cell? ⟨w1.heap.size, 5, none⟩ = some (.int .u8 (byteAt s.data.toList 5)) ∧ w'.cell? ⟨w1.heap.size, 6, none⟩ = some (.int .u8 (byteAt s.data.toList 6)) ∧ w'.cell? ⟨w1.heap.size, 7, none⟩ = some (.int .u8 (byteAt s.data.toList 7)) ∧ w'.cell? ⟨w1.heap.size, 8, none⟩ = some (.int .i64 v) ∧ w'.cell? ⟨w1.heap.size, 9, none⟩ = some (.int .i64 t))
        (first | go_keep | (go_split_ands; refine ⟨?_, ?_, ?_, ?_, ?_, ?_, ?_, ?_, ?_, ?_⟩ <;> (rw [hkp.cell (show w1.heap.size < W.heap.size by have := unhide HZ; omega) (unhide hun)]; assumption)))
        ((go_at_call 76; refine (unhide HP1).mono ?_; rintro e w2 ⟨rfl, hpost⟩; have hkp := hpost.choose_spec.choose_spec.choose_spec.2.2.1))
      go_wp2
      go_ret3
      refine Or.inr ⟨unhide HR, k, y.s, unhide HHome, by rw [unhide HV]; rfl, GrpPost.trans (w1 := W.drew) ((Keeps.of_below (unhide HB).drew).mono (fun _ _ _ => by omega)) (Ext.refl (unhide HF)) hpost⟩
  · rw [madeR_no rfl hr] at HM
    have HR := hide hr
    have hne : (makeR s v t != 0) = true := by rw [bne_iff_ne]; exact hr
    unfold recArr at HM
    clear G hI hf hr
    generalize hq : makeR s v t = q at *
    have HQ := hide hq
    clear hq
    go_enter Try.func44, Try.ntmps44
    go_wp2_with (go_at_call 75; refine (unhide HM).mono ?_; rintro e w1 ⟨rfl, hb⟩)
    go_ret3
    exact Or.inl ⟨by rw [unhide HQ]; exact unhide HR, by rw [unhide HQ]; rfl, ρ, sv, m, rfl, unhide HX _ (hb.alloc hb.size _), (Keeps.of_below (hb.alloc hb.size _)).mono (fun _ _ _ => by omega), Ext.refl (unhide HF), fun j hj => unhide HF j (by have := hb.size; simp at hj; omega)⟩

end Go.Proofs.Ytpnkmnmchdabkaa
namespace Go.Proofs.Ytpnkmnmchdabkaa
open Go.RowKit
attribute [local go_sem ↓] Go.wp_at_zero Go.wp_at_succ

/-- One more, as a machine counts. -/
def inc (x : Int) : Int := IntKind.i64.wrap (x + 1)
theorem inc_is {x : Int} (h : 0 ≤ x ∧ x ≤ 1000000000000) : inc x = x + 1 := by unfold inc; rw [IntKind.wrap_i64]; omega
/-- So much later, as a machine counts. -/
def dif (s p : Int) : Int := IntKind.i64.wrap (s - p)
theorem dif_is {s p : Int} (h : 0 ≤ s ∧ s ≤ 1000000000000) (h' : 0 ≤ p ∧ p ≤ 1000000000000) : dif s p = s - p := by unfold dif; rw [IntKind.wrap_i64]; omega

set_option maxHeartbeats 400000 in
theorem leHas_any (b o : Nat) (n : Int) (w : World) :
    Calls Try.prog 93 #[.pointer (some ⟨b, o, none⟩), .int .i64 n] w fun e w' => e = .returned (.bool (decide (0 ≤ n ∧ n < 16))) ∧ w = w' := by
  by_cases h1 : 0 ≤ n
  · by_cases h2 : n < 16
    all_goals
      go_enter Try.func93, Try.ntmps93
      go_wp2
      go_ret
      exact ⟨by simp [h1, h2], rfl⟩
  · go_enter Try.func93, Try.ntmps93
    go_wp2
    go_ret
    exact ⟨by simp; omega, rfl⟩

theorem has16 {n : Nat} (h : n < 16) : decide (0 ≤ (n : Int) ∧ (n : Int) < 16) = true := by simp; omega

set_option maxRecDepth 100000 in
set_option maxHeartbeats 1000000 in
theorem leOf_any (b o n : Nat) (hn : n < 16) (x : Le) (w : World) (hb : b < w.heap.size) (c0 : w.cell? ⟨b, o + n * 3, none⟩ = some (.int .i64 x.o)) (c1 : w.cell? ⟨b, o + n * 3 + 1, none⟩ = some (.int .i64 x.c)) (c2 : w.cell? ⟨b, o + n * 3 + 2, none⟩ = some (.int .i64 x.e)) :
    Calls Try.prog 65 #[.pointer (some ⟨b, o, none⟩), .int .i64 n] w fun e w' => e = .returned (.agg #[.int .i64 x.o, .int .i64 x.c, .int .i64 x.e]) ∧ Below w.heap.size w w' := by
  have HH := fun w => hide (leHas_any b o n w)
  rw [has16 hn] at HH
  go_enter Try.func65, Try.ntmps65
  go_wp2_with (go_at_call 93; refine (unhide (HH _)).mono ?_; rintro e w1 ⟨rfl, rfl⟩)
  refine bodyPost_ret (v := .agg #[.int .i64 x.o, .int .i64 x.c, .int .i64 x.e]) ?_ rfl ⟨rfl, (Below.refl _ w).alloc (Nat.le_refl _) _⟩
  simp [results, Try.results65, go_sem]

set_option maxRecDepth 100000 in
set_option maxHeartbeats 1000000 in
theorem leGive_any (b o n : Nat) (hn : n < 16) (x : Le) (wk : Int) (w : World) (c0 : w.cell? ⟨b, o + n * 3, none⟩ = some (.int .i64 x.o)) (c1 : w.cell? ⟨b, o + n * 3 + 1, none⟩ = some (.int .i64 x.c)) (c2 : w.cell? ⟨b, o + n * 3 + 2, none⟩ = some (.int .i64 x.e)) (f : ∀ q, w.frozen? ⟨b, q, none⟩ = false) :
    Calls Try.prog 88 #[.pointer (some ⟨b, o, none⟩), .int .i64 n, .int .i64 wk] w fun e w' => e = .returned (.int .i64 (inc x.e)) ∧ Below w.heap.size (((w.setCell ⟨b, o + n * 3, none⟩ (.int .i64 wk)).setCell ⟨b, o + n * 3 + 1, none⟩ (.int .i64 (inc x.c))).setCell ⟨b, o + n * 3 + 2, none⟩ (.int .i64 (inc x.e))) w' := by
  have we : IntKind.i64.wrap (x.e + 1) = inc x.e := rfl
  have wc : IntKind.i64.wrap (x.c + 1) = inc x.c := rfl
  have f0 : w.frozen? ⟨b, o + n * 3, none⟩ = false := f _
  have f1 : w.frozen? ⟨b, o + n * 3 + 1, none⟩ = false := f _
  have f2 : w.frozen? ⟨b, o + n * 3 + 2, none⟩ = false := f _
  have HH := fun w => hide (leHas_any b o n w)
  rw [has16 hn] at HH
  go_enter Try.func88, Try.ntmps88
  go_wp2_with (go_at_call 93; refine (unhide (HH _)).mono ?_; rintro e w1 ⟨rfl, rfl⟩)
  go_region
  go_wp2
  go_region
  go_wp2
  go_ret
  exact ⟨rfl, (Below.refl _ _).drew.drew⟩

set_option maxRecDepth 100000 in
set_option maxHeartbeats 1000000 in
theorem leRenew_any (b o n : Nat) (hn : n < 16) (x : Le) (w : World) (c1 : w.cell? ⟨b, o + n * 3 + 1, none⟩ = some (.int .i64 x.c)) (f : ∀ q, w.frozen? ⟨b, q, none⟩ = false) :
    Calls Try.prog 85 #[.pointer (some ⟨b, o, none⟩), .int .i64 n] w fun e w' => e = .returned (.tuple #[]) ∧ Below w.heap.size (w.setCell ⟨b, o + n * 3 + 1, none⟩ (.int .i64 (inc x.c))) w' := by
  have wc : IntKind.i64.wrap (x.c + 1) = inc x.c := rfl
  have f0 : w.frozen? ⟨b, o + n * 3, none⟩ = false := f _
  have f1 : w.frozen? ⟨b, o + n * 3 + 1, none⟩ = false := f _
  have f2 : w.frozen? ⟨b, o + n * 3 + 2, none⟩ = false := f _
  have HH := fun w => hide (leHas_any b o n w)
  rw [has16 hn] at HH
  go_enter Try.func85, Try.ntmps85
  go_wp2_with (go_at_call 93; refine (unhide (HH _)).mono ?_; rintro e w1 ⟨rfl, rfl⟩)
  go_region
  all_goals (try go_wp2)
  go_end0
  exact ⟨rfl, (Below.refl _ _).drew⟩

set_option maxRecDepth 100000 in
set_option maxHeartbeats 1000000 in
theorem leFree_any (b o n : Nat) (hn : n < 16) (x : Le) (w : World) (c0 : w.cell? ⟨b, o + n * 3, none⟩ = some (.int .i64 x.o)) (c1 : w.cell? ⟨b, o + n * 3 + 1, none⟩ = some (.int .i64 x.c)) (f : ∀ q, w.frozen? ⟨b, q, none⟩ = false) :
    Calls Try.prog 84 #[.pointer (some ⟨b, o, none⟩), .int .i64 n] w fun e w' => e = .returned (.tuple #[]) ∧ Below w.heap.size ((w.setCell ⟨b, o + n * 3, none⟩ (.int .i64 (-1))).setCell ⟨b, o + n * 3 + 1, none⟩ (.int .i64 (inc x.c))) w' := by
  have wc : IntKind.i64.wrap (x.c + 1) = inc x.c := rfl
  have f0 : w.frozen? ⟨b, o + n * 3, none⟩ = false := f _
  have f1 : w.frozen? ⟨b, o + n * 3 + 1, none⟩ = false := f _
  have f2 : w.frozen? ⟨b, o + n * 3 + 2, none⟩ = false := f _
  have HH := fun w => hide (leHas_any b o n w)
  rw [has16 hn] at HH
  go_enter Try.func84, Try.ntmps84
  go_wp2_with (go_at_call 93; refine (unhide (HH _)).mono ?_; rintro e w1 ⟨rfl, rfl⟩)
  go_region
  all_goals (try go_wp2)
  go_end0
  exact ⟨rfl, (Below.refl _ _).drew⟩

end Go.Proofs.Ytpnkmnmchdabkaa
