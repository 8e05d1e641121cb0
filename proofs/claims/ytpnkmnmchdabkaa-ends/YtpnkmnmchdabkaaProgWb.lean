import Derived.Test.YtpnkmnmchdabkaaProgWa
namespace Go.Proofs.Ytpnkmnmchdabkaa
open Go.RowKit
attribute [local go_sem ↓] Go.wp_at_zero Go.wp_at_succ

/-- The greatest time, the first p records of a shard passed. -/
def ahUp (a : Int) (rl : List Rc) : Nat → Int
  | 0 => a
  | p + 1 => match rl[p]? with
    | some r => lat (ahUp a rl p) r.t
    | none => ahUp a rl p
/-- What of a shard is folded, each record with the greatest time ahead of it. -/
def fdOf (a : Int) (rl : List Rc) : Nat → List (Rc × Int)
  | 0 => []
  | p + 1 => match rl[p]? with
    | some r => fdOf a rl p ++ [(r, ahUp a rl p)]
    | none => fdOf a rl p
/-- The watermarks, and all that is folded, the first n shards passed. -/
def wmUp (l : List Sh) (d : Nat → Nat) : Nat → List Int
  | 0 => st0
  | n + 1 => match l[n]? with
    | some s => (wmUp l d n).set n (ahUp (topOf (wmUp l d n) s.par) s.rl (d n))
    | none => wmUp l d n
def fdUp (l : List Sh) (d : Nat → Nat) : Nat → List (Rc × Int)
  | 0 => []
  | n + 1 => match l[n]? with
    | some s => fdUp l d n ++ fdOf (topOf (wmUp l d n) s.par) s.rl (d n)
    | none => fdUp l d n
theorem wmUp_len (l : List Sh) (d : Nat → Nat) (n : Nat) : (wmUp l d n).length = 16 := by
  induction n with
  | zero => exact st0_len
  | succ n ih => unfold wmUp; cases l[n]? <;> simp [ih]
theorem fdOf_le (a : Int) (rl : List Rc) (p : Nat) : (fdOf a rl p).length ≤ p := by
  induction p with
  | zero => simp [fdOf]
  | succ p ih => unfold fdOf; cases rl[p]? <;> simp <;> omega
theorem fdUp_le {l : List Sh} {d : Nat → Nat} (hd : ∀ k, d k ≤ 32) (n : Nat) : (fdUp l d n).length ≤ 32 * n := by
  induction n with
  | zero => simp [fdUp]
  | succ n ih =>
    unfold fdUp
    cases l[n]? with
    | none => simp only; omega
    | some s =>
      have := fdOf_le (topOf (wmUp l d n) s.par) s.rl (d n)
      have := hd n
      simp only [List.length_append]
      omega
def fdCells (x : Rc × Int) : List Value := rcCells x.1 ++ [.int .i64 x.2]
def fdRow : List (Rc × Int) → List Value
  | [] => []
  | x :: r => fdCells x ++ fdRow r
theorem fdRow_append (l k : List (Rc × Int)) : fdRow (l ++ k) = fdRow l ++ fdRow k := by
  induction l with
  | nil => rfl
  | cons s r ih => simp [fdRow, ih]

theorem infoFd : (Try.prog.info? 164).map (fun i => (i.zero, i.size, i.bytes)) = some (some (.agg #[.int .u8 0, .int .u8 0, .int .u8 0, .int .u8 0, .int .u8 0, .int .u8 0, .int .u8 0, .int .u8 0, .int .i64 0, .int .i64 0, .int .i64 0]), 11, 32) := by kernel_rfl

theorem infoWm : (Try.prog.info? 171).map (fun i => (i.zero, i.size)) = some (some (.agg (stA st0)), 16) := by kernel_rfl
theorem infoWmSize : (Try.prog.info? 171).map (·.size) = some 16 := by kernel_rfl
theorem zvWm (w : World) : (zeroValue 171).run Try.prog w = .ok (.agg (stA st0)) w := (zero_of_info infoWm).1 w
/-- The load and the store of all watermarks, kept shut for the walk. -/
def ldW (a : Addr) : Sem Value := loadVar 171 a
def stW (a : Addr) (v : Value) : Sem Unit := storeVar 171 a v
theorem ldW_shut (a : Addr) : loadVar 171 a = ldW a := rfl
theorem stW_shut (a : Addr) (v : Value) : storeVar 171 a v = stW a v := rfl
theorem ldW_is {w : World} {b : Nat} {L : List Int} {t : TypeId} {f : Nat × Nat} (h : w.heap[b]? = some (.cells (stA L) t f)) (hL : L.length = 16) : (ldW ⟨b, 0, none⟩).run Try.prog w = .ok (.agg (stA L)) w :=
  run_loadVar_row w b t _ (stA L) f _ h Try.underlying171 rfl (by rw [stA_size hL]; exact infoWmSize)
theorem stW_is {w : World} {b : Nat} {K L : List Int} {t : TypeId} (h : w.heap[b]? = some (.cells (stA K) t (0, 0))) (hK : K.length = 16) (hL : L.length = 16) : (stW ⟨b, 0, none⟩ (.agg (stA L))).run Try.prog w = .ok () (w.setRow b (stA L)) :=
  run_storeVar_row w b t _ (stA K) (stA L) h (by rw [stA_size hL]; exact infoWmSize) (by rw [stA_size hK, stA_size hL]) (all_oneCell_toArray (stCells_one L))
theorem stW_new (w : World) (n : Nat) (K L : List Int) (hn : n = w.heap.size) (hK : K.length = 16) (hL : L.length = 16) : (stW ⟨n, 0, none⟩ (.agg (stA L))).run Try.prog (w.alloc (.cells (stA K) 171)) = .ok () (w.alloc (.cells (stA L) 171)) := by
  subst hn
  rw [stW_is (heap_alloc_new w _) hK hL, World.setRow_alloc_new]

attribute [local go_sem ↓] zvWm ldW_shut stW_shut
attribute [local go_sem] stW_new

/-- What walk's loops hold: the answer's block of watermarks, the local one, the list. -/
def WaInv (w : World) (ans loc : Nat) (wm : List Int) (F : List (Rc × Int)) (p : Value) (wr : World) : Prop :=
  wr.heap[ans]? = some (.cells (stA st0) 171 (0, 0)) ∧ wr.heap[loc]? = some (.cells (stA wm) 171 (0, 0)) ∧ Below w.heap.size w wr ∧ wr.ownsRow w.heap.size 164 11 p F.length (fdRow F) ∧ (∀ q, p.ownBlock = some q → q ≠ ans ∧ q ≠ loc) ∧ ans < wr.heap.size ∧ loc < wr.heap.size

theorem WaInv.below {w : World} {ans loc : Nat} {wm : List Int} {F : List (Rc × Int)} {p : Value} {wr w1 : World} (h : WaInv w ans loc wm F p wr) (hb : Below wr.heap.size wr w1) : WaInv w ans loc wm F p w1 := by
  obtain ⟨a, b, c, d, e, f, g⟩ := h
  have := hb.size
  exact ⟨(hb.block _ f).trans a, (hb.block _ g).trans b, c.trans (hb.mono c.size), ownsRow_of_block d fun q hq => hb.block q (d.lt q hq).2, e, by omega, by omega⟩

theorem results_tmp_row {P : Program} {fn : Func} {p u : Tmp} {ty : TypeId} (h : fn.results = #[.tmp u, .cell p ty]) (tmps : Array Value) (w : World) (g : Nat) (t : TypeId) (cs : Array Value) (fr : Nat × Nat) (d : TypeDesc)
    (hp : tmps.getD p undef = .pointer (some ⟨g, 0, none⟩)) (hg : w.heap[g]? = some (.cells cs t fr))
    (hu : P.underlying ty = some d) (hd : (match d with | .struct _ | .array _ _ => true | _ => false) = true) (hi : (P.info? ty).map (·.size) = some cs.size) :
    (results fn tmps).run P w = .ok (.tuple #[tmps.getD u undef, .agg cs]) w := by
  have hp' : tmps[p]?.getD undef = .pointer (some ⟨g, 0, none⟩) := by simpa using hp
  simp [results, h, hp', asAddr, run_loadVar_row w g t ty cs fr d hg hu hd hi]

set_option maxRecDepth 100000 in
set_option maxHeartbeats 8000000 in
theorem walk_any {w : World} {ρ : Nat → Nat} {gb : Nat} {C : Cfg} {now : Rest} {sv : Value} {m : List Cs} {g cap : Nat} {ls : List Le} {P : List Pl} (h : GS w ρ gb C now sv m g cap ls P) (hI : Inv (m.map (·.s))) (d : Nat → Nat) (hd : ∀ k, d k ≤ 32) (hdn : ∀ k, k < 16 → dnP now.dn k = (d k : Int)) (hdc : ∀ (k : Nat) (s : Cs), m[k]? = some s → d k ≤ s.s.rl.length) :
    Calls Try.prog 102 #[.pointer (some ⟨gb, 8, none⟩), .pointer (some ⟨gb, 7, none⟩)] w fun e w' => ∃ v, e = .returned (.tuple #[v, .agg (stA (wmUp (m.map (·.s)) d m.length))]) ∧ w'.ownsRow w.heap.size 164 11 v (fdUp (m.map (·.s)) d m.length).length (fdRow (fdUp (m.map (·.s)) d m.length)) ∧ Below w.heap.size w w' := by
  have h0 : 0 < m.length := by have := hI.pos; simpa using this
  have h16 : m.length ≤ 16 := GrpL.le h
  have z0 := st0_len
  have s0 := stA_size z0
  obtain ⟨i0, hi0, hz0, hz1, hz2⟩ := info_parts infoFd
  have HN : Hid (∀ W, Below w.heap.size w W → Calls Try.prog 79 #[.pointer (some ⟨gb, 7, none⟩)] W fun e w' => e = .returned (.int .i64 m.length) ∧ W = w') := fun W hb => gLen_any (GrpL.below h hb).1 h0
  have HP : Hid (∀ W, Below w.heap.size w W → ∀ (k : Nat) (s : Cs), m[k]? = some s → Calls Try.prog 80 #[.pointer (some ⟨gb, 7, none⟩), .int .i64 k] W (CopyPost W s.s.par)) := fun W hb k s hk => gParents_any (GrpL.below h hb).1 hk (hI.parL k s.s (by simp [hk])).1
  have HD : Hid (∀ W, Below w.heap.size w W → ∀ k : Nat, k < 16 → Calls Try.prog 89 #[.pointer (some ⟨gb, 8, none⟩), .int .i64 k] W fun e w' => e = .returned (.int .i64 (d k)) ∧ W = w') := fun W hb k hk => by rw [← hdn k hk]; exact gDone_any (now := now.up ls P) (GrpL.below h hb).1 k hk
  have HRd : Hid (∀ W, Below w.heap.size w W → ∀ (k : Nat) (s : Cs), m[k]? = some s → ∀ (p : Nat) (r : Rc), s.s.rl[p]? = some r → Calls Try.prog 112 #[.pointer (some ⟨gb, 7, none⟩), .int .i64 k, .int .i64 p] W fun e w' => e = .returned (.agg (recArr r.kb r.v r.t)) ∧ Below W.heap.size W w') := fun W hb k s hk p r hp => gRecord_any (h.below hb).1 k s hk p r hp
  have HLt := fun a b w => hide (later_any a b w)
  have HA : Hid (∀ (k : Nat) (s : Cs), m[k]? = some s → (∀ p ∈ s.s.par, 0 ≤ p ∧ p < 16) ∧ s.s.par.length ≤ 2) := fun k s hk => ⟨fun p hp => by
    obtain ⟨q, t, rfl, hq, _⟩ := hI.parR k s.s (by simp [hk]) p hp
    have := (List.getElem?_eq_some_iff.1 hk).1
    omega, (hI.parL k s.s (by simp [hk])).1⟩
  have HW1 : Hid (∀ (k : Nat) (s : Cs), m[k]? = some s → wmUp (m.map (·.s)) d (k + 1) = (wmUp (m.map (·.s)) d k).set k (ahUp (topOf (wmUp (m.map (·.s)) d k) s.s.par) s.s.rl (d k))) := fun k s hk => by rw [wmUp, show (m.map (·.s))[k]? = some s.s by simp [hk]]
  have HF1 : Hid (∀ (k : Nat) (s : Cs), m[k]? = some s → fdUp (m.map (·.s)) d (k + 1) = fdUp (m.map (·.s)) d k ++ fdOf (topOf (wmUp (m.map (·.s)) d k) s.s.par) s.s.rl (d k)) := fun k s hk => by rw [fdUp, show (m.map (·.s))[k]? = some s.s by simp [hk]]
  have HL : Hid (∀ k, (wmUp (m.map (·.s)) d k).length = 16) := fun k => wmUp_len _ _ k
  have HFl : Hid (∀ k, (fdUp (m.map (·.s)) d k).length ≤ 32 * k) := fun k => fdUp_le hd k
  have HW0 : Hid (wmUp (m.map (·.s)) d 0 = st0) := rfl
  have HF0 : Hid (fdUp (m.map (·.s)) d 0 = []) := rfl
  generalize wmUp (m.map (·.s)) d = U at HW1 HF1 HL HW0 ⊢
  generalize fdUp (m.map (·.s)) d = F at HF1 HFl HF0 ⊢
  have HDc := hide hdc
  have HDd := hide hd
  clear h hI hdn hdc hd
  go_enter Try.func102, Try.ntmps102
  go_wp2_with fail
  have hI0 : Hid (WaInv w w.heap.size (w.heap.size + 1 + 1) st0 [] (.slice (some ⟨w.heap.size + 1, 0, none⟩) 0 0) (((w.alloc (.cells (stA st0) 171)).alloc (.cells #[] 164)).alloc (.cells (stA st0) 171))) := by
    have e1 := heap_alloc_new w (.cells (stA st0) 171)
    have e2 := heap_alloc_new (w.alloc (.cells (stA st0) 171)) (.cells #[] 164)
    have e3 := heap_alloc_new ((w.alloc (.cells (stA st0) 171)).alloc (.cells #[] 164)) (.cells (stA st0) 171)
    have q1 : (w.alloc (.cells (stA st0) 171)).heap.size = w.heap.size + 1 := by simp
    have q2 : ((w.alloc (.cells (stA st0) 171)).alloc (.cells #[] 164)).heap.size = w.heap.size + 1 + 1 := by simp
    rw [q1] at e2
    rw [q2] at e3
    refine ⟨?_, e3, (((Below.refl _ w).alloc (Nat.le_refl _) _).alloc (by simp) _).alloc (by simp; omega) _, ⟨rfl, .inr ⟨w.heap.size + 1, 0, #[], rfl, by omega, ?_, Nat.le_refl _, by unfold maxLen; omega, rfl, rfl⟩⟩, fun q hq => ?_, by simp; omega, by simp⟩
    · rw [Below.heap_alloc _ _ _ (by simp; omega), Below.heap_alloc _ _ _ (by simp)]; exact e1
    · rw [Below.heap_alloc _ _ _ (by simp)]; exact e2
    · have e : w.heap.size + 1 = q := by simpa [Value.ownBlock] using hq
      omega
  generalize hans : w.heap.size + 1 + 1 = loc at *
  generalize (((w.alloc (.cells (stA st0) 171)).alloc (.cells #[] 164)).alloc (.cells (stA st0) 171)) = W at *
  refine (unhide HN _ (unhide hI0).2.2.1).mono ?_
  rintro e w1 ⟨rfl, rfl⟩
  go_wp2
  go_loopw [6, 9] (fun p i wr => ∃ k : Nat, k ≤ m.length ∧ i = .int .i64 k ∧ WaInv w w.heap.size loc (U k) (F k) p wr) (fun _ i _ => m.length - (intOf i).toNat)
  case atStart => exact ⟨0, by omega, rfl, by rw [unhide HW0, unhide HF0]; exact unhide hI0⟩
  case round =>
    obtain ⟨k, hk, rfl, hinv⟩ := hrel
    have hlk := unhide HL k
    by_cases hlt : k < m.length
    · obtain ⟨s, hs⟩ : ∃ s, m[k]? = some s := ⟨m[k], List.getElem?_eq_getElem hlt⟩
      have k16 : k < 16 := by omega
      have HS := hide hs
      have HIv := hide hinv
      clear hinv hs
      go_wp2_with fail
      refine (unhide HP _ (unhide HIv).2.2.1 k s (unhide HS)).mono ?_
      intro e w1 hcp
      obtain ⟨q, qc, rfl, hrow, hcb⟩ := hcp
      have ROW := hide (ownsRow_base hrow (Nat.zero_le _))
      have J1 := hide ((unhide HIv).below hcb)
      have hld := ldW_is (unhide J1).2.1 hlk
      clear hrow hcb HIv
      go_wp2_with fail
      refine (amongst_any (U k) hlk s.s.par q qc w1 (unhide HA k s (unhide HS)).1 (unhide HA k s (unhide HS)).2 (unhide ROW)).mono ?_
      rintro e w2 ⟨rfl, hb2⟩
      have J2 := hide ((unhide J1).below hb2)
      clear hb2 hld J1 ROW
      have HWk := hide (unhide HW1 k s (unhide HS))
      have HFk := hide (unhide HF1 k s (unhide HS))
      generalize topOf (U k) s.s.par = a0 at *
      go_wp2_with fail
      refine (unhide HD _ (unhide J2).2.2.1 k k16).mono ?_
      rintro e w3 ⟨rfl, rfl⟩
      have hdl := unhide HDc k s (unhide HS)
      have hd32 := unhide HDd k
      have hFle := unhide HFl k
      go_wp2
      go_loopw [6, 11, 13] (fun p a i wr => ∃ j : Nat, j ≤ d k ∧ i = .int .i64 j ∧ a = .int .i64 (ahUp a0 s.s.rl j) ∧ WaInv w w.heap.size loc (U k) (F k ++ fdOf a0 s.s.rl j) p wr) (fun _ _ i _ => d k - (intOf i).toNat)
      case atStart => exact ⟨0, by omega, rfl, rfl, by simpa [fdOf] using unhide J2⟩
      case round =>
        obtain ⟨j, hj, rfl, rfl, hinv⟩ := hrel
        by_cases hlt2 : j < d k
        · obtain ⟨r, hr⟩ : ∃ r, s.s.rl[j]? = some r := ⟨s.s.rl[j]'(by omega), List.getElem?_eq_getElem _⟩
          have HF2 : Hid (fdOf a0 s.s.rl (j + 1) = fdOf a0 s.s.rl j ++ [(r, ahUp a0 s.s.rl j)]) := by unfold Hid; rw [fdOf, hr]
          have HA2 : Hid (ahUp a0 s.s.rl (j + 1) = lat (ahUp a0 s.s.rl j) r.t) := by unfold Hid; rw [ahUp, hr]
          have HRr := hide hr
          obtain ⟨pa, pc, hpv⟩ := ownsRow_len hinv.2.2.2.1
          subst hpv
          have hFl : (F k ++ fdOf a0 s.s.rl j).length ≤ 1000 := by have := fdOf_le a0 s.s.rl j; rw [List.length_append]; omega
          have HIv := hide hinv
          clear hinv hr
          generalize hG1 : F k ++ fdOf a0 s.s.rl j = G1 at *
          have HG1 := hide hG1
          generalize ahUp a0 s.s.rl j = aj at *
          clear hG1
          go_wp2_with fail
          refine (unhide HRd _ (unhide HIv).2.2.1 k s (unhide HS) j r (unhide HRr)).mono ?_
          unfold recArr
          rintro e w4 ⟨rfl, hb4⟩
          have J4 := hide ((unhide HIv).below hb4)
          have J5 := hide ((unhide J4).below ((Below.refl _ w4).alloc (Nat.le_refl _) (.cells #[.int .u8 (byteAt r.kb 0), .int .u8 (byteAt r.kb 1), .int .u8 (byteAt r.kb 2), .int .u8 (byteAt r.kb 3), .int .u8 (byteAt r.kb 4), .int .u8 (byteAt r.kb 5), .int .u8 (byteAt r.kb 6), .int .u8 (byteAt r.kb 7), .int .i64 r.v, .int .i64 r.t] 145)))
          obtain ⟨x0, x1, x2, x3, x4, x5, x6, x7, x8, x9⟩ := load10 (heap_alloc_new w4 (.cells #[.int .u8 (byteAt r.kb 0), .int .u8 (byteAt r.kb 1), .int .u8 (byteAt r.kb 2), .int .u8 (byteAt r.kb 3), .int .u8 (byteAt r.kb 4), .int .u8 (byteAt r.kb 5), .int .u8 (byteAt r.kb 6), .int .u8 (byteAt r.kb 7), .int .i64 r.v, .int .i64 r.t] 145))
          clear hb4
          have J6 := hide ((unhide J5).below ((Below.refl _ _).alloc (Nat.le_refl _) (.cells #[.int .u8 (byteAt r.kb 0), .int .u8 (byteAt r.kb 1), .int .u8 (byteAt r.kb 2), .int .u8 (byteAt r.kb 3), .int .u8 (byteAt r.kb 4), .int .u8 (byteAt r.kb 5), .int .u8 (byteAt r.kb 6), .int .u8 (byteAt r.kb 7), .int .i64 r.v, .int .i64 r.t, .int .i64 aj] 164)))
          have hw4 : Hid ((w4.alloc (.cells #[.int .u8 (byteAt r.kb 0), .int .u8 (byteAt r.kb 1), .int .u8 (byteAt r.kb 2), .int .u8 (byteAt r.kb 3), .int .u8 (byteAt r.kb 4), .int .u8 (byteAt r.kb 5), .int .u8 (byteAt r.kb 6), .int .u8 (byteAt r.kb 7), .int .i64 r.v, .int .i64 r.t] 145)).heap.size = w4.heap.size + 1) := by unfold Hid; simp
          have hr4 : Hid (((w4.alloc (.cells #[.int .u8 (byteAt r.kb 0), .int .u8 (byteAt r.kb 1), .int .u8 (byteAt r.kb 2), .int .u8 (byteAt r.kb 3), .int .u8 (byteAt r.kb 4), .int .u8 (byteAt r.kb 5), .int .u8 (byteAt r.kb 6), .int .u8 (byteAt r.kb 7), .int .i64 r.v, .int .i64 r.t] 145)).alloc (.cells #[.int .u8 (byteAt r.kb 0), .int .u8 (byteAt r.kb 1), .int .u8 (byteAt r.kb 2), .int .u8 (byteAt r.kb 3), .int .u8 (byteAt r.kb 4), .int .u8 (byteAt r.kb 5), .int .u8 (byteAt r.kb 6), .int .u8 (byteAt r.kb 7), .int .i64 r.v, .int .i64 r.t, .int .i64 aj] 164)).heap[w4.heap.size]? = some (.cells #[.int .u8 (byteAt r.kb 0), .int .u8 (byteAt r.kb 1), .int .u8 (byteAt r.kb 2), .int .u8 (byteAt r.kb 3), .int .u8 (byteAt r.kb 4), .int .u8 (byteAt r.kb 5), .int .u8 (byteAt r.kb 6), .int .u8 (byteAt r.kb 7), .int .i64 r.v, .int .i64 r.t] 145 (0, 0))) := by
            unfold Hid
            rw [Below.heap_alloc _ _ _ (by simp)]
            exact heap_alloc_new w4 _
          have hp4 : Hid (∀ q, (Value.slice pa G1.length pc).ownBlock = some q → q < w4.heap.size) := fun q hq => ((unhide J4).2.2.2.1.lt q hq).2
          go_wp2_with (at_builtin; go_must (refine wpList_append_lies _ rfl _ _ _ rfl w.heap.size 164 i0 _ 11 32 Try.underlying161 hi0 hz0 hz1 hz2 rfl (by omega) _ G1.length (fdRow G1) rfl ?own ⟨w4.heap.size + 1, 0, none⟩ 1 1 (fdCells (r, aj)) rfl rfl ?news ?one (by omega) ?h63 ?bytes ?base (w4.heap.size + 2) ?hH ?next))
          case own => exact (unhide J6).2.2.2.1
          case news =>
            have h1 := heap_alloc_new (w4.alloc (.cells #[.int .u8 (byteAt r.kb 0), .int .u8 (byteAt r.kb 1), .int .u8 (byteAt r.kb 2), .int .u8 (byteAt r.kb 3), .int .u8 (byteAt r.kb 4), .int .u8 (byteAt r.kb 5), .int .u8 (byteAt r.kb 6), .int .u8 (byteAt r.kb 7), .int .i64 r.v, .int .i64 r.t] 145)) (.cells #[.int .u8 (byteAt r.kb 0), .int .u8 (byteAt r.kb 1), .int .u8 (byteAt r.kb 2), .int .u8 (byteAt r.kb 3), .int .u8 (byteAt r.kb 4), .int .u8 (byteAt r.kb 5), .int .u8 (byteAt r.kb 6), .int .u8 (byteAt r.kb 7), .int .i64 r.v, .int .i64 r.t, .int .i64 aj] 164)
            rw [unhide hw4] at h1
            exact World.news_of_block h1
          case one =>
            intro u hu
            simp [fdCells, rcCells, recArr] at hu
            rcases hu with rfl | rfl | rfl | rfl | rfl | rfl | rfl | rfl | rfl | rfl | rfl <;> rfl
          case h63 => unfold maxLen; omega
          case bytes => omega
          case base => have := (unhide J4).2.2.1.size; simp; omega
          case hH => simp
          case next =>
            intro g5 cap5 w5 hown5 hgrow5 hat5 hlt5
            have sz6 : ((w4.alloc (.cells #[.int .u8 (byteAt r.kb 0), .int .u8 (byteAt r.kb 1), .int .u8 (byteAt r.kb 2), .int .u8 (byteAt r.kb 3), .int .u8 (byteAt r.kb 4), .int .u8 (byteAt r.kb 5), .int .u8 (byteAt r.kb 6), .int .u8 (byteAt r.kb 7), .int .i64 r.v, .int .i64 r.t] 145)).alloc (.cells #[.int .u8 (byteAt r.kb 0), .int .u8 (byteAt r.kb 1), .int .u8 (byteAt r.kb 2), .int .u8 (byteAt r.kb 3), .int .u8 (byteAt r.kb 4), .int .u8 (byteAt r.kb 5), .int .u8 (byteAt r.kb 6), .int .u8 (byteAt r.kb 7), .int .i64 r.v, .int .i64 r.t, .int .i64 aj] 164)).heap.size = w4.heap.size + 2 := by simp
            have j6 := unhide J6
            have J7 : Hid (WaInv w w.heap.size loc (U k) (G1 ++ [(r, aj)]) (.slice (some ⟨g5, 0, none⟩) (G1.length + 1) cap5) w5) := by
              obtain ⟨b1, b2, b3, b4, b5, b6, b7⟩ := j6
              have hs5 := hgrow5.size
              have ne : ∀ q, q = w.heap.size ∨ q = loc → (Value.slice pa G1.length pc).ownBlock ≠ some q := fun q hq h9 => by have := b5 q h9; omega
              refine ⟨(hgrow5.block _ b6 (fun e => ne _ (Or.inl rfl) e.symm)).trans b1, (hgrow5.block _ b7 (fun e => ne _ (Or.inr rfl) e.symm)).trans b2, b3.grown hgrow5 b3.size (fun q hq => (b4.lt q hq).1), ?_, fun q hq => ?_, by omega, by omega⟩
              · rw [fdRow_append, List.length_append]
                simpa [fdRow] using hown5
              · have eq : g5 = q := by simpa [Value.ownBlock] using hq
                subst eq
                rcases hat5 with h9 | h9
                · exact b5 g5 h9
                · rw [h9]; omega
            have c9 : w5.cell? ⟨w4.heap.size, 9, none⟩ = some (.int .i64 r.t) := by
              have hb : w5.heap[w4.heap.size]? = some (.cells #[.int .u8 (byteAt r.kb 0), .int .u8 (byteAt r.kb 1), .int .u8 (byteAt r.kb 2), .int .u8 (byteAt r.kb 3), .int .u8 (byteAt r.kb 4), .int .u8 (byteAt r.kb 5), .int .u8 (byteAt r.kb 6), .int .u8 (byteAt r.kb 7), .int .i64 r.v, .int .i64 r.t] 145 (0, 0)) := (hgrow5.block _ (by rw [sz6]; omega) (fun e => by have := unhide hp4 _ e.symm; omega)).trans (unhide hr4)
              exact cell_of hb 9
            clear hown5 hgrow5 hat5 hlt5 j6 x0 x1 x2 x3 x4 x5 x6 x7 x8 x9 sz6
            go_wp2_with fail
            refine (unhide (HLt aj r.t w5)).mono ?_
            rintro e w6 ⟨rfl, rfl⟩
            go_wp2
            go_roundw
            case rel => exact ⟨j + 1, by omega, by go_num, by rw [unhide HA2]; rfl, by rw [unhide HF2, ← List.append_assoc, unhide HG1]; simpa using unhide J7⟩
            case measure => simp [intOf]; omega
        · have ej : j = d k := by omega
          rw [ej, ← unhide HFk] at hinv
          rw [ej]
          generalize ahUp a0 s.s.rl (d k) = ak at *
          obtain ⟨b1, b2, b3, b4, b5, b6, b7⟩ := hinv
          have hck : k < (U k).length := by omega
          have ck : wr.cell? ⟨loc, k, none⟩ = some (.int .i64 (U k)[k]) := by
            rw [cell_of b2]
            unfold stA
            simp [hck]
          have fk := frozen_of b2 k
          have J8 : Hid (WaInv w w.heap.size loc (U (k + 1)) (F (k + 1)) u6 (wr.setCell ⟨loc, k, none⟩ (.int .i64 ak))) := by
            have hne : w.heap.size ≠ loc := by omega
            refine ⟨?_, ?_, b3.setCell (p := ⟨loc, k, none⟩) (by simp; omega) _, ownsRow_of_block b4 fun q hq => Below.heap_setCell _ _ _ _ (fun e9 => (b5 q hq).2 e9), b5, by simpa [World.setCell] using b6, by simpa [World.setCell] using b7⟩
            · rw [Below.heap_setCell _ _ _ _ (by simp; omega)]; exact b1
            · rw [heap_setCell_same b2, stA_set, unhide HWk]
          clear b1 b2 b3 b4 b5 b6 b7
          go_wp2
          go_roundw
          case rel => exact ⟨k + 1, by omega, by go_num, unhide J8⟩
          case measure => simp [intOf]; omega
    · have e : k = m.length := by omega
      subst e
      obtain ⟨b1, b2, b3, b4, b5, b6, b7⟩ := hinv
      have hs16 := stA_size hlk
      have hrg : wr.rangeAt loc 0 (List.map (Value.int IntKind.i64) (U m.length)) := fun j v hv => by
        rw [cell_of b2, Nat.zero_add]
        unfold stA
        rw [List.getElem?_toArray]
        exact hv
      have hth : wr.there w.heap.size 0 (List.map (Value.int IntKind.i64) (U m.length)).length := there_of b1 st0_len _ (by simp [hlk])
      have hone : ∀ v, v ∈ List.map (Value.int IntKind.i64) (U m.length) → v.oneCell' = true := stCells_one _
      have hinf : Option.map (fun x => x.size) (Try.prog.info? 171) = some (List.map (Value.int IntKind.i64) (U m.length)).length := by rw [infoWmSize]; simp [hlk]
      have hne : loc ≠ w.heap.size := by omega
      have hund := Try.underlying171
      have HI9 : Hid (WaInv w w.heap.size loc (U m.length) (F m.length) u6 wr) := ⟨b1, b2, b3, b4, b5, b6, b7⟩
      clear b1 b2 b3 b4 b5 b6 b7
      go_wp2_with fail
      go_region_held3 (fun w' => w'.rangeAt loc 0 (List.map (Value.int IntKind.i64) (U m.length)) ∧ w'.there w.heap.size 0 (List.map (Value.int IntKind.i64) (U m.length)).length) (go_keep_ranges) (fail)
      obtain ⟨b1, b2, b3, b4, b5, b6, b7⟩ := (unhide HI9).below (Below.refl _ _).drew
      rw [stSet b1 st0_len hlk]
      have R1 := hide (setRow_same (cs' := stA (U m.length)) b1)
      have R2 := hide (setRow_below b3 (Nat.le_refl _) (stA (U m.length)))
      have R3 : Hid ((wr.drew.setRow w.heap.size (stA (U m.length))).ownsRow w.heap.size 164 11 u6 (F m.length).length (fdRow (F m.length))) := ownsRow_of_block b4 fun q hq => setRow_other (fun e => (b5 q hq).1 e)
      clear b1 b2 b3 b4 b5 b6 b7 hrg hth hone HI9
      go_wp2
      refine bodyPost_ret (v := .tuple #[u6, .agg (stA (U m.length))]) ?_ rfl ⟨u6, rfl, unhide R3, unhide R2⟩
      refine (results_tmp_row (p := 5) (u := 4) (ty := 171) ?_ _ _ w.heap.size _ _ _ _ ?_ (unhide R1) Try.underlying171 rfl (by rw [hs16]; exact infoWmSize)).trans ?_
      · rfl
      · rfl
      · rfl

end Go.Proofs.Ytpnkmnmchdabkaa
