import Derived.Test.YtpnkmnmchdabkaaM08
import Derived.Test.YtpnkmnmchdabkaaM12
namespace Go.Proofs.Ytpnkmnmchdabkaa
open Go.RowKit
attribute [local go_sem ↓] Go.wp_at_zero Go.wp_at_succ

/-- The stages, as a row of cells. -/
def stA (L : List Int) : Array Value := (L.map (Value.int .i64)).toArray
theorem stA_size {L : List Int} (h : L.length = 16) : (stA L).size = 16 := by unfold stA; simp [h]
theorem stCells_one (L : List Int) : ∀ v ∈ L.map (Value.int .i64), v.oneCell' = true := by
  intro v hv
  obtain ⟨x, _, rfl⟩ := List.mem_map.1 hv
  rfl
def st0 : List Int := List.replicate 16 0
theorem st0_len : st0.length = 16 := by simp [st0]

theorem infoStg : (Try.prog.info? 108).map (fun i => (i.zero, i.size)) = some (some (.agg (stA st0)), 16) := by kernel_rfl
theorem infoStgSize : (Try.prog.info? 108).map (·.size) = some 16 := by kernel_rfl
theorem zvStg (w : World) : (zeroValue 108).run Try.prog w = .ok (.agg (stA st0)) w := (zero_of_info infoStg).1 w
theorem ldStg {w : World} {b : Nat} {L : List Int} {t : TypeId} {f : Nat × Nat} (h : w.heap[b]? = some (.cells (stA L) t f)) (hL : L.length = 16) : (loadVar 108 ⟨b, 0, none⟩).run Try.prog w = .ok (.agg (stA L)) w :=
  run_loadVar_row w b t _ (stA L) f _ h Try.underlying108 rfl (by rw [stA_size hL]; exact infoStgSize)
theorem stStg {w : World} {b : Nat} {K L : List Int} {t : TypeId} (h : w.heap[b]? = some (.cells (stA K) t (0, 0))) (hK : K.length = 16) (hL : L.length = 16) : (storeVar 108 ⟨b, 0, none⟩ (.agg (stA L))).run Try.prog w = .ok () (w.setRow b (stA L)) :=
  run_storeVar_row w b t _ (stA K) (stA L) h (by rw [stA_size hL]; exact infoStgSize) (by rw [stA_size hK, stA_size hL]) (all_oneCell_toArray (stCells_one L))

/-- The load and the store of all stages, kept shut for the walk. -/
def ldS (a : Addr) : Sem Value := loadVar 108 a
def stS (a : Addr) (v : Value) : Sem Unit := storeVar 108 a v
theorem ldS_shut (a : Addr) : loadVar 108 a = ldS a := rfl
theorem stS_shut (a : Addr) (v : Value) : storeVar 108 a v = stS a v := rfl
theorem ldS_is {w : World} {b : Nat} {L : List Int} {t : TypeId} {f : Nat × Nat} (h : w.heap[b]? = some (.cells (stA L) t f)) (hL : L.length = 16) : (ldS ⟨b, 0, none⟩).run Try.prog w = .ok (.agg (stA L)) w := ldStg h hL
theorem stS_is {w : World} {b : Nat} {K L : List Int} {t : TypeId} (h : w.heap[b]? = some (.cells (stA K) t (0, 0))) (hK : K.length = 16) (hL : L.length = 16) : (stS ⟨b, 0, none⟩ (.agg (stA L))).run Try.prog w = .ok () (w.setRow b (stA L)) := stStg h hK hL
theorem stS_new (w : World) (n : Nat) (K L : List Int) (hn : n = w.heap.size) (hK : K.length = 16) (hL : L.length = 16) : (stS ⟨n, 0, none⟩ (.agg (stA L))).run Try.prog (w.alloc (.cells (stA K) 108)) = .ok () (w.alloc (.cells (stA L) 108)) := by
  subst hn
  rw [stS_is (heap_alloc_new w _) hK hL, World.setRow_alloc_new]

attribute [local go_sem ↓] zvStg ldS_shut stS_shut
attribute [local go_sem] stS_new

theorem stA_set {L : List Int} {k : Nat} {v : Int} : (stA L).setIfInBounds k (.int .i64 v) = stA (L.set k v) := by
  unfold stA
  rw [List.setIfInBounds_toArray, List.map_set]


/-- The calls of the log and of the sink, at one shard. -/
theorem gParents_any {w : World} {ρ : Nat → Nat} {gb : Nat} {C : Cfg} {now : Rest} {sv : Value} {m : List Cs} {g cap : Nat} {P : List Pl} (h : GrpL w ρ gb C now sv m g cap P) {k : Nat} {s : Cs} (hk : m[k]? = some s) (hp : s.s.par.length ≤ 2) :
    Calls Try.prog 80 #[.pointer (some ⟨gb, 7, none⟩), .int .i64 k] w (CopyPost w s.s.par) := by
  have hk' := (List.getElem?_eq_some_iff.1 hk).1
  obtain ⟨bs, cp, rfl, hbs, hbsl, hcap, hcm, ff, cc⟩ := h.G.log.shape (by omega)
  obtain ⟨a0, a1, a2, a3, a4⟩ := cc k s hk
  obtain ⟨pa, pcap, hpv⟩ := ownsRow_len (h.G.log.par k s hk)
  refine logParents_any gb 7 m.length cp bs k s.s.par pcap pa w hk' hp hbsl h.tcell.2.1 (by rw [a3, hpv]) ?_
  intro j hj
  obtain ⟨q, cap', cur, hv, _, hg, _⟩ := ownsRow_shape (h.G.log.par k s hk) (by omega)
  rw [hpv] at hv
  injection hv with e1 e2 e3
  refine ⟨q, e1, lt_of_heap hg, ?_⟩
  have hrow := h.G.log.par k s hk
  rw [hpv, e1] at hrow
  rw [World.ownsRow.cellAt hrow j (by omega)]
  simp [hj]
theorem gFolded_any {w : World} {ρ : Nat → Nat} {gb : Nat} {C : Cfg} {now : Rest} {sv : Value} {m : List Cs} {g cap : Nat} {P : List Pl} (h : GrpL w ρ gb C now sv m g cap P) {k : Nat} {s : Cs} (hk : m[k]? = some s) :
    Calls Try.prog 82 #[.pointer (some ⟨gb, 8, none⟩), .pointer (some ⟨gb, 7, none⟩), .int .i64 k] w fun e w' => e = .returned (.bool (!s.s.op && decide ((s.s.cnt : Int) ≤ dnP now.dn k))) ∧ w = w' := by
  have hk' := (List.getElem?_eq_some_iff.1 hk).1
  have h16 := h.le
  obtain ⟨bs, cp, rfl, hbs, hbsl, hcap, hcm, ff, cc⟩ := h.G.log.shape (by omega)
  obtain ⟨a0, a1, a2, a3, a4⟩ := cc k s hk
  obtain ⟨xs, hx⟩ := h.G.log.rcs k s hk
  obtain ⟨ra, rcap, hrv⟩ := ownsRow_len hx
  exact sinkFolded_any gb 8 7 k m.length cp bs s.s.cnt rcap ra s.s.op (by omega) hk' (dnP now.dn k) w (h.dcell (k * 2) _ (dnP_get h.G.dnL (by omega))) h.tcell.2.1 a2 (by rw [a4, hrv])
theorem gDone_any {w : World} {ρ : Nat → Nat} {gb : Nat} {C : Cfg} {now : Rest} {sv : Value} {m : List Cs} {g cap : Nat} {P : List Pl} (h : GrpL w ρ gb C now sv m g cap P) (k : Nat) (hk : k < 16) :
    Calls Try.prog 89 #[.pointer (some ⟨gb, 8, none⟩), .int .i64 k] w fun e w' => e = .returned (.int .i64 (dnP now.dn k)) ∧ w = w' :=
  sinkDone_any gb 8 k hk (dnP now.dn k) w (h.dcell (k * 2) _ (dnP_get h.G.dnL hk))
theorem gLen_any {w : World} {ρ : Nat → Nat} {gb : Nat} {C : Cfg} {now : Rest} {sv : Value} {m : List Cs} {g cap : Nat} {P : List Pl} (h : GrpL w ρ gb C now sv m g cap P) (h0 : 0 < m.length) :
    Calls Try.prog 79 #[.pointer (some ⟨gb, 7, none⟩)] w fun e w' => e = .returned (.int .i64 m.length) ∧ w = w' := by
  obtain ⟨bs, cp, rfl, _⟩ := h.G.log.shape h0
  exact logLen_any gb 7 m.length cp (some ⟨bs, 0, none⟩) w h.tcell.2.1
theorem gAllFin_any (st : List Int) (hst : st.length = 16) (par : List Int) (q qc : Nat) (w : World) (hr : ∀ p ∈ par, 0 ≤ p ∧ p < 16) (hl : par.length ≤ 2) (hrow : w.ownsRow 0 3 1 (.slice (some ⟨q, 0, none⟩) par.length qc) par.length (par.map (Value.int .i64))) :
    Calls Try.prog 81 #[.agg (stA st), .slice (some ⟨q, 0, none⟩) par.length qc] w fun e w' => e = .returned (.bool (allTwo st par)) ∧ Below w.heap.size w w' :=
  allFinished_any st hst par (some ⟨q, 0, none⟩) qc w hr hl fun j hj => ⟨q, rfl, (hrow.lt q rfl).2, by rw [World.ownsRow.cellAt hrow j (by omega)]; simp [hj]⟩

/-- What the stages' loop holds. -/
def StInv (w : World) (ans loc : Nat) (st : List Int) (wr : World) : Prop := wr.heap[ans]? = some (.cells (stA st0) 108 (0, 0)) ∧ wr.heap[loc]? = some (.cells (stA st) 108 (0, 0)) ∧ Below w.heap.size w wr

set_option maxRecDepth 100000 in
set_option maxHeartbeats 4000000 in
theorem stages_any {w : World} {ρ : Nat → Nat} {gb : Nat} {C : Cfg} {now : Rest} {sv : Value} {m : List Cs} {g cap : Nat} {P : List Pl} (h : GrpL w ρ gb C now sv m g cap P) (hI : Inv (m.map (·.s))) :
    Calls Try.prog 49 #[.pointer (some ⟨gb, 8, none⟩), .pointer (some ⟨gb, 7, none⟩)] w fun e w' => e = .returned (.agg (stA (stgUp (m.map (·.s)) (dnP now.dn) m.length))) ∧ Below w.heap.size w w' := by
  have h0 : 0 < m.length := by have := hI.pos; simpa using this
  have h16 := h.le
  have z0 := st0_len
  have s0 := stA_size z0
  have HN : Hid (∀ W, Below w.heap.size w W → Calls Try.prog 79 #[.pointer (some ⟨gb, 7, none⟩)] W fun e w' => e = .returned (.int .i64 m.length) ∧ W = w') := fun W hb => gLen_any (h.below hb).1 h0
  have HP : Hid (∀ W, Below w.heap.size w W → ∀ (k : Nat) (s : Cs), m[k]? = some s → Calls Try.prog 80 #[.pointer (some ⟨gb, 7, none⟩), .int .i64 k] W (CopyPost W s.s.par)) := fun W hb k s hk => gParents_any (h.below hb).1 hk (hI.parL k s.s (by simp [hk])).1
  have HF : Hid (∀ W, Below w.heap.size w W → ∀ (k : Nat) (s : Cs), m[k]? = some s → Calls Try.prog 82 #[.pointer (some ⟨gb, 8, none⟩), .pointer (some ⟨gb, 7, none⟩), .int .i64 k] W fun e w' => e = .returned (.bool (!s.s.op && decide ((s.s.cnt : Int) ≤ dnP now.dn k))) ∧ W = w') := fun W hb k s hk => gFolded_any (h.below hb).1 hk
  have HA : Hid (∀ (k : Nat) (s : Cs), m[k]? = some s → (∀ p ∈ s.s.par, 0 ≤ p ∧ p < 16) ∧ s.s.par.length ≤ 2) := fun k s hk => ⟨fun p hp => by
    obtain ⟨q, t, rfl, hq, _⟩ := hI.parR k s.s (by simp [hk]) p hp
    have := (List.getElem?_eq_some_iff.1 hk).1
    omega, (hI.parL k s.s (by simp [hk])).1⟩
  have HU : Hid (∀ (k : Nat) (s : Cs), m[k]? = some s → stgUp (m.map (·.s)) (dnP now.dn) (k + 1) = (stgUp (m.map (·.s)) (dnP now.dn) k).set k (stgV (stgUp (m.map (·.s)) (dnP now.dn) k) (dnP now.dn k) s.s)) := fun k s hk => stgUp_succ (by simp [hk])
  have HL : Hid (∀ k, (stgUp (m.map (·.s)) (dnP now.dn) k).length = 16) := fun k => stgUp_len _ _ k
  have HZ : Hid (∀ k j, k ≤ j → j < 16 → (stgUp (m.map (·.s)) (dnP now.dn) k)[j]? = some 0) := fun k j hkj hj => stgUp_zero _ _ k j hkj hj
  have H00 : Hid (stgUp (m.map (·.s)) (dnP now.dn) 0 = st0) := rfl
  generalize hU : stgUp (m.map (·.s)) (dnP now.dn) = U at HU HL HZ H00 ⊢
  generalize hdn : dnP now.dn = dn at HF HU
  clear h hI hU hdn
  go_enter Try.func49, Try.ntmps49
  go_wp2_with fail
  have h0' : Hid (((w.alloc (.cells (stA st0) 108)).alloc (.cells (stA st0) 108)).heap[w.heap.size]? = some (.cells (stA st0) 108 (0, 0))) := by
    unfold Hid
    rw [Below.heap_alloc _ _ _ (by simp)]; exact heap_alloc_new w _
  have h1' : Hid (((w.alloc (.cells (stA st0) 108)).alloc (.cells (stA st0) 108)).heap[w.heap.size + 1]? = some (.cells (stA st0) 108 (0, 0))) := by
    unfold Hid
    have := heap_alloc_new (w.alloc (.cells (stA st0) 108)) (.cells (stA st0) 108)
    simpa using this
  have hb' : Hid (Below w.heap.size w ((w.alloc (.cells (stA st0) 108)).alloc (.cells (stA st0) 108))) := ((Below.refl _ w).alloc (Nat.le_refl _) _).alloc (by simp) _
  generalize (w.alloc (.cells (stA st0) 108)).alloc (.cells (stA st0) 108) = W at *
  refine (unhide HN _ (unhide hb')).mono ?_
  rintro e w1 ⟨rfl, rfl⟩
  go_wp2
  go_loopw [7] (fun i wr => ∃ k : Nat, k ≤ m.length ∧ i = .int .i64 k ∧ StInv w w.heap.size (w.heap.size + 1) (U k) wr) (fun i _ => m.length - (intOf i).toNat)
  case atStart => exact ⟨0, by omega, rfl, unhide h0', by rw [unhide H00]; exact unhide h1', unhide hb'⟩
  case round =>
    obtain ⟨k, hk, rfl, q0, q1, qb⟩ := hrel
    have hlk := unhide HL k
    by_cases hlt : k < m.length
    · obtain ⟨s, hs⟩ : ∃ s, m[k]? = some s := ⟨m[k], List.getElem?_eq_getElem hlt⟩
      have k16 : k < 16 := by omega
      have Q0 := hide q0
      have Q1 := hide q1
      have QB := hide qb
      have HS := hide hs
      clear q0 q1 qb hs
      go_wp2_with fail
      refine (unhide HP _ (unhide QB) k s (unhide HS)).mono ?_
      intro e w1 hcp
      obtain ⟨q, qc, rfl, hrow, hcb⟩ := hcp
      have ROW := hide (ownsRow_base hrow (Nat.zero_le _))
      have L1 : w1.heap[w.heap.size + 1]? = some (.cells (stA (U k)) 108 (0, 0)) := (hcb.block _ (lt_of_heap (unhide Q1))).trans (unhide Q1)
      have A1 : Hid (w1.heap[w.heap.size]? = some (.cells (stA st0) 108 (0, 0))) := (hcb.block _ (lt_of_heap (unhide Q0))).trans (unhide Q0)
      have B1 : Hid (Below w.heap.size w w1) := (unhide QB).trans (hcb.mono (unhide QB).size)
      have hld := ldS_is L1 hlk
      have LL := hide L1
      clear hrow hcb L1 Q0 Q1 QB
      go_wp2_with fail
      refine (gAllFin_any (U k) hlk s.s.par q qc w1 (unhide HA k s (unhide HS)).1 (unhide HA k s (unhide HS)).2 (unhide ROW)).mono ?_
      rintro e w2 ⟨rfl, hb2⟩
      have L2 : w2.heap[w.heap.size + 1]? = some (.cells (stA (U k)) 108 (0, 0)) := (hb2.block _ (lt_of_heap (unhide LL))).trans (unhide LL)
      have A2 : Hid (w2.heap[w.heap.size]? = some (.cells (stA st0) 108 (0, 0))) := (hb2.block _ (lt_of_heap (unhide A1))).trans (unhide A1)
      have B2 : Hid (Below w.heap.size w w2) := (unhide B1).trans (hb2.mono (unhide B1).size)
      have hf2 := frozen_of L2 k
      have hck : k < (U k).length := by omega
      have hc2 : w2.cell? ⟨w.heap.size + 1, k, none⟩ = some (.int .i64 (U k)[k]) := by
        rw [cell_of L2]
        unfold stA
        simp [hck]
      have LL2 := hide L2
      have HUk := hide (unhide HU k s (unhide HS))
      have nxt : Hid (∀ v : Int, U (k + 1) = (U k).set k v → StInv w w.heap.size (w.heap.size + 1) (U (k + 1)) (w2.setCell ⟨w.heap.size + 1, k, none⟩ (.int .i64 v))) := by
        intro v hv
        refine ⟨?_, ?_, (unhide B2).setCell (p := ⟨w.heap.size + 1, k, none⟩) (by simp) _⟩
        · rw [Below.heap_setCell _ _ _ _ (by simp)]; exact unhide A2
        · rw [heap_setCell_same (unhide LL2), stA_set, hv]
      have nxt0 : Hid (U (k + 1) = (U k).set k 0 → (U k)[k]? = some 0 → StInv w w.heap.size (w.heap.size + 1) (U (k + 1)) w2) := by
        intro hv h0
        refine ⟨unhide A2, ?_, unhide B2⟩
        have : (U k).set k 0 = U k := by
          have h9 := List.getElem?_eq_some_iff.1 h0
          rw [← h9.2, List.set_getElem_self]
        rw [hv, this]
        exact unhide LL2
      generalize (U k)[k] = old at hc2
      clear hb2 L2 hld A1 B1 LL ROW
      go_wp2_with fail
      refine (unhide HF _ (unhide B2) k s (unhide HS)).mono ?_
      rintro e w3 ⟨rfl, rfl⟩
      generalize hr : allTwo (U k) s.s.par = rd
      generalize hfo : (!s.s.op && decide ((s.s.cnt : Int) ≤ dn k)) = fo
      have HV : Hid (stgV (U k) (dn k) s.s = if rd = true then (if fo = true then 2 else 1) else 0) := by unfold Hid stgV; rw [hr, hfo]
      clear hr hfo
      rw [unhide HV] at HUk
      cases rd
      · go_wp2
        go_roundw
        case rel => exact ⟨k + 1, by omega, by go_num, unhide nxt0 (unhide HUk) (unhide HZ k k (Nat.le_refl _) k16)⟩
        case measure => simp [intOf]; omega
      · cases fo
        · go_wp2
          go_roundw
          case rel => exact ⟨k + 1, by omega, by go_num, unhide nxt _ (unhide HUk)⟩
          case measure => simp [intOf]; omega
        · go_wp2
          go_roundw
          case rel => exact ⟨k + 1, by omega, by go_num, unhide nxt _ (unhide HUk)⟩
          case measure => simp [intOf]; omega
    · have e : k = m.length := by omega
      subst e
      have HLd := ldS_is q1 hlk
      have HSt := stS_is q0 z0 hlk
      have hs16 := stA_size hlk
      have H2 := hide (setRow_same (cs' := stA (U m.length)) q0)
      have QB := hide (setRow_below qb (Nat.le_refl _) (stA (U m.length)))
      clear q0 q1 qb
      go_wp2
      refine bodyPost_ret (v := .agg (stA (U m.length))) ?_ rfl ⟨rfl, unhide QB⟩
      exact results_cell_row rfl _ _ w.heap.size _ _ _ _ rfl (unhide H2) Try.underlying108 rfl (by rw [hs16]; exact infoStgSize)

end Go.Proofs.Ytpnkmnmchdabkaa
