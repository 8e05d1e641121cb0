import Derived.Test.YtpnkmnmchdabkaaSplits
namespace Go.Proofs.Ytpnkmnmchdabkaa
open Go.RowKit
attribute [local go_sem ↓] Go.wp_at_zero Go.wp_at_succ

/-- What the merge of shard k with shard j comes to. -/
theorem merge_cases {l : List Sh} (hI : Inv l) {k j : Nat} {s t : Sh} (hs : l[k]? = some s) (ht : l[j]? = some t) (so : s.op = true) (to : t.op = true) (he : t.lo = s.hi) :
    (15 < l.length ∧ aMerge l k j = (l, 0, 8)) ∨ (¬ 15 < l.length ∧ k ≠ j ∧ aMerge l k j = ((l.set k { s with op := false }).set j { t with op := false } ++ [⟨s.lo, t.hi, true, [(k : Int), (j : Int)], []⟩], (l.length : Int), 0)) := by
  rw [aMerge_at hs ht, if_neg (by simp [so, to]), if_neg (by simp [he])]
  by_cases hl : 15 < l.length
  · rw [if_pos hl]; exact Or.inl ⟨hl, rfl⟩
  · rw [if_neg hl]
    refine Or.inr ⟨hl, ?_, rfl⟩
    rintro rfl
    rw [hs] at ht; cases ht
    have := hI.rng k s hs
    omega

set_option maxRecDepth 100000 in
set_option maxHeartbeats 2000000 in
theorem merges_any {B : Bd} {N : Nat} {w : World} {ρ : Nat → Nat} {cb gb : Nat} {C : Cfg} {now : Rest} {l : List Sh} {E : List En} (h : Crew true B N w ρ cb gb C now l E l.length) (hN : N ≤ w.heap.size) (o : St) (ho : o.ok) :
    Calls Try.prog 24 #[.pointer (some ⟨cb, 0, none⟩), .agg o.arr] w (StepPost B N w cb gb C E) := by
  have hlen := h.inv.len
  have hpos := h.inv.pos
  have hkl := pickN_lt o.a l.length (by omega)
  obtain ⟨k, hk⟩ : ∃ k, pickN o.a l.length = k := ⟨_, rfl⟩
  rw [hk] at hkl
  have hkl' : k < l.length := by omega
  obtain ⟨s, hs⟩ : ∃ s, l[k]? = some s := ⟨l[k], List.getElem?_eq_getElem hkl'⟩
  have hbox : Below w.heap.size w (w.alloc (.cells o.arr 34)) := (Below.refl _ _).alloc (Nat.le_refl _) _
  have h1 := h.below hbox
  have HSh := hide (shards_at h1.grp h1.inv)
  have HPK : Hid (∀ W : World, Calls Try.prog 13 #[.int .i64 o.a, .int .i64 l.length] W fun e w' => e = .returned (.int .i64 k) ∧ w' = W) := fun W => by
    have := pick_at o.a l.length W ho.a.1 ho.a.2 (by omega) (by omega)
    rw [hk] at this; exact this
  have HFr : Hid (∀ w2, Below (w.alloc (.cells o.arr 34)).heap.size (w.alloc (.cells o.arr 34)) w2 → Crew true B N w2 ρ cb gb C now l E l.length ∧ Below w.heap.size w w2 ∧ w.heap.size < w2.heap.size ∧ w2.cell? ⟨w.heap.size, 1, none⟩ = some (.int .i64 o.a) ∧ w2.cell? ⟨w.heap.size, 2, none⟩ = some (.int .i64 o.b)) := fun w2 hb => step_front h o hb
  have HCR := hide h
  have HS := hide hs
  have c6 := (crew_cells h.ent2).choose_spec.choose_spec.2.1
  have hcb := (crew_cells h.ent2).choose_spec.choose_spec.2.2.2.2.2.1
  have hll : ((l.length : Int) != (l.length : Int)) = false := by simp
  unfold St.arr at HSh HFr ⊢
  clear h h1 hbox hs ho hk
  go_enter Try.func24, Try.ntmps24
  go_wp2_with fail
  refine (unhide HSh).mono ?_
  rintro e w2 ⟨lb, lcap, rfl, hT, hlb, hlb2, hb⟩
  obtain ⟨R2, hB2, hsz, a1, a2⟩ := unhide HFr w2 hb
  obtain ⟨ea, ecap, _, d6, _, d8, _, hcb2, _⟩ := crew_cells R2.ent2
  have hlbw : w.heap.size ≤ lb := by simp at hlb; omega
  have HT := hide hT
  have HR2 := hide R2
  have HB2 := hide hB2
  clear hb R2 hB2 hT HFr hlb a2
  go_wp2
  go_quiet ((go_at_call 13; exact Calls.quiet_of_same (unhide HPK _)))
  have R3 := hide ((unhide HR2).below (below_drewN (Below.refl _ w2) nq))
  have hT3 : Hid (Told (w2.drewN nq) lb l) := unhide HT
  have hB3 := hide (below_drewN (unhide HB2) nq)
  have hz3 : (w2.drewN nq).heap.size = w2.heap.size := rfl
  clear a1 d6 d8 HT HR2 HB2
  generalize w2.drewN nq = W at *
  go_wp2
  go_loopw [7] (fun i wr => ∃ (j q : Nat), j ≤ l.length ∧ i = .int .i64 j ∧ wr = W.drewN q) (fun i _ => l.length - (intOf i).toNat)
  case atStart => exact ⟨0, 0, Nat.zero_le _, rfl, rfl⟩
  case round =>
    obtain ⟨j, q0, hj, rfl, rfl⟩ := hrel
    have R4 := hide ((unhide R3).below (below_drewN (Below.refl _ W) q0))
    have hT4 : Hid (Told (W.drewN q0) lb l) := unhide hT3
    have hB4 := hide (below_drewN (unhide hB3) q0)
    have hz4 : (W.drewN q0).heap.size = W.heap.size := rfl
    have HNX : Hid (∀ n, (W.drewN q0).drewN n = W.drewN (q0 + n)) := fun n => World.drewN_drewN ..
    generalize hWW : W.drewN q0 = V at *
    have HWW := hide hWW
    clear hWW
    obtain ⟨ea, ecap, _, d6, _, d8, _, hcb2, _⟩ := crew_cells (unhide R4).ent2
    by_cases hlt : j < l.length
    · obtain ⟨t, ht⟩ : ∃ t, l[j]? = some t := ⟨l[j], List.getElem?_eq_getElem hlt⟩
      obtain ⟨t0, t1, t2, _⟩ := unhide hT4 k s (unhide HS)
      obtain ⟨r0, r1, r2, _⟩ := unhide hT4 j t ht
      have HTt := hide ht
      clear ht
      by_cases hgo : s.op = true ∧ t.op = true ∧ t.lo = s.hi
      · obtain ⟨so, to, he⟩ := hgo
        rw [so] at t2
        rw [to] at r2
        have heB : (t.lo == s.hi) = true := by rw [beq_iff_eq]; exact he
        have HMO : Hid (Moved l ((l.set k { s with op := false }).set j { t with op := false } ++ [(⟨s.lo, t.hi, true, [(k : Int), (j : Int)], []⟩ : Sh)])) := moved_merge (unhide HCR).inv (unhide HS) (unhide HTt) so to he
        have HMC := hide (merge_cases (unhide HCR).inv (unhide HS) (unhide HTt) so to he)
        have HBk : Hid (∀ q w3 l', GrpPost (V.drewN q) ρ gb C now l' w3 → ∃ ρ' ev, Grp w3 ρ' gb C now l' ∧ w3.heap[cb]? = some (.cells (crewArr C gb ev l.length) 31 (0, 0)) ∧ w3.ownsRow 0 59 5 ev E.length (entCells E) ∧ (∀ k, ev.ownBlock = some k → ρ' k = 101) ∧ ρ' cb = 100 ∧ Fits w3 ρ' ∧ Low N B.X w3 ρ' ∧ Below N w w3 ∧ N ≤ w3.heap.size ∧
            w3.cell? ⟨cb, 8, none⟩ = some (.int .i64 l.length) ∧ w3.frozen? ⟨cb, 8, none⟩ = false ∧ w3.heap[lb]? = V.heap[lb]?) := fun q w3 l' hp =>
          step_back (unhide R4) (by omega) hp (by omega) ((unhide HCR).fits lb hlbw) ((unhide hB4).mono hN)
        have HG : Hid (∀ q, Calls Try.prog 47 #[.pointer (some ⟨gb, 0, none⟩), .int .i64 k, .int .i64 j] (V.drewN q) fun e w' => e = .returned (.tuple #[.int .i64 (aMerge l k j).2.1, .int .i64 (aMerge l k j).2.2]) ∧ GrpPost (V.drewN q) ρ gb C now (aMerge l k j).1 w') := fun q => by
          have R5 := (unhide R4).below (below_drewN (Below.refl _ V) q)
          exact gMerge_any (V.drewN q) ρ gb C now l k j R5.grp R5.fits R5.inv
        clear so to he R3 hT3 hB3 hT4 hB4 R4 HNX HWW
        rcases unhide HMC with ⟨hl, hA⟩ | ⟨hl, hne, hA⟩
        · rw [hA] at HG
          clear HMC hA
          have d3 : 16 < (l.length : Int) + 1 := by omega
          go_wp2
          go_quiet (fail)
          go_wp2_with (go_at_call 47; refine (unhide HG _).mono ?_; rintro e w3 ⟨rfl, hpost⟩; obtain ⟨ρ3, ev, q1, q2, q3, q4, q5, q6, q7, q8, q9, q10, q11, q12⟩ := unhide HBk _ _ _ hpost; have Q1 := hide q1; have Q2 := hide q2; have Q3 := hide q3; have Q4 := hide q4; have Q5 := hide q5; have Q6 := hide q6; have Q7 := hide q7; have Q8 := hide q8; have Q9 := hide q9; clear q1 q2 q3 q4 q5 q6 q7 q8 q9 q12 hpost)
          go_ret
          exact ⟨rfl, ρ3, now, l, E, ⟨⟨ev, unhide Q2, unhide Q3, unhide Q4⟩, unhide Q5, unhide Q1, (unhide HCR).inv, unhide Q6, unhide Q7, (unhide HCR).cnt, (unhide HCR).tot, (unhide HCR).rng, (unhide HCR).val, (unhide HCR).wok.next⟩, unhide Q8, Or.inl rfl⟩
        · rw [hA] at HG
          have HAA := hide hA
          have HNE := hide hne
          clear HMC hA hne
          have d3 : (l.length : Int) < 16 := by omega
          go_wp2
          go_quiet (fail)
          go_wp2_with (go_at_call 47; refine (unhide HG _).mono ?_; rintro e w3 ⟨rfl, hpost⟩; obtain ⟨ρ3, ev, q1, q2, q3, q4, q5, q6, q7, q8, q9, q10, q11, q12⟩ := unhide HBk _ _ _ hpost; have Q1 := hide q1; have Q2 := hide q2; have Q3 := hide q3; have Q4 := hide q4; have Q5 := hide q5; have Q6 := hide q6; have Q7 := hide q7; have Q8 := hide q8; have Q9 := hide q9; clear q1 q2 q3 q4 q5 q6 q7 q8 q9 q12 hpost)
          go_ret
          obtain ⟨b1, b2, b3, b4⟩ := crew_count (N := N) (l.length + 1) (l.length + 1) (by omega) (unhide Q1) (by simp; omega) (unhide Q2) (unhide Q3) (unhide Q4) (unhide Q5) (unhide Q6) (unhide Q7).1 (unhide Q9)
          have hI := inv_merge (unhide HCR).inv k j
          rw [unhide HAA] at hI
          have ht1 : (l.set k { s with op := false })[j]? = some t := by rw [List.getElem?_set_ne (unhide HNE)]; exact unhide HTt
          have hC := crew_more (unhide HCR) ((l.set k { s with op := false }).set j { t with op := false }) _ rfl (by simp) (fun i u hu => by
            obtain ⟨u', hu1, hu2⟩ := at_set ht1 hu
            obtain ⟨u2, hu3, hu4⟩ := at_set (unhide HS) hu1
            exact ⟨u2, hu3, hu2.trans hu4⟩) (fun i u hu => by
            match i, hu with
            | 0, hu => simp at hu; subst hu; rfl
            | i + 1, hu => simp at hu) ((tot_split ht1).trans (tot_split (unhide HS))) rfl ((adv_close (unhide HS)).trans (adv_close ht1)) (unhide HMO) hI b1 (unhide Q5) b2 b3 (low_count (unhide Q7) (unhide Q5) _)
          refine ⟨rfl, ρ3, now, (l.set k { s with op := false }).set j { t with op := false } ++ [(⟨s.lo, t.hi, true, [(k : Int), (j : Int)], []⟩ : Sh)], E, ?_, (unhide Q8).trans b4, Or.inl rfl⟩
          rw [show ((l.set k { s with op := false }).set j { t with op := false } ++ [(⟨s.lo, t.hi, true, [(k : Int), (j : Int)], []⟩ : Sh)]).length = l.length + 1 by simp]
          exact hC
      · have HNX2 : Hid (∀ n, V.drewN n = W.drewN (q0 + n)) := fun n => by rw [← unhide HWW]; exact World.drewN_drewN ..
        clear R3 hT3 hB3 hT4 hB4 R4 HNX HWW
        cases so : s.op
        · rw [so] at t2
          clear so hgo
          go_wp2
          go_quiet (fail)
          go_wp2
          go_roundw
          case rel => exact ⟨j + 1, q0 + nq, by omega, by go_num, unhide HNX2 nq⟩
          case measure => simp [intOf]; omega
        · cases to : t.op
          · rw [so] at t2
            rw [to] at r2
            clear so to hgo
            go_wp2
            go_quiet (fail)
            go_wp2
            go_roundw
            case rel => exact ⟨j + 1, q0 + nq, by omega, by go_num, unhide HNX2 nq⟩
            case measure => simp [intOf]; omega
          · have heB : (t.lo == s.hi) = false := by rw [beq_eq_false_iff_ne]; exact fun e => hgo ⟨so, to, e⟩
            rw [so] at t2
            rw [to] at r2
            clear so to hgo
            go_wp2
            go_quiet (fail)
            go_wp2
            go_roundw
            case rel => exact ⟨j + 1, q0 + nq, by omega, by go_num, unhide HNX2 nq⟩
            case measure => simp [intOf]; omega
    · have HR4 := R4
      have HB4 := hB4
      clear R3 hT3 hB3 hT4 hB4 R4 HNX HWW
      go_wp2
      go_ret
      exact ⟨rfl, ρ, now, l, E, (unhide HR4).next, (unhide HB4).mono hN, Or.inl rfl⟩

end Go.Proofs.Ytpnkmnmchdabkaa
