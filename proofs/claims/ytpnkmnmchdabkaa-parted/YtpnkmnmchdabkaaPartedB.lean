import Derived.Test.YtpnkmnmchdabkaaStepA
namespace Go.Proofs.Ytpnkmnmchdabkaa
open Go.RowKit
attribute [local go_sem ↓] Go.wp_at_zero Go.wp_at_succ

/-- How many of the first j shards take the hash h. -/
def takers (l : List Sh) (h : Int) (j : Nat) : Nat := ((l.take j).filter (fun s => acc s h)).length
theorem takers_succ (l : List Sh) (h : Int) (j : Nat) (s : Sh) (hs : l[j]? = some s) : takers l h (j + 1) = takers l h j + if acc s h = true then 1 else 0 := by
  have hi := (List.getElem?_eq_some_iff.1 hs).1
  have he : l[j] = s := (List.getElem?_eq_some_iff.1 hs).2
  unfold takers
  rw [List.take_succ_eq_append_getElem hi, List.filter_append, List.length_append, he]
  by_cases hk : acc s h = true <;> simp [hk]
theorem takers_le (l : List Sh) (h : Int) (j : Nat) : takers l h j ≤ j := by
  unfold takers
  have h1 := List.length_filter_le (fun s => acc s h) (l.take j)
  rw [List.length_take] at h1
  omega
theorem takers_one {l : List Sh} (hI : Inv l) (h : Int) (h0 : 0 ≤ h) (h1 : h < 256) : takers l h l.length = 1 := by
  obtain ⟨k, s, hk, ha, hu⟩ := hI.part h h0 h1
  have hkl := (List.getElem?_eq_some_iff.1 hk).1
  have key : ∀ j, j ≤ l.length → takers l h j = if k < j then 1 else 0 := by
    intro j
    induction j with
    | zero => intro _; rfl
    | succ j ih =>
      intro hj
      obtain ⟨t, ht⟩ : ∃ t, l[j]? = some t := ⟨l[j], List.getElem?_eq_getElem (by omega)⟩
      rw [takers_succ l h j t ht, ih (by omega)]
      by_cases hjk : j = k
      · subst hjk
        rw [hk] at ht; cases ht
        rw [if_pos ha, if_neg (by omega), if_pos (by omega)]
      · rw [if_neg (fun hh => hjk (hu j t ht hh))]
        by_cases hlt : k < j
        · rw [if_pos hlt, if_pos (by omega)]
        · rw [if_neg hlt, if_neg (by omega)]
  rw [key l.length (Nat.le_refl _), if_pos hkl]

set_option maxRecDepth 100000 in
set_option maxHeartbeats 4000000 in
theorem parted_any {N : Nat} {w : World} {ρ : Nat → Nat} {cb gb : Nat} {C : Cfg} {now : Rest} {l : List Sh} {E : List En} (h : Crew N w ρ cb gb C now l E l.length) :
    Calls Try.prog 11 #[.pointer (some ⟨cb, 0, none⟩)] w fun e w' => e = .returned (.bool true) ∧ Below w.heap.size w w' := by
  have HSh := hide (shards_at h.grp h.inv)
  have HI := hide h.inv
  have hlen := h.inv.len
  obtain ⟨ea, ecap, _, c6, _, c8, _, hcb, _⟩ := crew_cells h.ent2
  have hll : ((l.length : Int) != (l.length : Int)) = false := by simp
  have HEx : Hid (∀ j, j < l.length → ∃ s, l[j]? = some s) := fun j hj => ⟨l[j], List.getElem?_eq_getElem hj⟩
  clear h
  go_enter Try.func11, Try.ntmps11
  go_wp2_with fail
  refine (unhide HSh).mono ?_
  rintro e w2 ⟨lb, lcap, rfl, hT, hlb, hlb2, hb⟩
  have d8 := (hb.cell (p := ⟨cb, 8, none⟩) hcb).trans c8
  have HT := hide hT
  have HB := hide hb
  clear hT hb HSh c6 c8
  go_wp2
  clear d8
  go_loop [4] (fun i => ∃ x : Nat, x ≤ 256 ∧ i = .int .i64 x) (fun i => 256 - (intOf i).toNat)
  case atStart => exact ⟨0, by omega, rfl⟩
  case round =>
    obtain ⟨x, hx, rfl⟩ := hrel
    by_cases hlt : x < 256
    · have HT1 := hide (takers_one (unhide HI) x (by omega) (by omega))
      go_wp2
      go_loop [5, 6] (fun n i => ∃ j : Nat, j ≤ l.length ∧ i = .int .i64 j ∧ n = .int .i64 (takers l x j)) (fun _ i => l.length - (intOf i).toNat)
      case atStart => exact ⟨0, Nat.zero_le _, rfl, rfl⟩
      case round =>
        obtain ⟨j, hj, rfl, rfl⟩ := hrel
        by_cases hjl : j < l.length
        · obtain ⟨s, hs⟩ := unhide HEx j hjl
          obtain ⟨t0, t1, t2, _⟩ := unhide HT j s hs
          have HSS := hide (takers_succ l x j s hs)
          have hle := takers_le l x j
          clear hs
          cases so : s.op
          · rw [so] at t2
            have HN : Hid (¬ acc s x = true) := by refine hide ?_; rw [acc_iff, so]; simp
            clear so
            go_wp2
            go_round
            case rel => exact ⟨j + 1, by omega, by go_num, by rw [unhide HSS, if_neg (unhide HN)]; rfl⟩
            case measure => simp [intOf]; omega
          · rw [so] at t2
            by_cases hlo : s.lo ≤ x
            · by_cases hhi : (x : Int) < s.hi
              · have HN : Hid (acc s x = true) := by refine hide ?_; rw [acc_iff]; exact ⟨so, hlo, hhi⟩
                clear so
                go_wp2
                go_round
                case rel => exact ⟨j + 1, by omega, by go_num, by rw [unhide HSS, if_pos (unhide HN)]; go_num⟩
                case measure => simp [intOf]; omega
              · have HN : Hid (¬ acc s x = true) := by refine hide ?_; rw [acc_iff]; exact fun h => hhi h.2.2
                clear so
                go_wp2
                go_round
                case rel => exact ⟨j + 1, by omega, by go_num, by rw [unhide HSS, if_neg (unhide HN)]; rfl⟩
                case measure => simp [intOf]; omega
            · have HN : Hid (¬ acc s x = true) := by refine hide ?_; rw [acc_iff]; exact fun h => hlo h.2.1
              clear so
              go_wp2
              go_round
              case rel => exact ⟨j + 1, by omega, by go_num, by rw [unhide HSS, if_neg (unhide HN)]; rfl⟩
              case measure => simp [intOf]; omega
        · have hjj : j = l.length := by omega
          subst hjj
          have hone : ((takers l x l.length : Int) != 1) = false := by rw [unhide HT1]; rfl
          go_wp2
          go_round
          case rel => exact ⟨x + 1, by omega, by go_num⟩
          case measure => simp [intOf]; omega
    · go_wp2
      go_loopw [7] (fun i wr => ∃ (j q : Nat), j ≤ l.length ∧ i = .int .i64 j ∧ wr = w2.drewN q) (fun i _ => l.length - (intOf i).toNat)
      case atStart => exact ⟨0, 0, Nat.zero_le _, rfl, rfl⟩
      case round =>
        obtain ⟨j, q0, hj, rfl, rfl⟩ := hrel
        by_cases hjl : j < l.length
        · obtain ⟨s, hs⟩ := unhide HEx j hjl
          obtain ⟨t0, t1, t2, pb, pc, t3, t4⟩ := unhide HT j s hs
          have hpl := (unhide HI).parL j s hs
          have hrg := (unhide HI).rng j s hs
          have HPR := hide ((unhide HI).parR j s hs)
          have T3 : (w2.drewN q0).cell? ⟨lb, j * 5 + 3, none⟩ = some (.slice (some ⟨pb, 0, none⟩) s.par.length pc) := t3
          have T0 : (w2.drewN q0).cell? ⟨lb, j * 5, none⟩ = some (.int .i64 s.lo) := t0
          have T1 : (w2.drewN q0).cell? ⟨lb, j * 5 + 1, none⟩ = some (.int .i64 s.hi) := t1
          have T4 := hide t4
          obtain ⟨hp2, hpz⟩ := hpl
          obtain ⟨r0, r1, r2⟩ := hrg
          have e1 : decide (2 < (s.par.length : Int)) = false := by simp; omega
          have e2 : (((s.par.length : Int) == 0) == ((j : Int) == 0)) = true := by
            have hz : ((s.par.length : Int) == 0) = ((j : Int) == 0) := by
              rw [Bool.eq_iff_iff, beq_iff_eq, beq_iff_eq]
              constructor
              · intro hh
                have : s.par = [] := List.eq_nil_of_length_eq_zero (by omega)
                have := hpz.1 this; omega
              · intro hh
                have : s.par = [] := hpz.2 (by omega)
                rw [this]; rfl
            rw [hz]; simp
          have e3 : decide (s.hi ≤ s.lo) = false := by simp; omega
          clear t0 t1 t2 t3 t4 hs hpz
          generalize hV : w2.drewN q0 = V at *
          have HV := hide hV
          clear hV
          go_wp2
          go_quiet (fail)
          go_wp2
          clear e1 e2 e3
          go_loopw [9] (fun i wr => ∃ (a q : Nat), a ≤ s.par.length ∧ i = .int .i64 a ∧ wr = V.drewN q) (fun i _ => s.par.length - (intOf i).toNat)
          case atStart => exact ⟨0, nq, Nat.zero_le _, rfl, rfl⟩
          case round =>
            obtain ⟨a, q1, ha, rfl, rfl⟩ := hrel
            by_cases hal : a < s.par.length
            · obtain ⟨p, t, hpe, hpj, ht, hx1, hx2⟩ := unhide HPR s.par[a] (List.getElem_mem _)
              obtain ⟨y0, y1, _⟩ := unhide HT p t ht
              have z4 := unhide T4 a hal
              rw [hpe] at z4
              have HV2 := unhide HV
              have Y0 : (V.drewN q1).cell? ⟨lb, p * 5, none⟩ = some (.int .i64 t.lo) := by rw [← HV2]; exact y0
              have Y1 : (V.drewN q1).cell? ⟨lb, p * 5 + 1, none⟩ = some (.int .i64 t.hi) := by rw [← HV2]; exact y1
              have Z4 : (V.drewN q1).cell? ⟨pb, a, none⟩ = some (.int .i64 p) := by rw [← HV2]; exact z4
              have U0 : (V.drewN q1).cell? ⟨lb, j * 5, none⟩ = some (.int .i64 s.lo) := T0
              have U1 : (V.drewN q1).cell? ⟨lb, j * 5 + 1, none⟩ = some (.int .i64 s.hi) := T1
              have hpl : p < l.length := by omega
              have m1 : decide ((p : Int) < 0) = false := by simp
              have m2 : decide ((j : Int) ≤ p) = false := by simp; omega
              have m3 : decide (t.hi ≤ s.lo) = false := by simp; omega
              have m4 : decide (s.hi ≤ t.lo) = false := by simp; omega
              clear y0 y1 z4 ht hpe HV2 T0 T1 T3
              have HNX : Hid (∀ n, (V.drewN q1).drewN n = V.drewN (q1 + n)) := fun n => World.drewN_drewN ..
              generalize V.drewN q1 = V1 at *
              go_wp2
              go_quiet (fail)
              go_wp2
              go_roundw
              case rel => exact ⟨a + 1, q1 + nq, by omega, by go_num, unhide HNX nq⟩
              case measure => simp [intOf]; omega
            · clear T0 T1 T3
              go_wp2
              go_roundw
              case rel => exact ⟨j + 1, q0 + q1, by omega, by go_num, by rw [← unhide HV]; exact World.drewN_drewN ..⟩
              case measure => simp [intOf]; omega
        · go_wp2
          go_ret
          exact ⟨rfl, below_drewN (unhide HB) q0⟩

end Go.Proofs.Ytpnkmnmchdabkaa
