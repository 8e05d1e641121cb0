import Derived.Test.YtpnkmnmchdabkaaSplit
namespace Go.Proofs.Ytpnkmnmchdabkaa
open Go.RowKit

/-- P6. -/
def aMerge (l : List Sh) (a b : Int) : List Sh × Int × Int :=
  if (0 ≤ a ∧ a < l.length) ∧ (0 ≤ b ∧ b < l.length) then
    match l[a.toNat]?, l[b.toNat]? with
    | some s, some t =>
      if s.op = false ∨ t.op = false then (l, 0, 6)
      else if s.hi ≠ t.lo then (l, 0, 7)
      else if 15 < l.length then (l, 0, 8)
      else ((l.set a.toNat { s with op := false }).set b.toNat { t with op := false } ++ [⟨s.lo, t.hi, true, [a, b], []⟩], l.length, 0)
    | _, _ => (l, 0, 5)
  else (l, 0, 5)

theorem aMerge_at {l : List Sh} {j k : Nat} {s t : Sh} (hs : l[j]? = some s) (ht : l[k]? = some t) :
    aMerge l j k = if s.op = false ∨ t.op = false then (l, 0, 6) else if s.hi ≠ t.lo then (l, 0, 7) else if 15 < l.length then (l, 0, 8)
      else ((l.set j { s with op := false }).set k { t with op := false } ++ [⟨s.lo, t.hi, true, [(j : Int), (k : Int)], []⟩], (l.length : Int), 0) := by
  have := (List.getElem?_eq_some_iff.1 hs).1
  have := (List.getElem?_eq_some_iff.1 ht).1
  unfold aMerge
  rw [if_pos (by omega)]
  simp only [Int.toNat_natCast, hs, ht]

set_option maxRecDepth 100000 in
set_option maxHeartbeats 1000000 in
theorem merge_any (w : World) (ρ : Nat → Nat) (gb : Nat) (C : Cfg) (now : Rest) (sv : Value) (m : List Cs) (n a : Int) (h : GrpAt w ρ gb C now sv m) (hf : Fits w ρ) (hm0 : 0 < m.length) (hm : m.length ≤ 16) (hlh : ∀ (i : Nat) (s : Cs), m[i]? = some s → s.s.lo < s.s.hi) :
    Calls Try.prog 78 #[.pointer (some ⟨gb, 7, none⟩), .int .i64 n, .int .i64 a] w fun e w' =>
      e = .returned (.tuple #[.int .i64 (aMerge (m.map (·.s)) n a).2.1, .int .i64 (aMerge (m.map (·.s)) n a).2.2]) ∧ GrpPost w ρ gb C now (aMerge (m.map (·.s)) n a).1 w' := by
  obtain ⟨c6, f6, _, _, hgb⟩ := h.cells
  obtain ⟨bs, cap, rfl, hbs, hbsl, hcap, hcm, ff, cc⟩ := h.log.shape hm0
  have HP := fun q => hide (GrpPost.same h hf hm (Keeps.drewN w q) rfl)
  have HH := hide (has_any gb 7 m.length cap (some ⟨bs, 0, none⟩) n w c6)
  have HJ := hide (has_any gb 7 m.length cap (some ⟨bs, 0, none⟩) a w c6)
  by_cases hn : 0 ≤ n ∧ n < m.length
  · by_cases hna : 0 ≤ a ∧ a < m.length
    · obtain ⟨j, rfl⟩ := Int.eq_ofNat_of_zero_le hn.1
      obtain ⟨k, rfl⟩ := Int.eq_ofNat_of_zero_le hna.1
      have hj : j < m.length := by omega
      have hk : k < m.length := by omega
      obtain ⟨s, hs⟩ : ∃ s, m[j]? = some s := ⟨m[j], List.getElem?_eq_getElem hj⟩
      obtain ⟨t, ht⟩ : ∃ t, m[k]? = some t := ⟨m[k], List.getElem?_eq_getElem hk⟩
      obtain ⟨c0, c1, c2, _, _⟩ := cc j s hs
      obtain ⟨d0, d1, d2, _, _⟩ := cc k t ht
      have e1 : decide (0 ≤ (j : Int) ∧ (j : Int) < m.length) = true := by simp; omega
      have e2 : decide (0 ≤ (k : Int) ∧ (k : Int) < m.length) = true := by simp; omega
      rw [e1] at HH
      rw [e2] at HJ
      have HA := hide (aMerge_at (map_get hs) (map_get ht))
      cases hop : s.s.op
      · have HB : Hid (aMerge (m.map (·.s)) j k = (m.map (·.s), 0, 6)) := by
          refine hide ?_; rw [unhide HA, if_pos (Or.inl hop)]
        rw [hop] at c2
        clear hop h hf hs ht cc HA e1 e2
        go_enter Try.func78, Try.ntmps78
        go_wp2_with fail
        refine (unhide HH).mono ?_; rintro e w' ⟨rfl, rfl⟩
        go_wp2_with fail
        refine (unhide HJ).mono ?_; rintro e w' ⟨rfl, rfl⟩
        go_wp2
        go_ret2
        rw [unhide HB]
        exact ⟨rfl, unhide (HP 0)⟩
      · cases hot : t.s.op
        · have HB : Hid (aMerge (m.map (·.s)) j k = (m.map (·.s), 0, 6)) := by
            refine hide ?_; rw [unhide HA, if_pos (Or.inr hot)]
          rw [hop] at c2
          rw [hot] at d2
          clear hop hot h hf hs ht cc HA e1 e2
          go_enter Try.func78, Try.ntmps78
          go_wp2_with fail
          refine (unhide HH).mono ?_; rintro e w' ⟨rfl, rfl⟩
          go_wp2_with fail
          refine (unhide HJ).mono ?_; rintro e w' ⟨rfl, rfl⟩
          go_wp2
          go_ret2
          rw [unhide HB]
          exact ⟨rfl, unhide (HP 0)⟩
        · by_cases hr : s.s.hi = t.s.lo
          · have hjk : j ≠ k := by
              rintro rfl
              rw [hs] at ht
              cases ht
              have := hlh j s hs
              omega
            have hrb : (s.s.hi != t.s.lo) = false := by rw [hr]; simp
            have HR := fun (q : Nat) => hide (hasRoom_any gb 7 m.length cap (some ⟨bs, 0, none⟩) 1 (w.drewN q) (by omega) (by omega) (by omega) c6)
            by_cases hl : 15 < m.length
            · have HB : Hid (aMerge (m.map (·.s)) j k = (m.map (·.s), 0, 8)) := by
                refine hide ?_; rw [unhide HA, if_neg (by simp [hop, hot]), if_neg (by simpa using hr), if_pos (by simpa using hl)]
              have d5 : decide ((m.length : Int) + 1 ≤ 16) = false := by simp; omega
              rw [d5] at HR
              rw [hop] at c2
              rw [hot] at d2
              clear hop hot h hf hs ht cc HA e1 e2 d5 hr
              go_enter Try.func78, Try.ntmps78
              go_wp2_with fail
              refine (unhide HH).mono ?_; rintro e w' ⟨rfl, rfl⟩
              go_wp2_with fail
              refine (unhide HJ).mono ?_; rintro e w' ⟨rfl, rfl⟩
              go_wp2
              go_quiet (fail)
              go_wp2_with (go_at_call 105; refine (unhide (HR _)).mono ?_; rintro e w' ⟨rfl, rfl⟩)
              go_ret2
              rw [unhide HB]
              exact ⟨rfl, unhide (HP _)⟩
            · have HB : Hid (aMerge (m.map (·.s)) j k = (((m.map (·.s)).set j { s.s with op := false }).set k { t.s with op := false } ++ [⟨s.s.lo, t.s.hi, true, [(j : Int), (k : Int)], []⟩], ((m.map (·.s)).length : Int), 0)) := by
                refine hide ?_; rw [unhide HA, if_neg (by simp [hop, hot]), if_neg (by simpa using hr), if_neg (by simpa using hl)]
              have d5 : decide ((m.length : Int) + 1 ≤ 16) = true := by simp; omega
              rw [d5] at HR
              rw [hop] at c2
              rw [hot] at d2
              have f2 := ff (j * 5 + 2)
              have g2 := ff (k * 5 + 2)
              have hne : bs ≠ gb := by rintro rfl; have := h.tag; omega
              have ht1 : (m.set j { s with s := { s.s with op := false } })[k]? = some t := by
                rw [List.getElem?_set_ne hjk]; exact ht
              have H1 := fun q : Nat => hide (((h.keeps (Keeps.drewN w q) (fun _ (h : False) => h.elim) (fun _ _ => rfl) hm).close j s hs).close k t ht1)
              have HM : Hid (((m.set j { s with s := { s.s with op := false } }).set k { t with s := { t.s with op := false } }).map (·.s) = ((m.map (·.s)).set j { s.s with op := false }).set k { t.s with op := false }) := by
                refine hide ?_; rw [List.map_set, List.map_set]
              have HL : Hid (((m.set j { s with s := { s.s with op := false } }).set k { t with s := { t.s with op := false } }).length = m.length) := by refine hide ?_; simp
              clear ht1
              generalize (m.set j { s with s := { s.s with op := false } }).set k { t with s := { t.s with op := false } } = m1 at *
              have HB2 : Hid (aMerge (m.map (·.s)) j k = (m1.map (·.s) ++ [⟨s.s.lo, t.s.hi, true, [(j : Int), (k : Int)], []⟩], (m.length : Int), 0)) := by
                refine hide ?_; rw [unhide HB, unhide HM]; simp
              have H2 : Hid (∀ q : Nat, GrpAt (((w.drewN q).setCell ⟨bs, j * 5 + 2, none⟩ (.bool false)).setCell ⟨bs, k * 5 + 2, none⟩ (.bool false)) ρ gb C now (.slice (some ⟨bs, 0, none⟩) m.length cap) m1) := fun q => by
                have := unhide (H1 q)
                rw [unhide HL] at this
                exact this
              clear H1
              have hf1 : Hid (∀ q : Nat, Fits (((w.drewN q).setCell ⟨bs, j * 5 + 2, none⟩ (.bool false)).setCell ⟨bs, k * 5 + 2, none⟩ (.bool false)) ρ) := fun q j hj => hf j (by simpa [World.setCell] using hj)
              have hK1 : Hid (∀ q : Nat, Keeps (mine ρ) w (((w.drewN q).setCell ⟨bs, j * 5 + 2, none⟩ (.bool false)).setCell ⟨bs, k * 5 + 2, none⟩ (.bool false))) := fun q => ((Keeps.drewN w q).setCell (Or.inl (show mine ρ bs by unfold mine; omega)) _).setCell (Or.inl (show mine ρ bs by unfold mine; omega)) _
              have hE1 : Hid (Ext w.heap.size ρ ρ) := Ext.refl hf
              clear hop hot h hf hs ht cc HA e1 e2 d5 HP ff HB HM hr
              go_enter Try.func78, Try.ntmps78
              go_wp2_with fail
              refine (unhide HH).mono ?_; rintro e w' ⟨rfl, rfl⟩
              go_wp2_with fail
              refine (unhide HJ).mono ?_; rintro e w' ⟨rfl, rfl⟩
              go_wp2
              go_quiet (fail)
              go_wp2_with (go_at_call 105; refine (unhide (HR _)).mono ?_; rintro e w' ⟨rfl, rfl⟩)
              go_quiet (fail)
              go_wp2_with (at_builtin; go_must (refine wpList_append_shard (ρ := ρ) (gb := gb) (C := C) (now := now) (m := m1) _ m.length (unhide HL) ?G ?F (by omega) s.s.lo t.s.hi [(j : Int), (k : Int)] w.heap.size 2 ?S rfl (by omega) _ rfl rfl _ _ rfl rfl rfl ?next))
              case G => exact unhide H2 _
              case F => exact unhide hf1 _
              case S => simp [World.setCell]
              case next =>
                intro g4 cap4 w4 k7 e7 hpost4
                have HK := hide (GrpPost.trans (unhide hK1 _) (unhide hE1) hpost4.post)
                clear hpost4
                go_wp2
                go_ret2
                rw [unhide HB2]
                exact ⟨rfl, unhide HK⟩
          · have hrb : (s.s.hi != t.s.lo) = true := by rw [bne_iff_ne]; exact hr
            have HB : Hid (aMerge (m.map (·.s)) j k = (m.map (·.s), 0, 7)) := by
              refine hide ?_; rw [unhide HA, if_neg (by simp [hop, hot]), if_pos (by simpa using hr)]
            rw [hop] at c2
            rw [hot] at d2
            clear hop hot h hf hs ht cc HA e1 e2 hr
            go_enter Try.func78, Try.ntmps78
            go_wp2_with fail
            refine (unhide HH).mono ?_; rintro e w' ⟨rfl, rfl⟩
            go_wp2_with fail
            refine (unhide HJ).mono ?_; rintro e w' ⟨rfl, rfl⟩
            go_wp2
            go_quiet (fail)
            go_wp2
            go_ret2
            rw [unhide HB]
            exact ⟨rfl, unhide (HP _)⟩
    · have e1 : decide (0 ≤ n ∧ n < m.length) = true := by simp; omega
      have e2 : decide (0 ≤ a ∧ a < m.length) = false := by simp; omega
      rw [e1] at HH
      rw [e2] at HJ
      have HA : Hid (aMerge (m.map (·.s)) n a = (m.map (·.s), 0, 5)) := by
        unfold aMerge; rw [if_neg (by simp; omega)]; trivial
      clear cc h e1 e2 hn hna
      go_enter Try.func78, Try.ntmps78
      go_wp2_with fail
      refine (unhide HH).mono ?_; rintro e w' ⟨rfl, rfl⟩
      go_wp2_with fail
      refine (unhide HJ).mono ?_; rintro e w' ⟨rfl, rfl⟩
      go_wp2
      go_ret2
      rw [unhide HA]
      exact ⟨rfl, unhide (HP 0)⟩
  · have e1 : decide (0 ≤ n ∧ n < m.length) = false := by simp; omega
    rw [e1] at HH
    generalize decide (0 ≤ a ∧ a < (m.length : Int)) = qa at HJ
    have HA : Hid (aMerge (m.map (·.s)) n a = (m.map (·.s), 0, 5)) := by
      unfold aMerge; rw [if_neg (by simp; omega)]; trivial
    clear cc h e1 hn
    go_enter Try.func78, Try.ntmps78
    go_wp2_with fail
    refine (unhide HH).mono ?_; rintro e w' ⟨rfl, rfl⟩
    go_wp2_with fail
    refine (unhide HJ).mono ?_; rintro e w' ⟨rfl, rfl⟩
    go_wp2
    go_ret2
    rw [unhide HA]
    exact ⟨rfl, unhide (HP 0)⟩

end Go.Proofs.Ytpnkmnmchdabkaa
