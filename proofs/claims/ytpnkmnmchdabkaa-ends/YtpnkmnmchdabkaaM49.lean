import Derived.Test.YtpnkmnmchdabkaaM32
import Derived.Test.YtpnkmnmchdabkaaStep
import Derived.Test.YtpnkmnmchdabkaaM23
import Derived.Test.YtpnkmnmchdabkaaBatchs
import Derived.SizedLaws
import Derived.Test.YtpnkmnmchdabkaaM24
namespace Go.Proofs.Ytpnkmnmchdabkaa
open Go.RowKit
attribute [local go_sem ↓] Go.wp_at_zero Go.wp_at_succ

/-- The law's own copy of the configuration, at the first new place. -/
def Bx (w : World) (C : Cfg) (wr : World) : Prop := Below w.heap.size w wr ∧ w.heap.size < wr.heap.size ∧ wr.cell? ⟨w.heap.size, 0, none⟩ = some (.int .i64 C.a) ∧ wr.cell? ⟨w.heap.size, 1, none⟩ = some (.int .i64 C.l)
theorem Bx.go {w wr w' : World} {C : Cfg} (h : Bx w C wr) (hb : Below (w.heap.size + 1) wr w') : Bx w C w' := by
  have hs := hb.size
  have h1 := h.2.1
  exact ⟨h.1.trans (hb.mono (by omega)), by omega, (hb.cell (by show w.heap.size < _; omega)).trans h.2.2.1, (hb.cell (by show w.heap.size < _; omega)).trans h.2.2.2⟩
theorem Bx.new {w wr w' : World} {C : Cfg} (h : Bx w C wr) (hb : Below wr.heap.size wr w') : Bx w C w' := h.go (hb.mono h.2.1)

theorem cnt_is {t : Bool} {B : Bd} {N : Nat} {w : World} {ρ : Nat → Nat} {cb gb : Nat} {C : Cfg} {now : Rest} {l : List Sh} {E : List En} {n : Nat} (h : Crew t B N w ρ cb gb C now l E n) {k : Nat} (hk : k < l.length) : held E k = cn l k := by
  rw [h.cnt k _ (List.getElem?_eq_getElem hk), cn_is (List.getElem?_eq_getElem hk)]
theorem done_le {t : Bool} {B : Bd} {N : Nat} {w : World} {ρ : Nat → Nat} {cb gb : Nat} {C : Cfg} {now : Rest} {l : List Sh} {E : List En} {n : Nat} (h : Crew t B N w ρ cb gb C now l E n) {k : Nat} (hk : k < l.length) : 0 ≤ dnP now.dn k ∧ dnP now.dn k ≤ cn l k ∧ cn l k ≤ 32 := by
  have h16 := h.inv.len
  obtain ⟨_, _, _, _, g, cap, P, _, _, _, o, _⟩ := h.wok
  have a := o.mr k (by omega)
  exact ⟨a.1, a.2.1, cn_le h.inv k⟩

set_option maxRecDepth 100000 in
set_option maxHeartbeats 4000000 in
theorem endsLaw_any (C : Cfg) (sa : Option Addr) (len cap : Nat) (os : List St) (cw : Int) (hc1 : -9223372036854775808 ≤ cw) (hc2 : cw ≤ 9223372036854775807) (w : World) (hS : IsScript w sa len os) (hlen : len ≤ 900000000000000) :
    Calls Try.prog 7 #[.agg C.arr, .slice sa len cap, .int .i64 cw] w fun e w' => e = .returned (.bool true) ∧ Below w.heap.size w w' := by
  cases hv : validB C.a C.l C.b C.n C.s C.t
  · have HB := fun w => hide (hired_bad C w hv)
    unfold Cfg.arr at HB ⊢
    clear hS
    go_enter Try.func7, Try.ntmps7
    go_wp2_with fail
    refine (unhide (HB _)).mono ?_
    rintro e w1 ⟨rfl, hb⟩
    obtain ⟨_, hB1, _⟩ := below_new hb
    have HBB := hide hB1
    clear hb hB1
    go_wp2
    go_ret
    exact ⟨rfl, unhide HBB⟩
  · have HG := fun w => hide (hired_good C w hv)
    have HS := hide hS
    have hvv := (validB_iff _ _ _ _ _ _).1 hv
    have hL1 : 1 ≤ C.l ∧ C.l ≤ 1000 := by omega
    have hA1 : 1 ≤ C.a ∧ C.a ≤ 4 := by omega
    unfold Cfg.arr at HG ⊢
    clear hS hv hvv
    go_enter Try.func7, Try.ntmps7
    go_wp2_with fail
    refine (unhide (HG _)).mono ?_
    rintro e w1 ⟨cb, gb, ρ, now0, rfl, hC, hb⟩
    obtain ⟨hbox, hB1, hsz⟩ := below_new hb
    have hNs := hb.size
    have hN1 : Hid (Crew true bd0 (w.heap.size + 1) w1 ρ cb gb C now0 [first] [] 1) := by refine hide ?_; simpa using hC
    have HB1 : Hid (Bx w C w1) := ⟨hB1, hsz, cell_of hbox 0, cell_of hbox 1⟩
    clear hb hB1 hC hNs hbox
    go_wp2
    go_loopw [8, 9] (fun b i wr => ∃ (j : Nat) (B : Bd) (ρ : Nat → Nat) (now : Rest) (l : List Sh) (E : List En), j ≤ len ∧ i = .int .i64 j ∧ b = .bool true ∧ B.n = j ∧ Crew true B (w.heap.size + 1) wr ρ cb gb C now l E l.length ∧ Bx w C wr) (fun _ i _ => len - (intOf i).toNat)
    case atStart => exact ⟨0, bd0, ρ, now0, [first], [], Nat.zero_le _, rfl, rfl, rfl, unhide hN1, unhide HB1⟩
    case round =>
      obtain ⟨j, B, ρ2, now, l, E, hj, rfl, rfl, hBn, hC, hB⟩ := hrel
      by_cases hlt : j < len
      · obtain ⟨o, ho⟩ : ∃ o, os[j]? = some o := ⟨os[j]'(by have := (unhide HS).1; omega), List.getElem?_eq_getElem _⟩
        obtain ⟨hok, sb, off, rfl, hsb, b0, b1, b2, b3, b4, b5⟩ := ((unhide HS).below hB.1).2 j o ho
        have HSt := hide (step_any hC (by omega) hB.2.1 o hok)
        unfold St.arr at HSt
        have HB := hide hB
        have hBu : Hid (B.up.n = j + 1) := by unfold Hid; show B.n + 1 = _; omega
        clear ho hC hB hok
        go_wp2_with fail
        refine (unhide HSt).mono ?_
        rintro e w3 ⟨rfl, ρ3, now3, l3, E3, hC3, hB3, _⟩
        have HC3 := hide hC3
        have HB3 := hide ((unhide HB).go hB3)
        clear hC3 hB3 b0 b1 b2 b3 b4 b5
        go_wp2
        go_roundw
        case rel => exact ⟨j + 1, B.up, ρ3, now3, l3, E3, by omega, by go_num, rfl, unhide hBu, unhide HC3, unhide HB3⟩
        case measure => simp [intOf]; omega
      · have HM := hide (marks_any hC)
        obtain ⟨P, hQ⟩ := cq_of hC (by omega)
        have HQ := hide hQ
        have HB := hide hB
        have h16 := hC.inv.len
        have hpos := hC.inv.pos
        clear hC hQ
        go_wp2_with fail
        refine (unhide HM).mono ?_
        rintro e w2 ⟨v2, rfl, hrow2, hb2⟩
        have hUp : 0 < (mkUp l now.dn l.length).length := by rw [mkUp_len]; omega
        obtain ⟨mb, mcap, rfl, hM2⟩ := mks_of hrow2 hUp
        have HM2 := hide hM2
        have HU := hide (mkUp_len l now.dn l.length)
        have HQ2 := hide ((unhide HQ).below hb2)
        have HB2 := hide ((unhide HB).new hb2)
        have hn := (unhide HQ).cr.wok.2.1
        have hn4 := (unhide HQ).cr.wok.2.2.1
        obtain ⟨_, _, c0, c1⟩ := unhide HB2
        have HUg : Hid (∀ k, k < l.length → ∃ x, (mkUp l now.dn l.length)[k]? = some x ∧ x.d = dnP now.dn k) := fun k hk => ⟨_, mkUp_get l now.dn l.length k hk, rfl⟩
        generalize mkUp l now.dn l.length = U at *
        clear hrow2 hb2 hM2 HM HQ HB hB
        have HQc : Hid (∀ (W : World) (B : Bd) (ρ : Nat → Nat) (now' : Rest) (P' : List Pl), Cq B (w.heap.size + 1) W ρ cb gb C now' l E P' → W.cell? ⟨cb, 8, none⟩ = some (.int .i64 l.length) ∧ ∀ k : Nat, Calls Try.prog 18 #[.pointer (some ⟨cb, 0, none⟩), .int .i64 k] W fun e w' => e = .returned (.int .i64 (held E k)) ∧ W = w') := by
          intro W B ρ now' P' hW
          obtain ⟨ea, ecap, _, c6, c7, c8, _, _, hE⟩ := crew_cells hW.cr.ent2
          exact ⟨c8, fun k => count_raw hW.cr.short c7 hE k⟩
        have HA : Hid (wrap64 (wrap64 (2 ^ C.a.toNat) - 1) = 2 ^ now.n - 1 ∧ (1 : Int) ≤ 2 ^ now.n - 1 ∧ (2 : Int) ^ now.n - 1 ≤ 15 ∧ 2 ^ now.n ≤ 16) := by
          refine hide ?_
          have e : C.a.toNat = now.n := by omega
          have e2 : now.n = 1 ∨ now.n = 2 ∨ now.n = 3 ∨ now.n = 4 := by omega
          rw [e]
          rcases e2 with e2 | e2 | e2 | e2 <;> rw [e2] <;> simp [wrap64]
        have HPk := hide (pick_at cw (2 ^ now.n - 1) w2 hc1 hc2 (unhide HA).2.1 (by have := (unhide HA).2.2.1; omega))
        have hpl := pickN_lt cw (2 ^ now.n - 1) (unhide HA).2.1
        obtain ⟨c8, _⟩ := unhide HQc _ _ _ _ _ (unhide HQ2)
        have hp15 : pickN cw (2 ^ now.n - 1) < 15 := by have := (unhide HA).2.2.1; omega
        obtain ⟨a1, ha1, hb1⟩ : ∃ a : Nat, a < now.n ∧ bitB (1 + pickN cw (2 ^ now.n - 1)) a = true := by
          have h2 := (unhide HA).2.2.2
          have h3 : 1 + pickN cw (2 ^ now.n - 1) < 2 ^ now.n := by
            have : ((2 ^ now.n : Nat) : Int) = 2 ^ now.n := by simp
            omega
          obtain ⟨a, h4, h5⟩ := bit_some ⟨now.n, by omega⟩ ⟨1 + pickN cw (2 ^ now.n - 1), by omega⟩ (by show 1 ≤ 1 + _; omega) h3
          exact ⟨a.val, h4, h5⟩
        generalize pickN cw (2 ^ now.n - 1) = pk at *
        obtain ⟨a0, h0, h0n, hfirst⟩ := least_of (p := fun a => bitB (1 + pk) a = true) a1 hb1
        have HRd : Hid (∀ (W : World) (B' : Bd) (ρ' : Nat → Nat) (now' : Rest) (P' : List Pl) (u0 r : Nat), Cq B' (w.heap.size + 1) W ρ' cb gb C now' l E P' → w.heap.size + 1 ≤ W.heap.size → B'.n + 100 ≤ 1000000000000000 → now'.n = now.n → Rnd (bitB (1 + pk)) now.n a0 l C.l u0 r (fs now' P') →
            Calls Try.prog 19 #[.pointer (some ⟨cb, 0, none⟩), .int .i64 (1 + (pk : Int))] W fun e w' => e = .returned (.tuple #[]) ∧ ∃ (B2 : Bd) (ρ2 : Nat → Nat) (now2 : Rest) (P2 : List Pl), B2.n ≤ B'.n + 20 ∧ Cq B2 (w.heap.size + 1) w' ρ2 cb gb C now2 l E P2 ∧ Below (w.heap.size + 1) W w' ∧ now2.n = now.n ∧ Rnd (bitB (1 + pk)) now.n a0 l C.l u0 (r + 1) (fs now2 P2)) := by
          intro W B' ρ' now' P' u0 r q1 q2 q3 q4 q5
          rw [← q4] at q5 ⊢
          have := round_any q1 q2 q3 (1 + pk) a0 u0 r h0 (by omega) hfirst q5
          have e : ((1 + pk : Nat) : Int) = 1 + (pk : Int) := by omega
          rw [e] at this
          exact this
        have HZ := hide (Rnd.zero (A := bitB (1 + pk)) (n := now.n) (a0 := a0) (l := l) (L := C.l) (fs now P) hL1.1)
        clear hb1 hfirst h0
        go_wp2_with fail
        rw [(unhide HA).1]
        refine (unhide HPk).mono ?_
        rintro e w3 ⟨rfl, rfl⟩
        clear HPk HA hpl
        have HD : Hid (∀ k, k < l.length → held E k = cn l k ∧ 0 ≤ dnP now.dn k ∧ dnP now.dn k ≤ cn l k ∧ cn l k ≤ 32) := by
          intro k hk
          exact ⟨cnt_is (unhide HQ2).cr hk, done_le (unhide HQ2).cr hk⟩
        have HUn : Hid (∀ k, unf l (dnP now.dn) (k + 1) = unf l (dnP now.dn) k + ((cn l k : Int) - dnP now.dn k).toNat) := fun k => rfl
        have HU0 : Hid (unf l (dnP now.dn) 0 = 0) := rfl
        go_wp2
        go_region
        have HQ3 := hide ((unhide HQ2).below (Below.refl _ _).drew)
        have HB3 := hide ((unhide HB2).new (Below.refl _ _).drew)
        have HM3 := hide ((unhide HM2).below (Below.refl _ _).drew)
        clear HQ2 HB2 HM2 c0 c1 c8
        generalize w3.drew = w4 at *
        go_wp2
        go_loopw [12, 13] (fun t i wr => ∃ (j : Nat) (x : Int), j ≤ l.length ∧ i = .int .i64 j ∧ t = .int .i64 x ∧ x = C.l + 3 + l.length + unf l (dnP now.dn) j ∧ unf l (dnP now.dn) j ≤ 32 * j ∧ Below w4.heap.size w4 wr) (fun _ i _ => l.length - (intOf i).toNat)
        case atStart => exact ⟨0, _, Nat.zero_le _, rfl, rfl, by rw [unhide HU0]; omega, by rw [unhide HU0]; omega, Below.refl _ _⟩
        case round =>
          obtain ⟨j2, x, hj2, rfl, rfl, hx, hu, hW⟩ := hrel
          have HW := hide hW
          have hUl := unhide HU
          have HCq := fun W hb => unhide HQc W _ _ _ _ ((unhide HQ3).below hb)
          by_cases hlt2 : j2 < l.length
          · have hdd := unhide HD j2 hlt2
            have hS := unhide HUn j2
            obtain ⟨y, hy, hyd⟩ := unhide HUg j2 hlt2
            have m0 := ((unhide HM3).below hW).2 j2 y hy |>.1
            rw [hyd] at m0
            have m0d : wr.drew.cell? ⟨mb, j2 * 3, none⟩ = some (.int .i64 (dnP now.dn j2)) := m0
            have CN := hide ((HCq _ hW.drew).2 j2)
            rw [hdd.1] at CN
            generalize unf l (dnP now.dn) j2 = u at *
            generalize hdn : dnP now.dn j2 = d at *
            generalize hcn : cn l j2 = c at *
            have hq1 : (j2 : Int) < (U.length : Int) := by omega
            have HuS : Hid (unf l (dnP now.dn) (j2 + 1) = u + ((c : Int) - d).toNat) := hS
            have Hx := hide hx
            have hxb : 0 ≤ x ∧ x ≤ 3000 := by omega
            have Hdd := hide hdd
            have hdb : 0 ≤ d ∧ d ≤ 32 ∧ d ≤ c := by omega
            have hcb : c ≤ 32 := by omega
            clear hS hW HCq hy hyd hUl hx hdd
            go_wp2_with fail
            go_region_held3 (fun w' => w'.cell? ⟨mb, j2 * 3, none⟩ = some (.int .i64 d)) (first | go_keep | trivial) ((go_at_call 18; refine (unhide CN).mono ?_; rintro e w5 ⟨rfl, rfl⟩))
            go_wp2
            go_roundw
            case rel => exact ⟨j2 + 1, _, by omega, by go_num, rfl, by have := unhide HuS; have := unhide Hx; have e : IntKind.i64.wrap (IntKind.i64.wrap (x + (c : Int)) - d) = x + c - d := by { have e1 : IntKind.i64.wrap (x + (c : Int)) = x + c := by { rw [IntKind.wrap_i64]; omega }; rw [e1, IntKind.wrap_i64]; omega }; rw [e]; omega, by have := unhide HuS; omega, (unhide HW).drew⟩
            case measure => simp [intOf]; omega
          · have e2 : j2 = l.length := by omega
            subst e2
            have hq1 : ¬ (l.length : Int) < (U.length : Int) := by omega
            have HQ5 := hide ((unhide HQ3).below hW)
            have HB5 := hide ((unhide HB3).new hW)
            obtain ⟨R, hR⟩ : ∃ R : Nat, (R : Int) = C.l + 3 + l.length + unf l (dnP now.dn) l.length := ⟨(C.l + 3 + l.length + unf l (dnP now.dn) l.length).toNat, by omega⟩
            have HR := hide hR
            have hx2 : x = R := by omega
            have hRb : R ≤ 3000 := by omega
            subst hx2
            clear hx hR hu hW HCq hUl HQ3 HB3 HW
            go_wp2
            go_loopw [14] (fun i wr => ∃ (r : Nat) (B' : Bd) (ρ' : Nat → Nat) (now' : Rest) (P' : List Pl), r ≤ R ∧ i = .int .i64 r ∧ B'.n ≤ B.n + 20 * r ∧ Cq B' (w.heap.size + 1) wr ρ' cb gb C now' l E P' ∧ Bx w C wr ∧ now'.n = now.n ∧ Rnd (bitB (1 + pk)) now.n a0 l C.l (unf l (fs now P).d l.length) r (fs now' P')) (fun i _ => R - (intOf i).toNat)
            case atStart => exact ⟨0, B, ρ2, now, P, Nat.zero_le _, rfl, Nat.le_refl _, unhide HQ5, unhide HB5, rfl, unhide HZ⟩
            case round =>
              obtain ⟨r, B', ρ', now', P', hr, rfl, hBr, hC, hB, hn', hZ⟩ := hrel
              by_cases hlt3 : r < R
              · have CR := hide (unhide HRd _ _ _ _ _ _ _ hC hB.2.1 (by omega) hn' hZ)
                have HB6 := hide hB
                clear hC hB hn' hZ
                go_wp2_with fail
                refine (unhide CR).mono ?_
                rintro e w6 ⟨rfl, B6, ρ6, now6, P6, hB6n, hC6, hb6, hn6, hZ6⟩
                have HC6 := hide hC6
                have HB7 := hide ((unhide HB6).go hb6)
                have Hn6 := hide hn6
                have HZ6 := hide hZ6
                clear hC6 hb6 hn6 hZ6
                go_wp2
                go_roundw
                case rel => exact ⟨r + 1, B6, ρ6, now6, P6, by omega, by go_num, by omega, unhide HC6, unhide HB7, unhide Hn6, unhide HZ6⟩
                case measure => simp [intOf]; omega
              · have e3 : r = R := by omega
                have hq3 : ¬ (r : Int) < (R : Int) := by omega
                have HC6 := hide hC
                have HB6 := hide hB
                have Hn6 := hide hn'
                have HZ6 := hide hZ
                clear hC hB hn' hZ
                go_wp2
                go_loopw [15] (fun i wr => ∃ (q r : Nat) (B' : Bd) (ρ' : Nat → Nat) (now' : Rest) (P' : List Pl), q ≤ 2 ∧ r = R + q ∧ i = .int .i64 q ∧ B'.n ≤ B.n + 20 * r ∧ Cq B' (w.heap.size + 1) wr ρ' cb gb C now' l E P' ∧ Bx w C wr ∧ now'.n = now.n ∧ Rnd (bitB (1 + pk)) now.n a0 l C.l (unf l (fs now P).d l.length) r (fs now' P')) (fun i _ => 2 - (intOf i).toNat)
                case atStart => exact ⟨0, r, B', ρ', now', P', by omega, e3, rfl, hBr, unhide HC6, unhide HB6, unhide Hn6, unhide HZ6⟩
                case round =>
                  obtain ⟨q, r7, B7, ρ7, now7, P7, hq, hr7, rfl, hB7, hC, hB, hn', hZ⟩ := hrel
                  by_cases hlt4 : q < 2
                  · have HM7 := hide (marks_any hC.cr)
                    have HAll : Hid (∀ k, k < l.length → held E k = cn l k ∧ dnP now7.dn k = cn l k) := by
                      intro k hk
                      have h1 := done_le hC.cr hk
                      have h2 := unf_zero _ (hZ.done (by have := unhide HR; show _ + ((unf l (dnP now.dn) l.length : Nat) : Int) ≤ _; omega)) k hk
                      exact ⟨cnt_is hC.cr hk, by have h3 : (cn l k : Int) ≤ dnP now7.dn k := h2; omega⟩
                    have hUp7 : 0 < (mkUp l now7.dn l.length).length := by rw [mkUp_len]; omega
                    have HUl7 := hide (mkUp_len l now7.dn l.length)
                    have HUg7 : Hid (∀ k, k < l.length → ∃ x, (mkUp l now7.dn l.length)[k]? = some x ∧ x.d = dnP now7.dn k) := fun k hk => ⟨_, mkUp_get l now7.dn l.length k hk, rfl⟩
                    have HC7 := hide hC
                    have HB7 := hide hB
                    have Hn7 := hide hn'
                    have HZ7 := hide hZ
                    generalize mkUp l now7.dn l.length = U7 at *
                    clear hC hB hn' hZ
                    go_wp2_with fail
                    refine (unhide HM7).mono ?_
                    rintro e w8 ⟨v8, rfl, hrow8, hb8⟩
                    obtain ⟨mb8, mcap8, rfl, hM8⟩ := mks_of hrow8 hUp7
                    have HM8 := hide hM8
                    have HC8 := hide ((unhide HC7).below hb8)
                    have HB8 := hide ((unhide HB7).new hb8)
                    clear hrow8 hM8 hb8 HM7 HC7 HB7
                    go_wp2
                    go_loopw [16] (fun i wr => ∃ m : Nat, m ≤ l.length ∧ i = .int .i64 m ∧ Below w8.heap.size w8 wr) (fun i _ => l.length - (intOf i).toNat)
                    case atStart => exact ⟨0, Nat.zero_le _, rfl, Below.refl _ _⟩
                    case round =>
                      obtain ⟨m, hm, rfl, hW9⟩ := hrel
                      have HW9 := hide hW9
                      have HUl := unhide HUl7
                      by_cases hlt5 : m < l.length
                      · have hall := unhide HAll m hlt5
                        obtain ⟨y, hy, hyd⟩ := unhide HUg7 m hlt5
                        have m0 := ((unhide HM8).below hW9).2 m y hy |>.1
                        rw [hyd, hall.2] at m0
                        have m0d : wr.drew.cell? ⟨mb8, m * 3, none⟩ = some (.int .i64 (cn l m)) := m0
                        have CN := hide ((unhide HQc _ _ _ _ _ ((unhide HC8).below hW9.drew)).2 m)
                        rw [hall.1] at CN
                        have hq1 : (m : Int) < (U7.length : Int) := by omega
                        have hcc := (unhide HD m hlt5).2.2.2
                        clear hall hy hyd hW9 HUl
                        generalize cn l m = c at *
                        have hne : ((c : Int) != (c : Int)) = false := by simp
                        go_wp2_with fail
                        go_region_held3 (fun w' => w'.cell? ⟨mb8, m * 3, none⟩ = some (.int .i64 c)) (first | go_keep | trivial) ((go_at_call 18; refine (unhide CN).mono ?_; rintro e w9 ⟨rfl, rfl⟩))
                        go_wp2
                        go_roundw
                        case rel => exact ⟨m + 1, by omega, by go_num, (unhide HW9).drew⟩
                        case measure => simp [intOf]; omega
                      · have hq1 : ¬ (m : Int) < (U7.length : Int) := by omega
                        have CR := hide (unhide HRd _ _ _ _ _ _ _ ((unhide HC8).below hW9) ((unhide HB8).new hW9).2.1 (by omega) (unhide Hn7) (unhide HZ7))
                        have HB9 := hide ((unhide HB8).new hW9)
                        clear HUl hW9
                        go_wp2_with fail
                        refine (unhide CR).mono ?_
                        rintro e w6 ⟨rfl, B6, ρ6, now6, P6, hB6n, hC6, hb6, hn6, hZ6⟩
                        have HC6 := hide hC6
                        have HB7 := hide ((unhide HB9).go hb6)
                        have Hn6 := hide hn6
                        have HZ6 := hide hZ6
                        clear hC6 hb6 hn6 hZ6
                        go_wp2
                        go_roundw
                        case rel => exact ⟨q + 1, r7 + 1, B6, ρ6, now6, P6, by omega, by omega, by go_num, by omega, unhide HC6, unhide HB7, unhide Hn6, unhide HZ6⟩
                        case measure => simp [intOf]; omega
                  · have HLn := hide (batches_any hC.cr)
                    have HB7 := hide hB
                    clear hC hB hn' hZ
                    go_wp2_with fail
                    refine (unhide HLn).mono ?_
                    rintro e w9 ⟨rfl, hB9⟩
                    have HB9 := hide ((unhide HB7).new hB9).1
                    clear hB9
                    go_wp2
                    go_ret
                    exact ⟨rfl, unhide HB9⟩

end Go.Proofs.Ytpnkmnmchdabkaa
namespace Go.Proofs.Ytpnkmnmchdabkaa.endsDone
open Go.ChangeShapes Go.WideShapes Go.ChangeAt Go.RowKit Go.Joins Go.Deep
set_option linter.unusedVariables false

theorem own : ownKnob Try.prog.godebug = none := by kernel_rfl
theorem laidOut : laidOutB Try.prog = true := by kernel_rfl

theorem bytesStep : Try.prog.bytesOf 34 = 56 := by kernel_rfl
/-- The script's datum is a slice of as many. -/
theorem script_data {H : Type} {enc : TypeId × Value → H} {w : World} {base fuel : Nat} {held : Bool} {x : DataW H × List MemPlace} {a0 : Option Addr} {len cap : Nat} (h : DataW.trod enc Try.prog w base (fun _ => true) held fuel 24 [.slice a0 len cap] = some x) : len = 0 ∨ ∃ es sp, x.1 = .slice es sp ∧ es.length = len := by
  rcases open_slice Try.underlying24 h with ⟨hcs, _⟩ | ⟨a, len', cap', m, n, D, Pl, hcs, _, hl, hm, hmm, hx, hel⟩
  · injection hcs with hcs _
    injection hcs with e1 e2 e3
    exact Or.inl e2
  · injection hcs with hcs _
    injection hcs with e1 e2 e3
    subst e2
    exact Or.inr ⟨_, _, by rw [hx], by simp⟩

set_option maxRecDepth 100000 in
theorem lifted (os : Os) (started : os.Started) (H : Type) (enc : TypeId × Value → H) :
    ReturnsInHanded {} Try.checked os 7 .any (Rows.endsSpec.pre6 enc Try.prog Try.f7 Rows.endsRow.domain false) (Rows.endsSpec.post enc Try.prog Try.f7 false true false false) := by
  refine returnsInHanded_of_change_sized (C := Try.checked) own started (by kernel_rfl) Try.func7
    (ChangeSpec.witness6 (enc := enc) (C := Try.checked) false ⟨#[], #[.agg #[.int .i64 0, .int .i64 0, .int .i64 0, .int .i64 0, .int .i64 0, .int .i64 0], .slice none 0 0, .int .i64 0], []⟩ 8 (by kernel_rfl) (by kernel_rfl) (by kernel_rfl) (by kernel_rfl)) ?_
  intro W base args ds gs before hval0 hW hcnd hsz0 _
  have hsz : (DataW.weightsEach Try.prog (Try.f7.params.toList ++ Rows.endsSpec.plain.varTypes Try.prog) (ds ++ gs)).all (· ≤ reachBytes) = true := hsz0
  have hval : ∀ (j : Nat) t v, Try.f7.params[j]? = some t → args[j]? = some v → Value.okWide Try.prog W .any base t v := hval0
  have hW' := hW
  obtain ⟨p, q, hA0, hV, rfl, hfz, hnd⟩ := hW
  have hA : DataW.TrodAll enc Try.prog W 0 (fun _ => true) true Try.f7.params.toList args.toList ds p := hA0
  rw [Try.params7] at hA hval hsz
  obtain ⟨v0, vs0, d0, ds0, p0, q0, hargs, rfl, rfl, h0, r0⟩ := trodAll_cons hA
  obtain ⟨v1, vs1, d1, ds1, p1, q1, rfl, rfl, rfl, h1, r1⟩ := trodAll_cons r0
  obtain ⟨v2, vs2, d2, ds2, p2, q2, rfl, rfl, rfl, h2, r2⟩ := trodAll_cons r1
  obtain ⟨rfl, rfl, rfl⟩ := trodAll_nil r2
  obtain rfl : args = #[v0, v1, v2] := by cases args; simp_all
  obtain ⟨rfl, rfl⟩ := trodVars_none hV
  obtain ⟨cs, rfl, hcs⟩ := okWide_struct Try.underlying23 (hval 0 23 v0 rfl rfl)
  obtain ⟨a1, len1, cap1, rfl⟩ := okWide_slice Try.underlying24 (hval 1 24 v1 rfl rfl)
  obtain ⟨cw, rfl⟩ := okWide_int Try.underlying3 (hval 2 3 v2 rfl rfl)
  have k0 := h0
  have k1 := h1
  have k2 := h2
  have lt2 : ∀ x ∈ p2, x.block < W.heap.size := by obtain ⟨m, hm⟩ := k2; exact DataW.trod_lt m _ _ _ hm
  have lt0 : ∀ x ∈ p0, x.block < W.heap.size := by obtain ⟨m, hm⟩ := k0; exact DataW.trod_lt m _ _ _ hm
  have lt1 : ∀ x ∈ p1, x.block < W.heap.size := by obtain ⟨m, hm⟩ := k1; exact DataW.trod_lt m _ _ _ hm
  obtain ⟨C, hC⟩ : ∃ C : Cfg, cs = C.arr := by
    obtain ⟨fuel, hf⟩ := h0
    obtain ⟨C, hC⟩ := cfg_open (by simpa [Value.cells] using hf)
    exact ⟨C, Array.toList_inj.1 hC⟩
  subst hC
  obtain ⟨hlen, sc, hS⟩ : len1 ≤ maxLen ∧ ∃ sc : List St, IsScript W a1 len1 sc := by
    obtain ⟨fuel, hf⟩ := h1
    exact script_open (by simpa [Value.cells] using hf)
  have hcw : -9223372036854775808 ≤ cw ∧ cw ≤ 9223372036854775807 := by
    obtain ⟨fuel, hf⟩ := h2
    obtain ⟨n, e, _, hw⟩ := DataW.trod_int Try.underlying3 (by simpa [Value.cells] using hf)
    injection e with e _
    injection e with _ e
    subst e
    exact in64_of hw
  have hln : len1 ≤ 900000000000000 := by
    obtain ⟨fuel, hf⟩ := k1
    rcases script_data (by simpa [Value.cells] using hf) with h9 | ⟨es, sp, e1, e2⟩
    · omega
    · have e1 : d1 = .slice es sp := e1
      subst e1
      have := sized_slice hsz (j := 1) (t := 24) (e := 34) rfl rfl Try.underlying24
      rw [bytesStep, e2] at this
      have := reachBytes_lt
      omega
  clear hA0 hval0
  refine (endsLaw_any C a1 len1 cap1 sc cw hcw.1 hcw.2 W hS hln).mono fun e W' ⟨he, bel⟩ => ?_
  subst he
  exact ⟨_, rfl, _, _, _, [], _, [], hW', trodAll_mk1 (shut_bool Try.underlying4 _), (trodAll_cons_mk (Below.trod laidOut (by kernel_rfl) (of_decide_eq_true (by kernel_rfl)) k0 bel lt0) (trodAll_cons_mk (Below.trod laidOut (by kernel_rfl) (of_decide_eq_true (by kernel_rfl)) k1 bel lt1) (trodAll_cons_mk (Below.trod laidOut (by kernel_rfl) (of_decide_eq_true (by kernel_rfl)) k2 bel lt2) trodAll_mk0))), rfl, bel.frame _, fun h => by cases h⟩

theorem over : Rows.endsRow.holds Try.pinned (OpenSpec.ofChange Rows.endsSpec) :=
  OpenClaim.holds_of_wide 7 Try.f7 rfl rfl rfl rfl rfl rfl rfl ⟨rfl, rfl, rfl, rfl, rfl⟩ rfl rfl rfl rfl rfl (by kernel_rfl) Try.func7 (by kernel_rfl)
    (of_decide_eq_true (by kernel_rfl)) (by unfold Func.isWrapper; first | (rw [if_pos (by decide +kernel)]; kernel_rfl) | (rw [if_neg (by decide +kernel)]; exact ⟨rfl, rfl⟩))
    (fun os started H enc _ => lifted os started H enc)

end Go.Proofs.Ytpnkmnmchdabkaa.endsDone

namespace Go.Proofs.Ytpnkmnmchdabkaa
theorem ends_holds : Rows.EndsSaid := endsDone.over
#print axioms ends_holds
end Go.Proofs.Ytpnkmnmchdabkaa
