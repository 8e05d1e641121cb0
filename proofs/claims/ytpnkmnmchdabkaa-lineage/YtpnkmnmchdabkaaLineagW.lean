import Derived.Test.YtpnkmnmchdabkaaStep
import Derived.Test.YtpnkmnmchdabkaaM25
import Derived.Test.YtpnkmnmchdabkaaLineag
namespace Go.Proofs.Ytpnkmnmchdabkaa
open Go.RowKit
attribute [local go_sem ↓] Go.wp_at_zero Go.wp_at_succ

/-- The marks of the look before: they lie there, and are those of B. -/
def WasOk (B : Bd) (v : Value) : Prop := ∃ (wa : Option Addr) (W0 : List Mk) (wcap : Nat), v = .slice wa W0.length wcap ∧ (W0 = [] ∨ (W0 = mkUp B.l B.dn B.l.length ∧ Inv B.l ∧ ∀ k, k < 16 → 0 ≤ dnP B.dn k ∧ dnP B.dn k ≤ cn B.l k)) ∧
  (0 < W0.length → ∃ wb o, wa = some ⟨wb, 0, none⟩ ∧ B.X wb = some o ∧ ∀ w : World, w.heap[wb]? = some o → Mks w wb W0)
theorem WasOk.first : WasOk bd0 (.slice none 0 0) := ⟨none, [], 0, rfl, Or.inl rfl, fun h => by simp at h⟩
theorem WasOk.up {B : Bd} {v : Value} (h : WasOk B v) : WasOk B.up v := h

/-- A look: the marks that came out are kept. -/
theorem crew_look {B : Bd} {N : Nat} {w w' : World} {ρ : Nat → Nat} {cb gb : Nat} {C : Cfg} {now : Rest} {l : List Sh} {E : List En} (h : Crew true B N w ρ cb gb C now l E l.length) {v : Value} (hb : Below w.heap.size w w') (hv : w'.ownsRow w.heap.size 45 3 v (mkUp l now.dn l.length).length (mkRow (mkUp l now.dn l.length))) :
    ∃ B', B'.n = B.n ∧ Crew true B' N w' ρ cb gb C now l E l.length ∧ WasOk B' v := by
  have h16 := h.inv.len
  have hU : 0 < (mkUp l now.dn l.length).length := by rw [mkUp_len]; exact h.inv.pos
  obtain ⟨g, cap, cur, hv2, hBg, hg, _⟩ := ownsRow_shape hv hU
  have h' := h.below hb
  refine ⟨⟨B.n, now.dn, l, fun k => if k = g then some (.cells cur 45 (0, 0)) else none⟩, rfl, ?_, ?_⟩
  · obtain ⟨_, a, b, c, g9, cap9, P, d, e, f, o, q⟩ := h'.wok
    refine ⟨h'.ent, h'.tag, h'.grp, h'.inv, h'.fits, ⟨h'.low.1, fun k o hx => ?_⟩, h'.cnt, h'.tot, h'.rng, h'.val, ⟨Gro.refl _ _, a, b, c, g9, cap9, P, d, e, f, o, q⟩⟩
    by_cases e9 : k = g
    · subst e9
      simp only [if_true] at hx
      injection hx with hx
      subst hx
      exact ⟨h.fits k hBg, hg⟩
    · simp [e9] at hx
  · subst hv2
    refine ⟨some ⟨g, 0, none⟩, mkUp l now.dn l.length, cap, rfl, Or.inr ⟨rfl, h.inv, fun k hk => ?_⟩, fun _ => ⟨g, _, rfl, by simp; rfl, fun W hW => ?_⟩⟩
    · obtain ⟨_, _, _, _, _, _, P, _, _, _, o, _⟩ := h.wok
      exact ⟨(o.mr k hk).1, (o.mr k hk).2.1⟩
    · have := ownsRow_of_block (w' := W) hv fun q hq => by
        have e : g = q := by
          have h9 : some g = some q := hq
          injection h9
        subst e
        exact hW.trans hg.symm
      obtain ⟨mb, c2, e2, hM⟩ := mks_of this hU
      injection e2 with e3
      injection e3 with e3
      injection e3 with e4
      rw [e4]; exact hM

theorem crew_lin {B : Bd} {N : Nat} {w : World} {ρ : Nat → Nat} {cb gb : Nat} {C : Cfg} {now : Rest} {l : List Sh} {E : List En} (h : Crew true B N w ρ cb gb C now l E l.length) {v : Value} (hW : WasOk B v) :
    Calls Try.prog 16 #[.pointer (some ⟨cb, 0, none⟩), v] w fun e w' => ∃ v' B', e = .returned (.tuple #[v', .bool true]) ∧ B'.n = B.n ∧ Crew true B' N w' ρ cb gb C now l E l.length ∧ WasOk B' v' ∧ Below w.heap.size w w' := by
  obtain ⟨wa, W0, wcap, rfl, hc, hm⟩ := hW
  have hgr := h.wok.1
  refine (lineage_any h wa wcap W0 (fun h0 => ?_) (fun k x hx => ?_)).mono fun e w' q => ?_
  · obtain ⟨wb, o, e, hX, hM⟩ := hm h0
    exact ⟨wb, e, hM w (h.low.2 wb o hX).2⟩
  · rcases hc with rfl | ⟨rfl, hI, hd⟩
    · simp at hx
    · have hk := (List.getElem?_eq_some_iff.1 hx).1
      rw [mkUp_len] at hk
      rw [mkUp_get B.l B.dn B.l.length k hk] at hx
      injection hx with hx
      subst hx
      exact mk_grows hI hgr hd k hk
  · obtain ⟨v', rfl, hv, hb⟩ := q
    obtain ⟨B', e1, e2, e3⟩ := crew_look h hb hv
    exact ⟨v', B', rfl, e1, e2, e3, hb⟩

set_option maxRecDepth 100000 in
set_option maxHeartbeats 4000000 in
theorem lineageLaw_any (C : Cfg) (sa : Option Addr) (len cap : Nat) (os : List St) (w : World) (hS : IsScript w sa len os) (hlen : len ≤ maxLen) :
    Calls Try.prog 6 #[.agg C.arr, .slice sa len cap] w fun e w' => e = .returned (.bool true) ∧ Below w.heap.size w w' := by
  unfold maxLen at hlen
  cases hv : validB C.a C.l C.b C.n C.s C.t
  · have HB := fun w => hide (hired_bad C w hv)
    unfold Cfg.arr at HB ⊢
    clear hS
    go_enter Try.func6, Try.ntmps6
    go_wp2_with fail
    refine (unhide (HB _)).mono ?_
    rintro e w1 ⟨rfl, hb⟩
    obtain ⟨_, hB1, _⟩ := below_new hb
    have HBB := hide hB1
    clear hb hB1
    go_wp2
    go_ret
    exact ⟨rfl, unhide HBB⟩
  · have HG := fun w => hide (hired_good C w hv)
    have HS := hide hS
    unfold Cfg.arr at HG ⊢
    clear hS hv
    go_enter Try.func6, Try.ntmps6
    go_wp2_with fail
    refine (unhide (HG _)).mono ?_
    rintro e w1 ⟨cb, gb, ρ, now0, rfl, hC, hb⟩
    obtain ⟨_, hB1, hsz⟩ := below_new hb
    have hNs := hb.size
    have hN1 : Hid (Crew true bd0 (w.heap.size + 1) w1 ρ cb gb C now0 [first] [] 1) := by refine hide ?_; simpa using hC
    have HB1 := hide hB1
    clear hb hB1 hC hNs
    go_wp2
    go_loopw [6, 7, 8] (fun b v i wr => ∃ (j : Nat) (B : Bd) (ρ : Nat → Nat) (now : Rest) (l : List Sh) (E : List En), j ≤ len ∧ i = .int .i64 j ∧ b = .bool true ∧ WasOk B v ∧ B.n = j ∧ Crew true B (w.heap.size + 1) wr ρ cb gb C now l E l.length ∧ Below w.heap.size w wr ∧ w.heap.size + 1 ≤ wr.heap.size) (fun _ _ i _ => len - (intOf i).toNat)
    case atStart => exact ⟨0, bd0, ρ, now0, [first], [], Nat.zero_le _, rfl, rfl, WasOk.first, rfl, unhide hN1, unhide HB1, by omega⟩
    case round =>
      obtain ⟨j, B, ρ2, now, l, E, hj, rfl, rfl, hWo, hBn, hC, hB, hNw⟩ := hrel
      by_cases hlt : j < len
      · obtain ⟨o, ho⟩ : ∃ o, os[j]? = some o := ⟨os[j]'(by have := (unhide HS).1; omega), List.getElem?_eq_getElem _⟩
        obtain ⟨hok, sb, off, rfl, hsb, b0, b1, b2, b3, b4, b5⟩ := ((unhide HS).below hB).2 j o ho
        have HK : Hid (∀ wr, Below w.heap.size w wr → wr.cell? ⟨sb, off + j * 6, none⟩ = some (.int .i64 o.kind)) := fun wr hb => by
          obtain ⟨_, sb', off', e, _, q0, _⟩ := ((unhide HS).below hb).2 j o ho
          simp at e
          obtain ⟨rfl, rfl⟩ := e
          exact q0
        have HSt := hide (step_any hC (by omega) hNw o hok)
        unfold St.arr at HSt
        have HB := hide hB
        have HWo := hide hWo
        have hBu : Hid (B.up.n = j + 1) := by unfold Hid; show B.n + 1 = _; omega
        clear ho hC hB hok hWo
        go_wp2_with fail
        refine (unhide HSt).mono ?_
        rintro e w3 ⟨rfl, ρ3, now3, l3, E3, hC3, hB3, _⟩
        have hB3w := (unhide HB).trans (hB3.mono (by omega))
        have hN3 : w.heap.size + 1 ≤ w3.heap.size := by have := hB3.size; omega
        have HLn := hide (crew_lin hC3 (unhide HWo).up)
        have HC3 := hide hC3
        have HB3 := hide hB3w
        have d0 := unhide HK w3 hB3w
        clear hC3 hB3 hB3w b0 b1 b2 b3 b4 b5
        by_cases k12 : o.kind = 12
        · have q12 : (o.kind == 12) = true := by simp [k12]
          clear k12
          go_wp2_with fail
          refine (unhide HLn).mono ?_
          rintro e w4 ⟨v4, B4, rfl, e1, hC4, hW4, hB4⟩
          have HC4 := hide hC4
          have HW4 := hide hW4
          have HB4 := hide ((unhide HB3).trans (hB4.mono (by omega)))
          have hN4 : w.heap.size + 1 ≤ w4.heap.size := by have := hB4.size; omega
          have he1 := hide e1
          clear hC4 hW4 hB4 e1
          go_wp2
          exact ⟨⟨j + 1, B4, ρ3, now3, l3, E3, by omega, by go_num, rfl, unhide HW4, (unhide he1).trans (unhide hBu), unhide HC4, unhide HB4, hN4⟩, by simp [intOf]; omega⟩
        · have q12 : (o.kind == 12) = false := by simpa using k12
          clear k12
          go_wp2
          exact ⟨⟨j + 1, B.up, ρ3, now3, l3, E3, by omega, by go_num, rfl, (unhide HWo).up, unhide hBu, unhide HC3, unhide HB3, hN3⟩, by simp [intOf]; omega⟩
      · have HLn := hide (crew_lin hC hWo)
        have HB := hide hB
        clear hC hB hWo
        go_wp2_with fail
        refine (unhide HLn).mono ?_
        rintro e w4 ⟨v4, B4, rfl, e1, hC4, hW4, hB4⟩
        have HB4 := hide ((unhide HB).trans (hB4.mono (by omega)))
        clear hC4 hW4 hB4 e1
        go_wp2
        go_ret
        exact ⟨rfl, unhide HB4⟩

end Go.Proofs.Ytpnkmnmchdabkaa
