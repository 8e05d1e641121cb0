import Derived.Test.YtpnkmnmchdabkaaStep
import Derived.Test.YtpnkmnmchdabkaaRouted
import Derived.Test.YtpnkmnmchdabkaaPartedB
namespace Go.Proofs.Ytpnkmnmchdabkaa
open Go.RowKit
attribute [local go_sem ↓] Go.wp_at_zero Go.wp_at_succ

/-- The script as it lies in memory. -/
def IsScript (w : World) (sa : Option Addr) (len : Nat) (os : List St) : Prop :=
  os.length = len ∧ ∀ (i : Nat) (o : St), os[i]? = some o → o.ok ∧ ∃ sb off, sa = some ⟨sb, off, none⟩ ∧ sb < w.heap.size ∧
    w.cell? ⟨sb, off + i * 6, none⟩ = some (.int .i64 o.kind) ∧ w.cell? ⟨sb, off + i * 6 + 1, none⟩ = some (.int .i64 o.a) ∧ w.cell? ⟨sb, off + i * 6 + 2, none⟩ = some (.int .i64 o.b) ∧ w.cell? ⟨sb, off + i * 6 + 3, none⟩ = some (.int .i64 o.c) ∧
    w.cell? ⟨sb, off + i * 6 + 4, none⟩ = some (.string o.s) ∧ w.cell? ⟨sb, off + i * 6 + 5, none⟩ = some (.bool o.lost)

theorem IsScript.below {w w' : World} {sa : Option Addr} {len : Nat} {os : List St} (h : IsScript w sa len os) (hb : Below w.heap.size w w') : IsScript w' sa len os := by
  refine ⟨h.1, fun i o hi => ?_⟩
  obtain ⟨ho, sb, off, rfl, hsb, c0, c1, c2, c3, c4, c5⟩ := h.2 i o hi
  have hc : ∀ j, w'.cell? ⟨sb, j, none⟩ = w.cell? ⟨sb, j, none⟩ := fun j => hb.cell (p := ⟨sb, j, none⟩) hsb
  exact ⟨ho, sb, off, rfl, by have := hb.size; omega, (hc _).trans c0, (hc _).trans c1, (hc _).trans c2, (hc _).trans c3, (hc _).trans c4, (hc _).trans c5⟩

set_option maxRecDepth 100000 in
set_option maxHeartbeats 2000000 in
theorem partedLaw_any (C : Cfg) (sa : Option Addr) (len cap : Nat) (os : List St) (w : World) (hS : IsScript w sa len os) (hlen : len ≤ maxLen) :
    Calls Try.prog 3 #[.agg C.arr, .slice sa len cap] w fun e w' => e = .returned (.bool true) ∧ Below w.heap.size w w' := by
  unfold maxLen at hlen
  cases hv : validB C.a C.l C.b C.n C.s C.t
  · have HB := fun w => hide (hired_bad C w hv)
    unfold Cfg.arr at HB ⊢
    clear hS
    go_enter Try.func3, Try.ntmps3
    go_wp2_with fail
    refine (unhide (HB _)).mono ?_
    rintro e w1 ⟨rfl, hb⟩
    obtain ⟨_, hB1, _⟩ := below_new hb
    have HBB := hide hB1
    clear hb hB1
    go_wp2
    go_ret
    exact ⟨rfl, unhide HBB⟩
  · have HG := fun w => hide (hired_good C w hv)
    have HS := hide hS
    unfold Cfg.arr at HG ⊢
    clear hS hv
    go_enter Try.func3, Try.ntmps3
    go_wp2_with fail
    refine (unhide (HG _)).mono ?_
    rintro e w1 ⟨cb, gb, ρ, now0, rfl, hC, hb⟩
    obtain ⟨_, hB1, hsz⟩ := below_new hb
    have hNs := hb.size
    have hN1 : Hid (Crew (w.heap.size + 1) w1 ρ cb gb C now0 [first] [] 1) := by refine hide ?_; simpa using hC
    have HB1 := hide hB1
    clear hb hB1 hC hNs
    go_wp2
    go_loopw [6, 7] (fun b i wr => ∃ (j : Nat) (ρ : Nat → Nat) (now : Rest) (l : List Sh) (E : List En), j ≤ len ∧ i = .int .i64 j ∧ b = .bool true ∧ Crew (w.heap.size + 1) wr ρ cb gb C now l E l.length ∧ Below w.heap.size w wr ∧ w.heap.size + 1 ≤ wr.heap.size) (fun _ i _ => len - (intOf i).toNat)
    case atStart => exact ⟨0, ρ, now0, [first], [], Nat.zero_le _, rfl, rfl, unhide hN1, unhide HB1, by omega⟩
    case round =>
      obtain ⟨j, ρ2, now, l, E, hj, rfl, rfl, hC, hB, hNw⟩ := hrel
      by_cases hlt : j < len
      · obtain ⟨o, ho⟩ : ∃ o, os[j]? = some o := ⟨os[j]'(by have := (unhide HS).1; omega), List.getElem?_eq_getElem _⟩
        obtain ⟨hok, sb, off, rfl, hsb, b0, b1, b2, b3, b4, b5⟩ := ((unhide HS).below hB).2 j o ho
        obtain ⟨ea, ecap, _, _, c7, _, _, _, _⟩ := crew_cells hC.ent2
        have HK : Hid (∀ wr, Below w.heap.size w wr → wr.cell? ⟨sb, off + j * 6, none⟩ = some (.int .i64 o.kind)) := fun wr hb => by
          obtain ⟨_, sb', off', e, _, q0, _⟩ := ((unhide HS).below hb).2 j o ho
          simp at e
          obtain ⟨rfl, rfl⟩ := e
          exact q0
        have HSt := hide (step_any hC hNw o hok)
        unfold St.arr at HSt
        have hsh := hC.short
        have HB := hide hB
        clear ho hC hB hok
        go_wp2_with fail
        refine (unhide HSt).mono ?_
        rintro e w3 ⟨rfl, ρ3, now3, l3, E3, hC3, hB3, hE3⟩
        have hB3w := (unhide HB).trans (hB3.mono (by omega))
        have hN3 : w.heap.size + 1 ≤ w3.heap.size := by have := hB3.size; omega
        have HRt := hide (routed_any hC3 E.length (by omega) (fun x hx => by
          rcases hE3 with rfl | ⟨y, s, rfl, hs, ha⟩
          · rw [List.getElem?_eq_none (Nat.le_refl _)] at hx; cases hx
          · rw [List.getElem?_append_right (Nat.le_refl _)] at hx
            simp at hx
            subst hx
            exact ⟨s, hs, ha⟩))
        have HC3 := hide hC3
        have HB3 := hide hB3w
        clear hC3 hB3 hE3 hB3w
        go_wp2_with fail
        refine (unhide HRt).mono ?_
        rintro e w4 ⟨rfl, hB4⟩
        have HB4 := hide ((unhide HB3).trans (hB4.mono (by omega)))
        have HC4 := hide ((unhide HC3).below hB4)
        have hN4 : w.heap.size + 1 ≤ w4.heap.size := by have := hB4.size; omega
        have d0 := unhide HK w4 (unhide HB4)
        have HPt := hide (parted_any (unhide HC4))
        clear hB4
        go_wp2_with (go_at_call 11; refine (unhide HPt).mono ?_; rintro e w5 ⟨rfl, hB5⟩)
        all_goals
          refine ⟨⟨j + 1, ρ3, now3, l3, E3, by omega, by go_num, rfl, ?_⟩, by simp [intOf]; omega⟩
        · exact ⟨(unhide HC4).below hB5, (unhide HB4).trans (hB5.mono (by omega)), by have := hB5.size; omega⟩
        · exact ⟨(unhide HC4).below hB5, (unhide HB4).trans (hB5.mono (by omega)), by have := hB5.size; omega⟩
        · exact ⟨(unhide HC4).below hB5, (unhide HB4).trans (hB5.mono (by omega)), by have := hB5.size; omega⟩
        · exact ⟨unhide HC4, unhide HB4, hN4⟩
      · have HPt := hide (parted_any hC)
        have HB := hide hB
        clear hC hB
        go_wp2_with (go_at_call 11; refine (unhide HPt).mono ?_; rintro e w5 ⟨rfl, hB5⟩)
        go_ret
        exact ⟨rfl, (unhide HB).trans (hB5.mono (by omega))⟩

end Go.Proofs.Ytpnkmnmchdabkaa
