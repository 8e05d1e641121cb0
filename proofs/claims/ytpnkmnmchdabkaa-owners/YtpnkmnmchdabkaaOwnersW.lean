import Derived.Test.YtpnkmnmchdabkaaStep
import Derived.Test.YtpnkmnmchdabkaaM25
import Derived.Test.YtpnkmnmchdabkaaTaken
import Derived.Test.YtpnkmnmchdabkaaOwned
namespace Go.Proofs.Ytpnkmnmchdabkaa
open Go.RowKit
attribute [local go_sem ↓] Go.wp_at_zero Go.wp_at_succ

set_option maxRecDepth 100000 in
set_option maxHeartbeats 4000000 in
theorem ownersLaw_any (C : Cfg) (sa : Option Addr) (len cap : Nat) (os : List St) (w : World) (hS : IsScript w sa len os) (hlen : len ≤ maxLen) :
    Calls Try.prog 4 #[.agg C.arr, .slice sa len cap] w fun e w' => e = .returned (.bool true) ∧ Below w.heap.size w w' := by
  unfold maxLen at hlen
  cases hv : validB C.a C.l C.b C.n C.s C.t
  · have HB := fun w => hide (hired_bad C w hv)
    unfold Cfg.arr at HB ⊢
    clear hS
    go_enter Try.func4, Try.ntmps4
    go_wp2_with fail
    refine (unhide (HB _)).mono ?_
    rintro e w1 ⟨rfl, hb⟩
    obtain ⟨_, hB1, _⟩ := below_new hb
    have HBB := hide hB1
    clear hb hB1
    go_wp2
    go_ret
    exact ⟨rfl, unhide HBB⟩
  · have HG := fun w => hide (hired_good C w hv)
    have HS := hide hS
    have hval := hv
    rw [validB_iff] at hval
    have hCa : 1 ≤ C.a ∧ C.a ≤ 4 := by omega
    unfold Cfg.arr at HG ⊢
    clear hS hv hval
    go_enter Try.func4, Try.ntmps4
    go_wp2_with fail
    refine (unhide (HG _)).mono ?_
    rintro e w1 ⟨cb, gb, ρ, now0, rfl, hC, hb⟩
    obtain ⟨hcf, hB1, hsz⟩ := below_new hb
    have hNs := hb.size
    have hN1 : Hid (Crew true bd0 (w.heap.size + 1) w1 ρ cb gb C now0 [first] [] 1) := by refine hide ?_; simpa using hC
    have HB1 := hide hB1
    have hcf0 := cell_of hcf 0
    simp at hcf0
    have HW : Hid (∀ wr, Below (w.heap.size + 1) w1 wr → wr.cell? ⟨w.heap.size, 0, none⟩ = some (.int .i64 C.a)) := fun wr h => (h.cell (p := ⟨w.heap.size, 0, none⟩) (Nat.lt_succ_self _)).trans hcf0
    have HBo : Hid (∀ wr, Below (w.heap.size + 1) w1 wr → Below w.heap.size w wr) := fun wr h => hB1.trans (h.mono (Nat.le_succ _))
    have hw1 : w.heap.size + 1 ≤ w1.heap.size := by omega
    clear hb hB1 hC hNs hcf hcf0
    go_wp2
    go_loopw [6, 7] (fun b i wr => ∃ (j : Nat) (B : Bd) (ρ : Nat → Nat) (now : Rest) (l : List Sh) (E : List En), j ≤ len ∧ i = .int .i64 j ∧ b = .bool true ∧ B.n = j ∧ Crew true B (w.heap.size + 1) wr ρ cb gb C now l E l.length ∧ Below (w.heap.size + 1) w1 wr ∧ w.heap.size + 1 ≤ wr.heap.size) (fun _ i _ => len - (intOf i).toNat)
    case atStart => exact ⟨0, bd0, ρ, now0, [first], [], Nat.zero_le _, rfl, rfl, rfl, unhide hN1, Below.refl _ w1, hw1⟩
    case round =>
      obtain ⟨j, B, ρ2, now, l, E, hj, rfl, rfl, hBn, hC, hB, hNw⟩ := hrel
      by_cases hlt : j < len
      · obtain ⟨o, ho⟩ : ∃ o, os[j]? = some o := ⟨os[j]'(by have := (unhide HS).1; omega), List.getElem?_eq_getElem _⟩
        obtain ⟨hok, sb, off, rfl, hsb, b0, b1, b2, b3, b4, b5⟩ := ((unhide HS).below (unhide HBo wr hB)).2 j o ho
        have hcw := unhide HW wr hB
        have HB := hide hB
        have hBu : Hid (B.up.n = j + 1) := by unfold Hid; show B.n + 1 = _; omega
        have hdr : ∀ q, Below wr.heap.size wr (wr.drewN q) := fun q => ⟨rfl, rfl, rfl, Nat.le_refl _, fun _ _ => rfl⟩
        have HPk : Hid (∀ W : World, Calls Try.prog 13 #[.int .i64 o.a, .int .i64 C.a] W fun e w' => e = .returned (.int .i64 (pickN o.a C.a)) ∧ w' = W) := fun W => pick_at o.a C.a W hok.a.1 hok.a.2 (by omega) (by omega)
        have HTk : Hid (∀ q, Calls Try.prog 12 #[.pointer (some ⟨cb, 0, none⟩), .int .i64 (pickN o.a C.a)] (wr.drewN q) fun e w' => e = .returned (.bool true) ∧ ∃ now', Crew true B.up (w.heap.size + 1) w' ρ2 cb gb C now' l E l.length ∧ Below (w.heap.size + 1) (wr.drewN q) w') := fun q => taken_any (hC.below (hdr q)) hNw (by omega) (pickN o.a C.a) (pickN_lt _ _ (by omega))
        have HBq : Hid (∀ q, Below (w.heap.size + 1) w1 (wr.drewN q)) := fun q => below_drewN hB q
        have HKp : Hid (∀ W, Below (w.heap.size + 1) w1 W → W.cell? ⟨sb, off + j * 6 + 1, none⟩ = some (.int .i64 o.a) ∧ W.cell? ⟨w.heap.size, 0, none⟩ = some (.int .i64 C.a)) := fun W hW => by
          refine ⟨?_, unhide HW W hW⟩
          obtain ⟨_, sb', off', e, _, _, q0, _⟩ := ((unhide HS).below (unhide HBo W hW)).2 j o ho
          simp at e
          obtain ⟨rfl, rfl⟩ := e
          exact q0
        clear hdr
        have HOw := hide (owned_any hC)
        have HSt := hide (step_any hC (by omega) hNw o hok)
        unfold St.arr at HSt
        have HC := hide hC
        clear ho hC hB hok
        by_cases k6 : o.kind = 6
        · have q6 : (o.kind == 6) = true := by simp [k6]
          clear k6
          go_wp2
          go_region_held3 (fun w' => w'.cell? ⟨sb, off + j * 6 + 1, none⟩ = some (.int .i64 o.a) ∧ w'.cell? ⟨w.heap.size, 0, none⟩ = some (.int .i64 C.a))
            (first | go_keep | exact unhide HKp _ ((unhide HBq _).trans hB3))
            (first | (go_at_call 13; refine (unhide HPk _).mono ?_; rintro e w2 ⟨rfl, rfl⟩) | (go_at_call 12; refine (unhide HTk _).mono ?_; rintro e w3 ⟨rfl, now3, hC3, hB3⟩))
          have hN3 : w.heap.size + 1 ≤ w3.heap.size := by have h9 : wr.heap.size ≤ w3.heap.size := hB3.size; omega
          have HC3 := hide hC3
          have HB3 := hide ((unhide HBq _).trans hB3)
          clear hC3 hB3
          go_wp2
          exact ⟨⟨j + 1, B.up, ρ2, now3, l, E, by omega, by go_num, rfl, unhide hBu, unhide HC3, unhide HB3, hN3⟩, by simp [intOf]; omega⟩
        · have q6 : (o.kind == 6) = false := by simpa using k6
          clear k6
          by_cases k12 : o.kind = 12
          · have q12 : (o.kind == 12) = true := by simp [k12]
            clear k12
            go_wp2_with fail
            refine (unhide HOw).mono ?_
            rintro e w3 ⟨rfl, hB3⟩
            have hN3 : w.heap.size + 1 ≤ w3.heap.size := by have := hB3.size; omega
            have HC3 := hide ((unhide HC).below hB3).next
            have HB3 := hide ((unhide HB).trans (hB3.mono hNw))
            clear hB3
            go_wp2
            exact ⟨⟨j + 1, B.up, ρ2, now, l, E, by omega, by go_num, rfl, unhide hBu, unhide HC3, unhide HB3, hN3⟩, by simp [intOf]; omega⟩
          · have q12 : (o.kind == 12) = false := by simpa using k12
            clear k12
            go_wp2_with fail
            refine (unhide HSt).mono ?_
            rintro e w3 ⟨rfl, ρ3, now3, l3, E3, hC3, hB3, _⟩
            have hN3 : w.heap.size + 1 ≤ w3.heap.size := by have := hB3.size; omega
            have HC3 := hide hC3
            have HB3 := hide ((unhide HB).trans hB3)
            clear hC3 hB3
            go_wp2
            exact ⟨⟨j + 1, B.up, ρ3, now3, l3, E3, by omega, by go_num, rfl, unhide hBu, unhide HC3, unhide HB3, hN3⟩, by simp [intOf]; omega⟩
      · have HTk := hide (taken_any hC hNw (by omega) 0 (by omega))
        have HB := hide hB
        clear hC hB
        go_wp2_with fail
        refine (unhide HTk).mono ?_
        rintro e w3 ⟨rfl, now3, hC3, hB3⟩
        have HOw := hide (owned_any hC3)
        have HB3 := hide ((unhide HB).trans hB3)
        have hN3 : w.heap.size + 1 ≤ w3.heap.size := by have := hB3.size; omega
        clear hC3 hB3
        go_wp2_with fail
        refine (unhide HOw).mono ?_
        rintro e w4 ⟨rfl, hB4⟩
        have HB4 := hide (unhide HBo _ ((unhide HB3).trans (hB4.mono hN3)))
        clear hB4
        go_wp2
        go_ret
        exact ⟨rfl, unhide HB4⟩

end Go.Proofs.Ytpnkmnmchdabkaa
