import Derived.Test.YtpnkmnmchdabkaaM23
namespace Go.Proofs.Ytpnkmnmchdabkaa
open Go.RowKit
attribute [local go_sem ↓] Go.wp_at_zero Go.wp_at_succ

set_option maxRecDepth 100000 in
set_option maxHeartbeats 2000000 in
theorem puts_yes {B : Bd} {N : Nat} {w : World} {ρ : Nat → Nat} {cb gb : Nat} {C : Cfg} {now : Rest} {l : List Sh} {E : List En} (h : Crew true B N w ρ cb gb C now l E l.length) (hN : N ≤ w.heap.size) (o : St) (ho : o.ok) (hr : makeR o.s o.b o.c = 0)
    (k : Nat) (x : Sh) (hx : Home l (hashL o.s.data.toList) k x) (hc : ¬ 32 ≤ x.cnt) :
    Calls Try.prog 22 #[.pointer (some ⟨cb, 0, none⟩), .agg o.arr] w (StepPost B N w cb gb C E) := by
  have hbox : Below w.heap.size w (w.alloc (.cells o.arr 34)) := (Below.refl _ _).alloc (Nat.le_refl _) _
  have hbs : (w.alloc (.cells o.arr 34)).drew.heap.size = w.heap.size + 1 := by simp
  have h1 := h.below (hbox.drew)
  have hkl := (List.getElem?_eq_some_iff.1 hx.1).1
  have hcntk := h.cnt k x hx.1
  have hlen := h.inv.len
  have hshort := h.short
  have HP : Hid (Calls Try.prog 44 #[.pointer (some ⟨gb, 0, none⟩), .string o.s, .int .i64 o.b, .int .i64 o.c] (w.alloc (.cells o.arr 34)).drew fun e w' => e = .returned (.tuple #[.int .i64 k, .int .i64 x.cnt, .int .i64 0]) ∧ GrpPost (w.alloc (.cells o.arr 34)).drew ρ gb C now (putL l k x ⟨o.s.data.toList, o.b, o.c⟩) w') := by
    refine (gPut_any _ ρ gb C now l o.s o.b o.c h1.grp h1.fits h1.inv ho.s).mono ?_
    rintro e w' (⟨hz, _⟩ | ⟨_, k', x', hx', he, hp⟩)
    · exact absurd hr hz
    · obtain rfl := hx.2.2 k' x' hx'.1 hx'.2.1
      have := hx.1.symm.trans hx'.1
      cases this
      rw [putV, if_neg hc] at he
      exact ⟨he, hp⟩
  have HK := fun w => hide (isKey_any o.s w ho.s)
  obtain ⟨hkey, hv, ht⟩ := makeR_zero hr
  have v1 : -1000000 ≤ o.b := by omega
  have v2 : o.b ≤ 1000000 := by omega
  have t1 : 0 ≤ o.c := by omega
  have t2 : o.c ≤ 1000000 := by omega
  rw [hkey] at HK
  have HKV : Hid (keyB o.s = true ∧ -1000000 ≤ o.b ∧ o.b ≤ 1000000 ∧ 0 ≤ o.c ∧ o.c ≤ 1000000) := ⟨hkey, v1, v2, t1, t2⟩
  obtain ⟨ea0, ecap0, _, c6, _, _, _, hcb, _⟩ := crew_cells h.ent2
  have HC : Hid (∀ w', GrpPost (w.alloc (.cells o.arr 34)).drew ρ gb C now (putL l k x ⟨o.s.data.toList, o.b, o.c⟩) w' → ∃ ρ' ev, Grp w' ρ' gb C now (putL l k x ⟨o.s.data.toList, o.b, o.c⟩) ∧ w'.heap[cb]? = some (.cells (crewArr C gb ev l.length) 31 (0, 0)) ∧ w'.ownsRow 0 59 5 ev E.length (entCells E) ∧ (∀ k, ev.ownBlock = some k → ρ' k = 101) ∧ ρ' cb = 100 ∧ Fits w' ρ' ∧ Low N B.X w' ρ' ∧ Below N w w' ∧ w.heap.size < w'.heap.size) := by
    intro w' hp
    obtain ⟨ρ', ev, q1, q2, q3, q4, q5, q6, q7, q8, q9⟩ := h1.post (by omega) hp
    refine ⟨ρ', ev, q1, q2, q3, q4, q5, q6, q7, ?_, by have := q8.size; omega⟩
    exact (hbox.drew.mono hN).trans (q8.below (by omega) (fun k _ hm => h.low.1 k (by unfold mine at hm; omega)))
  have HW : Hid (∀ w', GrpPost (w.alloc (.cells o.arr 34)).drew ρ gb C now (putL l k x ⟨o.s.data.toList, o.b, o.c⟩) w' → w'.cell? ⟨cb, 6, none⟩ = some (.pointer (some ⟨gb, 0, none⟩)) ∧ w'.cell? ⟨w.heap.size, 4, none⟩ = some (.string o.s) ∧ w'.cell? ⟨w.heap.size, 2, none⟩ = some (.int .i64 o.b) ∧ w'.cell? ⟨w.heap.size, 3, none⟩ = some (.int .i64 o.c)) := fun w' hp => after_put h o hp
  have HX := hide hx
  have HCR := hide h
  have HO := hide ho
  have HN := hide hN
  unfold St.arr at HP HC HW ⊢
  clear h h1 hbox hr hbs hkey hv ht hx ho
  go_enter Try.func22, Try.ntmps22
  go_wp2
  go_region_held3 (fun w' => w'.cell? ⟨cb, 6, none⟩ = some (.pointer (some ⟨gb, 0, none⟩)) ∧ w'.cell? ⟨w.heap.size, 4, none⟩ = some (.string o.s) ∧ w'.cell? ⟨w.heap.size, 2, none⟩ = some (.int .i64 o.b) ∧ w'.cell? ⟨w.heap.size, 3, none⟩ = some (.int .i64 o.c))
    (go_keep)
    ((go_at_call 44; refine (unhide HP).mono ?_; rintro e w2 ⟨rfl, hpost⟩; obtain ⟨k6, k4, k2, k3⟩ := unhide HW w2 hpost))
  obtain ⟨ρ2, ev, q1, q2, q3, q4, q5, q6, q7, q8, q9⟩ := unhide HC w2 hpost
  obtain ⟨ea, ecap, _, _, c7, c8, ff, hcb2, hE⟩ := crew_cells ⟨ev, q2, q3⟩
  obtain ⟨ea', ecap', hev⟩ := ownsRow_len q3
  have hev7 := cell_of q2 7
  rw [c7] at hev7
  have hee : ev = .slice ea E.length ecap := by simpa [crewArr] using hev7.symm
  clear hev7 hev
  subst hee
  have HCo := hide (count_raw hshort c7 hE k)
  rw [hcntk] at HCo
  have Q1 := hide q1
  have Q2 := hide q2
  have Q3 := hide q3
  have Q4 := hide q4
  have Q5 := hide q5
  have Q6 := hide q6
  have Q7 := hide q7
  have Q8 := hide q8
  have hdk : ((x.cnt : Int) != (x.cnt : Int)) = false := by simp
  clear hpost c6 HC HW q1 q2 q3 q4 q5 q6 q7 q8 hE hcntk
  go_wp2_with (first | (go_at_call 45; refine (unhide (HK _)).mono ?_; rintro e w' ⟨rfl, rfl⟩) | (go_at_call 18; refine (unhide HCo).mono ?_; rintro e w' ⟨rfl, rfl⟩))
  obtain ⟨i0, hi0, hz0, hz1, hz2⟩ := info_parts info77
  have f7 := ff 7
  have ncb : Hid (some cb ≠ (Value.slice ea E.length ecap).ownBlock) := fun e => by have := unhide Q4 cb e.symm; have := unhide Q5; omega
  clear ff HCo HK HP
  go_region_law ((refine step_append_lies _ (by rfl) _ _ _ (by rfl) 0 59 i0 _ 5 48 Try.underlying29 hi0 hz0 hz1 hz2 rfl (by omega) (.slice ea E.length ecap) E.length (entCells E) (by rfl) (((unhide Q3).alloc _).drew) ⟨w2.heap.size, 0, none⟩ 1 1 [.int .i64 k, .int .i64 x.cnt, .string o.s, .int .i64 o.b, .int .i64 o.c] (by rfl) (by rfl) (World.news_of_block (cs := #[.int .i64 k, .int .i64 x.cnt, .string o.s, .int .i64 o.b, .int .i64 o.c]) (t := 59) (fr := (0, 0)) (heap_alloc_new w2 _)) (by simp [Value.oneCell']) (by omega) (by unfold maxLen; omega) (by omega) (Nat.zero_le _) (w2.heap.size + 1) (by simp) ?_; intro g cap3 w3 hown hgrow hat hlt; have fz : w3.frozen? ⟨cb, 7, none⟩ = false := (hgrow.frozen_far _ (by simp; omega) (unhide ncb)).trans ((World.frozen?_of_block (w := w2) (Below.heap_alloc _ _ _ hcb2)).trans f7); have cz : w3.cell? ⟨cb, 7, none⟩ = some (.slice ea E.length ecap) := (hgrow.cell_far _ (by simp; omega) (unhide ncb)).trans ((World.cell?_of_block (w := w2) (Below.heap_alloc _ _ _ hcb2)).trans c7)))
  all_goals
    go_wp2
    go_ret
    exact puts_end (unhide HCR) o (unhide HO) (unhide HKV) (unhide HX) hc (unhide Q1) (unhide Q2) (unhide Q4) (unhide Q5) (unhide Q6) (unhide Q7) (unhide Q8) (by have := unhide HN; omega) ((Keeps.refl _ w2).alloc _).drew g cap3 hown hgrow (by simpa using hat)

/-- Put, whatever it is given. -/
theorem puts_any {B : Bd} {N : Nat} {w : World} {ρ : Nat → Nat} {cb gb : Nat} {C : Cfg} {now : Rest} {l : List Sh} {E : List En} (h : Crew true B N w ρ cb gb C now l E l.length) (hN : N ≤ w.heap.size) (o : St) (ho : o.ok) :
    Calls Try.prog 22 #[.pointer (some ⟨cb, 0, none⟩), .agg o.arr] w (StepPost B N w cb gb C E) := by
  by_cases hr : makeR o.s o.b o.c = 0
  · obtain ⟨hb0, hb1⟩ := hashL_bd o.s.data.toList
    obtain ⟨k, x, hx⟩ := h.inv.part _ hb0 hb1
    by_cases hc : 32 ≤ x.cnt
    · exact puts_full h hN o ho hr k x hx hc
    · exact puts_yes h hN o ho hr k x hx hc
  · exact puts_no h hN o ho hr

end Go.Proofs.Ytpnkmnmchdabkaa
