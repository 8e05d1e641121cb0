import Derived.Test.YtpnkmnmchdabkaaM30
namespace Go.Proofs.Ytpnkmnmchdabkaa
open Go.RowKit
attribute [local go_sem ↓] Go.wp_at_zero Go.wp_at_succ

theorem wrapId (x : Int) (h1 : -9223372036854775808 ≤ x) (h2 : x ≤ 9223372036854775807) : IntKind.i64.wrap x = x := by
  rw [IntKind.wrap_i64]; omega

theorem tot_split {l : List Sh} {k : Nat} {s : Sh} (hs : l[k]? = some s) : ((l.set k { s with op := false }).map (·.cnt)).sum = (l.map (·.cnt)).sum := by
  induction l generalizing k with
  | nil => simp at hs
  | cons x r ih =>
    cases k with
    | zero => simp at hs; subst hs; rfl
    | succ k =>
      simp at hs
      simp only [List.set_cons_succ, List.map_cons, List.sum_cons, ih hs]
theorem at_set {l : List Sh} {k j : Nat} {s t : Sh} (hs : l[k]? = some s) (ht : (l.set k { s with op := false })[j]? = some t) : ∃ t', l[j]? = some t' ∧ t.cnt = t'.cnt := by
  rw [List.getElem?_set] at ht
  split at ht
  · rename_i e; subst e
    split at ht
    · cases ht; exact ⟨s, hs, rfl⟩
    · cases ht
  · exact ⟨t, ht, rfl⟩

theorem adv_more (c m : List Sh) : Adv c (c ++ m) := fun k s hs => ⟨s, by rw [List.getElem?_append_left (List.getElem?_eq_some_iff.1 hs).1]; exact hs, rfl, List.prefix_rfl, fun e => ⟨e, rfl⟩⟩
theorem adv_close {l : List Sh} {k : Nat} {s : Sh} (hs : l[k]? = some s) : Adv l (l.set k { s with op := false }) := by
  intro j t ht
  by_cases e : k = j
  · subst e
    rw [hs] at ht
    cases ht
    exact ⟨_, List.getElem?_set_self (List.getElem?_eq_some_iff.1 hs).1, rfl, List.prefix_rfl, fun _ => ⟨rfl, rfl⟩⟩
  · exact ⟨t, by rw [List.getElem?_set_ne e]; exact ht, rfl, List.prefix_rfl, fun e => ⟨e, rfl⟩⟩

/-- A split, a merge: where a hash has come to. -/
theorem moved_split {l : List Sh} (hI : Inv l) {k : Nat} {s : Sh} (hs : l[k]? = some s) (ho : s.op = true) (a : Int) (h1 : s.lo < a) (h2 : a < s.hi) : Moved l (l.set k { s with op := false } ++ [(⟨s.lo, a, true, [(k : Int)], []⟩ : Sh), ⟨a, s.hi, true, [(k : Int)], []⟩]) := by
  intro h q t h0 h9 hq
  obtain ⟨q', s', hq'⟩ := hI.part h h0 h9
  obtain ⟨g1, g2, _⟩ := hq
  refine ⟨q', s', hq', ?_⟩
  rw [acc_iff] at g2
  by_cases hlt : q < l.length
  · rw [List.getElem?_append_left (by simpa using hlt)] at g1
    by_cases e : k = q
    · subst e
      rw [List.getElem?_set_self hlt] at g1
      injection g1 with g1
      subst g1
      simp at g2
    · rw [List.getElem?_set_ne e] at g1
      exact Or.inl (hq'.2.2 q t g1 ((acc_iff _ _).2 g2)).symm
  · rw [List.getElem?_append_right (by simp; omega)] at g1
    have hk : ∀ x : Int, s.lo ≤ x → x < s.hi → h = x → k = q' := fun x a1 a2 e => hq'.2.2 k s hs ((acc_iff _ _).2 ⟨ho, by omega, by omega⟩)
    generalize q - (l.set k { s with op := false }).length = i at g1
    match i, g1 with
    | 0, g1 =>
      simp at g1; subst g1
      simp at g2
      rw [hk h (by omega) (by omega) rfl]
      simp
    | 1, g1 =>
      simp at g1; subst g1
      simp at g2
      rw [hk h (by omega) (by omega) rfl]
      simp
    | i + 2, g1 => simp at g1
theorem moved_merge {l : List Sh} (hI : Inv l) {k j : Nat} {s u : Sh} (hs : l[k]? = some s) (hu : l[j]? = some u) (ho : s.op = true) (hp : u.op = true) (he : u.lo = s.hi) : Moved l ((l.set k { s with op := false }).set j { u with op := false } ++ [(⟨s.lo, u.hi, true, [(k : Int), (j : Int)], []⟩ : Sh)]) := by
  intro h q t h0 h9 hq
  obtain ⟨q', s', hq'⟩ := hI.part h h0 h9
  obtain ⟨g1, g2, _⟩ := hq
  refine ⟨q', s', hq', ?_⟩
  rw [acc_iff] at g2
  by_cases hlt : q < l.length
  · rw [List.getElem?_append_left (by simpa using hlt)] at g1
    by_cases e : j = q
    · subst e
      rw [List.getElem?_set_self (by simpa using hlt)] at g1
      injection g1 with g1
      subst g1
      simp at g2
    · rw [List.getElem?_set_ne e] at g1
      by_cases e : k = q
      · subst e
        rw [List.getElem?_set_self hlt] at g1
        injection g1 with g1
        subst g1
        simp at g2
      · rw [List.getElem?_set_ne e] at g1
        exact Or.inl (hq'.2.2 q t g1 ((acc_iff _ _).2 g2)).symm
  · rw [List.getElem?_append_right (by simp; omega)] at g1
    generalize q - ((l.set k { s with op := false }).set j { u with op := false }).length = i at g1
    match i, g1 with
    | 0, g1 =>
      simp at g1; subst g1
      simp at g2
      by_cases hh : h < s.hi
      · have : k = q' := hq'.2.2 k s hs ((acc_iff _ _).2 ⟨ho, by omega, by omega⟩)
        subst this
        simp
      · have : j = q' := hq'.2.2 j u hu ((acc_iff _ _).2 ⟨hp, by omega, by omega⟩)
        subst this
        simp
    | i + 1, g1 => simp at g1

/-- Shards that are new have no records: the law's own numbers stand. -/
theorem crew_more {B : Bd} {N : Nat} {w : World} {ρ : Nat → Nat} {cb gb : Nat} {C : Cfg} {now : Rest} {l l' : List Sh} {E : List En} {n : Nat} (h : Crew true B N w ρ cb gb C now l E n) (c m : List Sh) (hl' : l' = c ++ m) (hc : c.length = l.length)
    (hat : ∀ (j : Nat) (t : Sh), c[j]? = some t → ∃ t', l[j]? = some t' ∧ t.cnt = t'.cnt) (hm : ∀ (j : Nat) (t : Sh), m[j]? = some t → t.cnt = 0) (hsum : (c.map (·.cnt)).sum = (l.map (·.cnt)).sum) (hms : (m.map (·.cnt)).sum = 0) (hadv : Adv l c) (hmv : Moved l l') (hI : Inv l')
    {w' : World} {ρ' : Nat → Nat} {n' : Nat} (ent : ∃ ev, w'.heap[cb]? = some (.cells (crewArr C gb ev n') 31 (0, 0)) ∧ w'.ownsRow 0 59 5 ev E.length (entCells E) ∧ ∀ k, ev.ownBlock = some k → ρ' k = 101) (tag : ρ' cb = 100) (grp : Grp w' ρ' gb C now l') (fits : Fits w' ρ') (low : Low N B.X w' ρ') : Crew true B.up N w' ρ' cb gb C now l' E n' := by
  subst hl'
  refine ⟨ent, tag, grp, hI, fits, low, ?_, ?_, ?_, h.val, (h.wok.log h.inv hI (hadv.trans (adv_more c m))).next⟩
  · intro j t ht
    by_cases hlt : j < c.length
    · rw [List.getElem?_append_left hlt] at ht
      obtain ⟨t', h1, h2⟩ := hat j t ht
      rw [h2]; exact h.cnt j t' h1
    · rw [List.getElem?_append_right (by omega)] at ht
      rw [hm _ t ht]
      unfold held
      rw [List.length_eq_zero_iff, List.filter_eq_nil_iff]
      intro e he
      have := (h.rng.lt e he).1
      simp; omega
  · rw [h.tot, List.map_append, List.sum_append, hsum, hms]; rfl
  · exact h.rng.more c m hc hat hm hadv (adv_more c m) hmv

/-- What is known behind the call of Shards in a step. -/
theorem step_front {B : Bd} {N : Nat} {w w2 : World} {ρ : Nat → Nat} {cb gb : Nat} {C : Cfg} {now : Rest} {l : List Sh} {E : List En} {n : Nat} (h : Crew true B N w ρ cb gb C now l E n) (o : St) (hb : Below (w.alloc (.cells o.arr 34)).heap.size (w.alloc (.cells o.arr 34)) w2) :
    Crew true B N w2 ρ cb gb C now l E n ∧ Below w.heap.size w w2 ∧ w.heap.size < w2.heap.size ∧ w2.cell? ⟨w.heap.size, 1, none⟩ = some (.int .i64 o.a) ∧ w2.cell? ⟨w.heap.size, 2, none⟩ = some (.int .i64 o.b) := by
  obtain ⟨h1, h2, h3⟩ := below_new hb
  exact ⟨h.below h2, h2, h3, cell_of h1 1, cell_of h1 2⟩

/-- A call of the group's behind some draws: the law's memory, and the list of shards, stand. -/
theorem step_back {B : Bd} {N : Nat} {w w2 w3 : World} {ρ : Nat → Nat} {cb gb : Nat} {C : Cfg} {now now' : Rest} {l l' : List Sh} {E : List En} {n q : Nat} (h : Crew true B N w2 ρ cb gb C now l E n) (hN : N ≤ w2.heap.size) (hp : GrpPost (w2.drewN q) ρ gb C now' l' w3) {lb : Nat} (hlb : lb < w2.heap.size) (hun : ρ lb = 0) (hB : Below N w w2) :
    ∃ ρ' ev, Grp w3 ρ' gb C now' l' ∧ w3.heap[cb]? = some (.cells (crewArr C gb ev n) 31 (0, 0)) ∧ w3.ownsRow 0 59 5 ev E.length (entCells E) ∧ (∀ k, ev.ownBlock = some k → ρ' k = 101) ∧ ρ' cb = 100 ∧ Fits w3 ρ' ∧ Low N B.X w3 ρ' ∧ Below N w w3 ∧ N ≤ w3.heap.size ∧
      w3.cell? ⟨cb, 8, none⟩ = some (.int .i64 n) ∧ w3.frozen? ⟨cb, 8, none⟩ = false ∧ w3.heap[lb]? = w2.heap[lb]? := by
  have h2 : Crew true B N (w2.drewN q) ρ cb gb C now l E n := h.below (below_drewN (Below.refl _ _) q)
  obtain ⟨ρ', ev, q1, q2, q3, q4, q5, q6, q7, q8, q9⟩ := h2.post hN hp
  refine ⟨ρ', ev, q1, q2, q3, q4, q5, q6, q7, ?_, ?_, cell_of q2 8, frozen_of q2 8, ?_⟩
  · exact (below_drewN hB q).trans (q8.below hN (fun k _ hm => h.low.1 k (by unfold mine at hm; omega)))
  · have := q8.size; exact Nat.le_trans hN this
  · exact q8.block lb hlb (fun hm => by unfold mine at hm; omega)

set_option maxRecDepth 100000 in
set_option maxHeartbeats 1000000 in
theorem splits_closed {B : Bd} {N : Nat} {w : World} {ρ : Nat → Nat} {cb gb : Nat} {C : Cfg} {now : Rest} {l : List Sh} {E : List En} (h : Crew true B N w ρ cb gb C now l E l.length) (hN : N ≤ w.heap.size) (o : St) (ho : o.ok)
    (k p : Nat) (s : Sh) (hk : pickN o.a l.length = k) (hs : l[k]? = some s) (hp : pickN o.b (s.hi - s.lo + 1) = p) (hop : s.op = false) :
    Calls Try.prog 23 #[.pointer (some ⟨cb, 0, none⟩), .agg o.arr] w (StepPost B N w cb gb C E) := by
  have hkl := (List.getElem?_eq_some_iff.1 hs).1
  have hrg := h.inv.rng k s hs
  obtain ⟨g0, g1, g2⟩ := hrg
  have hlen := h.inv.len
  have hpos := h.inv.pos
  have hpl := pickN_lt o.b (s.hi - s.lo + 1) (by omega)
  rw [hp] at hpl
  have hA := aSplit_at hs (s.lo + p)
  rw [if_pos hop] at hA
  have hbox : Below w.heap.size w (w.alloc (.cells o.arr 34)) := (Below.refl _ _).alloc (Nat.le_refl _) _
  have h1 := h.below hbox
  have HSh := hide (shards_at h1.grp h1.inv)
  have HPK : Hid (∀ W : World, Calls Try.prog 13 #[.int .i64 o.a, .int .i64 l.length] W fun e w' => e = .returned (.int .i64 k) ∧ w' = W) := fun W => by
    have := pick_at o.a l.length W ho.a.1 ho.a.2 (by omega) (by omega)
    rw [hk] at this; exact this
  have HPP : Hid (∀ W : World, Calls Try.prog 13 #[.int .i64 o.b, .int .i64 (s.hi - s.lo + 1)] W fun e w' => e = .returned (.int .i64 p) ∧ w' = W) := fun W => by
    have := pick_at o.b (s.hi - s.lo + 1) W ho.b.1 ho.b.2 (by omega) (by omega)
    rw [hp] at this; exact this
  have HFr : Hid (∀ w2, Below (w.alloc (.cells o.arr 34)).heap.size (w.alloc (.cells o.arr 34)) w2 → Crew true B N w2 ρ cb gb C now l E l.length ∧ Below w.heap.size w w2 ∧ w.heap.size < w2.heap.size ∧ w2.cell? ⟨w.heap.size, 1, none⟩ = some (.int .i64 o.a) ∧ w2.cell? ⟨w.heap.size, 2, none⟩ = some (.int .i64 o.b)) := fun w2 hb => step_front h o hb
  have wr1 := wrapId (s.hi - s.lo) (by omega) (by omega)
  have wr2 := wrapId (s.hi - s.lo + 1) (by omega) (by omega)
  have wr3 := wrapId (s.lo + p) (by omega) (by omega)
  have HOP := hide hop
  have HCR := hide h
  have HS := hide hs
  have c6 := (crew_cells h.ent2).choose_spec.choose_spec.2.1
  have hcb := (crew_cells h.ent2).choose_spec.choose_spec.2.2.2.2.2.1
  have hll : ((l.length : Int) != (l.length : Int)) = false := by simp
  unfold St.arr at HSh HFr ⊢
  clear h h1 hbox hs hp ho hk
  go_enter Try.func23, Try.ntmps23
  go_wp2_with fail
  refine (unhide HSh).mono ?_
  rintro e w2 ⟨lb, lcap, rfl, hT, hlb, hlb2, hb⟩
  obtain ⟨R2, hB2, hsz, a1, a2⟩ := unhide HFr w2 hb
  obtain ⟨ea, ecap, _, d6, _, d8, _, hcb2, _⟩ := crew_cells R2.ent2
  have hlbw : w.heap.size ≤ lb := by simp at hlb; omega
  have HT := hide hT
  have HR2 := hide R2
  have HB2 := hide hB2
  clear hb R2 hB2 hT HFr hlb
  go_wp2
  go_quiet ((go_at_call 13; exact Calls.quiet_of_same (unhide HPK _)))
  have R3 := hide ((unhide HR2).below (below_drewN (Below.refl _ w2) nq))
  have hT3 : Hid (Told (w2.drewN nq) lb l) := unhide HT
  have hB3 := hide (below_drewN (unhide HB2) nq)
  have hz3 : (w2.drewN nq).heap.size = w2.heap.size := rfl
  have a3 : (w2.drewN nq).cell? ⟨w.heap.size, 2, none⟩ = some (.int .i64 o.b) := a2
  clear a1 a2 d6 d8 HT HR2 HB2
  generalize w2.drewN nq = W at *
  obtain ⟨ea, ecap, _, d6, _, d8, _, hcb2, _⟩ := crew_cells (unhide R3).ent2
  obtain ⟨t0, t1, t2, _⟩ := unhide hT3 k s (unhide HS)
  rw [hop] at t2
  have HG : Hid (∀ q, Calls Try.prog 46 #[.pointer (some ⟨gb, 0, none⟩), .int .i64 k, .int .i64 (s.lo + p)] (W.drewN q) fun e w' => e = .returned (.tuple #[.int .i64 (aSplit l k (s.lo + p)).2.1, .int .i64 (aSplit l k (s.lo + p)).2.2]) ∧ GrpPost (W.drewN q) ρ gb C now (aSplit l k (s.lo + p)).1 w') := fun q => by
    have R4 := (unhide R3).below (below_drewN (Below.refl _ W) q)
    exact gSplit_any (W.drewN q) ρ gb C now l k (s.lo + p) R4.grp R4.fits R4.inv
  rw [hA] at HG
  have HBk : Hid (∀ q w3 l', GrpPost (W.drewN q) ρ gb C now l' w3 → ∃ ρ' ev, Grp w3 ρ' gb C now l' ∧ w3.heap[cb]? = some (.cells (crewArr C gb ev l.length) 31 (0, 0)) ∧ w3.ownsRow 0 59 5 ev E.length (entCells E) ∧ (∀ k, ev.ownBlock = some k → ρ' k = 101) ∧ ρ' cb = 100 ∧ Fits w3 ρ' ∧ Low N B.X w3 ρ' ∧ Below N w w3 ∧ N ≤ w3.heap.size ∧
      w3.cell? ⟨cb, 8, none⟩ = some (.int .i64 l.length) ∧ w3.frozen? ⟨cb, 8, none⟩ = false ∧ w3.heap[lb]? = W.heap[lb]?) := fun q w3 l' hp =>
    step_back (unhide R3) (by omega) hp (by omega) ((unhide HCR).fits lb hlbw) ((unhide hB3).mono hN)
  have HT := hT3
  clear R3 hB3 hT3 hA hop
  go_wp2
  go_quiet ((go_at_call 13; exact Calls.quiet_of_same (unhide HPP _)))
  go_wp2_with (go_at_call 46; refine (unhide HG _).mono ?_; rintro e w3 ⟨rfl, hpost⟩; obtain ⟨ρ3, ev, q1, q2, q3, q4, q5, q6, q7, q8, q9, q10, q11, q12⟩ := unhide HBk _ _ _ hpost; obtain ⟨u0, u1, u2⟩ := (unhide HT).near q12 k s (unhide HS); rw [unhide HOP] at u2; have Q1 := hide q1; have Q2 := hide q2; have Q3 := hide q3; have Q4 := hide q4; have Q5 := hide q5; have Q6 := hide q6; have Q7 := hide q7; have Q8 := hide q8; have Q9 := hide q9; clear q1 q2 q3 q4 q5 q6 q7 q8 q9 q12 hpost)
  go_ret
  exact ⟨rfl, ρ3, now, l, E, ⟨⟨ev, unhide Q2, unhide Q3, unhide Q4⟩, unhide Q5, unhide Q1, (unhide HCR).inv, unhide Q6, unhide Q7, (unhide HCR).cnt, (unhide HCR).tot, (unhide HCR).rng, (unhide HCR).val, (unhide HCR).wok.next⟩, unhide Q8, Or.inl rfl⟩

set_option maxRecDepth 100000 in
set_option maxHeartbeats 1000000 in
theorem splits_low {B : Bd} {N : Nat} {w : World} {ρ : Nat → Nat} {cb gb : Nat} {C : Cfg} {now : Rest} {l : List Sh} {E : List En} (h : Crew true B N w ρ cb gb C now l E l.length) (hN : N ≤ w.heap.size) (o : St) (ho : o.ok)
    (k p : Nat) (s : Sh) (hk : pickN o.a l.length = k) (hs : l[k]? = some s) (hp : pickN o.b (s.hi - s.lo + 1) = p) (hop : s.op = true) (hp0 : p = 0) :
    Calls Try.prog 23 #[.pointer (some ⟨cb, 0, none⟩), .agg o.arr] w (StepPost B N w cb gb C E) := by
  have hkl := (List.getElem?_eq_some_iff.1 hs).1
  have hrg := h.inv.rng k s hs
  obtain ⟨g0, g1, g2⟩ := hrg
  have hlen := h.inv.len
  have hpos := h.inv.pos
  have hpl := pickN_lt o.b (s.hi - s.lo + 1) (by omega)
  rw [hp] at hpl
  have hA := aSplit_at hs (s.lo + p)
  have d1 : (s.lo + (p : Int) == s.lo) = true := by rw [beq_iff_eq]; omega
  rw [if_neg (by rw [hop]; simp), if_pos (Or.inl (by omega))] at hA
  have hbox : Below w.heap.size w (w.alloc (.cells o.arr 34)) := (Below.refl _ _).alloc (Nat.le_refl _) _
  have h1 := h.below hbox
  have HSh := hide (shards_at h1.grp h1.inv)
  have HPK : Hid (∀ W : World, Calls Try.prog 13 #[.int .i64 o.a, .int .i64 l.length] W fun e w' => e = .returned (.int .i64 k) ∧ w' = W) := fun W => by
    have := pick_at o.a l.length W ho.a.1 ho.a.2 (by omega) (by omega)
    rw [hk] at this; exact this
  have HPP : Hid (∀ W : World, Calls Try.prog 13 #[.int .i64 o.b, .int .i64 (s.hi - s.lo + 1)] W fun e w' => e = .returned (.int .i64 p) ∧ w' = W) := fun W => by
    have := pick_at o.b (s.hi - s.lo + 1) W ho.b.1 ho.b.2 (by omega) (by omega)
    rw [hp] at this; exact this
  have HFr : Hid (∀ w2, Below (w.alloc (.cells o.arr 34)).heap.size (w.alloc (.cells o.arr 34)) w2 → Crew true B N w2 ρ cb gb C now l E l.length ∧ Below w.heap.size w w2 ∧ w.heap.size < w2.heap.size ∧ w2.cell? ⟨w.heap.size, 1, none⟩ = some (.int .i64 o.a) ∧ w2.cell? ⟨w.heap.size, 2, none⟩ = some (.int .i64 o.b)) := fun w2 hb => step_front h o hb
  have wr1 := wrapId (s.hi - s.lo) (by omega) (by omega)
  have wr2 := wrapId (s.hi - s.lo + 1) (by omega) (by omega)
  have wr3 := wrapId (s.lo + p) (by omega) (by omega)
  have HOP := hide hop
  have HCR := hide h
  have HS := hide hs
  have c6 := (crew_cells h.ent2).choose_spec.choose_spec.2.1
  have hcb := (crew_cells h.ent2).choose_spec.choose_spec.2.2.2.2.2.1
  have hll : ((l.length : Int) != (l.length : Int)) = false := by simp
  unfold St.arr at HSh HFr ⊢
  clear h h1 hbox hs hp ho hk
  go_enter Try.func23, Try.ntmps23
  go_wp2_with fail
  refine (unhide HSh).mono ?_
  rintro e w2 ⟨lb, lcap, rfl, hT, hlb, hlb2, hb⟩
  obtain ⟨R2, hB2, hsz, a1, a2⟩ := unhide HFr w2 hb
  obtain ⟨ea, ecap, _, d6, _, d8, _, hcb2, _⟩ := crew_cells R2.ent2
  have hlbw : w.heap.size ≤ lb := by simp at hlb; omega
  have HT := hide hT
  have HR2 := hide R2
  have HB2 := hide hB2
  clear hb R2 hB2 hT HFr hlb
  go_wp2
  go_quiet ((go_at_call 13; exact Calls.quiet_of_same (unhide HPK _)))
  have R3 := hide ((unhide HR2).below (below_drewN (Below.refl _ w2) nq))
  have hT3 : Hid (Told (w2.drewN nq) lb l) := unhide HT
  have hB3 := hide (below_drewN (unhide HB2) nq)
  have hz3 : (w2.drewN nq).heap.size = w2.heap.size := rfl
  have a3 : (w2.drewN nq).cell? ⟨w.heap.size, 2, none⟩ = some (.int .i64 o.b) := a2
  clear a1 a2 d6 d8 HT HR2 HB2
  generalize w2.drewN nq = W at *
  obtain ⟨ea, ecap, _, d6, _, d8, _, hcb2, _⟩ := crew_cells (unhide R3).ent2
  obtain ⟨t0, t1, t2, _⟩ := unhide hT3 k s (unhide HS)
  rw [hop] at t2
  have HG : Hid (∀ q, Calls Try.prog 46 #[.pointer (some ⟨gb, 0, none⟩), .int .i64 k, .int .i64 (s.lo + p)] (W.drewN q) fun e w' => e = .returned (.tuple #[.int .i64 (aSplit l k (s.lo + p)).2.1, .int .i64 (aSplit l k (s.lo + p)).2.2]) ∧ GrpPost (W.drewN q) ρ gb C now (aSplit l k (s.lo + p)).1 w') := fun q => by
    have R4 := (unhide R3).below (below_drewN (Below.refl _ W) q)
    exact gSplit_any (W.drewN q) ρ gb C now l k (s.lo + p) R4.grp R4.fits R4.inv
  rw [hA] at HG
  have HBk : Hid (∀ q w3 l', GrpPost (W.drewN q) ρ gb C now l' w3 → ∃ ρ' ev, Grp w3 ρ' gb C now l' ∧ w3.heap[cb]? = some (.cells (crewArr C gb ev l.length) 31 (0, 0)) ∧ w3.ownsRow 0 59 5 ev E.length (entCells E) ∧ (∀ k, ev.ownBlock = some k → ρ' k = 101) ∧ ρ' cb = 100 ∧ Fits w3 ρ' ∧ Low N B.X w3 ρ' ∧ Below N w w3 ∧ N ≤ w3.heap.size ∧
      w3.cell? ⟨cb, 8, none⟩ = some (.int .i64 l.length) ∧ w3.frozen? ⟨cb, 8, none⟩ = false ∧ w3.heap[lb]? = W.heap[lb]?) := fun q w3 l' hp =>
    step_back (unhide R3) (by omega) hp (by omega) ((unhide HCR).fits lb hlbw) ((unhide hB3).mono hN)
  have HT := hT3
  clear R3 hB3 hT3 hA hop hp0
  go_wp2
  go_quiet ((go_at_call 13; exact Calls.quiet_of_same (unhide HPP _)))
  go_wp2_with (go_at_call 46; refine (unhide HG _).mono ?_; rintro e w3 ⟨rfl, hpost⟩; obtain ⟨ρ3, ev, q1, q2, q3, q4, q5, q6, q7, q8, q9, q10, q11, q12⟩ := unhide HBk _ _ _ hpost; obtain ⟨u0, u1, u2⟩ := (unhide HT).near q12 k s (unhide HS); rw [unhide HOP] at u2; have Q1 := hide q1; have Q2 := hide q2; have Q3 := hide q3; have Q4 := hide q4; have Q5 := hide q5; have Q6 := hide q6; have Q7 := hide q7; have Q8 := hide q8; have Q9 := hide q9; clear q1 q2 q3 q4 q5 q6 q7 q8 q9 q12 hpost)
  go_ret
  exact ⟨rfl, ρ3, now, l, E, ⟨⟨ev, unhide Q2, unhide Q3, unhide Q4⟩, unhide Q5, unhide Q1, (unhide HCR).inv, unhide Q6, unhide Q7, (unhide HCR).cnt, (unhide HCR).tot, (unhide HCR).rng, (unhide HCR).val, (unhide HCR).wok.next⟩, unhide Q8, Or.inl rfl⟩

set_option maxRecDepth 100000 in
set_option maxHeartbeats 1000000 in
theorem splits_high {B : Bd} {N : Nat} {w : World} {ρ : Nat → Nat} {cb gb : Nat} {C : Cfg} {now : Rest} {l : List Sh} {E : List En} (h : Crew true B N w ρ cb gb C now l E l.length) (hN : N ≤ w.heap.size) (o : St) (ho : o.ok)
    (k p : Nat) (s : Sh) (hk : pickN o.a l.length = k) (hs : l[k]? = some s) (hp : pickN o.b (s.hi - s.lo + 1) = p) (hop : s.op = true) (hph : s.lo + p = s.hi) :
    Calls Try.prog 23 #[.pointer (some ⟨cb, 0, none⟩), .agg o.arr] w (StepPost B N w cb gb C E) := by
  have hkl := (List.getElem?_eq_some_iff.1 hs).1
  have hrg := h.inv.rng k s hs
  obtain ⟨g0, g1, g2⟩ := hrg
  have hlen := h.inv.len
  have hpos := h.inv.pos
  have hpl := pickN_lt o.b (s.hi - s.lo + 1) (by omega)
  rw [hp] at hpl
  have hA := aSplit_at hs (s.lo + p)
  have d1 : (s.lo + (p : Int) == s.lo) = false := by rw [beq_eq_false_iff_ne]; omega
  have d2 : (s.lo + (p : Int) == s.hi) = true := by rw [beq_iff_eq]; omega
  rw [if_neg (by rw [hop]; simp), if_pos (Or.inr (by omega))] at hA
  have hbox : Below w.heap.size w (w.alloc (.cells o.arr 34)) := (Below.refl _ _).alloc (Nat.le_refl _) _
  have h1 := h.below hbox
  have HSh := hide (shards_at h1.grp h1.inv)
  have HPK : Hid (∀ W : World, Calls Try.prog 13 #[.int .i64 o.a, .int .i64 l.length] W fun e w' => e = .returned (.int .i64 k) ∧ w' = W) := fun W => by
    have := pick_at o.a l.length W ho.a.1 ho.a.2 (by omega) (by omega)
    rw [hk] at this; exact this
  have HPP : Hid (∀ W : World, Calls Try.prog 13 #[.int .i64 o.b, .int .i64 (s.hi - s.lo + 1)] W fun e w' => e = .returned (.int .i64 p) ∧ w' = W) := fun W => by
    have := pick_at o.b (s.hi - s.lo + 1) W ho.b.1 ho.b.2 (by omega) (by omega)
    rw [hp] at this; exact this
  have HFr : Hid (∀ w2, Below (w.alloc (.cells o.arr 34)).heap.size (w.alloc (.cells o.arr 34)) w2 → Crew true B N w2 ρ cb gb C now l E l.length ∧ Below w.heap.size w w2 ∧ w.heap.size < w2.heap.size ∧ w2.cell? ⟨w.heap.size, 1, none⟩ = some (.int .i64 o.a) ∧ w2.cell? ⟨w.heap.size, 2, none⟩ = some (.int .i64 o.b)) := fun w2 hb => step_front h o hb
  have wr1 := wrapId (s.hi - s.lo) (by omega) (by omega)
  have wr2 := wrapId (s.hi - s.lo + 1) (by omega) (by omega)
  have wr3 := wrapId (s.lo + p) (by omega) (by omega)
  have HOP := hide hop
  have HCR := hide h
  have HS := hide hs
  have c6 := (crew_cells h.ent2).choose_spec.choose_spec.2.1
  have hcb := (crew_cells h.ent2).choose_spec.choose_spec.2.2.2.2.2.1
  have hll : ((l.length : Int) != (l.length : Int)) = false := by simp
  unfold St.arr at HSh HFr ⊢
  clear h h1 hbox hs hp ho hk hph
  go_enter Try.func23, Try.ntmps23
  go_wp2_with fail
  refine (unhide HSh).mono ?_
  rintro e w2 ⟨lb, lcap, rfl, hT, hlb, hlb2, hb⟩
  obtain ⟨R2, hB2, hsz, a1, a2⟩ := unhide HFr w2 hb
  obtain ⟨ea, ecap, _, d6, _, d8, _, hcb2, _⟩ := crew_cells R2.ent2
  have hlbw : w.heap.size ≤ lb := by simp at hlb; omega
  have HT := hide hT
  have HR2 := hide R2
  have HB2 := hide hB2
  clear hb R2 hB2 hT HFr hlb
  go_wp2
  go_quiet ((go_at_call 13; exact Calls.quiet_of_same (unhide HPK _)))
  have R3 := hide ((unhide HR2).below (below_drewN (Below.refl _ w2) nq))
  have hT3 : Hid (Told (w2.drewN nq) lb l) := unhide HT
  have hB3 := hide (below_drewN (unhide HB2) nq)
  have hz3 : (w2.drewN nq).heap.size = w2.heap.size := rfl
  have a3 : (w2.drewN nq).cell? ⟨w.heap.size, 2, none⟩ = some (.int .i64 o.b) := a2
  clear a1 a2 d6 d8 HT HR2 HB2
  generalize w2.drewN nq = W at *
  obtain ⟨ea, ecap, _, d6, _, d8, _, hcb2, _⟩ := crew_cells (unhide R3).ent2
  obtain ⟨t0, t1, t2, _⟩ := unhide hT3 k s (unhide HS)
  rw [hop] at t2
  have HG : Hid (∀ q, Calls Try.prog 46 #[.pointer (some ⟨gb, 0, none⟩), .int .i64 k, .int .i64 (s.lo + p)] (W.drewN q) fun e w' => e = .returned (.tuple #[.int .i64 (aSplit l k (s.lo + p)).2.1, .int .i64 (aSplit l k (s.lo + p)).2.2]) ∧ GrpPost (W.drewN q) ρ gb C now (aSplit l k (s.lo + p)).1 w') := fun q => by
    have R4 := (unhide R3).below (below_drewN (Below.refl _ W) q)
    exact gSplit_any (W.drewN q) ρ gb C now l k (s.lo + p) R4.grp R4.fits R4.inv
  rw [hA] at HG
  have HBk : Hid (∀ q w3 l', GrpPost (W.drewN q) ρ gb C now l' w3 → ∃ ρ' ev, Grp w3 ρ' gb C now l' ∧ w3.heap[cb]? = some (.cells (crewArr C gb ev l.length) 31 (0, 0)) ∧ w3.ownsRow 0 59 5 ev E.length (entCells E) ∧ (∀ k, ev.ownBlock = some k → ρ' k = 101) ∧ ρ' cb = 100 ∧ Fits w3 ρ' ∧ Low N B.X w3 ρ' ∧ Below N w w3 ∧ N ≤ w3.heap.size ∧
      w3.cell? ⟨cb, 8, none⟩ = some (.int .i64 l.length) ∧ w3.frozen? ⟨cb, 8, none⟩ = false ∧ w3.heap[lb]? = W.heap[lb]?) := fun q w3 l' hp =>
    step_back (unhide R3) (by omega) hp (by omega) ((unhide HCR).fits lb hlbw) ((unhide hB3).mono hN)
  have HT := hT3
  clear R3 hB3 hT3 hA hop
  go_wp2
  go_quiet ((go_at_call 13; exact Calls.quiet_of_same (unhide HPP _)))
  go_wp2_with (go_at_call 46; refine (unhide HG _).mono ?_; rintro e w3 ⟨rfl, hpost⟩; obtain ⟨ρ3, ev, q1, q2, q3, q4, q5, q6, q7, q8, q9, q10, q11, q12⟩ := unhide HBk _ _ _ hpost; obtain ⟨u0, u1, u2⟩ := (unhide HT).near q12 k s (unhide HS); rw [unhide HOP] at u2; have Q1 := hide q1; have Q2 := hide q2; have Q3 := hide q3; have Q4 := hide q4; have Q5 := hide q5; have Q6 := hide q6; have Q7 := hide q7; have Q8 := hide q8; have Q9 := hide q9; clear q1 q2 q3 q4 q5 q6 q7 q8 q9 q12 hpost)
  go_ret
  exact ⟨rfl, ρ3, now, l, E, ⟨⟨ev, unhide Q2, unhide Q3, unhide Q4⟩, unhide Q5, unhide Q1, (unhide HCR).inv, unhide Q6, unhide Q7, (unhide HCR).cnt, (unhide HCR).tot, (unhide HCR).rng, (unhide HCR).val, (unhide HCR).wok.next⟩, unhide Q8, Or.inl rfl⟩

set_option maxRecDepth 100000 in
set_option maxHeartbeats 1000000 in
theorem splits_full {B : Bd} {N : Nat} {w : World} {ρ : Nat → Nat} {cb gb : Nat} {C : Cfg} {now : Rest} {l : List Sh} {E : List En} (h : Crew true B N w ρ cb gb C now l E l.length) (hN : N ≤ w.heap.size) (o : St) (ho : o.ok)
    (k p : Nat) (s : Sh) (hk : pickN o.a l.length = k) (hs : l[k]? = some s) (hp : pickN o.b (s.hi - s.lo + 1) = p) (hop : s.op = true) (hp0 : p ≠ 0) (hph : s.lo + p < s.hi) (hl : 14 < l.length) :
    Calls Try.prog 23 #[.pointer (some ⟨cb, 0, none⟩), .agg o.arr] w (StepPost B N w cb gb C E) := by
  have hkl := (List.getElem?_eq_some_iff.1 hs).1
  have hrg := h.inv.rng k s hs
  obtain ⟨g0, g1, g2⟩ := hrg
  have hlen := h.inv.len
  have hpos := h.inv.pos
  have hpl := pickN_lt o.b (s.hi - s.lo + 1) (by omega)
  rw [hp] at hpl
  have hA := aSplit_at hs (s.lo + p)
  have d1 : (s.lo + (p : Int) == s.lo) = false := by rw [beq_eq_false_iff_ne]; omega
  have d2 : (s.lo + (p : Int) == s.hi) = false := by rw [beq_eq_false_iff_ne]; omega
  have d3 : 16 < (l.length : Int) + 2 := by omega
  rw [if_neg (by rw [hop]; simp), if_neg (by omega), if_pos hl] at hA
  have hbox : Below w.heap.size w (w.alloc (.cells o.arr 34)) := (Below.refl _ _).alloc (Nat.le_refl _) _
  have h1 := h.below hbox
  have HSh := hide (shards_at h1.grp h1.inv)
  have HPK : Hid (∀ W : World, Calls Try.prog 13 #[.int .i64 o.a, .int .i64 l.length] W fun e w' => e = .returned (.int .i64 k) ∧ w' = W) := fun W => by
    have := pick_at o.a l.length W ho.a.1 ho.a.2 (by omega) (by omega)
    rw [hk] at this; exact this
  have HPP : Hid (∀ W : World, Calls Try.prog 13 #[.int .i64 o.b, .int .i64 (s.hi - s.lo + 1)] W fun e w' => e = .returned (.int .i64 p) ∧ w' = W) := fun W => by
    have := pick_at o.b (s.hi - s.lo + 1) W ho.b.1 ho.b.2 (by omega) (by omega)
    rw [hp] at this; exact this
  have HFr : Hid (∀ w2, Below (w.alloc (.cells o.arr 34)).heap.size (w.alloc (.cells o.arr 34)) w2 → Crew true B N w2 ρ cb gb C now l E l.length ∧ Below w.heap.size w w2 ∧ w.heap.size < w2.heap.size ∧ w2.cell? ⟨w.heap.size, 1, none⟩ = some (.int .i64 o.a) ∧ w2.cell? ⟨w.heap.size, 2, none⟩ = some (.int .i64 o.b)) := fun w2 hb => step_front h o hb
  have wr1 := wrapId (s.hi - s.lo) (by omega) (by omega)
  have wr2 := wrapId (s.hi - s.lo + 1) (by omega) (by omega)
  have wr3 := wrapId (s.lo + p) (by omega) (by omega)
  have HOP := hide hop
  have HCR := hide h
  have HS := hide hs
  have c6 := (crew_cells h.ent2).choose_spec.choose_spec.2.1
  have hcb := (crew_cells h.ent2).choose_spec.choose_spec.2.2.2.2.2.1
  have hll : ((l.length : Int) != (l.length : Int)) = false := by simp
  unfold St.arr at HSh HFr ⊢
  clear h h1 hbox hs hp ho hk
  go_enter Try.func23, Try.ntmps23
  go_wp2_with fail
  refine (unhide HSh).mono ?_
  rintro e w2 ⟨lb, lcap, rfl, hT, hlb, hlb2, hb⟩
  obtain ⟨R2, hB2, hsz, a1, a2⟩ := unhide HFr w2 hb
  obtain ⟨ea, ecap, _, d6, _, d8, _, hcb2, _⟩ := crew_cells R2.ent2
  have hlbw : w.heap.size ≤ lb := by simp at hlb; omega
  have HT := hide hT
  have HR2 := hide R2
  have HB2 := hide hB2
  clear hb R2 hB2 hT HFr hlb
  go_wp2
  go_quiet ((go_at_call 13; exact Calls.quiet_of_same (unhide HPK _)))
  have R3 := hide ((unhide HR2).below (below_drewN (Below.refl _ w2) nq))
  have hT3 : Hid (Told (w2.drewN nq) lb l) := unhide HT
  have hB3 := hide (below_drewN (unhide HB2) nq)
  have hz3 : (w2.drewN nq).heap.size = w2.heap.size := rfl
  have a3 : (w2.drewN nq).cell? ⟨w.heap.size, 2, none⟩ = some (.int .i64 o.b) := a2
  clear a1 a2 d6 d8 HT HR2 HB2
  generalize w2.drewN nq = W at *
  obtain ⟨ea, ecap, _, d6, _, d8, _, hcb2, _⟩ := crew_cells (unhide R3).ent2
  obtain ⟨t0, t1, t2, _⟩ := unhide hT3 k s (unhide HS)
  rw [hop] at t2
  have HG : Hid (∀ q, Calls Try.prog 46 #[.pointer (some ⟨gb, 0, none⟩), .int .i64 k, .int .i64 (s.lo + p)] (W.drewN q) fun e w' => e = .returned (.tuple #[.int .i64 (aSplit l k (s.lo + p)).2.1, .int .i64 (aSplit l k (s.lo + p)).2.2]) ∧ GrpPost (W.drewN q) ρ gb C now (aSplit l k (s.lo + p)).1 w') := fun q => by
    have R4 := (unhide R3).below (below_drewN (Below.refl _ W) q)
    exact gSplit_any (W.drewN q) ρ gb C now l k (s.lo + p) R4.grp R4.fits R4.inv
  rw [hA] at HG
  have HBk : Hid (∀ q w3 l', GrpPost (W.drewN q) ρ gb C now l' w3 → ∃ ρ' ev, Grp w3 ρ' gb C now l' ∧ w3.heap[cb]? = some (.cells (crewArr C gb ev l.length) 31 (0, 0)) ∧ w3.ownsRow 0 59 5 ev E.length (entCells E) ∧ (∀ k, ev.ownBlock = some k → ρ' k = 101) ∧ ρ' cb = 100 ∧ Fits w3 ρ' ∧ Low N B.X w3 ρ' ∧ Below N w w3 ∧ N ≤ w3.heap.size ∧
      w3.cell? ⟨cb, 8, none⟩ = some (.int .i64 l.length) ∧ w3.frozen? ⟨cb, 8, none⟩ = false ∧ w3.heap[lb]? = W.heap[lb]?) := fun q w3 l' hp =>
    step_back (unhide R3) (by omega) hp (by omega) ((unhide HCR).fits lb hlbw) ((unhide hB3).mono hN)
  have HT := hT3
  clear R3 hB3 hT3 hA hop hp0
  go_wp2
  go_quiet ((go_at_call 13; exact Calls.quiet_of_same (unhide HPP _)))
  go_wp2_with (go_at_call 46; refine (unhide HG _).mono ?_; rintro e w3 ⟨rfl, hpost⟩; obtain ⟨ρ3, ev, q1, q2, q3, q4, q5, q6, q7, q8, q9, q10, q11, q12⟩ := unhide HBk _ _ _ hpost; obtain ⟨u0, u1, u2⟩ := (unhide HT).near q12 k s (unhide HS); rw [unhide HOP] at u2; have Q1 := hide q1; have Q2 := hide q2; have Q3 := hide q3; have Q4 := hide q4; have Q5 := hide q5; have Q6 := hide q6; have Q7 := hide q7; have Q8 := hide q8; have Q9 := hide q9; clear q1 q2 q3 q4 q5 q6 q7 q8 q9 q12 hpost)
  go_ret
  exact ⟨rfl, ρ3, now, l, E, ⟨⟨ev, unhide Q2, unhide Q3, unhide Q4⟩, unhide Q5, unhide Q1, (unhide HCR).inv, unhide Q6, unhide Q7, (unhide HCR).cnt, (unhide HCR).tot, (unhide HCR).rng, (unhide HCR).val, (unhide HCR).wok.next⟩, unhide Q8, Or.inl rfl⟩

set_option maxRecDepth 100000 in
set_option maxHeartbeats 1000000 in
theorem splits_ok {B : Bd} {N : Nat} {w : World} {ρ : Nat → Nat} {cb gb : Nat} {C : Cfg} {now : Rest} {l : List Sh} {E : List En} (h : Crew true B N w ρ cb gb C now l E l.length) (hN : N ≤ w.heap.size) (o : St) (ho : o.ok)
    (k p : Nat) (s : Sh) (hk : pickN o.a l.length = k) (hs : l[k]? = some s) (hp : pickN o.b (s.hi - s.lo + 1) = p) (hop : s.op = true) (hp0 : p ≠ 0) (hph : s.lo + p < s.hi) (hl : ¬ 14 < l.length) :
    Calls Try.prog 23 #[.pointer (some ⟨cb, 0, none⟩), .agg o.arr] w (StepPost B N w cb gb C E) := by
  have hkl := (List.getElem?_eq_some_iff.1 hs).1
  have hrg := h.inv.rng k s hs
  obtain ⟨g0, g1, g2⟩ := hrg
  have hlen := h.inv.len
  have hpos := h.inv.pos
  have hpl := pickN_lt o.b (s.hi - s.lo + 1) (by omega)
  rw [hp] at hpl
  have hA := aSplit_at hs (s.lo + p)
  have d1 : s.lo < s.lo + (p : Int) := by omega
  have d4 : ((l.length : Int) == (l.length : Int)) = true := by simp
  rw [if_neg (by rw [hop]; simp), if_neg (by omega), if_neg hl] at hA
  have HAA := hide hA
  have hbox : Below w.heap.size w (w.alloc (.cells o.arr 34)) := (Below.refl _ _).alloc (Nat.le_refl _) _
  have h1 := h.below hbox
  have HSh := hide (shards_at h1.grp h1.inv)
  have HPK : Hid (∀ W : World, Calls Try.prog 13 #[.int .i64 o.a, .int .i64 l.length] W fun e w' => e = .returned (.int .i64 k) ∧ w' = W) := fun W => by
    have := pick_at o.a l.length W ho.a.1 ho.a.2 (by omega) (by omega)
    rw [hk] at this; exact this
  have HPP : Hid (∀ W : World, Calls Try.prog 13 #[.int .i64 o.b, .int .i64 (s.hi - s.lo + 1)] W fun e w' => e = .returned (.int .i64 p) ∧ w' = W) := fun W => by
    have := pick_at o.b (s.hi - s.lo + 1) W ho.b.1 ho.b.2 (by omega) (by omega)
    rw [hp] at this; exact this
  have HFr : Hid (∀ w2, Below (w.alloc (.cells o.arr 34)).heap.size (w.alloc (.cells o.arr 34)) w2 → Crew true B N w2 ρ cb gb C now l E l.length ∧ Below w.heap.size w w2 ∧ w.heap.size < w2.heap.size ∧ w2.cell? ⟨w.heap.size, 1, none⟩ = some (.int .i64 o.a) ∧ w2.cell? ⟨w.heap.size, 2, none⟩ = some (.int .i64 o.b)) := fun w2 hb => step_front h o hb
  have wr1 := wrapId (s.hi - s.lo) (by omega) (by omega)
  have wr2 := wrapId (s.hi - s.lo + 1) (by omega) (by omega)
  have wr3 := wrapId (s.lo + p) (by omega) (by omega)
  have HOP := hide hop
  have HCR := hide h
  have HS := hide hs
  have c6 := (crew_cells h.ent2).choose_spec.choose_spec.2.1
  have hcb := (crew_cells h.ent2).choose_spec.choose_spec.2.2.2.2.2.1
  have hll : ((l.length : Int) != (l.length : Int)) = false := by simp
  unfold St.arr at HSh HFr ⊢
  clear h h1 hbox hs hp ho hk
  go_enter Try.func23, Try.ntmps23
  go_wp2_with fail
  refine (unhide HSh).mono ?_
  rintro e w2 ⟨lb, lcap, rfl, hT, hlb, hlb2, hb⟩
  obtain ⟨R2, hB2, hsz, a1, a2⟩ := unhide HFr w2 hb
  obtain ⟨ea, ecap, _, d6, _, d8, _, hcb2, _⟩ := crew_cells R2.ent2
  have hlbw : w.heap.size ≤ lb := by simp at hlb; omega
  have HT := hide hT
  have HR2 := hide R2
  have HB2 := hide hB2
  clear hb R2 hB2 hT HFr hlb
  go_wp2
  go_quiet ((go_at_call 13; exact Calls.quiet_of_same (unhide HPK _)))
  have R3 := hide ((unhide HR2).below (below_drewN (Below.refl _ w2) nq))
  have hT3 : Hid (Told (w2.drewN nq) lb l) := unhide HT
  have hB3 := hide (below_drewN (unhide HB2) nq)
  have hz3 : (w2.drewN nq).heap.size = w2.heap.size := rfl
  have a3 : (w2.drewN nq).cell? ⟨w.heap.size, 2, none⟩ = some (.int .i64 o.b) := a2
  clear a1 a2 d6 d8 HT HR2 HB2
  generalize w2.drewN nq = W at *
  obtain ⟨ea, ecap, _, d6, _, d8, _, hcb2, _⟩ := crew_cells (unhide R3).ent2
  obtain ⟨t0, t1, t2, _⟩ := unhide hT3 k s (unhide HS)
  rw [hop] at t2
  have HG : Hid (∀ q, Calls Try.prog 46 #[.pointer (some ⟨gb, 0, none⟩), .int .i64 k, .int .i64 (s.lo + p)] (W.drewN q) fun e w' => e = .returned (.tuple #[.int .i64 (aSplit l k (s.lo + p)).2.1, .int .i64 (aSplit l k (s.lo + p)).2.2]) ∧ GrpPost (W.drewN q) ρ gb C now (aSplit l k (s.lo + p)).1 w') := fun q => by
    have R4 := (unhide R3).below (below_drewN (Below.refl _ W) q)
    exact gSplit_any (W.drewN q) ρ gb C now l k (s.lo + p) R4.grp R4.fits R4.inv
  rw [hA] at HG
  have HBk : Hid (∀ q w3 l', GrpPost (W.drewN q) ρ gb C now l' w3 → ∃ ρ' ev, Grp w3 ρ' gb C now l' ∧ w3.heap[cb]? = some (.cells (crewArr C gb ev l.length) 31 (0, 0)) ∧ w3.ownsRow 0 59 5 ev E.length (entCells E) ∧ (∀ k, ev.ownBlock = some k → ρ' k = 101) ∧ ρ' cb = 100 ∧ Fits w3 ρ' ∧ Low N B.X w3 ρ' ∧ Below N w w3 ∧ N ≤ w3.heap.size ∧
      w3.cell? ⟨cb, 8, none⟩ = some (.int .i64 l.length) ∧ w3.frozen? ⟨cb, 8, none⟩ = false ∧ w3.heap[lb]? = W.heap[lb]?) := fun q w3 l' hp =>
    step_back (unhide R3) (by omega) hp (by omega) ((unhide HCR).fits lb hlbw) ((unhide hB3).mono hN)
  have HT := hT3
  clear R3 hB3 hT3 hA hop hp0
  go_wp2
  go_quiet ((go_at_call 13; exact Calls.quiet_of_same (unhide HPP _)))
  go_wp2_with (go_at_call 46; refine (unhide HG _).mono ?_; rintro e w3 ⟨rfl, hpost⟩; obtain ⟨ρ3, ev, q1, q2, q3, q4, q5, q6, q7, q8, q9, q10, q11, q12⟩ := unhide HBk _ _ _ hpost; obtain ⟨u0, u1, u2⟩ := (unhide HT).near q12 k s (unhide HS); rw [unhide HOP] at u2; have Q1 := hide q1; have Q2 := hide q2; have Q3 := hide q3; have Q4 := hide q4; have Q5 := hide q5; have Q6 := hide q6; have Q7 := hide q7; have Q8 := hide q8; have Q9 := hide q9; clear q1 q2 q3 q4 q5 q6 q7 q8 q9 q12 hpost)
  go_ret
  obtain ⟨b1, b2, b3, b4⟩ := crew_count (N := N) (l.length + 2) (l.length + 2) (by omega) (unhide Q1) (by simp; omega) (unhide Q2) (unhide Q3) (unhide Q4) (unhide Q5) (unhide Q6) (unhide Q7).1 (unhide Q9)
  have hI := inv_split (unhide HCR).inv k (s.lo + p)
  rw [unhide HAA] at hI
  have hC := crew_more (unhide HCR) (l.set k { s with op := false }) _ rfl (by simp) (fun j t ht => at_set (unhide HS) ht) (fun j t ht => by
    match j, ht with
    | 0, ht => simp at ht; subst ht; rfl
    | 1, ht => simp at ht; subst ht; rfl
    | j + 2, ht => simp at ht) (tot_split (unhide HS)) rfl (adv_close (unhide HS)) (moved_split (unhide HCR).inv (unhide HS) (unhide HOP) _ (by omega) (by omega)) hI b1 (unhide Q5) b2 b3 (low_count (unhide Q7) (unhide Q5) _)
  refine ⟨ret_bool (by simp; omega), ρ3, now, l.set k { s with op := false } ++ [(⟨s.lo, s.lo + p, true, [(k : Int)], []⟩ : Sh), ⟨s.lo + p, s.hi, true, [(k : Int)], []⟩], E, ?_, (unhide Q8).trans b4, Or.inl rfl⟩
  rw [show (l.set k { s with op := false } ++ [(⟨s.lo, s.lo + p, true, [(k : Int)], []⟩ : Sh), ⟨s.lo + p, s.hi, true, [(k : Int)], []⟩]).length = l.length + 2 by simp]
  exact hC


/-- Split, whatever it is given. -/
theorem splits_any {B : Bd} {N : Nat} {w : World} {ρ : Nat → Nat} {cb gb : Nat} {C : Cfg} {now : Rest} {l : List Sh} {E : List En} (h : Crew true B N w ρ cb gb C now l E l.length) (hN : N ≤ w.heap.size) (o : St) (ho : o.ok) :
    Calls Try.prog 23 #[.pointer (some ⟨cb, 0, none⟩), .agg o.arr] w (StepPost B N w cb gb C E) := by
  have hpos := h.inv.pos
  have hk := pickN_lt o.a l.length (by omega)
  obtain ⟨s, hs⟩ : ∃ s, l[pickN o.a l.length]? = some s := ⟨l[pickN o.a l.length]'(by omega), List.getElem?_eq_getElem (by omega)⟩
  have hr := h.inv.rng _ s hs
  have hp := pickN_lt o.b (s.hi - s.lo + 1) (by omega)
  cases hop : s.op
  · exact splits_closed h hN o ho _ _ s rfl hs rfl hop
  · by_cases hp0 : pickN o.b (s.hi - s.lo + 1) = 0
    · exact splits_low h hN o ho _ _ s rfl hs rfl hop hp0
    · by_cases hph : s.lo + (pickN o.b (s.hi - s.lo + 1) : Int) = s.hi
      · exact splits_high h hN o ho _ _ s rfl hs rfl hop hph
      · by_cases hl : 14 < l.length
        · exact splits_full h hN o ho _ _ s rfl hs rfl hop hp0 (by omega) hl
        · exact splits_ok h hN o ho _ _ s rfl hs rfl hop hp0 (by omega) hl

end Go.Proofs.Ytpnkmnmchdabkaa
