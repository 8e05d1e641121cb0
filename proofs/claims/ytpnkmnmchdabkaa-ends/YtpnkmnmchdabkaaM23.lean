import Derived.Test.YtpnkmnmchdabkaaCrew
namespace Go.Proofs.Ytpnkmnmchdabkaa
open Go.RowKit
attribute [local go_sem ↓] Go.wp_at_zero Go.wp_at_succ

theorem info77 : (Try.prog.info? 59).map (fun i => (i.zero, i.size, i.bytes)) = some (some (.agg #[.int .i64 0, .int .i64 0, .string ByteArray.empty, .int .i64 0, .int .i64 0]), 5, 48) := by kernel_rfl

/-- A step of a script, as a value. -/
structure St where
  kind : Int
  a : Int
  b : Int
  c : Int
  s : ByteArray
  lost : Bool
def St.arr (o : St) : Array Value := #[.int .i64 o.kind, .int .i64 o.a, .int .i64 o.b, .int .i64 o.c, .string o.s, .bool o.lost]
def in64 (x : Int) : Prop := -9223372036854775808 ≤ x ∧ x ≤ 9223372036854775807
structure St.ok (o : St) : Prop where
  kind : in64 o.kind
  a : in64 o.a
  b : in64 o.b
  c : in64 o.c
  s : o.s.size ≤ maxLen

/-- What a step leaves: true; the crew; the last record, if there is a new one, lies where its hash belongs. -/
def StepPost (B : Bd) (N : Nat) (w : World) (cb gb : Nat) (C : Cfg) (E : List En) (e : Ending) (w' : World) : Prop :=
  e = .returned (.bool true) ∧ ∃ ρ' now' l' E', Crew true B.up N w' ρ' cb gb C now' l' E' l'.length ∧ Below N w w' ∧
    (E' = E ∨ ∃ x s, E' = E ++ [x] ∧ l'[x.shard]? = some s ∧ acc s (hashL x.key.data.toList) = true)

/-- The law's own row of entries grows. -/
theorem crew_add {N : Nat} {X : Nat → Option Obj} {w2 w3 W : World} {ρ : Nat → Nat} {cb gb : Nat} {C : Cfg} {now : Rest} {l : List Sh} {E : List En} {n : Nat} {ev : Value} (hG : Grp w2 ρ gb C now l) (hl : l.length ≤ 16)
    (hblk : w2.heap[cb]? = some (.cells (crewArr C gb ev n) 31 (0, 0)))  (hT : ∀ k, ev.ownBlock = some k → ρ k = 101) (htag : ρ cb = 100) (hf : Fits w2 ρ) (hlow : Low N X w2 ρ) (hN : N ≤ w2.heap.size)
    (hWk : Keeps (fun _ => False) w2 W) (x : En) (g cap : Nat) (hown : w3.ownsRow 0 59 5 (.slice (some ⟨g, 0, none⟩) (E.length + 1) cap) (E.length + 1) (entCells E ++ enCells x)) (hgrow : W.grownBy w3 ev.ownBlock) (hat : ev.ownBlock = some g ∨ g = W.heap.size) :
    ∃ ρ', (∃ ev', (w3.setCell ⟨cb, 7, none⟩ (.slice (some ⟨g, 0, none⟩) (E.length + 1) cap)).heap[cb]? = some (.cells (crewArr C gb ev' n) 31 (0, 0)) ∧ (w3.setCell ⟨cb, 7, none⟩ (.slice (some ⟨g, 0, none⟩) (E.length + 1) cap)).ownsRow 0 59 5 ev' (E ++ [x]).length (entCells (E ++ [x])) ∧ ∀ k, ev'.ownBlock = some k → ρ' k = 101) ∧
      ρ' cb = 100 ∧ Grp (w3.setCell ⟨cb, 7, none⟩ (.slice (some ⟨g, 0, none⟩) (E.length + 1) cap)) ρ' gb C now l ∧ Fits (w3.setCell ⟨cb, 7, none⟩ (.slice (some ⟨g, 0, none⟩) (E.length + 1) cap)) ρ' ∧ Low N X (w3.setCell ⟨cb, 7, none⟩ (.slice (some ⟨g, 0, none⟩) (E.length + 1) cap)) ρ' ∧ Below N w2 (w3.setCell ⟨cb, 7, none⟩ (.slice (some ⟨g, 0, none⟩) (E.length + 1) cap)) := by
  have hcb := lt_of_heap hblk
  have hWs := hWk.size
  have hgs := hgrow.size
  have hg3 : g < w3.heap.size := (hown.lt g rfl).2
  have hgT : g < w2.heap.size → ρ g = 101 := fun hlt => by
    rcases hat with e | e
    · exact hT g e
    · omega
  have hgcb : g ≠ cb := by
    rintro rfl
    have := hgT hcb; omega
  have hkeep : Keeps (fun k => k = cb ∨ ev.ownBlock = some k) w2 (w3.setCell ⟨cb, 7, none⟩ (.slice (some ⟨g, 0, none⟩) (E.length + 1) cap)) := by
    refine ⟨?_, ?_, ?_, ?_, ?_⟩
    · show w3.os = w2.os; rw [hgrow.os, hWk.os]
    · show w3.tape = w2.tape; rw [hgrow.tape, hWk.tape]
    · show w3.output = w2.output; rw [hgrow.output, hWk.output]
    · simp [World.setCell]; omega
    · intro k hk hs
      rw [Below.heap_setCell _ _ _ _ (fun e => hs (Or.inl e)), hgrow.block k (by omega) (fun e => hs (Or.inr e.symm)), hWk.block k hk (fun h => h)]
  have tagOf : ∀ k, k < w2.heap.size → (if k = g then 101 else ρ k) = ρ k := by
    intro k hk
    split
    · rename_i e; subst e; exact (hgT hk).symm
    · rfl
  obtain ⟨sv, m, rfl, G⟩ := hG
  refine ⟨fun k => if k = g then 101 else ρ k, ⟨.slice (some ⟨g, 0, none⟩) (E.length + 1) cap, ?_, ?_, ?_⟩, ?_, ⟨sv, m, rfl, ?_⟩, ?_, ?_, ?_⟩
  · have hb3 : w3.heap[cb]? = some (.cells (crewArr C gb ev n) 31 (0, 0)) := by
      rw [hgrow.block cb (by omega) (fun e => by have := hT cb e.symm; omega), hWk.block cb hcb (fun h => h), hblk]
    rw [heap_setCell_same hb3]; rfl
  · rw [entCells_append, List.length_append]
    simp only [entCells, List.append_nil, List.length_cons, List.length_nil]
    refine ownsRow_of_block hown fun k hk => Below.heap_setCell _ _ _ _ ?_
    simp [Value.ownBlock] at hk
    subst hk
    exact hgcb
  · intro k hk
    simp [Value.ownBlock] at hk
    subst hk
    show (if g = g then 101 else _) = 101
    rw [if_pos rfl]
  · show (if cb = g then 101 else ρ cb) = 100
    rw [tagOf cb hcb]; exact htag
  · refine G.keeps hkeep (fun k hk => Or.inl fun hm => ?_) tagOf (by simpa using hl)
    unfold mine at hm
    rcases hk with rfl | hk
    · omega
    · have := hT k hk; omega
  · intro k hk
    have hk' : w3.heap.size ≤ k := by simpa [World.setCell] using hk
    show (if k = g then 101 else ρ k) = 0
    rw [if_neg (by omega)]
    exact hf k (by omega)
  · refine hlow.keeps hN hkeep (fun k _ hs => ?_) tagOf
    rcases hs with rfl | hs
    · rw [htag]; omega
    · rw [hT k hs]; omega
  · refine hkeep.below hN fun k hk hs => ?_
    rcases hs with rfl | hs
    · exact hlow.1 _ (by rw [htag]; omega)
    · exact hlow.1 _ (by rw [hT k hs]; omega)

/-- Is a record right? -/
def rightB (s : ByteArray) (v t : Int) : Bool := keyB s && decide (-1000000 ≤ v) && decide (v ≤ 1000000) && decide (0 ≤ t) && decide (t ≤ 1000000)
theorem right_no {s : ByteArray} {v t : Int} (h : makeR s v t ≠ 0) : rightB s v t = false := by
  unfold makeR at h
  unfold rightB
  cases hk : keyB s
  · simp
  · rw [if_neg (by simp [hk])] at h
    by_cases hv : 1000000 < v ∨ v < -1000000
    · rcases hv with hv | hv
      · rw [show decide (v ≤ 1000000) = false by simp; omega]; simp
      · rw [show decide (-1000000 ≤ v) = false by simp; omega]; simp
    · rw [if_neg hv] at h
      by_cases ht : t < 0 ∨ 1000000 < t
      · rcases ht with ht | ht
        · rw [show decide (0 ≤ t) = false by simp; omega]; simp
        · rw [show decide (t ≤ 1000000) = false by simp; omega]; simp
      · rw [if_neg ht] at h; exact absurd rfl h
theorem right_yes {s : ByteArray} {v t : Int} (h : makeR s v t = 0) : rightB s v t = true := by
  obtain ⟨h1, h2, h3⟩ := makeR_zero h
  unfold rightB
  simp [h1]; omega
theorem makeR_range (s : ByteArray) (v t : Int) : makeR s v t = 0 ∨ makeR s v t = 2 ∨ makeR s v t = 3 ∨ makeR s v t = 4 := by
  unfold makeR
  split
  · simp
  · split
    · simp
    · split <;> simp

theorem after_put {B : Bd} {N : Nat} {w w' : World} {ρ : Nat → Nat} {cb gb : Nat} {C : Cfg} {now now' : Rest} {l l' : List Sh} {E : List En} {n : Nat} (h : Crew true B N w ρ cb gb C now l E n) (o : St) (hp : GrpPost (w.alloc (.cells o.arr 34)).drew ρ gb C now' l' w') :
    w'.cell? ⟨cb, 6, none⟩ = some (.pointer (some ⟨gb, 0, none⟩)) ∧ w'.cell? ⟨w.heap.size, 4, none⟩ = some (.string o.s) ∧ w'.cell? ⟨w.heap.size, 2, none⟩ = some (.int .i64 o.b) ∧ w'.cell? ⟨w.heap.size, 3, none⟩ = some (.int .i64 o.c) := by
  obtain ⟨_, _, _, _, _, hk, _⟩ := hp
  obtain ⟨ea, ecap, _, c6, _, _, _, hcb, _⟩ := crew_cells h.ent2
  have hbs : (w.alloc (.cells o.arr 34)).drew.heap.size = w.heap.size + 1 := by simp
  have hn : w'.heap[w.heap.size]? = some (.cells o.arr 34 (0, 0)) := by
    rw [hk.block _ (by omega) (fun hm => by unfold mine at hm; rw [h.fits _ (Nat.le_refl _)] at hm; omega)]
    exact heap_alloc_new w _
  refine ⟨?_, cell_of hn 4, cell_of hn 2, cell_of hn 3⟩
  rw [hk.cell (p := ⟨cb, 6, none⟩) (show cb < _ by omega) (fun hm => by unfold mine at hm; rw [show ρ (⟨cb, 6, none⟩ : Addr).block = 100 from h.tag] at hm; omega)]
  exact (World.cell?_of_block (w := w) (Below.heap_alloc _ _ _ hcb)).trans c6

set_option maxRecDepth 100000 in
set_option maxHeartbeats 1000000 in
theorem puts_no {B : Bd} {N : Nat} {w : World} {ρ : Nat → Nat} {cb gb : Nat} {C : Cfg} {now : Rest} {l : List Sh} {E : List En} (h : Crew true B N w ρ cb gb C now l E l.length) (hN : N ≤ w.heap.size) (o : St) (ho : o.ok) (hr : makeR o.s o.b o.c ≠ 0) :
    Calls Try.prog 22 #[.pointer (some ⟨cb, 0, none⟩), .agg o.arr] w (StepPost B N w cb gb C E) := by
  have hbox : Below w.heap.size w (w.alloc (.cells o.arr 34)) := (Below.refl _ _).alloc (Nat.le_refl _) _
  have hbs : (w.alloc (.cells o.arr 34)).drew.heap.size = w.heap.size + 1 := by simp
  have h1 := h.below (hbox.drew)
  have HP : Hid (Calls Try.prog 44 #[.pointer (some ⟨gb, 0, none⟩), .string o.s, .int .i64 o.b, .int .i64 o.c] (w.alloc (.cells o.arr 34)).drew fun e w' => e = .returned (.tuple #[.int .i64 0, .int .i64 0, .int .i64 (makeR o.s o.b o.c)]) ∧ GrpPost (w.alloc (.cells o.arr 34)).drew ρ gb C now l w') := by
    refine (gPut_any _ ρ gb C now l o.s o.b o.c h1.grp h1.fits h1.inv ho.s).mono ?_
    rintro e w' (⟨_, he, hp⟩ | ⟨hz, _⟩)
    · exact ⟨he, hp⟩
    · exact absurd hz hr
  have HK := fun w => hide (isKey_any o.s w ho.s)
  have HR := hide (right_no hr)
  unfold rightB at HR
  have hne : (makeR o.s o.b o.c != 0) = true := by rw [bne_iff_ne]; exact hr
  have h8 : (makeR o.s o.b o.c == 8) = false := by rw [beq_eq_false_iff_ne]; have := makeR_range o.s o.b o.c; omega
  obtain ⟨ea, ecap, _, c6, c7, c8, ff, hcb, hE⟩ := crew_cells h.ent2
  have HC : Hid (∀ w', GrpPost (w.alloc (.cells o.arr 34)).drew ρ gb C now l w' → StepPost B N w cb gb C E (.returned (.bool true)) w') := by
    intro w' hp
    obtain ⟨ρ', ev, q1, q2, q3, q4, q5, q6, q7, q8, q9⟩ := h1.post (by omega) hp
    refine ⟨rfl, ρ', now, l, E, ⟨⟨ev, q2, q3, q4⟩, q5, q1, h.inv, q6, q7, h.cnt, h.tot, h.rng, h.val, h.wok.next⟩, ?_, Or.inl rfl⟩
    refine (hbox.drew.mono hN).trans (q8.below (by omega) (fun k _ hm => h.low.1 k (by unfold mine at hm; omega)))
  have HW : Hid (∀ w', GrpPost (w.alloc (.cells o.arr 34)).drew ρ gb C now l w' → w'.cell? ⟨cb, 6, none⟩ = some (.pointer (some ⟨gb, 0, none⟩)) ∧ w'.cell? ⟨w.heap.size, 4, none⟩ = some (.string o.s) ∧ w'.cell? ⟨w.heap.size, 2, none⟩ = some (.int .i64 o.b) ∧ w'.cell? ⟨w.heap.size, 3, none⟩ = some (.int .i64 o.c)) := fun w' hp => after_put h o hp
  unfold St.arr at HP HC HW ⊢
  generalize hq : makeR o.s o.b o.c = q at *
  have HQ := hide hq
  clear h h1 hbox hr hq hE c7 hN hbs
  go_enter Try.func22, Try.ntmps22
  go_wp2
  go_region_held3 (fun w' => w'.cell? ⟨cb, 6, none⟩ = some (.pointer (some ⟨gb, 0, none⟩)) ∧ w'.cell? ⟨w.heap.size, 4, none⟩ = some (.string o.s) ∧ w'.cell? ⟨w.heap.size, 2, none⟩ = some (.int .i64 o.b) ∧ w'.cell? ⟨w.heap.size, 3, none⟩ = some (.int .i64 o.c))
    (go_keep)
    ((go_at_call 44; refine (unhide HP).mono ?_; rintro e w2 ⟨rfl, hpost⟩; obtain ⟨k6, k4, k2, k3⟩ := unhide HW w2 hpost))
  have HF := hide (unhide HC w2 hpost)
  clear hpost c6 HC HW
  generalize hkey : keyB o.s = kb at *
  go_wp2_with (go_at_call 45; refine (unhide (HK _)).mono ?_; rintro e w' ⟨rfl, rfl⟩)
  all_goals
    go_ret
    first
      | exact unhide HF
      | (have hd : decide (o.c ≤ 1000000) = false := by
           cases hd : decide (o.c ≤ 1000000)
           · rfl
           · exfalso
             have h := unhide HR
             rw [hd, show kb = true by assumption, show decide (-1000000 ≤ o.b) = true by simp; omega, show decide (o.b ≤ 1000000) = true by simp; omega, show decide (0 ≤ o.c) = true by simp; omega] at h
             cases h
         show StepPost B N w cb gb C E (.returned (.bool (!decide (o.c ≤ 1000000)))) w2
         rw [hd]
         exact unhide HF)

/-- One more of those that lie in shard k. -/
theorem held_snoc (E : List En) (x : En) (j : Nat) : held (E ++ [x]) j = held E j + if x.shard = j then 1 else 0 := held_add E x j
theorem adv_put {l : List Sh} {k : Nat} {x : Sh} (hx : l[k]? = some x) (ho : x.op = true) (r : Rc) : Adv l (putL l k x r) := by
  unfold putL
  split
  · exact Adv.refl l
  · intro j s hs
    by_cases e : k = j
    · subst e
      rw [hx] at hs
      cases hs
      exact ⟨_, List.getElem?_set_self (List.getElem?_eq_some_iff.1 hx).1, rfl, List.prefix_append _ _, fun e => by rw [ho] at e; cases e⟩
    · exact ⟨s, by rw [List.getElem?_set_ne e]; exact hs, rfl, List.prefix_rfl, fun e => ⟨e, rfl⟩⟩
theorem sum_set (r0 : Rc) : ∀ (l : List Sh) (k : Nat) (s : Sh), l[k]? = some s → ((l.set k { s with rl := s.rl ++ [r0] }).map (·.cnt)).sum = (l.map (·.cnt)).sum + 1
  | [], k, s, h => by simp at h
  | x :: r, 0, s, h => by
    simp at h; subst h
    simp only [List.set_cons_zero, List.map_cons, List.sum_cons, Sh.cnt_add]; omega
  | x :: r, k + 1, s, h => by
    have := sum_set r0 r k s (by simpa using h)
    simp only [List.set_cons_succ, List.map_cons, List.sum_cons, this]; omega

set_option maxRecDepth 100000 in
set_option maxHeartbeats 1000000 in
theorem puts_full {B : Bd} {N : Nat} {w : World} {ρ : Nat → Nat} {cb gb : Nat} {C : Cfg} {now : Rest} {l : List Sh} {E : List En} (h : Crew true B N w ρ cb gb C now l E l.length) (hN : N ≤ w.heap.size) (o : St) (ho : o.ok) (hr : makeR o.s o.b o.c = 0)
    (k : Nat) (x : Sh) (hx : Home l (hashL o.s.data.toList) k x) (hc : 32 ≤ x.cnt) :
    Calls Try.prog 22 #[.pointer (some ⟨cb, 0, none⟩), .agg o.arr] w (StepPost B N w cb gb C E) := by
  have hbox : Below w.heap.size w (w.alloc (.cells o.arr 34)) := (Below.refl _ _).alloc (Nat.le_refl _) _
  have hbs : (w.alloc (.cells o.arr 34)).drew.heap.size = w.heap.size + 1 := by simp
  have h1 := h.below (hbox.drew)
  have HP : Hid (Calls Try.prog 44 #[.pointer (some ⟨gb, 0, none⟩), .string o.s, .int .i64 o.b, .int .i64 o.c] (w.alloc (.cells o.arr 34)).drew fun e w' => e = .returned (.tuple #[.int .i64 0, .int .i64 0, .int .i64 8]) ∧ GrpPost (w.alloc (.cells o.arr 34)).drew ρ gb C now l w') := by
    refine (gPut_any _ ρ gb C now l o.s o.b o.c h1.grp h1.fits h1.inv ho.s).mono ?_
    rintro e w' (⟨hz, _⟩ | ⟨_, k', x', hx', he, hp⟩)
    · exact absurd hr hz
    · obtain rfl := hx.2.2 k' x' hx'.1 hx'.2.1
      have := hx.1.symm.trans hx'.1
      cases this
      rw [putV, if_pos hc] at he
      rw [putL, if_pos hc] at hp
      exact ⟨he, hp⟩
  have HK := fun w => hide (isKey_any o.s w ho.s)
  obtain ⟨hkey, hv, ht⟩ := makeR_zero hr
  have v1 : -1000000 ≤ o.b := by omega
  have v2 : o.b ≤ 1000000 := by omega
  have t1 : 0 ≤ o.c := by omega
  have t2 : o.c ≤ 1000000 := by omega
  rw [hkey] at HK
  obtain ⟨ea, ecap, _, c6, c7, c8, ff, hcb, hE⟩ := crew_cells h.ent2
  have HC : Hid (∀ w', GrpPost (w.alloc (.cells o.arr 34)).drew ρ gb C now l w' → StepPost B N w cb gb C E (.returned (.bool true)) w') := by
    intro w' hp
    obtain ⟨ρ', ev, q1, q2, q3, q4, q5, q6, q7, q8, q9⟩ := h1.post (by omega) hp
    refine ⟨rfl, ρ', now, l, E, ⟨⟨ev, q2, q3, q4⟩, q5, q1, h.inv, q6, q7, h.cnt, h.tot, h.rng, h.val, h.wok.next⟩, ?_, Or.inl rfl⟩
    refine (hbox.drew.mono hN).trans (q8.below (by omega) (fun k _ hm => h.low.1 k (by unfold mine at hm; omega)))
  have HW : Hid (∀ w', GrpPost (w.alloc (.cells o.arr 34)).drew ρ gb C now l w' → w'.cell? ⟨cb, 6, none⟩ = some (.pointer (some ⟨gb, 0, none⟩)) ∧ w'.cell? ⟨w.heap.size, 4, none⟩ = some (.string o.s) ∧ w'.cell? ⟨w.heap.size, 2, none⟩ = some (.int .i64 o.b) ∧ w'.cell? ⟨w.heap.size, 3, none⟩ = some (.int .i64 o.c)) := fun w' hp => after_put h o hp
  unfold St.arr at HP HC HW ⊢
  clear h h1 hbox hr hE c7 hN hbs hkey hv ht hx
  go_enter Try.func22, Try.ntmps22
  go_wp2
  go_region_held3 (fun w' => w'.cell? ⟨cb, 6, none⟩ = some (.pointer (some ⟨gb, 0, none⟩)) ∧ w'.cell? ⟨w.heap.size, 4, none⟩ = some (.string o.s) ∧ w'.cell? ⟨w.heap.size, 2, none⟩ = some (.int .i64 o.b) ∧ w'.cell? ⟨w.heap.size, 3, none⟩ = some (.int .i64 o.c))
    (go_keep)
    ((go_at_call 44; refine (unhide HP).mono ?_; rintro e w2 ⟨rfl, hpost⟩; obtain ⟨k6, k4, k2, k3⟩ := unhide HW w2 hpost))
  have HF := hide (unhide HC w2 hpost)
  clear hpost c6 HC HW
  go_wp2_with (go_at_call 45; refine (unhide (HK _)).mono ?_; rintro e w' ⟨rfl, rfl⟩)
  go_ret
  exact unhide HF

/-- Put was OK: what is left. -/
theorem puts_end {B : Bd} {N : Nat} {w w2 w3 W : World} {ρ ρ2 : Nat → Nat} {cb gb : Nat} {C : Cfg} {now : Rest} {l : List Sh} {E : List En} {ev : Value} (h : Crew true B N w ρ cb gb C now l E l.length) (o : St) (ho : o.ok) (hkv : keyB o.s = true ∧ -1000000 ≤ o.b ∧ o.b ≤ 1000000 ∧ 0 ≤ o.c ∧ o.c ≤ 1000000)
    {k : Nat} {x : Sh} (hx : Home l (hashL o.s.data.toList) k x) (hc : ¬ 32 ≤ x.cnt) (q1 : Grp w2 ρ2 gb C now (putL l k x ⟨o.s.data.toList, o.b, o.c⟩)) (q2 : w2.heap[cb]? = some (.cells (crewArr C gb ev l.length) 31 (0, 0)))
    (q4 : ∀ k, ev.ownBlock = some k → ρ2 k = 101) (q5 : ρ2 cb = 100) (q6 : Fits w2 ρ2) (q7 : Low N B.X w2 ρ2) (q8 : Below N w w2) (hN : N ≤ w2.heap.size) (hWk : Keeps (fun _ => False) w2 W) (g cap : Nat)
    (hown : w3.ownsRow 0 59 5 (.slice (some ⟨g, 0, none⟩) (E.length + 1) cap) (E.length + 1) (entCells E ++ [.int .i64 k, .int .i64 x.cnt, .string o.s, .int .i64 o.b, .int .i64 o.c])) (hgrow : W.grownBy w3 ev.ownBlock) (hat : ev.ownBlock = some g ∨ g = W.heap.size) :
    StepPost B N w cb gb C E (.returned (.bool true)) (w3.setCell ⟨cb, 7, none⟩ (.slice (some ⟨g, 0, none⟩) (E.length + 1) cap)) := by
  have hkl := (List.getElem?_eq_some_iff.1 hx.1).1
  have hI := inv_put h.inv hx.1 ⟨o.s.data.toList, o.b, o.c⟩
  have hop : x.op = true := by
    have := hx.2.1
    rw [acc_iff] at this
    exact this.1
  have hpl : putL l k x ⟨o.s.data.toList, o.b, o.c⟩ = l.set k { x with rl := x.rl ++ [⟨o.s.data.toList, o.b, o.c⟩] } := by rw [putL, if_neg hc]
  have hpn : (putL l k x ⟨o.s.data.toList, o.b, o.c⟩).length = l.length := by rw [hpl]; simp
  obtain ⟨ρ3, ⟨ev3, a1, a2, a3⟩, a4, a5, a6, a7, a8⟩ := crew_add (E := E) (x := ⟨k, x.cnt, o.s, o.b, o.c⟩) q1 hI.len q2 q4 q5 q6 q7 hN hWk g cap hown hgrow hat
  refine ⟨rfl, ρ3, now, putL l k x ⟨o.s.data.toList, o.b, o.c⟩, E ++ [⟨k, x.cnt, o.s, o.b, o.c⟩], ⟨⟨ev3, by rw [hpn]; exact a1, a2, a3⟩, a4, a5, hI, a6, a7, ?_, ?_, ?_, h.val, (h.wok.log h.inv hI (adv_put hx.1 hop _)).next⟩, q8.trans a8, Or.inr ⟨_, { x with rl := x.rl ++ [⟨o.s.data.toList, o.b, o.c⟩] }, rfl, ?_, ?_⟩⟩
  · intro j s hj
    rw [held_snoc]
    rw [hpl, List.getElem?_set] at hj
    split at hj
    · rename_i e; subst e
      cases hj
      rw [if_pos rfl, h.cnt k x hx.1, Sh.cnt_add]
    · rename_i e
      rw [if_neg (by exact e), h.cnt j s hj]; rfl
  · rw [List.length_append, hpl, sum_set _ l k x hx.1, ← h.tot]; rfl
  · have ha := adv_put hx.1 hop ⟨o.s.data.toList, o.b, o.c⟩
    rw [hpl] at ha ⊢
    exact h.rng.put hx ha (h.cnt k x hx.1) ho.s hkv
  · rw [hpl]
    exact List.getElem?_set_self hkl
  · have := hx.2.1
    rw [acc_iff] at this ⊢
    exact this

end Go.Proofs.Ytpnkmnmchdabkaa
namespace Go.Proofs.Ytpnkmnmchdabkaa
open Go.RowKit

/-- The script as it lies in memory. -/
def IsScript (w : World) (sa : Option Addr) (len : Nat) (os : List St) : Prop :=
  os.length = len ∧ ∀ (i : Nat) (o : St), os[i]? = some o → o.ok ∧ ∃ sb off, sa = some ⟨sb, off, none⟩ ∧ sb < w.heap.size ∧
    w.cell? ⟨sb, off + i * 6, none⟩ = some (.int .i64 o.kind) ∧ w.cell? ⟨sb, off + i * 6 + 1, none⟩ = some (.int .i64 o.a) ∧ w.cell? ⟨sb, off + i * 6 + 2, none⟩ = some (.int .i64 o.b) ∧ w.cell? ⟨sb, off + i * 6 + 3, none⟩ = some (.int .i64 o.c) ∧
    w.cell? ⟨sb, off + i * 6 + 4, none⟩ = some (.string o.s) ∧ w.cell? ⟨sb, off + i * 6 + 5, none⟩ = some (.bool o.lost)

theorem IsScript.below {w w' : World} {sa : Option Addr} {len : Nat} {os : List St} (h : IsScript w sa len os) (hb : Below w.heap.size w w') : IsScript w' sa len os := by
  refine ⟨h.1, fun i o hi => ?_⟩
  obtain ⟨ho, sb, off, rfl, hsb, c0, c1, c2, c3, c4, c5⟩ := h.2 i o hi
  have hc : ∀ j, w'.cell? ⟨sb, j, none⟩ = w.cell? ⟨sb, j, none⟩ := fun j => hb.cell (p := ⟨sb, j, none⟩) hsb
  exact ⟨ho, sb, off, rfl, by have := hb.size; omega, (hc _).trans c0, (hc _).trans c1, (hc _).trans c2, (hc _).trans c3, (hc _).trans c4, (hc _).trans c5⟩

end Go.Proofs.Ytpnkmnmchdabkaa
