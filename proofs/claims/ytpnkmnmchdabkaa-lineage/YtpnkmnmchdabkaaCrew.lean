import Derived.Test.YtpnkmnmchdabkaaM23
namespace Go.Proofs.Ytpnkmnmchdabkaa
open Go.RowKit

/-- A record as the law itself knows it. -/
structure En where
  shard : Nat
  place : Nat
  key : ByteArray
  value : Int
  time : Int
def enCells (e : En) : List Value := [.int .i64 e.shard, .int .i64 e.place, .string e.key, .int .i64 e.value, .int .i64 e.time]
def entCells : List En → List Value
  | [] => []
  | s :: r => enCells s ++ entCells r
theorem entCells_append (l k : List En) : entCells (l ++ k) = entCells l ++ entCells k := by
  induction l with
  | nil => rfl
  | cons s r ih => simp [entCells, ih]
theorem entCells_get (l : List En) (i j : Nat) (hj : j < 5) (s : En) (h : l[i]? = some s) : (entCells l)[i * 5 + j]? = (enCells s)[j]? := by
  induction l generalizing i with
  | nil => simp at h
  | cons x r ih =>
    cases i with
    | zero =>
      simp at h; subst h
      simp only [entCells, Nat.zero_mul, Nat.zero_add]
      rw [List.getElem?_append_left (by simpa [enCells] using hj)]
    | succ i =>
      simp at h
      simp only [entCells]
      rw [List.getElem?_append_right (by simp only [enCells, List.length_cons, List.length_nil]; omega), ← ih i h]
      congr 1
      simp only [enCells, List.length_cons, List.length_nil]; omega

def crewArr (C : Cfg) (gb : Nat) (ev : Value) (n : Int) : Array Value := #[.int .i64 C.a, .int .i64 C.l, .int .i64 C.b, .int .i64 C.n, .int .i64 C.s, .int .i64 C.t, .pointer (some ⟨gb, 0, none⟩), ev, .int .i64 n]

def held (E : List En) (k : Nat) : Nat := (E.filter (fun e => e.shard == k)).length

/-- What is tagged lies from N on; what X tells is not tagged, and lies there. -/
def Low (N : Nat) (X : Nat → Option Obj) (w : World) (ρ : Nat → Nat) : Prop := (∀ k, ρ k ≠ 0 → N ≤ k) ∧ ∀ (k : Nat) (o : Obj), X k = some o → ρ k = 0 ∧ w.heap[k]? = some o
theorem Low.still {N : Nat} {X : Nat → Option Obj} {w w' : World} {ρ : Nat → Nat} {S : Nat → Prop} (h : Low N X w ρ) (hk : Keeps S w w') (hS : ∀ k, k < w.heap.size → S k → ρ k ≠ 0) : Low N X w' ρ :=
  ⟨h.1, fun k o hx => by
    obtain ⟨a, b⟩ := h.2 k o hx
    have hl := lt_of_heap b
    exact ⟨a, (hk.block k hl (fun hs => hS k hl hs a)).trans b⟩⟩
theorem Low.keeps {N : Nat} {X : Nat → Option Obj} {w w' : World} {ρ ρ' : Nat → Nat} {S : Nat → Prop} (h : Low N X w ρ) (hN : N ≤ w.heap.size) (hk : Keeps S w w') (hS : ∀ k, k < w.heap.size → S k → ρ k ≠ 0) (he : ∀ k, k < w.heap.size → ρ' k = ρ k) : Low N X w' ρ' :=
  ⟨fun k hk0 => by
    by_cases hlt : k < w.heap.size
    · exact h.1 k (by rw [← he k hlt]; exact hk0)
    · omega, fun k o hx => by
    obtain ⟨a, b⟩ := h.2 k o hx
    have hl := lt_of_heap b
    exact ⟨(he k hl).trans a, (hk.block k hl (fun hs => hS k hl hs a)).trans b⟩⟩

/-- THE CREW: what the law keeps (its block: 100; the row of its entries: 101), its group. N: how many blocks there were at first. -/
structure Crew (t : Bool) (B : Bd) (N : Nat) (w : World) (ρ : Nat → Nat) (cb gb : Nat) (C : Cfg) (now : Rest) (l : List Sh) (E : List En) (n : Nat) : Prop where
  ent : ∃ ev, w.heap[cb]? = some (.cells (crewArr C gb ev n) 31 (0, 0)) ∧ w.ownsRow 0 59 5 ev E.length (entCells E) ∧ ∀ k, ev.ownBlock = some k → ρ k = 101
  tag : ρ cb = 100
  grp : Grp w ρ gb C now l
  inv : Inv l
  fits : Fits w ρ
  low : Low N B.X w ρ
  cnt : ∀ (k : Nat) (s : Sh), l[k]? = some s → held E k = s.cnt
  tot : E.length = (l.map (·.cnt)).sum
  rng : ∀ e ∈ E, e.shard < l.length ∧ e.key.size ≤ maxLen
  val : validB C.a C.l C.b C.n C.s C.t = true
  wok : Wok t B C l now

theorem sum_le : ∀ (l : List Sh), (∀ (i : Nat) (s : Sh), l[i]? = some s → s.cnt ≤ 32) → (l.map (·.cnt)).sum ≤ 32 * l.length
  | [], _ => by simp
  | s :: r, h => by
    have h1 := h 0 s rfl
    have h2 := sum_le r (fun i t hi => h (i + 1) t (by simpa using hi))
    simp only [List.map_cons, List.sum_cons, List.length_cons]
    omega
theorem Crew.short {t : Bool} {B : Bd} {N : Nat} {w : World} {ρ : Nat → Nat} {cb gb : Nat} {C : Cfg} {now : Rest} {l : List Sh} {E : List En} {n : Nat} (h : Crew t B N w ρ cb gb C now l E n) : E.length ≤ 512 := by
  have h1 := sum_le l h.inv.cnt
  have h2 := h.inv.len
  rw [h.tot]; omega

/-- What a walk wants of the crew. -/
theorem crew_cells {w : World} {cb gb : Nat} {C : Cfg} {E : List En} {n : Nat} (h : ∃ ev, w.heap[cb]? = some (.cells (crewArr C gb ev n) 31 (0, 0)) ∧ w.ownsRow 0 59 5 ev E.length (entCells E)) :
    ∃ ea ecap, w.cell? ⟨cb, 0, none⟩ = some (.int .i64 C.a) ∧ w.cell? ⟨cb, 6, none⟩ = some (.pointer (some ⟨gb, 0, none⟩)) ∧ w.cell? ⟨cb, 7, none⟩ = some (.slice ea E.length ecap) ∧ w.cell? ⟨cb, 8, none⟩ = some (.int .i64 n) ∧ (∀ j, w.frozen? ⟨cb, j, none⟩ = false) ∧ cb < w.heap.size ∧
      (0 < E.length → ∃ eb, ea = some ⟨eb, 0, none⟩ ∧ eb < w.heap.size ∧ ∀ (i : Nat) (e : En), E[i]? = some e → w.cell? ⟨eb, i * 5, none⟩ = some (.int .i64 e.shard) ∧ w.cell? ⟨eb, i * 5 + 1, none⟩ = some (.int .i64 e.place) ∧ w.cell? ⟨eb, i * 5 + 2, none⟩ = some (.string e.key) ∧ w.cell? ⟨eb, i * 5 + 3, none⟩ = some (.int .i64 e.value) ∧ w.cell? ⟨eb, i * 5 + 4, none⟩ = some (.int .i64 e.time)) := by
  obtain ⟨ev, hb, ho⟩ := h
  obtain ⟨ea, ecap, rfl⟩ := ownsRow_len ho
  refine ⟨ea, ecap, cell_of hb 0, cell_of hb 6, cell_of hb 7, cell_of hb 8, fun j => frozen_of hb j, lt_of_heap hb, fun hpos => ?_⟩
  obtain ⟨g, cap, cur, hv, _, hg, _⟩ := ownsRow_shape ho hpos
  injection hv with e1 e2 e3
  subst e1
  refine ⟨g, rfl, lt_of_heap hg, fun i e hi => ?_⟩
  have hlt := (List.getElem?_eq_some_iff.1 hi).1
  have hcell : ∀ j, j < 5 → w.cell? ⟨g, i * 5 + j, none⟩ = (enCells e)[j]? := by
    intro j hj
    rw [World.ownsRow.cellAt ho (i * 5 + j) (by omega), entCells_get E i j hj e hi]
  exact ⟨hcell 0 (by omega), hcell 1 (by omega), hcell 2 (by omega), hcell 3 (by omega), hcell 4 (by omega)⟩

theorem Crew.ent2 {t : Bool} {B : Bd} {N : Nat} {w : World} {ρ : Nat → Nat} {cb gb : Nat} {C : Cfg} {now : Rest} {l : List Sh} {E : List En} {n : Nat} (h : Crew t B N w ρ cb gb C now l E n) : ∃ ev, w.heap[cb]? = some (.cells (crewArr C gb ev n) 31 (0, 0)) ∧ w.ownsRow 0 59 5 ev E.length (entCells E) := by
  obtain ⟨ev, a, b, _⟩ := h.ent
  exact ⟨ev, a, b⟩

/-- New memory alone: the crew is as it was. -/
theorem Crew.below {t : Bool} {B : Bd} {N : Nat} {w w' : World} {ρ : Nat → Nat} {cb gb : Nat} {C : Cfg} {now : Rest} {l : List Sh} {E : List En} {n : Nat} (h : Crew t B N w ρ cb gb C now l E n) (hb : Below w.heap.size w w') : Crew t B N w' ρ cb gb C now l E n := by
  obtain ⟨ev, h1, h2, h3⟩ := h.ent
  obtain ⟨sv, m, rfl, G⟩ := h.grp
  refine ⟨⟨ev, (hb.block cb (lt_of_heap h1)).trans h1, ownsRow_of_block h2 fun k hk => hb.block k (h2.lt k hk).2, h3⟩, h.tag, ⟨sv, m, rfl, G.keeps (Keeps.of_below hb) (fun j hj => Or.inr hj) (fun _ _ => rfl) (by have := h.inv.len; simpa using this)⟩, h.inv, fun k hk => h.fits k (by have := hb.size; omega), h.low.still (Keeps.of_below hb) (fun k hk hs => absurd hk (by omega)), h.cnt, h.tot, h.rng, h.val, h.wok⟩

theorem Crew.next {t : Bool} {B : Bd} {N : Nat} {w : World} {ρ : Nat → Nat} {cb gb : Nat} {C : Cfg} {now : Rest} {l : List Sh} {E : List En} {n : Nat} (h : Crew t B N w ρ cb gb C now l E n) : Crew true B.up N w ρ cb gb C now l E n := ⟨h.ent, h.tag, h.grp, h.inv, h.fits, h.low, h.cnt, h.tot, h.rng, h.val, h.wok.next⟩
theorem Crew.loose {t : Bool} {B : Bd} {N : Nat} {w : World} {ρ : Nat → Nat} {cb gb : Nat} {C : Cfg} {now : Rest} {l : List Sh} {E : List En} {n : Nat} (h : Crew t B N w ρ cb gb C now l E n) : Crew false B N w ρ cb gb C now l E n := ⟨h.ent, h.tag, h.grp, h.inv, h.fits, h.low, h.cnt, h.tot, h.rng, h.val, h.wok.loose⟩

/-- A call that changes the group: the law's own memory stands. -/
theorem Crew.post {t : Bool} {B : Bd} {N : Nat} {w w' : World} {ρ : Nat → Nat} {cb gb : Nat} {C : Cfg} {now now' : Rest} {l l' : List Sh} {E : List En} {n : Nat} (h : Crew t B N w ρ cb gb C now l E n) (hN : N ≤ w.heap.size) (hp : GrpPost w ρ gb C now' l' w') :
    ∃ ρ' ev, Grp w' ρ' gb C now' l' ∧ w'.heap[cb]? = some (.cells (crewArr C gb ev n) 31 (0, 0)) ∧ w'.ownsRow 0 59 5 ev E.length (entCells E) ∧ (∀ k, ev.ownBlock = some k → ρ' k = 101) ∧ ρ' cb = 100 ∧ Fits w' ρ' ∧ Low N B.X w' ρ' ∧ Keeps (mine ρ) w w' ∧ Ext w.heap.size ρ ρ' := by
  obtain ⟨ρ', sv', m', e1, G', hk, he, hf⟩ := hp
  obtain ⟨ev, h1, h2, h3⟩ := h.ent
  have hcb := lt_of_heap h1
  refine ⟨ρ', ev, ⟨sv', m', e1, G'⟩, ?_, ?_, ?_, ?_, hf, ?_, hk, he⟩
  · rw [hk.block cb hcb (fun hm => by unfold mine at hm; rw [h.tag] at hm; omega)]; exact h1
  · exact ownsRow_keeps h2 hk (fun k hkk hm => by unfold mine at hm; rw [h3 k hkk] at hm; omega)
  · intro k hkk; rw [he.1 k (h2.lt k hkk).2]; exact h3 k hkk
  · rw [he.1 cb hcb]; exact h.tag
  · exact h.low.keeps hN hk (fun k _ hm => by unfold mine at hm; omega) he.1

/-- The memory that was there when the law began stands. -/
theorem Crew.old {t : Bool} {B : Bd} {N : Nat} {w w' : World} {ρ : Nat → Nat} {cb gb : Nat} {C : Cfg} {now : Rest} {l : List Sh} {E : List En} {n : Nat} (h : Crew t B N w ρ cb gb C now l E n) (hN : N ≤ w.heap.size) (hk : Keeps (fun k => ρ k ≠ 0) w w') : Below N w w' :=
  hk.below hN fun k _ hs => h.low.1 k hs

set_option maxHeartbeats 400000 in
theorem pick_any (c n : Int) (w : World) (h1 : -9223372036854775808 ≤ c) (h2 : c ≤ 9223372036854775807) (hn : 1 ≤ n) (hn2 : n ≤ 1000) :
    Calls Try.prog 13 #[.int .i64 c, .int .i64 n] w fun e w' => ∃ r : Nat, e = .returned (.int .i64 r) ∧ (r : Int) < n ∧ w = w' := by
  have hn0 : ¬ n = 0 := by omega
  by_cases hc : c < 0
  · obtain ⟨r, hr⟩ := Int.eq_ofNat_of_zero_le (Int.emod_nonneg (-(c + 1)) hn0)
    have hlt := Int.emod_lt_of_pos (-(c + 1)) (show 0 < n by omega)
    have HR := hide hr
    clear hr
    go_enter Try.func13, Try.ntmps13
    go_wp2
    go_ret
    exact ⟨r, ret_int (by rw [← unhide HR, ← Int.neg_tmod, Int.tmod_eq_emod_of_nonneg (by omega)]), by rw [← unhide HR]; exact hlt, rfl⟩
  · obtain ⟨r, hr⟩ := Int.eq_ofNat_of_zero_le (Int.emod_nonneg c hn0)
    have hlt := Int.emod_lt_of_pos c (show 0 < n by omega)
    have HR := hide hr
    clear hr
    go_enter Try.func13, Try.ntmps13
    go_wp2
    go_ret
    exact ⟨r, ret_int (by rw [← unhide HR]), by rw [← unhide HR]; exact hlt, rfl⟩

theorem held_take (E : List En) (k i : Nat) (e : En) (h : E[i]? = some e) : held (E.take (i + 1)) k = held (E.take i) k + if e.shard = k then 1 else 0 := by
  have hi := (List.getElem?_eq_some_iff.1 h).1
  have he : E[i] = e := (List.getElem?_eq_some_iff.1 h).2
  unfold held
  rw [List.take_succ_eq_append_getElem hi, List.filter_append, List.length_append, he]
  by_cases hk : e.shard = k <;> simp [hk]
theorem held_le (E : List En) (k : Nat) : held E k ≤ E.length := List.length_filter_le _ _

set_option maxHeartbeats 400000 in
theorem count_raw {w : World} {cb : Nat} {E : List En} {ea : Option Addr} {ecap : Nat} (hs : E.length ≤ 512) (c7 : w.cell? ⟨cb, 7, none⟩ = some (.slice ea E.length ecap))
    (hE : 0 < E.length → ∃ eb, ea = some ⟨eb, 0, none⟩ ∧ eb < w.heap.size ∧ ∀ (i : Nat) (e : En), E[i]? = some e → w.cell? ⟨eb, i * 5, none⟩ = some (.int .i64 e.shard) ∧ w.cell? ⟨eb, i * 5 + 1, none⟩ = some (.int .i64 e.place) ∧ w.cell? ⟨eb, i * 5 + 2, none⟩ = some (.string e.key) ∧ w.cell? ⟨eb, i * 5 + 3, none⟩ = some (.int .i64 e.value) ∧ w.cell? ⟨eb, i * 5 + 4, none⟩ = some (.int .i64 e.time)) (k : Nat) :
    Calls Try.prog 18 #[.pointer (some ⟨cb, 0, none⟩), .int .i64 k] w fun e w' => e = .returned (.int .i64 (held E k)) ∧ w = w' := by
  go_enter Try.func18, Try.ntmps18
  go_wp2
  go_loop [5, 6] (fun q i => ∃ j : Nat, j ≤ E.length ∧ i = .int .i64 j ∧ q = .int .i64 (held (E.take j) k)) (fun _ i => E.length - (intOf i).toNat)
  case atStart => exact ⟨0, Nat.zero_le _, rfl, rfl⟩
  case round =>
    obtain ⟨j, hj, rfl, rfl⟩ := hrel
    by_cases hlt : j < E.length
    · obtain ⟨eb, rfl, _, hcell⟩ := hE (by omega)
      obtain ⟨e, he⟩ : ∃ e, E[j]? = some e := ⟨E[j], List.getElem?_eq_getElem hlt⟩
      obtain ⟨c0, _⟩ := hcell j e he
      have HS := hide (held_take E k j e he)
      have hbd : held (E.take j) k ≤ 512 := by have := held_le (E.take j) k; rw [List.length_take] at this; omega
      have HE := hide hE
      clear hcell he hE
      by_cases hk : e.shard = k
      · have d : ((e.shard : Int) == (k : Int)) = true := by simp [hk]
        have HK := hide hk
        clear hk
        go_wp2
        go_round
        case rel => exact ⟨j + 1, by omega, by go_num, by rw [unhide HS, if_pos (unhide HK)]; go_num⟩
        case measure => simp [intOf]; omega
      · have d : ((e.shard : Int) == (k : Int)) = false := by rw [beq_eq_false_iff_ne]; omega
        have HK := hide hk
        clear hk
        go_wp2
        go_round
        case rel => exact ⟨j + 1, by omega, by go_num, by rw [unhide HS, if_neg (unhide HK)]; go_num⟩
        case measure => simp [intOf]; omega
    · have HE := hide hE
      clear hE
      go_wp2
      go_ret
      exact ⟨ret_int (by rw [List.take_of_length_le (by omega)]), rfl⟩

end Go.Proofs.Ytpnkmnmchdabkaa
