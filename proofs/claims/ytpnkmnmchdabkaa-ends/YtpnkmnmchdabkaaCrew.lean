import Derived.Test.YtpnkmnmchdabkaaM21
namespace Go.Proofs.Ytpnkmnmchdabkaa
open Go.RowKit

/-- A record as the law itself knows it. -/
structure En where
  shard : Nat
  place : Nat
  key : ByteArray
  value : Int
  time : Int
def enCells (e : En) : List Value := [.int .i64 e.shard, .int .i64 e.place, .string e.key, .int .i64 e.value, .int .i64 e.time]
def entCells : List En → List Value
  | [] => []
  | s :: r => enCells s ++ entCells r
theorem entCells_append (l k : List En) : entCells (l ++ k) = entCells l ++ entCells k := by
  induction l with
  | nil => rfl
  | cons s r ih => simp [entCells, ih]
theorem entCells_get (l : List En) (i j : Nat) (hj : j < 5) (s : En) (h : l[i]? = some s) : (entCells l)[i * 5 + j]? = (enCells s)[j]? := by
  induction l generalizing i with
  | nil => simp at h
  | cons x r ih =>
    cases i with
    | zero =>
      simp at h; subst h
      simp only [entCells, Nat.zero_mul, Nat.zero_add]
      rw [List.getElem?_append_left (by simpa [enCells] using hj)]
    | succ i =>
      simp at h
      simp only [entCells]
      rw [List.getElem?_append_right (by simp only [enCells, List.length_cons, List.length_nil]; omega), ← ih i h]
      congr 1
      simp only [enCells, List.length_cons, List.length_nil]; omega

def crewArr (C : Cfg) (gb : Nat) (ev : Value) (n : Int) : Array Value := #[.int .i64 C.a, .int .i64 C.l, .int .i64 C.b, .int .i64 C.n, .int .i64 C.s, .int .i64 C.t, .pointer (some ⟨gb, 0, none⟩), ev, .int .i64 n]

def held (E : List En) (k : Nat) : Nat := (E.filter (fun e => e.shard == k)).length

/-- A record as the program keeps it. -/
def enRc (e : En) : Rc := ⟨e.key.data.toList, e.value, e.time⟩
/-- Shard a is shard b, or b came of it, in so many turns; in some. -/
def upF (l : List Sh) : Nat → Nat → Nat → Prop
  | 0, a, b => a = b
  | f + 1, a, b => ∃ (c : Nat) (s : Sh), l[b]? = some s ∧ (c : Int) ∈ s.par ∧ upF l f a c
def Up (l : List Sh) (a b : Nat) : Prop := ∃ f, upF l f a b
theorem Up.refl (l : List Sh) (a : Nat) : Up l a a := ⟨0, rfl⟩
theorem Up.step {l : List Sh} {a b c : Nat} {s : Sh} (h : Up l a b) (hc : l[c]? = some s) (hp : (b : Int) ∈ s.par) : Up l a c := by
  obtain ⟨f, h⟩ := h
  exact ⟨f + 1, b, s, hc, hp, h⟩
theorem upF_adv {l l' : List Sh} (ha : Adv l l') : ∀ (f a b : Nat), upF l f a b → upF l' f a b
  | 0, _, _, h => h
  | f + 1, a, b, ⟨c, s, h1, h2, h3⟩ => by
    obtain ⟨s', g1, g2, _⟩ := ha b s h1
    exact ⟨c, s', g1, by rw [g2]; exact h2, upF_adv ha f a c h3⟩
theorem Up.adv {l l' : List Sh} (ha : Adv l l') {a b : Nat} (h : Up l a b) : Up l' a b := by
  obtain ⟨f, h⟩ := h
  exact ⟨f, upF_adv ha f a b h⟩
theorem upF_le {l : List Sh} (hI : Inv l) : ∀ (f a b : Nat), upF l f a b → a ≤ b
  | 0, _, _, h => by unfold upF at h; omega
  | f + 1, a, b, ⟨c, s, h1, h2, h3⟩ => by
    have := upF_le hI f a c h3
    obtain ⟨q, _, e, hq, _⟩ := hI.parR b s h1 _ h2
    omega
theorem Up.le {l : List Sh} (hI : Inv l) {a b : Nat} (h : Up l a b) : a ≤ b := by
  obtain ⟨f, h⟩ := h
  exact upF_le hI f a b h
theorem upF_fin {l : List Sh} (hI : Inv l) (dn : Nat → Int) : ∀ (f a b : Nat), upF l f a b → a ≠ b → rdy l dn b = true → fin l dn a = true
  | 0, _, _, h, hn, _ => absurd h hn
  | f + 1, a, b, ⟨c, s, h1, h2, h3⟩, _, hr => by
    rw [rdy_is dn h1, List.all_eq_true] at hr
    have hf : fin l dn c = true := by simpa using hr _ h2
    by_cases e : a = c
    · subst e; exact hf
    · obtain ⟨q, t, e1, hq, ht, _⟩ := hI.parR b s h1 _ h2
      have e2 : q = c := by omega
      subst e2
      rw [fin_is hI dn ht, Bool.and_eq_true] at hf
      exact upF_fin hI dn f a q h3 e hf.1
/-- What is ready waits for no one that it came of. -/
theorem Up.fin {l : List Sh} (hI : Inv l) (dn : Nat → Int) {a b : Nat} (h : Up l a b) (hn : a ≠ b) (hr : rdy l dn b = true) : Go.Proofs.Ytpnkmnmchdabkaa.fin l dn a = true := by
  obtain ⟨f, h⟩ := h
  exact upF_fin hI dn f a b h hn hr

theorem held_add (E : List En) (x : En) (j : Nat) : held (E ++ [x]) j = held E j + if x.shard = j then 1 else 0 := by
  unfold held
  rw [List.filter_append, List.length_append]
  by_cases hk : x.shard = j <;> simp [hk]

/-- What the law knows of the records: they are those of the log, in their order; those of a key lie one shard behind the other. -/
structure EntOk (l : List Sh) (E : List En) : Prop where
  lt : ∀ e ∈ E, e.shard < l.length ∧ e.key.size ≤ maxLen
  rl : ∀ (k : Nat) (s : Sh), l[k]? = some s → (E.filter (fun e => e.shard == k)).map enRc = s.rl
  pl : ∀ (i : Nat) (e : En), E[i]? = some e → e.place = held (E.take i) e.shard
  key : ∀ e ∈ E, keyB e.key = true ∧ -1000000 ≤ e.value ∧ e.value ≤ 1000000 ∧ 0 ≤ e.time ∧ e.time ≤ 1000000
  hom : ∀ e ∈ E, ∀ (q : Nat) (s : Sh), Home l (hashL e.key.data.toList) q s → Up l e.shard q
  ord : ∀ (i j : Nat) (e f : En), i < j → E[i]? = some e → E[j]? = some f → e.key = f.key → Up l e.shard f.shard
theorem entOk_nil : EntOk [⟨0, 256, true, [], []⟩] [] := by
  refine ⟨by simp, fun k s hs => ?_, by simp, by simp, by simp, by simp⟩
  match k, hs with
  | 0, hs => simp at hs; subst hs; rfl
  | k + 1, hs => simp at hs

theorem home_put {l : List Sh} {k : Nat} {x : Sh} (hx : l[k]? = some x) (r : List Rc) {h : Int} {q : Nat} {s : Sh} (hh : Home (l.set k { x with rl := r }) h q s) : ∃ s', Home l h q s' := by
  have hkl := (List.getElem?_eq_some_iff.1 hx).1
  obtain ⟨h1, h2, h3⟩ := hh
  have to_ : ∀ {i : Nat} {t : Sh}, l[i]? = some t → acc t h = true → i = q := by
    intro i t ht ha
    by_cases e : k = i
    · subst e
      rw [hx] at ht
      cases ht
      exact h3 k _ (List.getElem?_set_self hkl) (by rw [acc_iff] at ha ⊢; exact ha)
    · exact h3 i t (by rw [List.getElem?_set_ne e]; exact ht) ha
  by_cases e : k = q
  · subst e
    rw [List.getElem?_set_self hkl] at h1
    injection h1 with h1
    subst h1
    exact ⟨x, hx, by rw [acc_iff] at h2 ⊢; exact h2, fun j t ht ha => to_ ht ha⟩
  · rw [List.getElem?_set_ne e] at h1
    exact ⟨s, h1, h2, fun j t ht ha => to_ ht ha⟩

/-- A record more, at home. -/
theorem EntOk.put {l : List Sh} {E : List En} (h : EntOk l E) {k : Nat} {x : Sh} {key : ByteArray} {v t : Int} (hx : Home l (hashL key.data.toList) k x) (hadv : Adv l (l.set k { x with rl := x.rl ++ [⟨key.data.toList, v, t⟩] })) (hc : held E k = x.cnt) (hs : key.size ≤ maxLen) (hk : keyB key = true ∧ -1000000 ≤ v ∧ v ≤ 1000000 ∧ 0 ≤ t ∧ t ≤ 1000000) :
    EntOk (l.set k { x with rl := x.rl ++ [⟨key.data.toList, v, t⟩] }) (E ++ [⟨k, x.cnt, key, v, t⟩]) := by
  have hkl := (List.getElem?_eq_some_iff.1 hx.1).1
  have hmem : ∀ {e : En}, e ∈ E ++ [⟨k, x.cnt, key, v, t⟩] → e ∈ E ∨ e = ⟨k, x.cnt, key, v, t⟩ := fun he => by simpa using he
  have hat : ∀ {i : Nat} {e : En}, (E ++ [⟨k, x.cnt, key, v, t⟩])[i]? = some e → (i < E.length ∧ E[i]? = some e) ∨ (i = E.length ∧ e = ⟨k, x.cnt, key, v, t⟩) := by
    intro i e he
    by_cases hi : i < E.length
    · rw [List.getElem?_append_left hi] at he
      exact Or.inl ⟨hi, he⟩
    · rw [List.getElem?_append_right (by omega)] at he
      have h0 := (List.getElem?_eq_some_iff.1 he).1
      simp at h0
      have e0 : i = E.length := by omega
      subst e0
      simp at he
      exact Or.inr ⟨rfl, he.symm⟩
  refine ⟨fun e he => ?_, fun j s hj => ?_, fun i e he => ?_, fun e he => ?_, fun e he q s hq => ?_, fun i j e f hij hi hj hef => ?_⟩
  · rw [List.length_set]
    rcases hmem he with he | rfl
    · exact h.lt e he
    · exact ⟨hkl, hs⟩
  · rw [List.filter_append, List.map_append]
    by_cases e : k = j
    · subst e
      rw [List.getElem?_set_self hkl] at hj
      injection hj with hj
      subst hj
      rw [h.rl k x hx.1]
      simp [enRc]
    · rw [List.getElem?_set_ne e] at hj
      rw [h.rl j s hj]
      simp [e]
  · rcases hat he with ⟨hi, he⟩ | ⟨rfl, rfl⟩
    · rw [List.take_append_of_le_length (by omega)]
      exact h.pl i e he
    · rw [List.take_append_of_le_length (by omega), List.take_length]
      exact hc.symm
  · rcases hmem he with he | rfl
    · exact h.key e he
    · exact hk
  · obtain ⟨s', hs'⟩ := home_put hx.1 _ hq
    rcases hmem he with he | rfl
    · exact (h.hom e he q s' hs').adv hadv
    · have e0 : k = q := hs'.2.2 k x hx.1 hx.2.1
      subst e0
      exact Up.refl _ _
  · rcases hat hj with ⟨hj1, hj⟩ | ⟨rfl, rfl⟩
    · rcases hat hi with ⟨hi1, hi⟩ | ⟨rfl, rfl⟩
      · exact (h.ord i j e f hij hi hj hef).adv hadv
      · omega
    · rcases hat hi with ⟨hi1, hi⟩ | ⟨rfl, rfl⟩
      · have := h.hom e (List.mem_of_getElem? hi) k x (by rw [hef]; exact hx)
        exact this.adv hadv
      · omega

/-- Where a hash has come to, when some are closed and some are new. -/
def Moved (l l' : List Sh) : Prop := ∀ (h : Int) (q : Nat) (s : Sh), 0 ≤ h → h < 256 → Home l' h q s → ∃ q' s', Home l h q' s' ∧ (q' = q ∨ (q' : Int) ∈ s.par)
theorem EntOk.more {l : List Sh} {E : List En} (h : EntOk l E) (c m : List Sh) (hcl : c.length = l.length) (hat : ∀ (j : Nat) (t : Sh), c[j]? = some t → ∃ t', l[j]? = some t' ∧ t.cnt = t'.cnt) (hm : ∀ (j : Nat) (t : Sh), m[j]? = some t → t.cnt = 0) (ha : Adv l c) (ha2 : Adv c (c ++ m)) (hmv : Moved l (c ++ m)) : EntOk (c ++ m) E := by
  have hadv := ha.trans ha2
  refine ⟨fun e he => ?_, fun j t ht => ?_, h.pl, h.key, fun e he q s hq => ?_, fun i j e f hij hi hj hef => (h.ord i j e f hij hi hj hef).adv hadv⟩
  · have := h.lt e he
    refine ⟨?_, this.2⟩
    rw [List.length_append]; omega
  · by_cases hlt : j < c.length
    · rw [List.getElem?_append_left hlt] at ht
      obtain ⟨t', h1, h2⟩ := hat j t ht
      obtain ⟨t2, g1, _, g3, _⟩ := ha j t' h1
      rw [ht] at g1
      injection g1 with g1
      subst g1
      rw [h.rl j t' h1]
      exact g3.eq_of_length h2.symm
    · rw [List.getElem?_append_right (by omega)] at ht
      have h0 := hm _ t ht
      have e1 : t.rl = [] := List.length_eq_zero_iff.1 h0
      rw [e1, List.map_eq_nil_iff, List.filter_eq_nil_iff]
      intro e he
      have := (h.lt e he).1
      simp; omega
  · have hb := hashL_bd e.key.data.toList
    obtain ⟨q', s', hq', e1⟩ := hmv _ q s hb.1 hb.2 hq
    have hu := (h.hom e he q' s' hq').adv hadv
    rcases e1 with rfl | e1
    · exact hu
    · exact hu.step hq.1 e1

/-- What is tagged lies from N on; what X tells is not tagged, and lies there. -/
def Low (N : Nat) (X : Nat → Option Obj) (w : World) (ρ : Nat → Nat) : Prop := (∀ k, ρ k ≠ 0 → N ≤ k) ∧ ∀ (k : Nat) (o : Obj), X k = some o → ρ k = 0 ∧ w.heap[k]? = some o
theorem Low.still {N : Nat} {X : Nat → Option Obj} {w w' : World} {ρ : Nat → Nat} {S : Nat → Prop} (h : Low N X w ρ) (hk : Keeps S w w') (hS : ∀ k, k < w.heap.size → S k → ρ k ≠ 0) : Low N X w' ρ :=
  ⟨h.1, fun k o hx => by
    obtain ⟨a, b⟩ := h.2 k o hx
    have hl := lt_of_heap b
    exact ⟨a, (hk.block k hl (fun hs => hS k hl hs a)).trans b⟩⟩
theorem Low.keeps {N : Nat} {X : Nat → Option Obj} {w w' : World} {ρ ρ' : Nat → Nat} {S : Nat → Prop} (h : Low N X w ρ) (hN : N ≤ w.heap.size) (hk : Keeps S w w') (hS : ∀ k, k < w.heap.size → S k → ρ k ≠ 0) (he : ∀ k, k < w.heap.size → ρ' k = ρ k) : Low N X w' ρ' :=
  ⟨fun k hk0 => by
    by_cases hlt : k < w.heap.size
    · exact h.1 k (by rw [← he k hlt]; exact hk0)
    · omega, fun k o hx => by
    obtain ⟨a, b⟩ := h.2 k o hx
    have hl := lt_of_heap b
    exact ⟨(he k hl).trans a, (hk.block k hl (fun hs => hS k hl hs a)).trans b⟩⟩

/-- THE CREW: what the law keeps (its block: 100; the row of its entries: 101), its group. N: how many blocks there were at first. -/
structure Crew (t : Bool) (B : Bd) (N : Nat) (w : World) (ρ : Nat → Nat) (cb gb : Nat) (C : Cfg) (now : Rest) (l : List Sh) (E : List En) (n : Nat) : Prop where
  ent : ∃ ev, w.heap[cb]? = some (.cells (crewArr C gb ev n) 31 (0, 0)) ∧ w.ownsRow 0 59 5 ev E.length (entCells E) ∧ ∀ k, ev.ownBlock = some k → ρ k = 101
  tag : ρ cb = 100
  grp : Grp w ρ gb C now l
  inv : Inv l
  fits : Fits w ρ
  low : Low N B.X w ρ
  cnt : ∀ (k : Nat) (s : Sh), l[k]? = some s → held E k = s.cnt
  tot : E.length = (l.map (·.cnt)).sum
  rng : EntOk l E
  val : validB C.a C.l C.b C.n C.s C.t = true
  wok : Wok t B C l now

theorem sum_le : ∀ (l : List Sh), (∀ (i : Nat) (s : Sh), l[i]? = some s → s.cnt ≤ 32) → (l.map (·.cnt)).sum ≤ 32 * l.length
  | [], _ => by simp
  | s :: r, h => by
    have h1 := h 0 s rfl
    have h2 := sum_le r (fun i t hi => h (i + 1) t (by simpa using hi))
    simp only [List.map_cons, List.sum_cons, List.length_cons]
    omega
theorem Crew.short {t : Bool} {B : Bd} {N : Nat} {w : World} {ρ : Nat → Nat} {cb gb : Nat} {C : Cfg} {now : Rest} {l : List Sh} {E : List En} {n : Nat} (h : Crew t B N w ρ cb gb C now l E n) : E.length ≤ 512 := by
  have h1 := sum_le l h.inv.cnt
  have h2 := h.inv.len
  rw [h.tot]; omega

/-- What a walk wants of the crew. -/
theorem crew_cells {w : World} {cb gb : Nat} {C : Cfg} {E : List En} {n : Nat} (h : ∃ ev, w.heap[cb]? = some (.cells (crewArr C gb ev n) 31 (0, 0)) ∧ w.ownsRow 0 59 5 ev E.length (entCells E)) :
    ∃ ea ecap, w.cell? ⟨cb, 0, none⟩ = some (.int .i64 C.a) ∧ w.cell? ⟨cb, 6, none⟩ = some (.pointer (some ⟨gb, 0, none⟩)) ∧ w.cell? ⟨cb, 7, none⟩ = some (.slice ea E.length ecap) ∧ w.cell? ⟨cb, 8, none⟩ = some (.int .i64 n) ∧ (∀ j, w.frozen? ⟨cb, j, none⟩ = false) ∧ cb < w.heap.size ∧
      (0 < E.length → ∃ eb, ea = some ⟨eb, 0, none⟩ ∧ eb < w.heap.size ∧ ∀ (i : Nat) (e : En), E[i]? = some e → w.cell? ⟨eb, i * 5, none⟩ = some (.int .i64 e.shard) ∧ w.cell? ⟨eb, i * 5 + 1, none⟩ = some (.int .i64 e.place) ∧ w.cell? ⟨eb, i * 5 + 2, none⟩ = some (.string e.key) ∧ w.cell? ⟨eb, i * 5 + 3, none⟩ = some (.int .i64 e.value) ∧ w.cell? ⟨eb, i * 5 + 4, none⟩ = some (.int .i64 e.time)) := by
  obtain ⟨ev, hb, ho⟩ := h
  obtain ⟨ea, ecap, rfl⟩ := ownsRow_len ho
  refine ⟨ea, ecap, cell_of hb 0, cell_of hb 6, cell_of hb 7, cell_of hb 8, fun j => frozen_of hb j, lt_of_heap hb, fun hpos => ?_⟩
  obtain ⟨g, cap, cur, hv, _, hg, _⟩ := ownsRow_shape ho hpos
  injection hv with e1 e2 e3
  subst e1
  refine ⟨g, rfl, lt_of_heap hg, fun i e hi => ?_⟩
  have hlt := (List.getElem?_eq_some_iff.1 hi).1
  have hcell : ∀ j, j < 5 → w.cell? ⟨g, i * 5 + j, none⟩ = (enCells e)[j]? := by
    intro j hj
    rw [World.ownsRow.cellAt ho (i * 5 + j) (by omega), entCells_get E i j hj e hi]
  exact ⟨hcell 0 (by omega), hcell 1 (by omega), hcell 2 (by omega), hcell 3 (by omega), hcell 4 (by omega)⟩

theorem Crew.ent2 {t : Bool} {B : Bd} {N : Nat} {w : World} {ρ : Nat → Nat} {cb gb : Nat} {C : Cfg} {now : Rest} {l : List Sh} {E : List En} {n : Nat} (h : Crew t B N w ρ cb gb C now l E n) : ∃ ev, w.heap[cb]? = some (.cells (crewArr C gb ev n) 31 (0, 0)) ∧ w.ownsRow 0 59 5 ev E.length (entCells E) := by
  obtain ⟨ev, a, b, _⟩ := h.ent
  exact ⟨ev, a, b⟩

/-- New memory alone: the crew is as it was. -/
theorem Crew.below {t : Bool} {B : Bd} {N : Nat} {w w' : World} {ρ : Nat → Nat} {cb gb : Nat} {C : Cfg} {now : Rest} {l : List Sh} {E : List En} {n : Nat} (h : Crew t B N w ρ cb gb C now l E n) (hb : Below w.heap.size w w') : Crew t B N w' ρ cb gb C now l E n := by
  obtain ⟨ev, h1, h2, h3⟩ := h.ent
  obtain ⟨sv, m, rfl, G⟩ := h.grp
  refine ⟨⟨ev, (hb.block cb (lt_of_heap h1)).trans h1, ownsRow_of_block h2 fun k hk => hb.block k (h2.lt k hk).2, h3⟩, h.tag, ⟨sv, m, rfl, G.keeps (Keeps.of_below hb) (fun j hj => Or.inr hj) (fun _ _ => rfl) (by have := h.inv.len; simpa using this)⟩, h.inv, fun k hk => h.fits k (by have := hb.size; omega), h.low.still (Keeps.of_below hb) (fun k hk hs => absurd hk (by omega)), h.cnt, h.tot, h.rng, h.val, h.wok⟩

theorem Crew.next {t : Bool} {B : Bd} {N : Nat} {w : World} {ρ : Nat → Nat} {cb gb : Nat} {C : Cfg} {now : Rest} {l : List Sh} {E : List En} {n : Nat} (h : Crew t B N w ρ cb gb C now l E n) : Crew true B.up N w ρ cb gb C now l E n := ⟨h.ent, h.tag, h.grp, h.inv, h.fits, h.low, h.cnt, h.tot, h.rng, h.val, h.wok.next⟩
theorem Crew.loose {t : Bool} {B : Bd} {N : Nat} {w : World} {ρ : Nat → Nat} {cb gb : Nat} {C : Cfg} {now : Rest} {l : List Sh} {E : List En} {n : Nat} (h : Crew t B N w ρ cb gb C now l E n) : Crew false B N w ρ cb gb C now l E n := ⟨h.ent, h.tag, h.grp, h.inv, h.fits, h.low, h.cnt, h.tot, h.rng, h.val, h.wok.loose⟩

/-- A call that changes the group: the law's own memory stands. -/
theorem Crew.post {t : Bool} {B : Bd} {N : Nat} {w w' : World} {ρ : Nat → Nat} {cb gb : Nat} {C : Cfg} {now now' : Rest} {l l' : List Sh} {E : List En} {n : Nat} (h : Crew t B N w ρ cb gb C now l E n) (hN : N ≤ w.heap.size) (hp : GrpPost w ρ gb C now' l' w') :
    ∃ ρ' ev, Grp w' ρ' gb C now' l' ∧ w'.heap[cb]? = some (.cells (crewArr C gb ev n) 31 (0, 0)) ∧ w'.ownsRow 0 59 5 ev E.length (entCells E) ∧ (∀ k, ev.ownBlock = some k → ρ' k = 101) ∧ ρ' cb = 100 ∧ Fits w' ρ' ∧ Low N B.X w' ρ' ∧ Keeps (mine ρ) w w' ∧ Ext w.heap.size ρ ρ' := by
  obtain ⟨ρ', sv', m', e1, G', hk, he, hf⟩ := hp
  obtain ⟨ev, h1, h2, h3⟩ := h.ent
  have hcb := lt_of_heap h1
  refine ⟨ρ', ev, ⟨sv', m', e1, G'⟩, ?_, ?_, ?_, ?_, hf, ?_, hk, he⟩
  · rw [hk.block cb hcb (fun hm => by unfold mine at hm; rw [h.tag] at hm; omega)]; exact h1
  · exact ownsRow_keeps h2 hk (fun k hkk hm => by unfold mine at hm; rw [h3 k hkk] at hm; omega)
  · intro k hkk; rw [he.1 k (h2.lt k hkk).2]; exact h3 k hkk
  · rw [he.1 cb hcb]; exact h.tag
  · exact h.low.keeps hN hk (fun k _ hm => by unfold mine at hm; omega) he.1

/-- The memory that was there when the law began stands. -/
theorem Crew.old {t : Bool} {B : Bd} {N : Nat} {w w' : World} {ρ : Nat → Nat} {cb gb : Nat} {C : Cfg} {now : Rest} {l : List Sh} {E : List En} {n : Nat} (h : Crew t B N w ρ cb gb C now l E n) (hN : N ≤ w.heap.size) (hk : Keeps (fun k => ρ k ≠ 0) w w') : Below N w w' :=
  hk.below hN fun k _ hs => h.low.1 k hs

set_option maxHeartbeats 400000 in
theorem pick_any (c n : Int) (w : World) (h1 : -9223372036854775808 ≤ c) (h2 : c ≤ 9223372036854775807) (hn : 1 ≤ n) (hn2 : n ≤ 1000) :
    Calls Try.prog 13 #[.int .i64 c, .int .i64 n] w fun e w' => ∃ r : Nat, e = .returned (.int .i64 r) ∧ (r : Int) < n ∧ w = w' := by
  have hn0 : ¬ n = 0 := by omega
  by_cases hc : c < 0
  · obtain ⟨r, hr⟩ := Int.eq_ofNat_of_zero_le (Int.emod_nonneg (-(c + 1)) hn0)
    have hlt := Int.emod_lt_of_pos (-(c + 1)) (show 0 < n by omega)
    have HR := hide hr
    clear hr
    go_enter Try.func13, Try.ntmps13
    go_wp2
    go_ret
    exact ⟨r, ret_int (by rw [← unhide HR, ← Int.neg_tmod, Int.tmod_eq_emod_of_nonneg (by omega)]), by rw [← unhide HR]; exact hlt, rfl⟩
  · obtain ⟨r, hr⟩ := Int.eq_ofNat_of_zero_le (Int.emod_nonneg c hn0)
    have hlt := Int.emod_lt_of_pos c (show 0 < n by omega)
    have HR := hide hr
    clear hr
    go_enter Try.func13, Try.ntmps13
    go_wp2
    go_ret
    exact ⟨r, ret_int (by rw [← unhide HR]), by rw [← unhide HR]; exact hlt, rfl⟩

theorem held_take (E : List En) (k i : Nat) (e : En) (h : E[i]? = some e) : held (E.take (i + 1)) k = held (E.take i) k + if e.shard = k then 1 else 0 := by
  have hi := (List.getElem?_eq_some_iff.1 h).1
  have he : E[i] = e := (List.getElem?_eq_some_iff.1 h).2
  unfold held
  rw [List.take_succ_eq_append_getElem hi, List.filter_append, List.length_append, he]
  by_cases hk : e.shard = k <;> simp [hk]
theorem held_le (E : List En) (k : Nat) : held E k ≤ E.length := List.length_filter_le _ _

set_option maxHeartbeats 400000 in
theorem count_raw {w : World} {cb : Nat} {E : List En} {ea : Option Addr} {ecap : Nat} (hs : E.length ≤ 512) (c7 : w.cell? ⟨cb, 7, none⟩ = some (.slice ea E.length ecap))
    (hE : 0 < E.length → ∃ eb, ea = some ⟨eb, 0, none⟩ ∧ eb < w.heap.size ∧ ∀ (i : Nat) (e : En), E[i]? = some e → w.cell? ⟨eb, i * 5, none⟩ = some (.int .i64 e.shard) ∧ w.cell? ⟨eb, i * 5 + 1, none⟩ = some (.int .i64 e.place) ∧ w.cell? ⟨eb, i * 5 + 2, none⟩ = some (.string e.key) ∧ w.cell? ⟨eb, i * 5 + 3, none⟩ = some (.int .i64 e.value) ∧ w.cell? ⟨eb, i * 5 + 4, none⟩ = some (.int .i64 e.time)) (k : Nat) :
    Calls Try.prog 18 #[.pointer (some ⟨cb, 0, none⟩), .int .i64 k] w fun e w' => e = .returned (.int .i64 (held E k)) ∧ w = w' := by
  go_enter Try.func18, Try.ntmps18
  go_wp2
  go_loop [5, 6] (fun q i => ∃ j : Nat, j ≤ E.length ∧ i = .int .i64 j ∧ q = .int .i64 (held (E.take j) k)) (fun _ i => E.length - (intOf i).toNat)
  case atStart => exact ⟨0, Nat.zero_le _, rfl, rfl⟩
  case round =>
    obtain ⟨j, hj, rfl, rfl⟩ := hrel
    by_cases hlt : j < E.length
    · obtain ⟨eb, rfl, _, hcell⟩ := hE (by omega)
      obtain ⟨e, he⟩ : ∃ e, E[j]? = some e := ⟨E[j], List.getElem?_eq_getElem hlt⟩
      obtain ⟨c0, _⟩ := hcell j e he
      have HS := hide (held_take E k j e he)
      have hbd : held (E.take j) k ≤ 512 := by have := held_le (E.take j) k; rw [List.length_take] at this; omega
      have HE := hide hE
      clear hcell he hE
      by_cases hk : e.shard = k
      · have d : ((e.shard : Int) == (k : Int)) = true := by simp [hk]
        have HK := hide hk
        clear hk
        go_wp2
        go_round
        case rel => exact ⟨j + 1, by omega, by go_num, by rw [unhide HS, if_pos (unhide HK)]; go_num⟩
        case measure => simp [intOf]; omega
      · have d : ((e.shard : Int) == (k : Int)) = false := by rw [beq_eq_false_iff_ne]; omega
        have HK := hide hk
        clear hk
        go_wp2
        go_round
        case rel => exact ⟨j + 1, by omega, by go_num, by rw [unhide HS, if_neg (unhide HK)]; go_num⟩
        case measure => simp [intOf]; omega
    · have HE := hide hE
      clear hE
      go_wp2
      go_ret
      exact ⟨ret_int (by rw [List.take_of_length_le (by omega)]), rfl⟩

end Go.Proofs.Ytpnkmnmchdabkaa
