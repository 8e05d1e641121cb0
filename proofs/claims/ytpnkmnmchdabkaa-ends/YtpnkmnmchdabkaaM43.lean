import Derived.Test.YtpnkmnmchdabkaaGRead
import Derived.Deep.WholeRow
import Derived.Test.YtpnkmnmchdabkaaM30
import Derived.Test.YtpnkmnmchdabkaaM38
namespace Go.Proofs.Ytpnkmnmchdabkaa
open Go.RowKit

/-- What the law has added up, T, beside what the program has, x, behind j records. -/
structure SumI (j : Nat) (x : Su) (T : Int) : Prop where
  s0 : x.o = false → x.s = T
  s1 : x.o = true → x.s = 0
  z : x.c = 0 → x = su0 ∧ T = 0
  c : 0 ≤ x.c ∧ x.c ≤ j
  lt : 0 ≤ x.lt ∧ x.lt ≤ j
  t : -(1000000 * (j : Int)) ≤ T ∧ T ≤ 1000000 * (j : Int)
theorem SumI.zero : SumI 0 su0 0 := ⟨fun _ => rfl, fun h => (by cases h), fun _ => ⟨rfl, rfl⟩, by simp [su0], by simp [su0], by simp⟩
theorem SumI.same {j : Nat} {x : Su} {T : Int} (h : SumI j x T) : SumI (j + 1) x T := by
  obtain ⟨a, b, c, d, e, f⟩ := h
  exact ⟨a, b, c, by omega, by omega, by omega⟩
theorem pls_is {a b : Int} (h : -1000000000000 ≤ a ∧ a ≤ 1000000000000) (h' : -1000000000000 ≤ b ∧ b ≤ 1000000000000) : pls a b = a + b := by unfold pls; rw [IntKind.wrap_i64]; omega
def ovr (x : Su) (T : Int) : Bool := x.o || decide (1000000 < T) || decide (T < -1000000)
theorem SumI.add {j : Nat} {x : Su} {T : Int} (h : SumI j x T) (hj : j ≤ 1000) (v : Int) (late : Bool) (hv : -1000000 ≤ v ∧ v ≤ 1000000) :
    ∃ s, addS x v late = ⟨x.c + 1, s, if x.c = 0 ∨ v < x.mn then v else x.mn, if x.c = 0 ∨ x.mx < v then v else x.mx, if x.c = 0 then v else x.f, v, if late = true then x.lt + 1 else x.lt, ovr x (T + v)⟩ ∧ SumI (j + 1) (addS x v late) (T + v) := by
  obtain ⟨a, b, c, d, e, f⟩ := h
  have hc : pls x.c 1 = x.c + 1 := pls_is (by omega) (by omega)
  have hl : pls x.lt 1 = x.lt + 1 := pls_is (by omega) (by omega)
  unfold addS addV
  rw [hc, hl]
  cases ho : x.o
  · have hT := a ho
    have hs : pls x.s v = T + v := by rw [hT]; exact pls_is (by omega) (by omega)
    simp only [Bool.false_eq_true, if_false]
    rw [hs]
    by_cases h1 : 1000000 < T + v
    · rw [if_pos (by simp [h1])]
      have hov : ovr x (T + v) = true := by unfold ovr; simp [h1]
      refine ⟨0, by rw [hov], ⟨fun h => (by cases h), fun _ => rfl, fun h => ?_, ?_, ?_, ?_⟩⟩
      · exact absurd h (by show x.c + 1 ≠ 0; omega)
      · show 0 ≤ x.c + 1 ∧ x.c + 1 ≤ ((j + 1 : Nat) : Int); omega
      · show 0 ≤ (if late = true then x.lt + 1 else x.lt) ∧ (if late = true then x.lt + 1 else x.lt) ≤ ((j + 1 : Nat) : Int); split <;> omega
      · omega
    · by_cases h2 : T + v < -1000000
      · rw [if_pos (by simp [h2])]
        have hov : ovr x (T + v) = true := by unfold ovr; simp [h2]
        refine ⟨0, by rw [hov], ⟨fun h => (by cases h), fun _ => rfl, fun h => ?_, ?_, ?_, ?_⟩⟩
        · exact absurd h (by show x.c + 1 ≠ 0; omega)
        · show 0 ≤ x.c + 1 ∧ x.c + 1 ≤ ((j + 1 : Nat) : Int); omega
        · show 0 ≤ (if late = true then x.lt + 1 else x.lt) ∧ (if late = true then x.lt + 1 else x.lt) ≤ ((j + 1 : Nat) : Int); split <;> omega
        · omega
      · rw [if_neg (by simp [h1, h2])]
        have hov : ovr x (T + v) = false := by unfold ovr; simp [h1, h2, ho]
        refine ⟨T + v, by rw [hov], ⟨fun _ => rfl, fun h => (by cases h), fun h => ?_, ?_, ?_, ?_⟩⟩
        · exact absurd h (by show x.c + 1 ≠ 0; omega)
        · show 0 ≤ x.c + 1 ∧ x.c + 1 ≤ ((j + 1 : Nat) : Int); omega
        · show 0 ≤ (if late = true then x.lt + 1 else x.lt) ∧ (if late = true then x.lt + 1 else x.lt) ≤ ((j + 1 : Nat) : Int); split <;> omega
        · omega
  · have hs := b ho
    have hov : ovr x (T + v) = true := by unfold ovr; simp [ho]
    simp only [if_true]
    refine ⟨x.s, by rw [hov], ⟨fun h => (by cases h), fun _ => hs, fun h => ?_, ?_, ?_, ?_⟩⟩
    · exact absurd h (by show x.c + 1 ≠ 0; omega)
    · show 0 ≤ x.c + 1 ∧ x.c + 1 ≤ ((j + 1 : Nat) : Int); omega
    · show 0 ≤ (if late = true then x.lt + 1 else x.lt) ∧ (if late = true then x.lt + 1 else x.lt) ≤ ((j + 1 : Nat) : Int); split <;> omega
    · omega
/-- The sum as the law tells it. -/
theorem SumI.end {j : Nat} {x : Su} {T : Int} (h : SumI j x T) : x.s = if x.o = true then 0 else T := by
  cases ho : x.o
  · rw [h.s0 ho]; simp
  · rw [h.s1 ho]; simp

end Go.Proofs.Ytpnkmnmchdabkaa
namespace Go.Proofs.Ytpnkmnmchdabkaa
open Go.RowKit

/-- The cells of what a window holds. -/
def suA (x : Su) : Array Value := #[.int .i64 x.c, .int .i64 x.s, .int .i64 x.mn, .int .i64 x.mx, .int .i64 x.f, .int .i64 x.l, .int .i64 x.lt, .bool x.o]
theorem suV_A (x : Su) : suV x = .agg (suA x) := rfl
theorem suA_size (x : Su) : (suA x).size = 8 := rfl
theorem suA_one (x : Su) : (suA x).all (·.oneCell') = true := by simp [suA, Value.oneCell']
theorem infoSum : (Try.prog.info? 132).map (fun i => (i.zero, i.size)) = some (some (.agg (suA su0)), 8) := by kernel_rfl
theorem infoSumSize : (Try.prog.info? 132).map (·.size) = some 8 := by kernel_rfl
theorem zvSum (w : World) : (zeroValue 132).run Try.prog w = .ok (.agg (suA su0)) w := (zero_of_info infoSum).1 w
/-- The load and the store of it, kept shut for the walk. -/
def ldU (a : Addr) : Sem Value := loadVar 132 a
def stU (a : Addr) (v : Value) : Sem Unit := storeVar 132 a v
theorem ldU_shut (a : Addr) : loadVar 132 a = ldU a := rfl
theorem stU_shut (a : Addr) (v : Value) : storeVar 132 a v = stU a v := rfl
theorem ldU_is {w : World} {b : Nat} {x : Su} {t : TypeId} {f : Nat × Nat} (h : w.heap[b]? = some (.cells (suA x) t f)) : (ldU ⟨b, 0, none⟩).run Try.prog w = .ok (.agg (suA x)) w :=
  run_loadVar_row w b t _ (suA x) f _ h Try.underlying132 rfl infoSumSize
theorem stU_is {w : World} {b : Nat} {x y : Su} {t : TypeId} (h : w.heap[b]? = some (.cells (suA x) t (0, 0))) : (stU ⟨b, 0, none⟩ (.agg (suA y))).run Try.prog w = .ok () (w.setRow b (suA y)) :=
  run_storeVar_row w b t _ (suA x) (suA y) h infoSumSize rfl (suA_one y)
theorem stU_new (w : World) (n : Nat) (x y : Su) (hn : n = w.heap.size) : (stU ⟨n, 0, none⟩ (.agg (suA y))).run Try.prog (w.alloc (.cells (suA x) 132)) = .ok () (w.alloc (.cells (suA y) 132)) := by
  subst hn
  rw [stU_is (heap_alloc_new w _), World.setRow_alloc_new]

end Go.Proofs.Ytpnkmnmchdabkaa
namespace Go.Proofs.Ytpnkmnmchdabkaa
open Go.RowKit

theorem lat_mono {a b a' b' : Int} (h : a ≤ a') (h' : b ≤ b') : lat a b ≤ lat a' b' := by unfold lat; split <;> split <;> omega
theorem lat_left (a b : Int) : a ≤ lat a b := by unfold lat; split <;> omega
theorem ahUp_more (a : Int) (rl : List Rc) (p : Nat) : ∀ q, ahUp a rl p ≤ ahUp a rl (p + q)
  | 0 => Int.le_refl _
  | q + 1 => by
    refine Int.le_trans (ahUp_more a rl p q) ?_
    show _ ≤ ahUp a rl (p + q + 1)
    have e : ahUp a rl (p + q + 1) = match rl[p + q]? with
      | some r => lat (ahUp a rl (p + q)) r.t
      | none => ahUp a rl (p + q) := rfl
    rw [e]
    cases rl[p + q]? with
    | none => exact Int.le_refl _
    | some r => exact lat_left _ _
theorem ahUp_same {a a' : Int} (h : a ≤ a') {rl rl' : List Rc} (hp : rl <+: rl') : ∀ p, p ≤ rl.length → ahUp a rl p ≤ ahUp a' rl' p
  | 0, _ => h
  | p + 1, hl => by
    have ih := ahUp_same h hp p (by omega)
    obtain ⟨r, hr⟩ : ∃ r, rl[p]? = some r := ⟨rl[p], List.getElem?_eq_getElem (by omega)⟩
    have hr' : rl'[p]? = some r := by
      obtain ⟨t, rfl⟩ := hp
      rw [List.getElem?_append_left (by omega)]; exact hr
    unfold ahUp
    rw [hr, hr']
    exact lat_mono ih (Int.le_refl _)
theorem ahUp_mono {a a' : Int} (h : a ≤ a') {rl rl' : List Rc} (hp : rl <+: rl') {p p' : Nat} (hl : p ≤ rl.length) (hpp : p ≤ p') : ahUp a rl p ≤ ahUp a' rl' p' := by
  obtain ⟨q, rfl⟩ := Nat.exists_eq_add_of_le hpp
  exact Int.le_trans (ahUp_same h hp p hl) (ahUp_more a' rl' p q)

theorem wmUp_stay (l : List Sh) (d : Nat → Nat) {k n : Nat} (h : k < n) : ∀ m, (wmUp l d (n + m))[k]? = (wmUp l d n)[k]?
  | 0 => rfl
  | m + 1 => by
    rw [← wmUp_stay l d h m]
    show (wmUp l d (n + m + 1))[k]? = _
    rw [wmUp]
    cases l[n + m]? with
    | none => rfl
    | some s => exact List.getElem?_set_ne (by omega)
theorem wmUp_at {l : List Sh} {d : Nat → Nat} {k n : Nat} {s : Sh} (hk : l[k]? = some s) (h16 : k < 16) (h : k < n) : (wmUp l d n)[k]? = some (ahUp (topOf (wmUp l d k) s.par) s.rl (d k)) := by
  obtain ⟨m, rfl⟩ := Nat.exists_eq_add_of_le (show k + 1 ≤ n by omega)
  rw [wmUp_stay l d (Nat.lt_succ_self k) m, wmUp, hk]
  exact List.getElem?_set_self (by rw [wmUp_len]; exact h16)
theorem fold_mono {wm wm' : List Int} : ∀ (par : List Int) (a a' : Int), a ≤ a' → (∀ p ∈ par, (wm[p.toNat]?).getD 0 ≤ (wm'[p.toNat]?).getD 0) → par.foldl (fun a p => lat a ((wm[p.toNat]?).getD 0)) a ≤ par.foldl (fun a p => lat a ((wm'[p.toNat]?).getD 0)) a'
  | [], _, _, h, _ => h
  | p :: r, a, a', h, hp => by
    rw [List.foldl_cons, List.foldl_cons]
    exact fold_mono r _ _ (lat_mono h (hp p (by simp))) (fun q hq => hp q (by simp [hq]))
/-- The watermarks only grow. -/
theorem wm_grows {l l' : List Sh} {d d' : Nat → Nat} (hI : Inv l) (ha : Adv l l') (hd : ∀ (k : Nat) (s : Sh), l[k]? = some s → d k ≤ s.rl.length) (hdd : ∀ k, d k ≤ d' k) : ∀ (k : Nat) (n n' : Nat), k < l.length → k < n → k < n' → ((wmUp l d n)[k]?).getD 0 ≤ ((wmUp l' d' n')[k]?).getD 0 := by
  intro k
  induction k using Nat.strongRecOn with
  | ind k ih =>
    intro n n' hk hn hn'
    have hs : l[k]? = some l[k] := List.getElem?_eq_getElem hk
    generalize l[k] = s at hs
    obtain ⟨s', hs', e1, e2, _⟩ := ha k s hs
    have h16 := hI.len
    rw [wmUp_at hs (by omega) hn, wmUp_at hs' (by omega) hn']
    show ahUp _ _ _ ≤ ahUp _ _ _
    refine ahUp_mono ?_ e2 (hd k s hs) (hdd k)
    rw [e1]
    unfold topOf
    refine fold_mono s.par _ _ (Int.le_refl _) (fun p hp => ?_)
    obtain ⟨q, t, rfl, hq, _⟩ := hI.parR k s hs p hp
    rw [show ((q : Int)).toNat = q by omega]
    exact ih q hq k k (by omega) hq hq

/-- Marks only grow. -/
theorem mk_grows {l l' : List Sh} {dn dn' : List Int} (hI : Inv l) (hg : Gro dn l dn' l') (h0 : ∀ k, k < 16 → 0 ≤ dnP dn k ∧ dnP dn k ≤ cn l k) (k : Nat) (hk : k < l.length) : (mkOf l dn k).d ≤ (mkOf l' dn' k).d ∧ (mkOf l dn k).e ≤ (mkOf l' dn' k).e ∧ (mkOf l dn k).w ≤ (mkOf l' dn' k).w := by
  have h16 := hI.len
  have hl := hg.1.len
  refine ⟨(hg.2 k).1, (hg.2 k).2, ?_⟩
  refine wm_grows hI hg.1 (fun k s hs => ?_) (fun k => ?_) k _ _ hk hk (by omega)
  · have hkl := (List.getElem?_eq_some_iff.1 hs).1
    have := (h0 k (by omega)).2
    rw [cn_is hs] at this
    unfold dnN
    have e : (s.cnt : Nat) = s.rl.length := rfl
    omega
  · have := (hg.2 k).1
    unfold dnN
    omega

end Go.Proofs.Ytpnkmnmchdabkaa
namespace Go.Proofs.Ytpnkmnmchdabkaa
open Go.RowKit

theorem lat_assoc (a b c : Int) : lat (lat a b) c = lat (lat a c) b := by unfold lat; repeat' split <;> omega
theorem lat_gt (a b : Int) : (if a < b then b else a) = lat a b := by unfold lat; repeat' split <;> omega
theorem ahUp_lat (a x : Int) (rl : List Rc) : ∀ n, ahUp (lat a x) rl n = lat (ahUp a rl n) x
  | 0 => rfl
  | n + 1 => by
    unfold ahUp
    cases rl[n]? with
    | none => exact ahUp_lat a x rl n
    | some r =>
      show lat (ahUp (lat a x) rl n) r.t = lat (lat (ahUp a rl n) r.t) x
      rw [ahUp_lat a x rl n, lat_assoc]
theorem ahUp_fold (g : Int → Int) (rl : List Rc) (n : Nat) : ∀ (par : List Int) (a : Int), ahUp (par.foldl (fun a p => lat a (g p)) a) rl n = par.foldl (fun a p => lat a (g p)) (ahUp a rl n)
  | [], _ => rfl
  | p :: r, a => by
    rw [List.foldl_cons, List.foldl_cons, ahUp_fold g rl n r, ahUp_lat]
/-- The greatest time ahead of the n-th record of shard k. -/
def ahd (l : List Sh) (d : Nat → Nat) (k n : Nat) : Int := match l[k]? with
  | some s => ahUp (topOf (wmUp l d k) s.par) s.rl n
  | none => -1
theorem ahd_is {l : List Sh} (d : Nat → Nat) {k : Nat} {s : Sh} (n : Nat) (h : l[k]? = some s) : ahd l d k n = ahUp (topOf (wmUp l d k) s.par) s.rl n := by unfold ahd; rw [h]
/-- As the law reckons: the shard's own first, then the parents' one behind the other. -/
def befP (l : List Sh) (d : Nat → Nat) (a : Int) (par : List Int) : Int := par.foldl (fun a p => lat a (ahd l d p.toNat (d p.toNat))) a
theorem befP_take (l : List Sh) (d : Nat → Nat) (a : Int) (par : List Int) (j : Nat) (hj : j < par.length) : befP l d a (par.take (j + 1)) = lat (befP l d a (par.take j)) (ahd l d par[j].toNat (d par[j].toNat)) := by
  unfold befP
  rw [List.take_succ_eq_append_getElem hj, List.foldl_append]
  rfl
theorem fold_same {g h : Int → Int} : ∀ (par : List Int) (a : Int), (∀ p ∈ par, g p = h p) → par.foldl (fun a p => lat a (g p)) a = par.foldl (fun a p => lat a (h p)) a
  | [], _, _ => rfl
  | p :: r, a, hp => by
    rw [List.foldl_cons, List.foldl_cons, hp p (by simp), fold_same r _ (fun q hq => hp q (by simp [hq]))]
theorem ahd_bef {l : List Sh} (hI : Inv l) (d : Nat → Nat) {k : Nat} {s : Sh} (n : Nat) (h : l[k]? = some s) : ahd l d k n = befP l d (ahUp (-1) s.rl n) s.par := by
  rw [ahd_is d n h]
  unfold topOf
  rw [ahUp_fold (fun p => ((wmUp l d k)[p.toNat]?).getD 0)]
  unfold befP
  refine fold_same s.par _ fun p hp => ?_
  obtain ⟨q, t, rfl, hq, ht, _⟩ := hI.parR k s h p hp
  have := hI.len
  have hkl := (List.getElem?_eq_some_iff.1 h).1
  rw [show ((q : Int)).toNat = q by omega, wmUp_at ht (by omega) hq, ahd_is d (d q) ht]
  rfl

/-- Where a record lies. -/
theorem filter_at (E : List En) (p : En → Bool) (j : Nat) (e : En) (hj : E[j]? = some e) (hp : p e = true) : (E.filter p)[((E.take j).filter p).length]? = some e := by
  obtain ⟨h1, rfl⟩ := List.getElem?_eq_some_iff.1 hj
  have h2 : E = E.take j ++ E[j] :: E.drop (j + 1) := by rw [← List.drop_eq_getElem_cons h1, List.take_append_drop]
  have h3 : E.filter p = (E.take j).filter p ++ E[j] :: (E.drop (j + 1)).filter p := by
    have h4 := congrArg (List.filter p) h2
    rw [List.filter_append, List.filter_cons, if_pos hp] at h4
    exact h4
  rw [h3, List.getElem?_append_right (Nat.le_refl _), Nat.sub_self]
  rfl
theorem EntOk.at {l : List Sh} {E : List En} (h : EntOk l E) {j : Nat} {e : En} {s : Sh} (hj : E[j]? = some e) (hs : l[e.shard]? = some s) : s.rl[e.place]? = some (enRc e) := by
  rw [← h.rl e.shard s hs, List.getElem?_map, h.pl j e hj]
  unfold held
  rw [filter_at E (fun x => x.shard == e.shard) j e hj (by simp)]
  rfl
/-- The greatest time among the first n records of shard k, by the law's own records. -/
theorem maxUp_step {l : List Sh} {E : List En} (h : EntOk l E) {k n j : Nat} {s : Sh} {e : En} (hs : l[k]? = some s) (hj : E[j]? = some e) :
    ahUp (-1) s.rl (min n (held (E.take (j + 1)) k)) = if e.shard = k ∧ e.place < n then lat (ahUp (-1) s.rl (min n (held (E.take j) k))) e.time else ahUp (-1) s.rl (min n (held (E.take j) k)) := by
  rw [held_take E k j e hj]
  by_cases hk : e.shard = k
  · subst hk
    have hp := h.pl j e hj
    rw [if_pos rfl]
    by_cases hn : e.place < n
    · rw [if_pos ⟨rfl, hn⟩, ← hp, show min n (e.place + 1) = e.place + 1 by omega, show min n e.place = e.place by omega, ahUp, h.at hj hs]
      rfl
    · rw [if_neg (by simp; omega), ← hp, show min n (e.place + 1) = min n e.place by omega]
  · rw [if_neg hk, if_neg (fun hh => hk hh.1)]
    rfl
theorem held_len {l : List Sh} {E : List En} (h : EntOk l E) {k : Nat} {s : Sh} (hs : l[k]? = some s) : held E k = s.rl.length := by
  rw [← h.rl k s hs, List.length_map]
  rfl
theorem ahUp_min (a : Int) (rl : List Rc) : ∀ n, ahUp a rl (min n rl.length) = ahUp a rl n
  | 0 => by simp
  | n + 1 => by
    by_cases hn : n < rl.length
    · rw [show min (n + 1) rl.length = n + 1 by omega]
    · rw [show min (n + 1) rl.length = min n rl.length by omega, ahUp_min a rl n]
      rw [ahUp, List.getElem?_eq_none (by omega)]

/-- What is folded of a key, as the law sees it. -/
def fol (E : List En) (d : Nat → Nat) (key : ByteArray) : List En := E.filter (fun e => decide (e.key = key) && decide (e.place < d e.shard))
theorem fol_take {E : List En} {d : Nat → Nat} {key : ByteArray} {j : Nat} {e : En} (hj : E[j]? = some e) : fol (E.take (j + 1)) d key = fol (E.take j) d key ++ if e.key = key ∧ e.place < d e.shard then [e] else [] := by
  obtain ⟨h1, rfl⟩ := List.getElem?_eq_some_iff.1 hj
  unfold fol
  rw [List.take_succ_eq_append_getElem h1, List.filter_append]
  by_cases hk : E[j].key = key <;> by_cases hp : E[j].place < d E[j].shard <;> simp [hk, hp]
theorem held_pos {E : List En} {i j : Nat} {e : En} (hi : E[i]? = some e) (hij : i < j) : held (E.take i) e.shard < held (E.take j) e.shard := by
  have hh : ∀ n, held (E.take (i + 1)) e.shard ≤ held (E.take (i + 1 + n)) e.shard := by
    intro n
    induction n with
    | zero => exact Nat.le_refl _
    | succ n ih =>
      refine Nat.le_trans ih ?_
      by_cases hl : i + 1 + n < E.length
      · have := held_take E e.shard (i + 1 + n) _ (List.getElem?_eq_getElem hl)
        rw [show i + 1 + (n + 1) = i + 1 + n + 1 by omega, this]
        omega
      · rw [List.take_of_length_le (show E.length ≤ i + 1 + n by omega), List.take_of_length_le (show E.length ≤ i + 1 + (n + 1) by omega)]
        exact Nat.le_refl _
  have h1 := held_take E e.shard i e hi
  rw [if_pos rfl] at h1
  have h2 := hh (j - (i + 1))
  rw [show i + 1 + (j - (i + 1)) = j by omega] at h2
  omega
/-- What the sink's marks are: no more than there is; and what is begun is ready. -/
def MkOk (l : List Sh) (d : Nat → Nat) : Prop := (∀ (k : Nat) (s : Sh), l[k]? = some s → d k ≤ s.rl.length) ∧ ∀ k, k < l.length → 0 < d k → rdy l (fun k => (d k : Int)) k = true
/-- What is folded of a key is a first part of it. -/
theorem fol_first {l : List Sh} {E : List En} (hI : Inv l) (h : EntOk l E) {d : Nat → Nat} (hd : MkOk l d) {i j : Nat} {e f : En} (hij : i < j) (hi : E[i]? = some e) (hj : E[j]? = some f) (hk : e.key = f.key) (hf : f.place < d f.shard) : e.place < d e.shard := by
  have hu := h.ord i j e f hij hi hj hk
  have he := h.lt e (List.mem_of_getElem? hi)
  have hf1 := h.lt f (List.mem_of_getElem? hj)
  by_cases hs : e.shard = f.shard
  · have h1 := h.pl i e hi
    have h2 := h.pl j f hj
    have h3 := held_pos hi hij
    rw [← hs] at h2 hf
    omega
  · have hr := hd.2 f.shard hf1.1 (by omega)
    have hfin := hu.fin hI _ hs hr
    obtain ⟨s, hs2⟩ : ∃ s, l[e.shard]? = some s := ⟨l[e.shard]'he.1, List.getElem?_eq_getElem _⟩
    rw [fin_is hI _ hs2] at hfin
    simp only [Bool.and_eq_true, decide_eq_true_eq] at hfin
    have h1 := (List.getElem?_eq_some_iff.1 (h.at hi hs2)).1
    have h2 : s.cnt = s.rl.length := rfl
    have h3 := hfin.2.2
    omega

/-- The records of a shard have the places 0, 1, and so on. -/
theorem place_at {l : List Sh} {E : List En} (h : EntOk l E) (k : Nat) : ∀ (i : Nat) (e : En), (E.filter (fun e => e.shard == k))[i]? = some e → e.place = i := by
  suffices hh : ∀ n, n ≤ E.length → ∀ (i : Nat) (e : En), ((E.take n).filter (fun e => e.shard == k))[i]? = some e → e.place = i by
    intro i e hi
    exact hh E.length (Nat.le_refl _) i e (by rw [List.take_length]; exact hi)
  intro n
  induction n with
  | zero => intro _ i e hi; simp at hi
  | succ n ih =>
    intro hn i e hi
    have hx : E[n]? = some E[n] := List.getElem?_eq_getElem (by omega)
    rw [List.take_succ_eq_append_getElem (by omega), List.filter_append] at hi
    by_cases hlt : i < ((E.take n).filter (fun e => e.shard == k)).length
    · rw [List.getElem?_append_left hlt] at hi
      exact ih (by omega) i e hi
    · rw [List.getElem?_append_right (by omega)] at hi
      by_cases hk : E[n].shard = k
      · rw [List.filter_cons, if_pos (by simp [hk])] at hi
        have h0 := (List.getElem?_eq_some_iff.1 hi).1
        simp at h0
        have hz : i - ((E.take n).filter (fun e => e.shard == k)).length = 0 := by omega
        rw [hz] at hi
        simp at hi
        subst hi
        rw [h.pl n _ hx, hk]
        unfold held
        omega
      · rw [List.filter_cons, if_neg (by simp [hk])] at hi
        simp at hi
theorem filter_first (p : Nat) : ∀ (L : List En) (o : Nat), (∀ (i : Nat) (e : En), L[i]? = some e → e.place = o + i) → L.filter (fun e => decide (e.place < p)) = L.take (p - o)
  | [], _, _ => by simp
  | a :: r, o, h => by
    have h0 := h 0 a rfl
    have ih := filter_first p r (o + 1) (fun i e hi => by have := h (i + 1) e (by simpa using hi); omega)
    rw [List.filter_cons, ih]
    by_cases hp : a.place < p
    · rw [if_pos (by simpa using hp), show p - o = (p - (o + 1)) + 1 by omega, List.take_succ_cons]
    · rw [if_neg (by simpa using hp), show p - (o + 1) = 0 by omega, show p - o = 0 by omega]
      simp
/-- A record that is folded, with the greatest time ahead of it. -/
def enFd (l : List Sh) (d : Nat → Nat) (e : En) : Rc × Int := (enRc e, ahd l d e.shard e.place)
theorem fdOf_is {l : List Sh} {E : List En} (h : EntOk l E) (d : Nat → Nat) {k : Nat} {s : Sh} (hs : l[k]? = some s) : ∀ p, fdOf (topOf (wmUp l d k) s.par) s.rl p = ((E.filter (fun e => e.shard == k)).take p).map (enFd l d)
  | 0 => by simp [fdOf]
  | p + 1 => by
    have ih := fdOf_is h d hs p
    have hg : s.rl[p]? = ((E.filter (fun e => e.shard == k))[p]?).map enRc := by rw [← h.rl k s hs, List.getElem?_map]
    unfold fdOf
    cases he : (E.filter (fun e => e.shard == k))[p]? with
    | none =>
      rw [he] at hg
      rw [hg, List.take_of_length_le (by have := List.getElem?_eq_none_iff.1 he; omega)]
      show fdOf _ _ p = _
      rw [ih, List.take_of_length_le (by have := List.getElem?_eq_none_iff.1 he; omega)]
    | some e =>
      rw [he] at hg
      rw [hg]
      show fdOf _ _ p ++ [(enRc e, _)] = _
      obtain ⟨h1, h2⟩ := List.getElem?_eq_some_iff.1 he
      rw [ih, List.take_succ_eq_append_getElem h1, List.map_append, h2]
      have h3 := place_at h k p e he
      have h4 : e.shard = k := by
        have := List.mem_of_getElem? he
        rw [List.mem_filter] at this
        simpa using this.2
      congr 1
      show [(enRc e, _)] = [enFd l d e]
      unfold enFd
      rw [h4, ahd_is d e.place hs, h3]
/-- The records of the first n shards, of a list. -/
def grp (L : List En) : Nat → List En
  | 0 => []
  | n + 1 => grp L n ++ L.filter (fun e => e.shard == n)
theorem fdUp_is {l : List Sh} {E : List En} (h : EntOk l E) (d : Nat → Nat) : ∀ n, n ≤ l.length → fdUp l d n = (grp (E.filter (fun e => decide (e.place < d e.shard))) n).map (enFd l d)
  | 0, _ => rfl
  | n + 1, hn => by
    have hs : l[n]? = some l[n] := List.getElem?_eq_getElem (by omega)
    unfold fdUp
    rw [hs]
    show fdUp l d n ++ fdOf _ _ _ = _
    rw [fdUp_is h d n (by omega), fdOf_is h d hs, grp, List.map_append]
    congr 2
    have hff := filter_first (d n) (E.filter (fun e => e.shard == n)) 0 (fun i e hi => by rw [place_at h n i e hi]; omega)
    rw [Nat.sub_zero] at hff
    rw [← hff, List.filter_filter, List.filter_filter]
    refine List.filter_congr fun e _ => ?_
    by_cases hk : e.shard = n
    · subst hk; simp [Bool.and_comm]
    · have e1 : (e.shard == n) = false := by simpa using hk
      rw [e1, Bool.and_false, Bool.false_and]
theorem grp_filter (L : List En) (p : En → Bool) : ∀ n, (grp L n).filter p = grp (L.filter p) n
  | 0 => rfl
  | n + 1 => by
    rw [grp, grp, List.filter_append, grp_filter L p n, List.filter_filter, List.filter_filter]
    congr 1
    exact List.filter_congr fun e _ => Bool.and_comm _ _
theorem filter_lt (n : Nat) : ∀ (L : List En), L.Pairwise (fun a b => a.shard ≤ b.shard) → L.filter (fun e => decide (e.shard < n + 1)) = L.filter (fun e => decide (e.shard < n)) ++ L.filter (fun e => e.shard == n)
  | [], _ => rfl
  | a :: r, h => by
    rw [List.pairwise_cons] at h
    have ih := filter_lt n r h.2
    rw [List.filter_cons, List.filter_cons, List.filter_cons, ih]
    by_cases h1 : a.shard < n
    · rw [if_pos (by simp; omega), if_pos (by simpa using h1), if_neg (by simp; omega)]
      rfl
    · rw [if_neg (show ¬ decide (a.shard < n) = true by simpa using h1)]
      by_cases h2 : a.shard = n
      · rw [if_pos (by simp; omega), if_pos (by simpa using h2)]
        have hz : r.filter (fun e => decide (e.shard < n)) = [] := by
          rw [List.filter_eq_nil_iff]
          intro e he
          have := h.1 e he
          simp; omega
        rw [hz]
        rfl
      · rw [if_neg (by simp; omega), if_neg (by simpa using h2)]
theorem grp_sorted (L : List En) (h : L.Pairwise (fun a b => a.shard ≤ b.shard)) : ∀ n, grp L n = L.filter (fun e => decide (e.shard < n))
  | 0 => by simp [grp]
  | n + 1 => by rw [grp, grp_sorted L h n, filter_lt n L h]
theorem grp_all {L : List En} (h : L.Pairwise (fun a b => a.shard ≤ b.shard)) {n : Nat} (hn : ∀ e ∈ L, e.shard < n) : grp L n = L := by
  rw [grp_sorted L h, List.filter_eq_self]
  intro e he
  simpa using hn e he

/-- Two keys are one, if their letters are. -/
theorem byteAt_eq {a b : List UInt8} (ha : a.length ≤ 8 ∧ ∀ x ∈ a, x.toNat ≠ 0) (hb : b.length ≤ 8 ∧ ∀ x ∈ b, x.toNat ≠ 0) (h : ∀ i, i < 8 → byteAt a i = byteAt b i) : a = b := by
  refine List.ext_getElem? fun i => ?_
  by_cases hi : i < 8
  · have hh := h i hi
    unfold byteAt at hh
    have hh : (a[i]?.getD 0).toNat = (b[i]?.getD 0).toNat := by omega
    cases hx : a[i]? with
    | none =>
      cases hy : b[i]? with
      | none => rfl
      | some y =>
        rw [hx, hy] at hh
        exact absurd hh.symm (hb.2 y (List.mem_of_getElem? hy))
    | some x =>
      cases hy : b[i]? with
      | none =>
        rw [hx, hy] at hh
        exact absurd hh (ha.2 x (List.mem_of_getElem? hx))
      | some y =>
        rw [hx, hy] at hh
        congr 1
        exact UInt8.toNat_inj.1 hh
  · rw [List.getElem?_eq_none (by omega), List.getElem?_eq_none (by omega)]
theorem sameK_all (a b : List UInt8) : sameK a b = true ↔ ∀ i, i < 8 → byteAt a i = byteAt b i := by
  unfold sameK
  simp only [Bool.and_eq_true, decide_eq_true_eq]
  constructor
  · rintro ⟨h0, h1, h2, h3, h4, h5, h6, h7⟩ i hi
    match i, hi with
    | 0, _ => exact h0
    | 1, _ => exact h1
    | 2, _ => exact h2
    | 3, _ => exact h3
    | 4, _ => exact h4
    | 5, _ => exact h5
    | 6, _ => exact h6
    | 7, _ => exact h7
    | i + 8, hi => omega
  · intro h
    exact ⟨h 0 (by omega), h 1 (by omega), h 2 (by omega), h 3 (by omega), h 4 (by omega), h 5 (by omega), h 6 (by omega), h 7 (by omega)⟩
theorem sameK_key {a b : ByteArray} (ha : keyB a = true) (hb : keyB b = true) : sameK a.data.toList b.data.toList = decide (a = b) := by
  rw [Bool.eq_iff_iff, sameK_all, decide_eq_true_eq]
  constructor
  · intro h
    have := byteAt_eq (keyB_len ha) (keyB_len hb) h
    rcases a with ⟨a⟩
    rcases b with ⟨b⟩
    simpa using Array.toList_inj.1 this
  · rintro rfl i _; rfl

/-- WHAT THE PROGRAM TELLS OF A KEY IS WHAT THE LAW SEES. -/
theorem fdKey_is {l : List Sh} {E : List En} (hI : Inv l) (h : EntOk l E) (d : Nat → Nat) {key : ByteArray} (hk : keyB key = true) : fdKey key.data.toList (fdUp l d l.length) (fdUp l d l.length).length = (fol E d key).map (enFd l d) := by
  unfold fdKey
  rw [List.take_length, fdUp_is h d l.length (Nat.le_refl _), List.filter_map, grp_filter, List.filter_filter]
  have e1 : E.filter (fun e => ((fun x : Rc × Int => sameK x.1.kb key.data.toList) ∘ enFd l d) e && decide (e.place < d e.shard)) = fol E d key := by
    unfold fol
    refine List.filter_congr fun e he => ?_
    show (sameK e.key.data.toList key.data.toList && _) = _
    rw [sameK_key (h.key e he).1 hk]
  rw [e1, grp_all]
  · unfold fol
    rw [List.pairwise_filter, List.pairwise_iff_getElem]
    intro i j hi hj hij h1 h2
    simp only [Bool.and_eq_true, decide_eq_true_eq] at h1 h2
    exact (h.ord i j _ _ hij (List.getElem?_eq_getElem hi) (List.getElem?_eq_getElem hj) (h1.1.trans h2.1.symm)).le hI
  · intro e he
    unfold fol at he
    rw [List.mem_filter] at he
    exact (h.lt e he.1).1

end Go.Proofs.Ytpnkmnmchdabkaa
