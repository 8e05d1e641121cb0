import Derived.Test.YtpnkmnmchdabkaaM39
import Derived.Test.YtpnkmnmchdabkaaLawBat
import Derived.Test.YtpnkmnmchdabkaaLawSum
import Derived.Test.YtpnkmnmchdabkaaStep
import Derived.Test.YtpnkmnmchdabkaaM22
import Derived.Test.YtpnkmnmchdabkaaM23
namespace Go.Proofs.Ytpnkmnmchdabkaa
open Go.RowKit
attribute [local go_sem ↓] Go.wp_at_zero Go.wp_at_succ

/-- All that the law asks of a crew and its group, wherever only new memory was made. -/
def Rds (w : World) (cb gb : Nat) (C : Cfg) (now : Rest) (l : List Sh) (E : List En) (P : List Pl) : Prop :=
  ∀ W, Below w.heap.size w W →
    (W.cell? ⟨cb, 0, none⟩ = some (.int .i64 C.a) ∧ W.cell? ⟨cb, 2, none⟩ = some (.int .i64 C.b) ∧ W.cell? ⟨cb, 6, none⟩ = some (.pointer (some ⟨gb, 0, none⟩)) ∧ W.cell? ⟨cb, 8, none⟩ = some (.int .i64 l.length)) ∧
    (∀ k : Nat, Calls Try.prog 18 #[.pointer (some ⟨cb, 0, none⟩), .int .i64 k] W fun e w' => e = .returned (.int .i64 (held E k)) ∧ W = w') ∧
    (∀ i : Nat, i < now.n → Calls Try.prog 35 #[.pointer (some ⟨gb, 0, none⟩), .int .i64 i] W fun e w' => ∃ v, e = .returned (.tuple #[v, .int .i64 0]) ∧ w'.ownsRow W.heap.size 75 4 v (heldOf P i 16).length (rowHd (heldOf P i 16)) ∧ Below W.heap.size W w') ∧
    (∀ (k : Nat) (x : Le), k < l.length → now.ls[k]? = some x → Calls Try.prog 36 #[.pointer (some ⟨gb, 0, none⟩), .int .i64 k] W fun e w' => e = .returned (.tuple #[.agg #[.int .i64 x.o, .int .i64 x.c, .int .i64 x.e], .int .i64 0]) ∧ Below W.heap.size W w')

theorem reads_of {t : Bool} {B : Bd} {N : Nat} {w : World} {ρ : Nat → Nat} {cb gb : Nat} {C : Cfg} {now : Rest} {l : List Sh} {E : List En} (h : Crew t B N w ρ cb gb C now l E l.length) {g cap : Nat} {P : List Pl} (a : now.wv = .slice (some ⟨g, 0, none⟩) now.n cap) (b : now.mem = plsCells P) (c : P.length = now.n * 16) : Rds w cb gb C now l E P := by
  intro W hb
  have hW := h.below hb
  have hlen := h.inv.len
  have hpos := h.inv.pos
  obtain ⟨ea, ecap, c0, c6, c7, c8, _, _, hE⟩ := crew_cells hW.ent2
  obtain ⟨ev, hv, _⟩ := hW.ent2
  obtain ⟨sv, m, e, G⟩ := hW.grp
  have gs : GS W ρ gb C now sv m g cap now.ls P := GrpL.gs ⟨G, a, b, c, by rw [← e] at hlen; simpa using hlen, hW.fits⟩
  have hml : m.length = l.length := by rw [← e]; simp
  exact ⟨⟨c0, cell_of hv 2, c6, c8⟩, fun k => count_raw hW.short c7 hE k, fun i hi => gHolds_any gs i hi, fun k x hk hx => gLease_any gs (by omega) k (by omega) x hx⟩
theorem crew_reads {t : Bool} {B : Bd} {N : Nat} {w : World} {ρ : Nat → Nat} {cb gb : Nat} {C : Cfg} {now : Rest} {l : List Sh} {E : List En} (h : Crew t B N w ρ cb gb C now l E l.length) :
    ∃ P, (now.n : Int) = C.a ∧ now.n ≤ 4 ∧ Ow B.n now.n C.b l now.dn now.ls P ∧ Rds w cb gb C now l E P := by
  obtain ⟨_, hn, hn4, _, g, cap, P, a, b, c, o, _⟩ := h.wok
  exact ⟨P, hn, hn4, o, reads_of h a b c⟩

/-- The holds of a worker rise. -/
theorem heldOf_sorted {P : List Pl} {i : Nat} (hs : ∀ (k : Nat) (p : Pl), k < 16 → P[i * 16 + k]? = some p → p.held = true → p.h.sh = k) : ∀ n, n ≤ 16 → (heldOf P i n).Pairwise (fun x y => x.sh < y.sh)
  | 0, _ => List.Pairwise.nil
  | n + 1, hn => by
    rw [heldOf, List.pairwise_append]
    refine ⟨heldOf_sorted hs n (by omega), ?_, fun x hx y hy => ?_⟩
    · cases hp : P[i * 16 + n]? with
      | none => simp
      | some p => by_cases hh : p.held = true <;> simp [hh]
    · obtain ⟨k, p, hk, hp, hh, rfl⟩ := heldOf_in hx
      cases hq : P[i * 16 + n]? with
      | none => rw [hq] at hy; simp at hy
      | some q =>
        rw [hq] at hy
        by_cases hh' : q.held = true
        · simp [hh'] at hy
          subst hy
          rw [hs k p (by omega) hp hh, hs n q (by omega) hq hh']
          omega
        · simp [hh'] at hy
theorem heldOf_has {P : List Pl} {i k : Nat} {p : Pl} (hp : P[i * 16 + k]? = some p) (hh : p.held = true) : ∀ n, k < n → p.h ∈ heldOf P i n
  | 0, h => by omega
  | n + 1, h => by
    rw [heldOf, List.mem_append]
    by_cases e : k < n
    · exact Or.inl (heldOf_has hp hh n e)
    · have e : k = n := by omega
      subst e
      rw [hp]
      simp [hh]
/-- All holds of the first n workers. -/
def allUp (P : List Pl) : Nat → List Hd
  | 0 => []
  | n + 1 => allUp P n ++ heldOf P n 16
theorem allUp_in {P : List Pl} {x : Hd} : ∀ {n : Nat}, x ∈ allUp P n → ∃ i, i < n ∧ x ∈ heldOf P i 16
  | 0, h => by simp [allUp] at h
  | n + 1, h => by
    rw [allUp, List.mem_append] at h
    rcases h with h | h
    · obtain ⟨i, a, b⟩ := allUp_in h
      exact ⟨i, by omega, b⟩
    · exact ⟨n, by omega, h⟩
theorem allUp_len (P : List Pl) : ∀ n, (allUp P n).length ≤ n * 16
  | 0 => by simp [allUp]
  | n + 1 => by
    rw [allUp, List.length_append]
    have := allUp_len P n
    have := heldOf_le P n 16
    omega

/-- What is so of a hold that is listed. -/
theorem Ow.hold {B n : Nat} {Cb : Int} {l : List Sh} {dn : List Int} {ls : List Le} {P : List Pl} (h : Ow B n Cb l dn ls P) {i : Nat} (hi : i < n) {y : Hd} (hy : y ∈ heldOf P i 16) :
    ∃ (k : Nat) (x : Le), k < l.length ∧ y.sh = k ∧ ls[k]? = some x ∧ 1 ≤ y.ep ∧ y.ep ≤ x.e ∧ (y.ep = x.e → x.o = i) ∧ epP dn k ≤ x.e ∧ 0 ≤ y.at_ ∧ y.at_ ≤ dnP dn k ∧ 0 ≤ y.bf ∧ y.bf ≤ Cb ∧ y.at_ + y.bf ≤ cn l k := by
  obtain ⟨k, p, hk, hp, hh, rfl⟩ := heldOf_in hy
  obtain ⟨x, hx⟩ : ∃ x, ls[k]? = some x := ⟨ls[k]'(by rw [h.lsL]; exact hk), List.getElem?_eq_getElem _⟩
  have H := h.hd i k p x hi hk hp hh hx
  exact ⟨k, x, H.lt, H.sh, hx, H.e1, H.e2, H.own, (h.le k x hx).2.2.1, H.a0, H.a1, H.b0, H.b1, H.ab⟩
theorem Ow.rise {B n : Nat} {Cb : Int} {l : List Sh} {dn : List Int} {ls : List Le} {P : List Pl} (h : Ow B n Cb l dn ls P) {i : Nat} (hi : i < n) : (heldOf P i 16).Pairwise (fun x y => x.sh < y.sh) := by
  refine heldOf_sorted (fun k p hk hp hh => ?_) 16 (Nat.le_refl _)
  obtain ⟨x, hx⟩ : ∃ x, ls[k]? = some x := ⟨ls[k]'(by rw [h.lsL]; exact hk), List.getElem?_eq_getElem _⟩
  exact (h.hd i k p x hi hk hp hh hx).sh
theorem rise_at {L : List Hd} (h : L.Pairwise (fun x y => x.sh < y.sh)) {a b : Nat} {x y : Hd} (hab : a < b) (hx : L[a]? = some x) (hy : L[b]? = some y) : x.sh < y.sh := by
  obtain ⟨h1, rfl⟩ := List.getElem?_eq_some_iff.1 hx
  obtain ⟨h2, rfl⟩ := List.getElem?_eq_some_iff.1 hy
  exact List.pairwise_iff_getElem.1 h a b h1 h2 hab
/-- No two holds are of one shard and one epoch. -/
theorem Ow.apart {B n : Nat} {Cb : Int} {l : List Sh} {dn : List Int} {ls : List Le} {P : List Pl} (h : Ow B n Cb l dn ls P) {i j : Nat} (hi : i < n) {x y : Hd} (hy : (heldOf P i 16)[j]? = some y) (hx : x ∈ allUp P i ++ (heldOf P i 16).take j) (he : x.sh = y.sh) : x.ep ≠ y.ep := by
  rw [List.mem_append] at hx
  rcases hx with hx | hx
  · obtain ⟨i', hi', hx⟩ := allUp_in hx
    obtain ⟨k, p, hk, hp, hh, rfl⟩ := heldOf_in hx
    obtain ⟨k', q, hk', hq, hh', rfl⟩ := heldOf_in (List.mem_of_getElem? hy)
    obtain ⟨z, hz⟩ : ∃ z, ls[k]? = some z := ⟨ls[k]'(by rw [h.lsL]; exact hk), List.getElem?_eq_getElem _⟩
    obtain ⟨z', hz'⟩ : ∃ z, ls[k']? = some z := ⟨ls[k']'(by rw [h.lsL]; exact hk'), List.getElem?_eq_getElem _⟩
    have e1 := (h.hd i' k p z (by omega) hk hp hh hz).sh
    have e2 := (h.hd i k' q z' hi hk' hq hh' hz').sh
    have e : k = k' := by omega
    subst e
    exact h.df i' i k p q (by omega) hi hk hp hq hh hh' (by omega)
  · obtain ⟨a, ha⟩ := List.getElem?_of_mem hx
    rw [List.getElem?_take] at ha
    split at ha
    · have := rise_at (h.rise hi) (by assumption) ha hy
      omega
    · cases ha

set_option maxRecDepth 100000 in
set_option maxHeartbeats 4000000 in
theorem waits_any {l : List Sh} (hI : Inv l) {U : List Mk} {dn : Nat → Int} {lb mb lcap mcap : Nat} (hU : U.length = l.length) (hd : ∀ (k : Nat) (x : Mk), U[k]? = some x → x.d = dn k) (k : Nat) (hk : k < l.length) (w : World) (hT : Tol w lb l) (hM : Mks w mb U) :
    Calls Try.prog 37 #[.slice (some ⟨lb, 0, none⟩) l.length lcap, .slice (some ⟨mb, 0, none⟩) U.length mcap, .int .i64 k] w fun e w' => e = .returned (.bool (!(rdy l dn k) || fin l dn k)) ∧ ∃ n, w' = w.drewN n := by
  have C1 := hide (whole_any (lcap := lcap) (mcap := mcap) hI hU hd k hk w hT hM).1
  have C2 : Hid (∀ q, Calls Try.prog 66 #[.slice (some ⟨lb, 0, none⟩) l.length lcap, .slice (some ⟨mb, 0, none⟩) U.length mcap, .int .i64 k] (w.drewN q) fun e w' => e = .returned (.bool (fin l dn k)) ∧ ∃ n, w' = (w.drewN q).drewN n) := fun q =>
    (whole_any (lcap := lcap) (mcap := mcap) hI hU hd k hk (w.drewN q) (hT.below ⟨rfl, rfl, rfl, Nat.le_refl _, fun _ _ => rfl⟩) (hM.below ⟨rfl, rfl, rfl, Nat.le_refl _, fun _ _ => rfl⟩)).2
  have h16 := hI.len
  generalize rdy l dn k = r at *
  generalize fin l dn k = f at *
  clear hT hM hI hd hU
  go_enter Try.func37, Try.ntmps37
  go_wp2_with fail
  refine (unhide C1).mono ?_
  rintro e w1 ⟨rfl, n, rfl⟩
  have C3 := hide (unhide C2 n)
  have HN : Hid (∀ m, (w.drewN n).drewN m = w.drewN (n + m)) := fun m => World.drewN_drewN ..
  generalize w.drewN n = V at *
  go_wp2_with fail
  refine (unhide C3).mono ?_
  rintro e w1 ⟨rfl, m, rfl⟩
  cases r <;> cases f
  all_goals
    go_wp2
    go_ret
    exact ⟨ret_bool (by rfl), n + m, unhide HN m⟩

end Go.Proofs.Ytpnkmnmchdabkaa
namespace Go.Proofs.Ytpnkmnmchdabkaa
open Go.RowKit
attribute [local go_sem ↓] Go.wp_at_zero Go.wp_at_succ

theorem Crew.sink {t : Bool} {B : Bd} {N : Nat} {w : World} {ρ : Nat → Nat} {cb gb : Nat} {C : Cfg} {now : Rest} {l : List Sh} {E : List En} {n : Nat} (h : Crew t B N w ρ cb gb C now l E n) : (∀ k, dnN now.dn k ≤ 32) ∧ (∀ k, dnP now.dn k = (dnN now.dn k : Int)) ∧ MkOk l (dnN now.dn) := by
  obtain ⟨_, _, _, _, _, _, P, _, _, _, o, _⟩ := h.wok
  have h16 := h.inv.len
  have hz : ∀ k, ¬ k < 16 → dnP now.dn k = 0 := fun k hk => by
    unfold dnP
    rw [List.getElem?_eq_none (by rw [o.dnL]; omega)]
    rfl
  have h1 : ∀ k, dnP now.dn k = (dnN now.dn k : Int) := fun k => by
    by_cases hk : k < 16
    · have := (o.mr k hk).1
      unfold dnN
      omega
    · unfold dnN
      rw [hz k hk]
      rfl
  have h2 : ∀ (k : Nat) (s : Sh), l[k]? = some s → dnN now.dn k ≤ s.rl.length := fun k s hs => by
    have hk := (List.getElem?_eq_some_iff.1 hs).1
    have a := (o.mr k (by omega)).2.1
    have b : cn l k = s.rl.length := cn_is hs
    have c := h1 k
    omega
  have hf : (fun k => (dnN now.dn k : Int)) = dnP now.dn := funext fun k => (h1 k).symm
  refine ⟨fun k => ?_, h1, h2, fun k hk h0 => ?_⟩
  · by_cases hk : k < 16
    · have a := (o.mr k hk).2.1
      have b := cn_le h.inv k
      have c := h1 k
      omega
    · have c := h1 k
      rw [hz k hk] at c
      omega
  · rw [hf]
    exact (o.mr k (by omega)).2.2.2.2 (by have := h1 k; omega)

/-- What the program tells of a key, whatever new memory there is. -/
theorem crew_tells {t : Bool} {B : Bd} {N : Nat} {w : World} {ρ : Nat → Nat} {cb gb : Nat} {C : Cfg} {now : Rest} {l : List Sh} {E : List En} {n : Nat} (h : Crew t B N w ρ cb gb C now l E n) (key : ByteArray) (hs : key.size ≤ maxLen) (hk : keyB key = true) :
    Calls Try.prog 69 #[.pointer (some ⟨gb, 0, none⟩), .string key] w (fun e w' => ∃ v, e = .returned (.tuple #[v, .int .i64 0]) ∧ w'.ownsRow w.heap.size 3 1 v (stsOf C.n C.s ((fol E (dnN now.dn) key).map (·.time))).length ((stsOf C.n C.s ((fol E (dnN now.dn) key).map (·.time))).map (Value.int .i64)) ∧ Below w.heap.size w w') ∧
    ∀ st, beginsW C.s st = true → Calls Try.prog 70 #[.pointer (some ⟨gb, 0, none⟩), .string key, .int .i64 st] w fun e w' => e = .returned (.tuple #[suV (rdOf C st ((fol E (dnN now.dn) key).map (enFd l (dnN now.dn)))), .int .i64 0]) ∧ Below w.heap.size w w' := by
  obtain ⟨d1, d2, d3⟩ := h.sink
  have hv := (validB_iff _ _ _ _ _ _).1 h.val
  have hE := h.rng
  obtain ⟨sv, m, g, cap, P, e1, h1, _⟩ := h.grp.gs h.fits h.inv h.wok
  have hml : m.length = l.length := by rw [← e1]; simp
  have hF : (fol E (dnN now.dn) key).map (enFd l (dnN now.dn)) = fdKey key.data.toList (fdUp (m.map (·.s)) (dnN now.dn) m.length) (fdUp (m.map (·.s)) (dnN now.dn) m.length).length := by
    rw [e1, hml]
    exact (fdKey_is h.inv hE (dnN now.dn) hk).symm
  have hT : ∀ y ∈ (fol E (dnN now.dn) key).map (enFd l (dnN now.dn)), 0 ≤ y.1.t ∧ y.1.t ≤ 1000000 := by
    intro y hy
    obtain ⟨e, he, rfl⟩ := List.mem_map.1 hy
    unfold fol at he
    have := hE.key e (List.mem_filter.1 he).1
    exact this.2.2.2
  have hI : Inv (m.map (·.s)) := by rw [e1]; exact h.inv
  have hdc : ∀ (k : Nat) (s : Cs), m[k]? = some s → dnN now.dn k ≤ s.s.rl.length := fun k s hs => d3.1 k s.s (by rw [← e1, List.getElem?_map, hs]; rfl)
  have hts : ((fol E (dnN now.dn) key).map (enFd l (dnN now.dn))).map (·.1.t) = (fol E (dnN now.dn) key).map (·.time) := by
    rw [List.map_map]
    rfl
  refine ⟨?_, fun st hst => ?_⟩
  · have := gWindows_any h1 hI (dnN now.dn) d1 (fun k _ => d2 k) hdc key hs hk (by omega) _ hF hT
    rw [hts] at this
    exact this
  · exact gRead_any h1 hI (dnN now.dn) d1 (fun k _ => d2 k) hdc key st hs hk (by omega) (by omega) hst _ hF hT

/-- All that batch asks, of one key. -/
theorem crew_batch {t : Bool} {B : Bd} {N : Nat} {w : World} {ρ : Nat → Nat} {cb gb lb mb lcap mcap : Nat} {C : Cfg} {now : Rest} {l : List Sh} {E : List En} (h : Crew t B N w ρ cb gb C now l E l.length) (hT : Tol w lb l) (hM : Mks w mb (mkUp l now.dn l.length)) (e : En) (he : e ∈ E) :
    Calls Try.prog 38 #[.pointer (some ⟨cb, 0, none⟩), .slice (some ⟨lb, 0, none⟩) l.length lcap, .slice (some ⟨mb, 0, none⟩) (mkUp l now.dn l.length).length mcap, .string e.key] w fun e w' => e = .returned (.bool true) ∧ Below w.heap.size w w' := by
  obtain ⟨d1, d2, d3⟩ := h.sink
  have hv := (validB_iff _ _ _ _ _ _).1 h.val
  have hE := h.rng
  have hks := (hE.lt e he).2
  have hkk := (hE.key e he).1
  have hU := mkUp_len l now.dn l.length
  have hd : ∀ (k : Nat) (x : Mk), (mkUp l now.dn l.length)[k]? = some x → x.d = (dnN now.dn k : Int) := fun k x hx => by
    have hk := (List.getElem?_eq_some_iff.1 hx).1
    rw [hU] at hk
    rw [mkUp_get l now.dn l.length k hk] at hx
    injection hx with hx
    rw [← hx, ← d2 k]
    rfl
  have hB : ∀ {W}, Below w.heap.size w W → Bfr W cb lb mb C l E (mkUp l now.dn l.length) := by
    intro W hW W2 hW2
    have hb := hW.trans (hW2.mono hW.size)
    obtain ⟨ev, v1, v2⟩ := (h.below hb).ent2
    obtain ⟨ea, ecap, rfl⟩ := ownsRow_len v2
    exact ⟨⟨ea, ecap, cell_of v1 7, enR_of v2⟩, hT.below hb, hM.below hb, cell_of v1 3, cell_of v1 5⟩
  have hfl : (fol E (dnN now.dn) e.key).length ≤ 512 := by
    have h1 := h.short
    unfold fol
    have h2 := List.length_filter_le (fun x => decide (x.key = e.key) && decide (x.place < dnN now.dn x.shard)) E
    omega
  have hmem : ∀ x ∈ fol E (dnN now.dn) e.key, x ∈ E := fun x hx => by unfold fol at hx; exact (List.mem_filter.1 hx).1
  have htm : ∀ x ∈ fol E (dnN now.dn) e.key, 0 ≤ x.time ∧ x.time ≤ 1000000 := fun x hx => (hE.key x (hmem x hx)).2.2.2
  have hst : Sts (stsOf C.n C.s ((fol E (dnN now.dn) e.key).map (·.time))) := by
    have := sts_of (wd := C.n) (sl := C.s) (ts := (fol E (dnN now.dn) e.key).map (·.time)) (fun t ht => by
      obtain ⟨x, hx, rfl⟩ := List.mem_map.1 ht
      exact (htm x hx).2) _ (Nat.le_refl _)
    rwa [List.take_length] at this
  have hmul : ∀ z ∈ stsOf C.n C.s ((fol E (dnN now.dn) e.key).map (·.time)), z % C.s = 0 := by
    have := stsOf_mul (wd := C.n) (sl := C.s) (ts := (fol E (dnN now.dn) e.key).map (·.time)) _ (Nat.le_refl _)
    rwa [List.take_length] at this
  refine batch_of (gb := gb) e.key (fol E (dnN now.dn) e.key) (stsOf C.n C.s ((fol E (dnN now.dn) e.key).map (·.time))) (fun z => rdOf C z ((fol E (dnN now.dn) e.key).map (enFd l (dnN now.dn)))) hst.len (fun W hW => ?_) ?_ (fun W ra rc hW hR => ?_) (fun W hW => ?_) (fun W z hz hW => ?_) (fun W z ra rc hz hW hR => ?_)
  · obtain ⟨ea, ecap, _, c6, _, _, _, hcb, _⟩ := crew_cells (h.below hW).ent2
    exact ⟨c6, hcb⟩
  · exact lawFolded_any h.inv hE h.short hU hd d3 (hB (Below.refl _ _)) e.key
  · refine lawStarts_any (fol E (dnN now.dn) e.key) ra rc (by omega) (by omega) (fun W2 hW2 => ?_) (by omega) htm hR
    obtain ⟨ev, v1, v2⟩ := (h.below (hW.trans (hW2.mono hW.size))).ent2
    exact ⟨cell_of v1 3, cell_of v1 4⟩
  · exact (crew_tells (h.below hW) e.key hks hkk).1
  · refine (crew_tells (h.below hW) e.key hks hkk).2 z ?_
    unfold beginsW
    simp [hmul z hz, (hst.2 z hz).1]
  · exact lawSum_any h.inv hE h.short hU hd d1 (hB hW) (by omega) (fol E (dnN now.dn) e.key) hmem hfl ra rc hR z (hst.2 z hz)

set_option maxRecDepth 100000 in
set_option maxHeartbeats 1000000 in
theorem batches_any {t : Bool} {B : Bd} {N : Nat} {w : World} {ρ : Nat → Nat} {cb gb : Nat} {C : Cfg} {now : Rest} {l : List Sh} {E : List En} (h : Crew t B N w ρ cb gb C now l E l.length) :
    Calls Try.prog 15 #[.pointer (some ⟨cb, 0, none⟩)] w fun e w' => e = .returned (.bool true) ∧ Below w.heap.size w w' := by
  have HM := hide (marks_any h)
  have hUl := mkUp_len l now.dn l.length
  have hpos := h.inv.pos
  have h16 := h.inv.len
  have hshort := h.short
  have HS : Hid (∀ W, Below w.heap.size w W → (W.cell? ⟨cb, 6, none⟩ = some (.pointer (some ⟨gb, 0, none⟩)) ∧ W.cell? ⟨cb, 8, none⟩ = some (.int .i64 l.length)) ∧ Calls Try.prog 33 #[.pointer (some ⟨gb, 0, none⟩)] W fun e w' => ∃ lb lcap, e = .returned (.slice (some ⟨lb, 0, none⟩) l.length lcap) ∧ Tol w' lb l ∧ Below W.heap.size W w') := by
    intro W hb
    have hW := h.below hb
    obtain ⟨ea, ecap, _, c6, _, c8, _, _, _⟩ := crew_cells hW.ent2
    exact ⟨⟨c6, c8⟩, shards_tol hW.grp hW.inv⟩
  have HE : Hid (∀ W, Below w.heap.size w W → ∃ ea ecap, W.cell? ⟨cb, 7, none⟩ = some (.slice ea E.length ecap) ∧ EnR W ea E) := by
    intro W hb
    obtain ⟨ev, v1, v2⟩ := (h.below hb).ent2
    obtain ⟨ea, ecap, rfl⟩ := ownsRow_len v2
    exact ⟨ea, ecap, cell_of v1 7, enR_of v2⟩
  have HBt : Hid (∀ (W : World) (lb mb lcap mcap : Nat) (j : Nat) (e : En), Below w.heap.size w W → Tol W lb l → Mks W mb (mkUp l now.dn l.length) → E[j]? = some e → Calls Try.prog 38 #[.pointer (some ⟨cb, 0, none⟩), .slice (some ⟨lb, 0, none⟩) l.length lcap, .slice (some ⟨mb, 0, none⟩) (mkUp l now.dn l.length).length mcap, .string e.key] W fun e w' => e = .returned (.bool true) ∧ Below W.heap.size W w') := by
    intro W lb mb lcap mcap j e hb hT hM he
    exact crew_batch (h.below hb) hT hM e (List.mem_of_getElem? he)
  have HUp : Hid (0 < (mkUp l now.dn l.length).length) := by unfold Hid; omega
  generalize mkUp l now.dn l.length = U at *
  clear h hUl
  go_enter Try.func15, Try.ntmps15
  go_wp2_with fail
  refine (unhide HM).mono ?_
  rintro e w1 ⟨v1, rfl, hrow1, hb1⟩
  obtain ⟨mb, mcap, rfl, hM1⟩ := mks_of hrow1 (unhide HUp)
  have HM1 := hide hM1
  have HB1 := hide hb1
  obtain ⟨⟨c6, c8⟩, hsh⟩ := unhide HS w1 hb1
  have HSh := hide hsh
  clear hrow1 hb1 hM1 HM hsh
  go_wp2_with fail
  refine (unhide HSh).mono ?_
  rintro e w2 ⟨lb, lcap, rfl, hT2, hb2⟩
  have HT2 := hide hT2
  have HM2 := hide ((unhide HM1).below hb2)
  have HB2 := hide ((unhide HB1).trans (hb2.mono (unhide HB1).size))
  obtain ⟨⟨c6, c8⟩, _⟩ := unhide HS w2 (unhide HB2)
  have hll : ((l.length : Int) == (l.length : Int)) = true := by simp
  clear hT2 hb2 HM1 HB1 HSh
  go_wp2
  go_loopw [4, 6] (fun b i wr => ∃ j : Nat, j ≤ E.length ∧ i = .int .i64 j ∧ b = .bool true ∧ Below w2.heap.size w2 wr) (fun _ i _ => E.length - (intOf i).toNat)
  case atStart => exact ⟨0, Nat.zero_le _, rfl, rfl, Below.refl _ _⟩
  case round =>
    obtain ⟨j, hj, rfl, rfl, hB⟩ := hrel
    have HBw := hide ((unhide HB2).trans (hB.mono (unhide HB2).size))
    obtain ⟨ea, ecap, c7, hER⟩ := unhide HE wr (unhide HBw)
    by_cases hlt : j < E.length
    · obtain ⟨e, he⟩ : ∃ e, E[j]? = some e := ⟨E[j], List.getElem?_eq_getElem hlt⟩
      obtain ⟨eb, rfl, heb, hc⟩ := hER j e he
      have y2 : wr.cell? ⟨eb, j * 5 + 2, none⟩ = some (.string e.key) := hc 2 (by omega)
      have CB := hide (unhide HBt wr lb mb lcap mcap j e (unhide HBw) ((unhide HT2).below hB) ((unhide HM2).below hB) he)
      have HV := hide hB
      clear hc hER he hB
      go_wp2_with fail
      refine (unhide CB).mono ?_
      rintro e9 w3 ⟨rfl, hb3⟩
      have HV3 := hide ((unhide HV).trans (hb3.mono (unhide HV).size))
      clear hb3
      go_wp2
      go_roundw
      case rel => exact ⟨j + 1, by omega, by go_num, rfl, unhide HV3⟩
      case measure => simp [intOf]; omega
    · clear hER
      go_wp2
      go_ret
      exact ⟨rfl, unhide HBw⟩

end Go.Proofs.Ytpnkmnmchdabkaa
namespace Go.Proofs.Ytpnkmnmchdabkaa
open Go.RowKit
attribute [local go_sem ↓] Go.wp_at_zero Go.wp_at_succ

set_option maxRecDepth 100000 in
set_option maxHeartbeats 4000000 in
theorem batchLaw_any (C : Cfg) (sa : Option Addr) (len cap : Nat) (os : List St) (w : World) (hS : IsScript w sa len os) (hlen : len ≤ maxLen) :
    Calls Try.prog 5 #[.agg C.arr, .slice sa len cap] w fun e w' => e = .returned (.bool true) ∧ Below w.heap.size w w' := by
  unfold maxLen at hlen
  cases hv : validB C.a C.l C.b C.n C.s C.t
  · have HB := fun w => hide (hired_bad C w hv)
    unfold Cfg.arr at HB ⊢
    clear hS
    go_enter Try.func5, Try.ntmps5
    go_wp2_with fail
    refine (unhide (HB _)).mono ?_
    rintro e w1 ⟨rfl, hb⟩
    obtain ⟨_, hB1, _⟩ := below_new hb
    have HBB := hide hB1
    clear hb hB1
    go_wp2
    go_ret
    exact ⟨rfl, unhide HBB⟩
  · have HG := fun w => hide (hired_good C w hv)
    have HS := hide hS
    unfold Cfg.arr at HG ⊢
    clear hS hv
    go_enter Try.func5, Try.ntmps5
    go_wp2_with fail
    refine (unhide (HG _)).mono ?_
    rintro e w1 ⟨cb, gb, ρ, now0, rfl, hC, hb⟩
    obtain ⟨_, hB1, hsz⟩ := below_new hb
    have hNs := hb.size
    have hN1 : Hid (Crew true bd0 (w.heap.size + 1) w1 ρ cb gb C now0 [first] [] 1) := by refine hide ?_; simpa using hC
    have HB1 := hide hB1
    clear hb hB1 hC hNs
    go_wp2
    go_loopw [6, 7] (fun b i wr => ∃ (j : Nat) (B : Bd) (ρ : Nat → Nat) (now : Rest) (l : List Sh) (E : List En), j ≤ len ∧ i = .int .i64 j ∧ b = .bool true ∧ B.n = j ∧ Crew true B (w.heap.size + 1) wr ρ cb gb C now l E l.length ∧ Below w.heap.size w wr ∧ w.heap.size + 1 ≤ wr.heap.size) (fun _ i _ => len - (intOf i).toNat)
    case atStart => exact ⟨0, bd0, ρ, now0, [first], [], Nat.zero_le _, rfl, rfl, rfl, unhide hN1, unhide HB1, by omega⟩
    case round =>
      obtain ⟨j, B, ρ2, now, l, E, hj, rfl, rfl, hBn, hC, hB, hNw⟩ := hrel
      by_cases hlt : j < len
      · obtain ⟨o, ho⟩ : ∃ o, os[j]? = some o := ⟨os[j]'(by have := (unhide HS).1; omega), List.getElem?_eq_getElem _⟩
        obtain ⟨hok, sb, off, rfl, hsb, b0, b1, b2, b3, b4, b5⟩ := ((unhide HS).below hB).2 j o ho
        have HK : Hid (∀ wr, Below w.heap.size w wr → wr.cell? ⟨sb, off + j * 6, none⟩ = some (.int .i64 o.kind)) := fun wr hb => by
          obtain ⟨_, sb', off', e, _, q0, _⟩ := ((unhide HS).below hb).2 j o ho
          simp at e
          obtain ⟨rfl, rfl⟩ := e
          exact q0
        have HSt := hide (step_any hC (by omega) hNw o hok)
        unfold St.arr at HSt
        have HB := hide hB
        have hBu : Hid (B.up.n = j + 1) := by unfold Hid; show B.n + 1 = _; omega
        clear ho hC hB hok
        go_wp2_with fail
        refine (unhide HSt).mono ?_
        rintro e w3 ⟨rfl, ρ3, now3, l3, E3, hC3, hB3, _⟩
        have hB3w := (unhide HB).trans (hB3.mono (by omega))
        have hN3 : w.heap.size + 1 ≤ w3.heap.size := by have := hB3.size; omega
        have HLn := hide (batches_any hC3)
        have HC3 := hide hC3
        have HB3 := hide hB3w
        have d0 := unhide HK w3 hB3w
        clear hC3 hB3 hB3w b0 b1 b2 b3 b4 b5
        by_cases k12 : o.kind = 12
        · have q12 : (o.kind == 12) = true := by simp [k12]
          clear k12
          go_wp2_with fail
          refine (unhide HLn).mono ?_
          rintro e w4 ⟨rfl, hB4⟩
          have HC4 := hide ((unhide HC3).below hB4)
          have HB4 := hide ((unhide HB3).trans (hB4.mono (by omega)))
          have hN4 : w.heap.size + 1 ≤ w4.heap.size := by have := hB4.size; omega
          clear hB4
          go_wp2
          exact ⟨⟨j + 1, B.up, ρ3, now3, l3, E3, by omega, by go_num, rfl, unhide hBu, unhide HC4, unhide HB4, hN4⟩, by simp [intOf]; omega⟩
        · have q12 : (o.kind == 12) = false := by simpa using k12
          clear k12
          go_wp2
          exact ⟨⟨j + 1, B.up, ρ3, now3, l3, E3, by omega, by go_num, rfl, unhide hBu, unhide HC3, unhide HB3, hN3⟩, by simp [intOf]; omega⟩
      · have HLn := hide (batches_any hC)
        have HB := hide hB
        clear hC hB
        go_wp2_with fail
        refine (unhide HLn).mono ?_
        rintro e w4 ⟨rfl, hB4⟩
        have HB4 := hide ((unhide HB).trans (hB4.mono (by omega)))
        clear hB4
        go_wp2
        go_ret
        exact ⟨rfl, unhide HB4⟩

end Go.Proofs.Ytpnkmnmchdabkaa
namespace Go.Proofs.Ytpnkmnmchdabkaa.batchDone
open Go.ChangeShapes Go.WideShapes Go.ChangeAt Go.RowKit Go.Joins Go.Deep
set_option linter.unusedVariables false

theorem own : ownKnob Try.prog.godebug = none := by kernel_rfl
theorem laidOut : laidOutB Try.prog = true := by kernel_rfl

set_option maxRecDepth 100000 in
theorem lifted (os : Os) (started : os.Started) (H : Type) (enc : TypeId × Value → H) :
    ReturnsInHanded {} Try.checked os 5 .any (Rows.batchSpec.pre6 enc Try.prog Try.f5 Rows.batchRow.domain false) (Rows.batchSpec.post enc Try.prog Try.f5 false true false false) := by
  refine returnsInHanded_of_change (C := Try.checked) own started (by kernel_rfl) Try.func5
    (ChangeSpec.witness6 (enc := enc) (C := Try.checked) false ⟨#[], #[.agg #[.int .i64 0, .int .i64 0, .int .i64 0, .int .i64 0, .int .i64 0, .int .i64 0], .slice none 0 0], []⟩ 8 (by kernel_rfl) (by kernel_rfl) (by kernel_rfl) (by kernel_rfl)) ?_
  intro W base args ds gs before hval0 hW hcnd _
  have hval : ∀ (j : Nat) t v, Try.f5.params[j]? = some t → args[j]? = some v → Value.okWide Try.prog W .any base t v := hval0
  have hW' := hW
  obtain ⟨p, q, hA0, hV, rfl, hfz, hnd⟩ := hW
  have hA : DataW.TrodAll enc Try.prog W 0 (fun _ => true) true Try.f5.params.toList args.toList ds p := hA0
  rw [Try.params5] at hA hval
  obtain ⟨v0, vs0, d0, ds0, p0, q0, hargs, rfl, rfl, h0, r0⟩ := trodAll_cons hA
  obtain ⟨v1, vs1, d1, ds1, p1, q1, rfl, rfl, rfl, h1, r1⟩ := trodAll_cons r0
  obtain ⟨rfl, rfl, rfl⟩ := trodAll_nil r1
  obtain rfl : args = #[v0, v1] := by cases args; simp_all
  obtain ⟨rfl, rfl⟩ := trodVars_none hV
  obtain ⟨cs, rfl, hcs⟩ := okWide_struct Try.underlying23 (hval 0 23 v0 rfl rfl)
  obtain ⟨a1, len1, cap1, rfl⟩ := okWide_slice Try.underlying24 (hval 1 24 v1 rfl rfl)
  have k0 := h0
  have k1 := h1
  have lt0 : ∀ x ∈ p0, x.block < W.heap.size := by obtain ⟨m, hm⟩ := k0; exact DataW.trod_lt m _ _ _ hm
  have lt1 : ∀ x ∈ p1, x.block < W.heap.size := by obtain ⟨m, hm⟩ := k1; exact DataW.trod_lt m _ _ _ hm
  obtain ⟨C, hC⟩ : ∃ C : Cfg, cs = C.arr := by
    obtain ⟨fuel, hf⟩ := h0
    obtain ⟨C, hC⟩ := cfg_open (by simpa [Value.cells] using hf)
    exact ⟨C, Array.toList_inj.1 hC⟩
  subst hC
  obtain ⟨hlen, sc, hS⟩ : len1 ≤ maxLen ∧ ∃ sc : List St, IsScript W a1 len1 sc := by
    obtain ⟨fuel, hf⟩ := h1
    exact script_open (by simpa [Value.cells] using hf)
  clear hA0 hval0
  refine (batchLaw_any C a1 len1 cap1 sc W hS hlen).mono fun e W' ⟨he, bel⟩ => ?_
  subst he
  exact ⟨_, rfl, _, _, _, [], _, [], hW', trodAll_mk1 (shut_bool Try.underlying4 _), (trodAll_cons_mk (Below.trod laidOut (by kernel_rfl) (of_decide_eq_true (by kernel_rfl)) k0 bel lt0) (trodAll_cons_mk (Below.trod laidOut (by kernel_rfl) (of_decide_eq_true (by kernel_rfl)) k1 bel lt1) trodAll_mk0)), rfl, bel.frame _, fun h => by cases h⟩

theorem over : Rows.batchRow.holds Try.pinned (OpenSpec.ofChange Rows.batchSpec) :=
  OpenClaim.holds_of_wide 5 Try.f5 rfl rfl rfl rfl rfl rfl rfl ⟨rfl, rfl, rfl, rfl, rfl⟩ rfl rfl rfl rfl rfl (by kernel_rfl) Try.func5 (by kernel_rfl)
    (of_decide_eq_true (by kernel_rfl)) (by unfold Func.isWrapper; first | (rw [if_pos (by decide +kernel)]; kernel_rfl) | (rw [if_neg (by decide +kernel)]; exact ⟨rfl, rfl⟩))
    (fun os started H enc _ => lifted os started H enc)

end Go.Proofs.Ytpnkmnmchdabkaa.batchDone

namespace Go.Proofs.Ytpnkmnmchdabkaa
theorem batch_holds : Rows.BatchSaid := batchDone.over
#print axioms batch_holds
end Go.Proofs.Ytpnkmnmchdabkaa
