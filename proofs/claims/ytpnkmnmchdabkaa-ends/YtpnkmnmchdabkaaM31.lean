import Derived.Test.YtpnkmnmchdabkaaM30
namespace Go.Proofs.Ytpnkmnmchdabkaa
open Go.RowKit
attribute [local go_sem ↓] Go.wp_at_zero Go.wp_at_succ

/-- A list of shards that came out, as a walk reads it: what is open, how many records, the parents. -/
def Tol (w : World) (lb : Nat) (l : List Sh) : Prop :=
  lb < w.heap.size ∧ ∀ (i : Nat) (s : Sh), l[i]? = some s → w.cell? ⟨lb, i * 5 + 2, none⟩ = some (.bool s.op) ∧ w.cell? ⟨lb, i * 5 + 4, none⟩ = some (.int .i64 s.cnt) ∧
    ∃ pb pc, pb < w.heap.size ∧ w.cell? ⟨lb, i * 5 + 3, none⟩ = some (.slice (some ⟨pb, 0, none⟩) s.par.length pc) ∧ ∀ j (hj : j < s.par.length), w.cell? ⟨pb, j, none⟩ = some (.int .i64 s.par[j])
theorem Tol.below {w w' : World} {lb : Nat} {l : List Sh} (h : Tol w lb l) (hb : Below w.heap.size w w') : Tol w' lb l := by
  have hs := hb.size
  refine ⟨by have := h.1; omega, fun i s hi => ?_⟩
  obtain ⟨a, b, pb, pc, c, d, e⟩ := h.2 i s hi
  exact ⟨(hb.cell (p := ⟨lb, _, none⟩) h.1).trans a, (hb.cell (p := ⟨lb, _, none⟩) h.1).trans b, pb, pc, by omega, (hb.cell (p := ⟨lb, _, none⟩) h.1).trans d, fun j hj => (hb.cell (p := ⟨pb, _, none⟩) c).trans (e j hj)⟩
/-- A list of marks, as a walk reads it. -/
def Mks (w : World) (mb : Nat) (U : List Mk) : Prop :=
  mb < w.heap.size ∧ ∀ (k : Nat) (x : Mk), U[k]? = some x → w.cell? ⟨mb, k * 3, none⟩ = some (.int .i64 x.d) ∧ w.cell? ⟨mb, k * 3 + 1, none⟩ = some (.int .i64 x.e) ∧ w.cell? ⟨mb, k * 3 + 2, none⟩ = some (.int .i64 x.w)
theorem Mks.below {w w' : World} {mb : Nat} {U : List Mk} (h : Mks w mb U) (hb : Below w.heap.size w w') : Mks w' mb U := by
  have hs := hb.size
  refine ⟨by have := h.1; omega, fun k x hk => ?_⟩
  obtain ⟨a, b, c⟩ := h.2 k x hk
  exact ⟨(hb.cell (p := ⟨mb, _, none⟩) h.1).trans a, (hb.cell (p := ⟨mb, _, none⟩) h.1).trans b, (hb.cell (p := ⟨mb, _, none⟩) h.1).trans c⟩
theorem mks_of {w : World} {B : Nat} {v : Value} {U : List Mk} (h : w.ownsRow B 45 3 v U.length (mkRow U)) (hU : 0 < U.length) : ∃ mb cap, v = .slice (some ⟨mb, 0, none⟩) U.length cap ∧ Mks w mb U := by
  obtain ⟨g, cap, cur, hv, hB, hg, _⟩ := ownsRow_shape h hU
  subst hv
  refine ⟨g, cap, rfl, lt_of_heap hg, fun k x hk => ?_⟩
  have hlt := (List.getElem?_eq_some_iff.1 hk).1
  have hcell : ∀ j, j < 3 → w.cell? ⟨g, k * 3 + j, none⟩ = (mkCells x)[j]? := by
    intro j hj
    rw [World.ownsRow.cellAt h (k * 3 + j) (by omega), mkRow_get U k j hj _ hk]
  exact ⟨hcell 0 (by omega), hcell 1 (by omega), hcell 2 (by omega)⟩
/-- The group's list of shards. -/
theorem shards_tol {w : World} {ρ : Nat → Nat} {gb : Nat} {C : Cfg} {now : Rest} {l : List Sh} (hG : Grp w ρ gb C now l) (hI : Inv l) :
    Calls Try.prog 33 #[.pointer (some ⟨gb, 0, none⟩)] w fun e w' => ∃ lb lcap, e = .returned (.slice (some ⟨lb, 0, none⟩) l.length lcap) ∧ Tol w' lb l ∧ Below w.heap.size w w' := by
  refine (gShards_any w ρ gb C now l hG hI).mono ?_
  rintro e w' ⟨v, k, rfl, hk, hL, hb⟩
  have hkl : k.length = l.length := by rw [← hk]; simp
  have hrow := hL.row
  rw [hkl] at hrow
  obtain ⟨g, cap, cur, hv, hB, hg, _⟩ := ownsRow_shape hrow hI.pos
  subst hv
  refine ⟨g, cap, rfl, ⟨lt_of_heap hg, ?_⟩, hb⟩
  intro i s hi
  rw [← hk] at hi
  simp at hi
  obtain ⟨pv, hx⟩ := hi
  have hlt := (List.getElem?_eq_some_iff.1 hx).1
  have hcell : ∀ j, j < 5 → w'.cell? ⟨g, i * 5 + j, none⟩ = (outCells (s, pv))[j]? := by
    intro j hj
    rw [World.ownsRow.cellAt hrow (i * 5 + j) (by omega), listCells_get k i j hj _ hx]
  refine ⟨hcell 2 (by omega), hcell 4 (by omega), ?_⟩
  have hpar := hL.par i _ hx
  obtain ⟨pg, hpg⟩ := hL.parS i _ hx
  obtain ⟨pa, pc, hpv⟩ := ownsRow_len hpar
  simp only at hpv hpg hpar
  rw [hpv] at hpg hpar
  have hpa : ∃ pb, pa = some ⟨pb, 0, none⟩ := by
    rcases hpar.2 with ⟨e, _⟩ | ⟨g', cap', cur', e, _⟩
    · injection e with e1
      rw [e1] at hpg; simp [Value.ownBlock] at hpg
    · injection e with e1
      exact ⟨g', e1⟩
  obtain ⟨pb, rfl⟩ := hpa
  refine ⟨pb, pc, (hpar.lt pb rfl).2, (hcell 3 (by omega)).trans (by rw [hpv]; rfl), fun j hj => ?_⟩
  rw [World.ownsRow.cellAt hpar j (by omega)]
  simp [hj]

set_option maxRecDepth 100000 in
set_option maxHeartbeats 4000000 in
theorem came_of {l : List Sh} (hI : Inv l) {U : List Mk} {dn : Nat → Int} {w : World} {lb mb lcap mcap : Nat} (hT : Tol w lb l) (k : Nat) (hk : k < l.length)
    (H : ∀ p, p < k → ∀ q, Calls Try.prog 66 #[.slice (some ⟨lb, 0, none⟩) l.length lcap, .slice (some ⟨mb, 0, none⟩) U.length mcap, .int .i64 p] (w.drewN q) fun e w' => e = .returned (.bool (fin l dn p)) ∧ ∃ n, w' = w.drewN n) :
    Calls Try.prog 39 #[.slice (some ⟨lb, 0, none⟩) l.length lcap, .slice (some ⟨mb, 0, none⟩) U.length mcap, .int .i64 k] w fun e w' => e = .returned (.bool (rdy l dn k)) ∧ ∃ n, w' = w.drewN n := by
  have hs : l[k]? = some l[k] := List.getElem?_eq_getElem hk
  generalize l[k] = s at hs
  have h16 := hI.len
  obtain ⟨_, _, pb, pc, _, t3, t4⟩ := hT.2 k s hs
  have HPR := hide (hI.parR k s hs)
  have hp2 := (hI.parL k s hs).1
  have HR := hide (rdy_is dn hs)
  have HH := hide H
  have T4 := hide t4
  clear hT hs H t4
  go_enter Try.func39, Try.ntmps39
  go_wp2
  go_loopw [7] (fun i wr => ∃ (a q : Nat), a ≤ s.par.length ∧ i = .int .i64 a ∧ wr = w.drewN q ∧ (s.par.take a).all (fun p => fin l dn p.toNat) = true) (fun i _ => s.par.length - (intOf i).toNat)
  case atStart => exact ⟨0, 0, Nat.zero_le _, rfl, rfl, by simp⟩
  case round =>
    obtain ⟨a, q, ha, rfl, rfl, hall⟩ := hrel
    by_cases hal : a < s.par.length
    · obtain ⟨p, t, hpe, hpj, ht, _⟩ := unhide HPR s.par[a] (List.getElem_mem _)
      have z4 := unhide T4 a hal
      have HE := hide hpe
      rw [hpe] at z4
      have Z4 : (w.drewN q).cell? ⟨pb, a, none⟩ = some (.int .i64 p) := z4
      have T3 : (w.drewN q).cell? ⟨lb, k * 5 + 3, none⟩ = some (.slice (some ⟨pb, 0, none⟩) s.par.length pc) := t3
      have HA : Hid ((s.par.take (a + 1)).all (fun p => fin l dn p.toNat) = fin l dn p) := by
        unfold Hid
        rw [List.take_succ_eq_append_getElem hal, List.all_append, hall, hpe]
        simp
      have CW := hide (unhide HH p hpj q)
      have hpl : p < l.length := by omega
      have m1 : decide ((p : Int) < 0) = false := by simp
      have m2 : decide ((k : Int) ≤ p) = false := by simp; omega
      have HAL := hide hall
      clear z4 t3 ht hpe hall
      go_wp2_with fail
      refine (unhide CW).mono ?_
      rintro e w1 ⟨rfl, n, rfl⟩
      cases hf : fin l dn p
      · have HF := hide hf
        clear hf
        go_wp2
        go_ret
        refine ⟨ret_bool ?_, n, rfl⟩
        rw [unhide HR]
        symm
        rw [List.all_eq_false]
        refine ⟨s.par[a], List.getElem_mem _, ?_⟩
        rw [unhide HE, show ((p : Int)).toNat = p by omega, unhide HF]
        simp
      · have HF := hide hf
        clear hf
        go_wp2
        go_roundw
        case rel => exact ⟨a + 1, n, by omega, by go_num, rfl, by rw [unhide HA]; exact unhide HF⟩
        case measure => simp [intOf]; omega
    · have HAL := hide hall
      have T3 : (w.drewN q).cell? ⟨lb, k * 5 + 3, none⟩ = some (.slice (some ⟨pb, 0, none⟩) s.par.length pc) := t3
      clear hall t3
      go_wp2
      go_ret
      refine ⟨ret_bool ?_, q, rfl⟩
      have := unhide HAL
      rw [List.take_of_length_le (by omega)] at this
      rw [unhide HR, this]

set_option maxRecDepth 100000 in
set_option maxHeartbeats 4000000 in
theorem whole_of {l : List Sh} (hI : Inv l) {U : List Mk} {dn : Nat → Int} {w : World} {lb mb lcap mcap : Nat} (hT : Tol w lb l) (hM : Mks w mb U) (hU : U.length = l.length) (hd : ∀ (k : Nat) (x : Mk), U[k]? = some x → x.d = dn k) (k : Nat) (hk : k < l.length)
    (H : ∀ q, Calls Try.prog 39 #[.slice (some ⟨lb, 0, none⟩) l.length lcap, .slice (some ⟨mb, 0, none⟩) U.length mcap, .int .i64 k] (w.drewN q) fun e w' => e = .returned (.bool (rdy l dn k)) ∧ ∃ n, w' = w.drewN n) :
    Calls Try.prog 66 #[.slice (some ⟨lb, 0, none⟩) l.length lcap, .slice (some ⟨mb, 0, none⟩) U.length mcap, .int .i64 k] w fun e w' => e = .returned (.bool (fin l dn k)) ∧ ∃ n, w' = w.drewN n := by
  have hs : l[k]? = some l[k] := List.getElem?_eq_getElem hk
  generalize l[k] = s at hs
  have hx : U[k]? = some (U[k]'(by omega)) := List.getElem?_eq_getElem (by omega)
  generalize U[k]'(by omega) = x at hx
  have h16 := hI.len
  obtain ⟨t2, t4, _⟩ := hT.2 k s hs
  obtain ⟨y0, _⟩ := hM.2 k x hx
  have HF := hide (fin_is hI dn hs)
  have hxd := hd k x hx
  have HH := hide H
  have hkU : k < U.length := by omega
  have HUL := hide hU
  clear hT hM hs hx H hd hU
  cases so : s.op
  · rw [so] at t2 HF
    by_cases he : x.d = s.cnt
    · have HX : Hid (fin l dn k = rdy l dn k) := by
        unfold Hid
        rw [unhide HF, ← hxd, he]
        simp
      have b1 : (x.d != (s.cnt : Int)) = false := by simp [he]
      have b2 : (x.d == (s.cnt : Int)) = true := by simp [he]
      clear so hxd he
      go_enter Try.func66, Try.ntmps66
      go_wp2
      go_region_held3 (fun w' => w'.cell? ⟨lb, k * 5 + 2, none⟩ = some (.bool false) ∧ w'.cell? ⟨mb, k * 3, none⟩ = some (.int .i64 x.d) ∧ w'.cell? ⟨lb, k * 5 + 4, none⟩ = some (.int .i64 s.cnt)) (first | go_keep | trivial) (fail)
      have CA := hide (unhide HH 1)
      go_wp2_with fail
      refine (unhide CA).mono ?_
      rintro e w1 ⟨rfl, n, rfl⟩
      go_wp2
      go_ret
      exact ⟨ret_bool (by rw [unhide HX]), n, rfl⟩
    · have HX : Hid (fin l dn k = false) := by
        unfold Hid
        rw [unhide HF, ← hxd]
        simp [he]
      have b1 : (x.d != (s.cnt : Int)) = true := by simpa using he
      have b2 : (x.d == (s.cnt : Int)) = false := by simpa using he
      clear so hxd he
      go_enter Try.func66, Try.ntmps66
      go_wp2
      go_region_held3 (fun w' => w'.cell? ⟨lb, k * 5 + 2, none⟩ = some (.bool false) ∧ w'.cell? ⟨mb, k * 3, none⟩ = some (.int .i64 x.d) ∧ w'.cell? ⟨lb, k * 5 + 4, none⟩ = some (.int .i64 s.cnt)) (first | go_keep | trivial) (fail)
      go_wp2
      go_ret
      exact ⟨ret_bool (by rw [unhide HX]), 1, rfl⟩
  · rw [so] at t2 HF
    have HX : Hid (fin l dn k = false) := by
      unfold Hid
      rw [unhide HF]
      simp
    clear so hxd
    go_enter Try.func66, Try.ntmps66
    go_wp2
    go_quiet (fail)
    go_wp2
    go_ret
    exact ⟨ret_bool (by rw [unhide HX]), nq, rfl⟩

theorem whole_any {l : List Sh} (hI : Inv l) {U : List Mk} {dn : Nat → Int} {lb mb lcap mcap : Nat} (hU : U.length = l.length) (hd : ∀ (k : Nat) (x : Mk), U[k]? = some x → x.d = dn k) : ∀ (k : Nat), k < l.length → ∀ w, Tol w lb l → Mks w mb U →
    (Calls Try.prog 39 #[.slice (some ⟨lb, 0, none⟩) l.length lcap, .slice (some ⟨mb, 0, none⟩) U.length mcap, .int .i64 k] w fun e w' => e = .returned (.bool (rdy l dn k)) ∧ ∃ n, w' = w.drewN n) ∧
    (Calls Try.prog 66 #[.slice (some ⟨lb, 0, none⟩) l.length lcap, .slice (some ⟨mb, 0, none⟩) U.length mcap, .int .i64 k] w fun e w' => e = .returned (.bool (fin l dn k)) ∧ ∃ n, w' = w.drewN n) := by
  intro k
  induction k using Nat.strongRecOn with
  | ind k ih =>
    intro hk w hT hM
    have hdr : ∀ q, Below w.heap.size w (w.drewN q) := fun q => ⟨rfl, rfl, rfl, Nat.le_refl _, fun _ _ => rfl⟩
    have hca : ∀ q, Calls Try.prog 39 #[.slice (some ⟨lb, 0, none⟩) l.length lcap, .slice (some ⟨mb, 0, none⟩) U.length mcap, .int .i64 k] (w.drewN q) fun e w' => e = .returned (.bool (rdy l dn k)) ∧ ∃ n, w' = w.drewN n := fun q => by
      refine (came_of (U := U) (mb := mb) (mcap := mcap) (lcap := lcap) (dn := dn) hI (hT.below (hdr q)) k hk fun p hp q' => ?_).mono fun e w' h => ⟨h.1, ?_⟩
      · have := (ih p hp (by omega) ((w.drewN q).drewN q') ((hT.below (hdr q)).below ⟨rfl, rfl, rfl, Nat.le_refl _, fun _ _ => rfl⟩) ((hM.below (hdr q)).below ⟨rfl, rfl, rfl, Nat.le_refl _, fun _ _ => rfl⟩)).2
        refine this.mono fun e w' h => ⟨h.1, ?_⟩
        obtain ⟨n, rfl⟩ := h.2
        exact ⟨q' + n, World.drewN_drewN ..⟩
      · obtain ⟨n, rfl⟩ := h.2
        exact ⟨q + n, World.drewN_drewN ..⟩
    exact ⟨hca 0, whole_of hI hT hM hU hd k hk hca⟩

end Go.Proofs.Ytpnkmnmchdabkaa
namespace Go.Proofs.Ytpnkmnmchdabkaa
open Go.RowKit
attribute [local go_sem ↓] Go.wp_at_zero Go.wp_at_succ

/-- All that the law asks of a crew and its group, wherever only new memory was made. -/
def Rds (w : World) (cb gb : Nat) (C : Cfg) (now : Rest) (l : List Sh) (E : List En) (P : List Pl) : Prop :=
  ∀ W, Below w.heap.size w W →
    (W.cell? ⟨cb, 0, none⟩ = some (.int .i64 C.a) ∧ W.cell? ⟨cb, 2, none⟩ = some (.int .i64 C.b) ∧ W.cell? ⟨cb, 6, none⟩ = some (.pointer (some ⟨gb, 0, none⟩)) ∧ W.cell? ⟨cb, 8, none⟩ = some (.int .i64 l.length)) ∧
    (∀ k : Nat, Calls Try.prog 18 #[.pointer (some ⟨cb, 0, none⟩), .int .i64 k] W fun e w' => e = .returned (.int .i64 (held E k)) ∧ W = w') ∧
    (∀ i : Nat, i < now.n → Calls Try.prog 35 #[.pointer (some ⟨gb, 0, none⟩), .int .i64 i] W fun e w' => ∃ v, e = .returned (.tuple #[v, .int .i64 0]) ∧ w'.ownsRow W.heap.size 75 4 v (heldOf P i 16).length (rowHd (heldOf P i 16)) ∧ Below W.heap.size W w') ∧
    (∀ (k : Nat) (x : Le), k < l.length → now.ls[k]? = some x → Calls Try.prog 36 #[.pointer (some ⟨gb, 0, none⟩), .int .i64 k] W fun e w' => e = .returned (.tuple #[.agg #[.int .i64 x.o, .int .i64 x.c, .int .i64 x.e], .int .i64 0]) ∧ Below W.heap.size W w')

theorem reads_of {t : Bool} {B : Bd} {N : Nat} {w : World} {ρ : Nat → Nat} {cb gb : Nat} {C : Cfg} {now : Rest} {l : List Sh} {E : List En} (h : Crew t B N w ρ cb gb C now l E l.length) {g cap : Nat} {P : List Pl} (a : now.wv = .slice (some ⟨g, 0, none⟩) now.n cap) (b : now.mem = plsCells P) (c : P.length = now.n * 16) : Rds w cb gb C now l E P := by
  intro W hb
  have hW := h.below hb
  have hlen := h.inv.len
  have hpos := h.inv.pos
  obtain ⟨ea, ecap, c0, c6, c7, c8, _, _, hE⟩ := crew_cells hW.ent2
  obtain ⟨ev, hv, _⟩ := hW.ent2
  obtain ⟨sv, m, e, G⟩ := hW.grp
  have gs : GS W ρ gb C now sv m g cap now.ls P := GrpL.gs ⟨G, a, b, c, by rw [← e] at hlen; simpa using hlen, hW.fits⟩
  have hml : m.length = l.length := by rw [← e]; simp
  exact ⟨⟨c0, cell_of hv 2, c6, c8⟩, fun k => count_raw hW.short c7 hE k, fun i hi => gHolds_any gs i hi, fun k x hk hx => gLease_any gs (by omega) k (by omega) x hx⟩
theorem crew_reads {t : Bool} {B : Bd} {N : Nat} {w : World} {ρ : Nat → Nat} {cb gb : Nat} {C : Cfg} {now : Rest} {l : List Sh} {E : List En} (h : Crew t B N w ρ cb gb C now l E l.length) :
    ∃ P, (now.n : Int) = C.a ∧ now.n ≤ 4 ∧ Ow B.n now.n C.b l now.dn now.ls P ∧ Rds w cb gb C now l E P := by
  obtain ⟨_, hn, hn4, _, g, cap, P, a, b, c, o, _⟩ := h.wok
  exact ⟨P, hn, hn4, o, reads_of h a b c⟩

/-- The holds of a worker rise. -/
theorem heldOf_sorted {P : List Pl} {i : Nat} (hs : ∀ (k : Nat) (p : Pl), k < 16 → P[i * 16 + k]? = some p → p.held = true → p.h.sh = k) : ∀ n, n ≤ 16 → (heldOf P i n).Pairwise (fun x y => x.sh < y.sh)
  | 0, _ => List.Pairwise.nil
  | n + 1, hn => by
    rw [heldOf, List.pairwise_append]
    refine ⟨heldOf_sorted hs n (by omega), ?_, fun x hx y hy => ?_⟩
    · cases hp : P[i * 16 + n]? with
      | none => simp
      | some p => by_cases hh : p.held = true <;> simp [hh]
    · obtain ⟨k, p, hk, hp, hh, rfl⟩ := heldOf_in hx
      cases hq : P[i * 16 + n]? with
      | none => rw [hq] at hy; simp at hy
      | some q =>
        rw [hq] at hy
        by_cases hh' : q.held = true
        · simp [hh'] at hy
          subst hy
          rw [hs k p (by omega) hp hh, hs n q (by omega) hq hh']
          omega
        · simp [hh'] at hy
theorem heldOf_has {P : List Pl} {i k : Nat} {p : Pl} (hp : P[i * 16 + k]? = some p) (hh : p.held = true) : ∀ n, k < n → p.h ∈ heldOf P i n
  | 0, h => by omega
  | n + 1, h => by
    rw [heldOf, List.mem_append]
    by_cases e : k < n
    · exact Or.inl (heldOf_has hp hh n e)
    · have e : k = n := by omega
      subst e
      rw [hp]
      simp [hh]
/-- All holds of the first n workers. -/
def allUp (P : List Pl) : Nat → List Hd
  | 0 => []
  | n + 1 => allUp P n ++ heldOf P n 16
theorem allUp_in {P : List Pl} {x : Hd} : ∀ {n : Nat}, x ∈ allUp P n → ∃ i, i < n ∧ x ∈ heldOf P i 16
  | 0, h => by simp [allUp] at h
  | n + 1, h => by
    rw [allUp, List.mem_append] at h
    rcases h with h | h
    · obtain ⟨i, a, b⟩ := allUp_in h
      exact ⟨i, by omega, b⟩
    · exact ⟨n, by omega, h⟩
theorem allUp_len (P : List Pl) : ∀ n, (allUp P n).length ≤ n * 16
  | 0 => by simp [allUp]
  | n + 1 => by
    rw [allUp, List.length_append]
    have := allUp_len P n
    have := heldOf_le P n 16
    omega

/-- What is so of a hold that is listed. -/
theorem Ow.hold {B n : Nat} {Cb : Int} {l : List Sh} {dn : List Int} {ls : List Le} {P : List Pl} (h : Ow B n Cb l dn ls P) {i : Nat} (hi : i < n) {y : Hd} (hy : y ∈ heldOf P i 16) :
    ∃ (k : Nat) (x : Le), k < l.length ∧ y.sh = k ∧ ls[k]? = some x ∧ 1 ≤ y.ep ∧ y.ep ≤ x.e ∧ (y.ep = x.e → x.o = i) ∧ epP dn k ≤ x.e ∧ 0 ≤ y.at_ ∧ y.at_ ≤ dnP dn k ∧ 0 ≤ y.bf ∧ y.bf ≤ Cb ∧ y.at_ + y.bf ≤ cn l k := by
  obtain ⟨k, p, hk, hp, hh, rfl⟩ := heldOf_in hy
  obtain ⟨x, hx⟩ : ∃ x, ls[k]? = some x := ⟨ls[k]'(by rw [h.lsL]; exact hk), List.getElem?_eq_getElem _⟩
  have H := h.hd i k p x hi hk hp hh hx
  exact ⟨k, x, H.lt, H.sh, hx, H.e1, H.e2, H.own, (h.le k x hx).2.2.1, H.a0, H.a1, H.b0, H.b1, H.ab⟩
theorem Ow.rise {B n : Nat} {Cb : Int} {l : List Sh} {dn : List Int} {ls : List Le} {P : List Pl} (h : Ow B n Cb l dn ls P) {i : Nat} (hi : i < n) : (heldOf P i 16).Pairwise (fun x y => x.sh < y.sh) := by
  refine heldOf_sorted (fun k p hk hp hh => ?_) 16 (Nat.le_refl _)
  obtain ⟨x, hx⟩ : ∃ x, ls[k]? = some x := ⟨ls[k]'(by rw [h.lsL]; exact hk), List.getElem?_eq_getElem _⟩
  exact (h.hd i k p x hi hk hp hh hx).sh
theorem rise_at {L : List Hd} (h : L.Pairwise (fun x y => x.sh < y.sh)) {a b : Nat} {x y : Hd} (hab : a < b) (hx : L[a]? = some x) (hy : L[b]? = some y) : x.sh < y.sh := by
  obtain ⟨h1, rfl⟩ := List.getElem?_eq_some_iff.1 hx
  obtain ⟨h2, rfl⟩ := List.getElem?_eq_some_iff.1 hy
  exact List.pairwise_iff_getElem.1 h a b h1 h2 hab
/-- No two holds are of one shard and one epoch. -/
theorem Ow.apart {B n : Nat} {Cb : Int} {l : List Sh} {dn : List Int} {ls : List Le} {P : List Pl} (h : Ow B n Cb l dn ls P) {i j : Nat} (hi : i < n) {x y : Hd} (hy : (heldOf P i 16)[j]? = some y) (hx : x ∈ allUp P i ++ (heldOf P i 16).take j) (he : x.sh = y.sh) : x.ep ≠ y.ep := by
  rw [List.mem_append] at hx
  rcases hx with hx | hx
  · obtain ⟨i', hi', hx⟩ := allUp_in hx
    obtain ⟨k, p, hk, hp, hh, rfl⟩ := heldOf_in hx
    obtain ⟨k', q, hk', hq, hh', rfl⟩ := heldOf_in (List.mem_of_getElem? hy)
    obtain ⟨z, hz⟩ : ∃ z, ls[k]? = some z := ⟨ls[k]'(by rw [h.lsL]; exact hk), List.getElem?_eq_getElem _⟩
    obtain ⟨z', hz'⟩ : ∃ z, ls[k']? = some z := ⟨ls[k']'(by rw [h.lsL]; exact hk'), List.getElem?_eq_getElem _⟩
    have e1 := (h.hd i' k p z (by omega) hk hp hh hz).sh
    have e2 := (h.hd i k' q z' hi hk' hq hh' hz').sh
    have e : k = k' := by omega
    subst e
    exact h.df i' i k p q (by omega) hi hk hp hq hh hh' (by omega)
  · obtain ⟨a, ha⟩ := List.getElem?_of_mem hx
    rw [List.getElem?_take] at ha
    split at ha
    · have := rise_at (h.rise hi) (by assumption) ha hy
      omega
    · cases ha

set_option maxRecDepth 100000 in
set_option maxHeartbeats 4000000 in
theorem waits_any {l : List Sh} (hI : Inv l) {U : List Mk} {dn : Nat → Int} {lb mb lcap mcap : Nat} (hU : U.length = l.length) (hd : ∀ (k : Nat) (x : Mk), U[k]? = some x → x.d = dn k) (k : Nat) (hk : k < l.length) (w : World) (hT : Tol w lb l) (hM : Mks w mb U) :
    Calls Try.prog 37 #[.slice (some ⟨lb, 0, none⟩) l.length lcap, .slice (some ⟨mb, 0, none⟩) U.length mcap, .int .i64 k] w fun e w' => e = .returned (.bool (!(rdy l dn k) || fin l dn k)) ∧ ∃ n, w' = w.drewN n := by
  have C1 := hide (whole_any (lcap := lcap) (mcap := mcap) hI hU hd k hk w hT hM).1
  have C2 : Hid (∀ q, Calls Try.prog 66 #[.slice (some ⟨lb, 0, none⟩) l.length lcap, .slice (some ⟨mb, 0, none⟩) U.length mcap, .int .i64 k] (w.drewN q) fun e w' => e = .returned (.bool (fin l dn k)) ∧ ∃ n, w' = (w.drewN q).drewN n) := fun q =>
    (whole_any (lcap := lcap) (mcap := mcap) hI hU hd k hk (w.drewN q) (hT.below ⟨rfl, rfl, rfl, Nat.le_refl _, fun _ _ => rfl⟩) (hM.below ⟨rfl, rfl, rfl, Nat.le_refl _, fun _ _ => rfl⟩)).2
  have h16 := hI.len
  generalize rdy l dn k = r at *
  generalize fin l dn k = f at *
  clear hT hM hI hd hU
  go_enter Try.func37, Try.ntmps37
  go_wp2_with fail
  refine (unhide C1).mono ?_
  rintro e w1 ⟨rfl, n, rfl⟩
  have C3 := hide (unhide C2 n)
  have HN : Hid (∀ m, (w.drewN n).drewN m = w.drewN (n + m)) := fun m => World.drewN_drewN ..
  generalize w.drewN n = V at *
  go_wp2_with fail
  refine (unhide C3).mono ?_
  rintro e w1 ⟨rfl, m, rfl⟩
  cases r <;> cases f
  all_goals
    go_wp2
    go_ret
    exact ⟨ret_bool (by rfl), n + m, unhide HN m⟩

end Go.Proofs.Ytpnkmnmchdabkaa
