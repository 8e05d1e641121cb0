import Derived.Test.YtpnkmnmchdabkaaM36
import Derived.Test.YtpnkmnmchdabkaaM23
import Derived.Test.YtpnkmnmchdabkaaBat
import Derived.Test.YtpnkmnmchdabkaaM38
namespace Go.Proofs.Ytpnkmnmchdabkaa
open Go.RowKit
attribute [local go_sem ↓] Go.wp_at_zero Go.wp_at_succ

/-- A list of shards that came out, as a walk reads it: what is open, how many records, the parents. -/
def Tol (w : World) (lb : Nat) (l : List Sh) : Prop :=
  lb < w.heap.size ∧ ∀ (i : Nat) (s : Sh), l[i]? = some s → w.cell? ⟨lb, i * 5 + 2, none⟩ = some (.bool s.op) ∧ w.cell? ⟨lb, i * 5 + 4, none⟩ = some (.int .i64 s.cnt) ∧
    ∃ pb pc, pb < w.heap.size ∧ w.cell? ⟨lb, i * 5 + 3, none⟩ = some (.slice (some ⟨pb, 0, none⟩) s.par.length pc) ∧ ∀ j (hj : j < s.par.length), w.cell? ⟨pb, j, none⟩ = some (.int .i64 s.par[j])
theorem Tol.below {w w' : World} {lb : Nat} {l : List Sh} (h : Tol w lb l) (hb : Below w.heap.size w w') : Tol w' lb l := by
  have hs := hb.size
  refine ⟨by have := h.1; omega, fun i s hi => ?_⟩
  obtain ⟨a, b, pb, pc, c, d, e⟩ := h.2 i s hi
  exact ⟨(hb.cell (p := ⟨lb, _, none⟩) h.1).trans a, (hb.cell (p := ⟨lb, _, none⟩) h.1).trans b, pb, pc, by omega, (hb.cell (p := ⟨lb, _, none⟩) h.1).trans d, fun j hj => (hb.cell (p := ⟨pb, _, none⟩) c).trans (e j hj)⟩
/-- A list of marks, as a walk reads it. -/
def Mks (w : World) (mb : Nat) (U : List Mk) : Prop :=
  mb < w.heap.size ∧ ∀ (k : Nat) (x : Mk), U[k]? = some x → w.cell? ⟨mb, k * 3, none⟩ = some (.int .i64 x.d) ∧ w.cell? ⟨mb, k * 3 + 1, none⟩ = some (.int .i64 x.e) ∧ w.cell? ⟨mb, k * 3 + 2, none⟩ = some (.int .i64 x.w)
theorem Mks.below {w w' : World} {mb : Nat} {U : List Mk} (h : Mks w mb U) (hb : Below w.heap.size w w') : Mks w' mb U := by
  have hs := hb.size
  refine ⟨by have := h.1; omega, fun k x hk => ?_⟩
  obtain ⟨a, b, c⟩ := h.2 k x hk
  exact ⟨(hb.cell (p := ⟨mb, _, none⟩) h.1).trans a, (hb.cell (p := ⟨mb, _, none⟩) h.1).trans b, (hb.cell (p := ⟨mb, _, none⟩) h.1).trans c⟩
theorem mks_of {w : World} {B : Nat} {v : Value} {U : List Mk} (h : w.ownsRow B 45 3 v U.length (mkRow U)) (hU : 0 < U.length) : ∃ mb cap, v = .slice (some ⟨mb, 0, none⟩) U.length cap ∧ Mks w mb U := by
  obtain ⟨g, cap, cur, hv, hB, hg, _⟩ := ownsRow_shape h hU
  subst hv
  refine ⟨g, cap, rfl, lt_of_heap hg, fun k x hk => ?_⟩
  have hlt := (List.getElem?_eq_some_iff.1 hk).1
  have hcell : ∀ j, j < 3 → w.cell? ⟨g, k * 3 + j, none⟩ = (mkCells x)[j]? := by
    intro j hj
    rw [World.ownsRow.cellAt h (k * 3 + j) (by omega), mkRow_get U k j hj _ hk]
  exact ⟨hcell 0 (by omega), hcell 1 (by omega), hcell 2 (by omega)⟩
/-- The group's list of shards. -/
theorem shards_tol {w : World} {ρ : Nat → Nat} {gb : Nat} {C : Cfg} {now : Rest} {l : List Sh} (hG : Grp w ρ gb C now l) (hI : Inv l) :
    Calls Try.prog 33 #[.pointer (some ⟨gb, 0, none⟩)] w fun e w' => ∃ lb lcap, e = .returned (.slice (some ⟨lb, 0, none⟩) l.length lcap) ∧ Tol w' lb l ∧ Below w.heap.size w w' := by
  refine (gShards_any w ρ gb C now l hG hI).mono ?_
  rintro e w' ⟨v, k, rfl, hk, hL, hb⟩
  have hkl : k.length = l.length := by rw [← hk]; simp
  have hrow := hL.row
  rw [hkl] at hrow
  obtain ⟨g, cap, cur, hv, hB, hg, _⟩ := ownsRow_shape hrow hI.pos
  subst hv
  refine ⟨g, cap, rfl, ⟨lt_of_heap hg, ?_⟩, hb⟩
  intro i s hi
  rw [← hk] at hi
  simp at hi
  obtain ⟨pv, hx⟩ := hi
  have hlt := (List.getElem?_eq_some_iff.1 hx).1
  have hcell : ∀ j, j < 5 → w'.cell? ⟨g, i * 5 + j, none⟩ = (outCells (s, pv))[j]? := by
    intro j hj
    rw [World.ownsRow.cellAt hrow (i * 5 + j) (by omega), listCells_get k i j hj _ hx]
  refine ⟨hcell 2 (by omega), hcell 4 (by omega), ?_⟩
  have hpar := hL.par i _ hx
  obtain ⟨pg, hpg⟩ := hL.parS i _ hx
  obtain ⟨pa, pc, hpv⟩ := ownsRow_len hpar
  simp only at hpv hpg hpar
  rw [hpv] at hpg hpar
  have hpa : ∃ pb, pa = some ⟨pb, 0, none⟩ := by
    rcases hpar.2 with ⟨e, _⟩ | ⟨g', cap', cur', e, _⟩
    · injection e with e1
      rw [e1] at hpg; simp [Value.ownBlock] at hpg
    · injection e with e1
      exact ⟨g', e1⟩
  obtain ⟨pb, rfl⟩ := hpa
  refine ⟨pb, pc, (hpar.lt pb rfl).2, (hcell 3 (by omega)).trans (by rw [hpv]; rfl), fun j hj => ?_⟩
  rw [World.ownsRow.cellAt hpar j (by omega)]
  simp [hj]

set_option maxRecDepth 100000 in
set_option maxHeartbeats 4000000 in
theorem came_of {l : List Sh} (hI : Inv l) {U : List Mk} {dn : Nat → Int} {w : World} {lb mb lcap mcap : Nat} (hT : Tol w lb l) (k : Nat) (hk : k < l.length)
    (H : ∀ p, p < k → ∀ q, Calls Try.prog 66 #[.slice (some ⟨lb, 0, none⟩) l.length lcap, .slice (some ⟨mb, 0, none⟩) U.length mcap, .int .i64 p] (w.drewN q) fun e w' => e = .returned (.bool (fin l dn p)) ∧ ∃ n, w' = w.drewN n) :
    Calls Try.prog 39 #[.slice (some ⟨lb, 0, none⟩) l.length lcap, .slice (some ⟨mb, 0, none⟩) U.length mcap, .int .i64 k] w fun e w' => e = .returned (.bool (rdy l dn k)) ∧ ∃ n, w' = w.drewN n := by
  have hs : l[k]? = some l[k] := List.getElem?_eq_getElem hk
  generalize l[k] = s at hs
  have h16 := hI.len
  obtain ⟨_, _, pb, pc, _, t3, t4⟩ := hT.2 k s hs
  have HPR := hide (hI.parR k s hs)
  have hp2 := (hI.parL k s hs).1
  have HR := hide (rdy_is dn hs)
  have HH := hide H
  have T4 := hide t4
  clear hT hs H t4
  go_enter Try.func39, Try.ntmps39
  go_wp2
  go_loopw [7] (fun i wr => ∃ (a q : Nat), a ≤ s.par.length ∧ i = .int .i64 a ∧ wr = w.drewN q ∧ (s.par.take a).all (fun p => fin l dn p.toNat) = true) (fun i _ => s.par.length - (intOf i).toNat)
  case atStart => exact ⟨0, 0, Nat.zero_le _, rfl, rfl, by simp⟩
  case round =>
    obtain ⟨a, q, ha, rfl, rfl, hall⟩ := hrel
    by_cases hal : a < s.par.length
    · obtain ⟨p, t, hpe, hpj, ht, _⟩ := unhide HPR s.par[a] (List.getElem_mem _)
      have z4 := unhide T4 a hal
      have HE := hide hpe
      rw [hpe] at z4
      have Z4 : (w.drewN q).cell? ⟨pb, a, none⟩ = some (.int .i64 p) := z4
      have T3 : (w.drewN q).cell? ⟨lb, k * 5 + 3, none⟩ = some (.slice (some ⟨pb, 0, none⟩) s.par.length pc) := t3
      have HA : Hid ((s.par.take (a + 1)).all (fun p => fin l dn p.toNat) = fin l dn p) := by
        unfold Hid
        rw [List.take_succ_eq_append_getElem hal, List.all_append, hall, hpe]
        simp
      have CW := hide (unhide HH p hpj q)
      have hpl : p < l.length := by omega
      have m1 : decide ((p : Int) < 0) = false := by simp
      have m2 : decide ((k : Int) ≤ p) = false := by simp; omega
      have HAL := hide hall
      clear z4 t3 ht hpe hall
      go_wp2_with fail
      refine (unhide CW).mono ?_
      rintro e w1 ⟨rfl, n, rfl⟩
      cases hf : fin l dn p
      · have HF := hide hf
        clear hf
        go_wp2
        go_ret
        refine ⟨ret_bool ?_, n, rfl⟩
        rw [unhide HR]
        symm
        rw [List.all_eq_false]
        refine ⟨s.par[a], List.getElem_mem _, ?_⟩
        rw [unhide HE, show ((p : Int)).toNat = p by omega, unhide HF]
        simp
      · have HF := hide hf
        clear hf
        go_wp2
        go_roundw
        case rel => exact ⟨a + 1, n, by omega, by go_num, rfl, by rw [unhide HA]; exact unhide HF⟩
        case measure => simp [intOf]; omega
    · have HAL := hide hall
      have T3 : (w.drewN q).cell? ⟨lb, k * 5 + 3, none⟩ = some (.slice (some ⟨pb, 0, none⟩) s.par.length pc) := t3
      clear hall t3
      go_wp2
      go_ret
      refine ⟨ret_bool ?_, q, rfl⟩
      have := unhide HAL
      rw [List.take_of_length_le (by omega)] at this
      rw [unhide HR, this]

set_option maxRecDepth 100000 in
set_option maxHeartbeats 4000000 in
theorem whole_of {l : List Sh} (hI : Inv l) {U : List Mk} {dn : Nat → Int} {w : World} {lb mb lcap mcap : Nat} (hT : Tol w lb l) (hM : Mks w mb U) (hU : U.length = l.length) (hd : ∀ (k : Nat) (x : Mk), U[k]? = some x → x.d = dn k) (k : Nat) (hk : k < l.length)
    (H : ∀ q, Calls Try.prog 39 #[.slice (some ⟨lb, 0, none⟩) l.length lcap, .slice (some ⟨mb, 0, none⟩) U.length mcap, .int .i64 k] (w.drewN q) fun e w' => e = .returned (.bool (rdy l dn k)) ∧ ∃ n, w' = w.drewN n) :
    Calls Try.prog 66 #[.slice (some ⟨lb, 0, none⟩) l.length lcap, .slice (some ⟨mb, 0, none⟩) U.length mcap, .int .i64 k] w fun e w' => e = .returned (.bool (fin l dn k)) ∧ ∃ n, w' = w.drewN n := by
  have hs : l[k]? = some l[k] := List.getElem?_eq_getElem hk
  generalize l[k] = s at hs
  have hx : U[k]? = some (U[k]'(by omega)) := List.getElem?_eq_getElem (by omega)
  generalize U[k]'(by omega) = x at hx
  have h16 := hI.len
  obtain ⟨t2, t4, _⟩ := hT.2 k s hs
  obtain ⟨y0, _⟩ := hM.2 k x hx
  have HF := hide (fin_is hI dn hs)
  have hxd := hd k x hx
  have HH := hide H
  have hkU : k < U.length := by omega
  have HUL := hide hU
  clear hT hM hs hx H hd hU
  cases so : s.op
  · rw [so] at t2 HF
    by_cases he : x.d = s.cnt
    · have HX : Hid (fin l dn k = rdy l dn k) := by
        unfold Hid
        rw [unhide HF, ← hxd, he]
        simp
      have b1 : (x.d != (s.cnt : Int)) = false := by simp [he]
      have b2 : (x.d == (s.cnt : Int)) = true := by simp [he]
      clear so hxd he
      go_enter Try.func66, Try.ntmps66
      go_wp2
      go_region_held3 (fun w' => w'.cell? ⟨lb, k * 5 + 2, none⟩ = some (.bool false) ∧ w'.cell? ⟨mb, k * 3, none⟩ = some (.int .i64 x.d) ∧ w'.cell? ⟨lb, k * 5 + 4, none⟩ = some (.int .i64 s.cnt)) (first | go_keep | trivial) (fail)
      have CA := hide (unhide HH 1)
      go_wp2_with fail
      refine (unhide CA).mono ?_
      rintro e w1 ⟨rfl, n, rfl⟩
      go_wp2
      go_ret
      exact ⟨ret_bool (by rw [unhide HX]), n, rfl⟩
    · have HX : Hid (fin l dn k = false) := by
        unfold Hid
        rw [unhide HF, ← hxd]
        simp [he]
      have b1 : (x.d != (s.cnt : Int)) = true := by simpa using he
      have b2 : (x.d == (s.cnt : Int)) = false := by simpa using he
      clear so hxd he
      go_enter Try.func66, Try.ntmps66
      go_wp2
      go_region_held3 (fun w' => w'.cell? ⟨lb, k * 5 + 2, none⟩ = some (.bool false) ∧ w'.cell? ⟨mb, k * 3, none⟩ = some (.int .i64 x.d) ∧ w'.cell? ⟨lb, k * 5 + 4, none⟩ = some (.int .i64 s.cnt)) (first | go_keep | trivial) (fail)
      go_wp2
      go_ret
      exact ⟨ret_bool (by rw [unhide HX]), 1, rfl⟩
  · rw [so] at t2 HF
    have HX : Hid (fin l dn k = false) := by
      unfold Hid
      rw [unhide HF]
      simp
    clear so hxd
    go_enter Try.func66, Try.ntmps66
    go_wp2
    go_quiet (fail)
    go_wp2
    go_ret
    exact ⟨ret_bool (by rw [unhide HX]), nq, rfl⟩

theorem whole_any {l : List Sh} (hI : Inv l) {U : List Mk} {dn : Nat → Int} {lb mb lcap mcap : Nat} (hU : U.length = l.length) (hd : ∀ (k : Nat) (x : Mk), U[k]? = some x → x.d = dn k) : ∀ (k : Nat), k < l.length → ∀ w, Tol w lb l → Mks w mb U →
    (Calls Try.prog 39 #[.slice (some ⟨lb, 0, none⟩) l.length lcap, .slice (some ⟨mb, 0, none⟩) U.length mcap, .int .i64 k] w fun e w' => e = .returned (.bool (rdy l dn k)) ∧ ∃ n, w' = w.drewN n) ∧
    (Calls Try.prog 66 #[.slice (some ⟨lb, 0, none⟩) l.length lcap, .slice (some ⟨mb, 0, none⟩) U.length mcap, .int .i64 k] w fun e w' => e = .returned (.bool (fin l dn k)) ∧ ∃ n, w' = w.drewN n) := by
  intro k
  induction k using Nat.strongRecOn with
  | ind k ih =>
    intro hk w hT hM
    have hdr : ∀ q, Below w.heap.size w (w.drewN q) := fun q => ⟨rfl, rfl, rfl, Nat.le_refl _, fun _ _ => rfl⟩
    have hca : ∀ q, Calls Try.prog 39 #[.slice (some ⟨lb, 0, none⟩) l.length lcap, .slice (some ⟨mb, 0, none⟩) U.length mcap, .int .i64 k] (w.drewN q) fun e w' => e = .returned (.bool (rdy l dn k)) ∧ ∃ n, w' = w.drewN n := fun q => by
      refine (came_of (U := U) (mb := mb) (mcap := mcap) (lcap := lcap) (dn := dn) hI (hT.below (hdr q)) k hk fun p hp q' => ?_).mono fun e w' h => ⟨h.1, ?_⟩
      · have := (ih p hp (by omega) ((w.drewN q).drewN q') ((hT.below (hdr q)).below ⟨rfl, rfl, rfl, Nat.le_refl _, fun _ _ => rfl⟩) ((hM.below (hdr q)).below ⟨rfl, rfl, rfl, Nat.le_refl _, fun _ _ => rfl⟩)).2
        refine this.mono fun e w' h => ⟨h.1, ?_⟩
        obtain ⟨n, rfl⟩ := h.2
        exact ⟨q' + n, World.drewN_drewN ..⟩
      · obtain ⟨n, rfl⟩ := h.2
        exact ⟨q + n, World.drewN_drewN ..⟩
    exact ⟨hca 0, whole_of hI hT hM hU hd k hk hca⟩

end Go.Proofs.Ytpnkmnmchdabkaa
namespace Go.Proofs.Ytpnkmnmchdabkaa
open Go.RowKit
attribute [local go_sem ↓] Go.wp_at_zero Go.wp_at_succ

/-- What the law's own reckoning reads: its records, the shards, the marks. -/
def Bfr (w : World) (cb lb mb : Nat) (C : Cfg) (l : List Sh) (E : List En) (U : List Mk) : Prop := ∀ W, Below w.heap.size w W → (∃ ea ecap, W.cell? ⟨cb, 7, none⟩ = some (.slice ea E.length ecap) ∧ EnR W ea E) ∧ Tol W lb l ∧ Mks W mb U ∧ W.cell? ⟨cb, 3, none⟩ = some (.int .i64 C.n) ∧ W.cell? ⟨cb, 5, none⟩ = some (.int .i64 C.t)
theorem Bfr.below {w w' : World} {cb lb mb : Nat} {C : Cfg} {l : List Sh} {E : List En} {U : List Mk} (h : Bfr w cb lb mb C l E U) (hb : Below w.heap.size w w') : Bfr w' cb lb mb C l E U := fun W hW => h W (hb.trans (hW.mono hb.size))

set_option maxRecDepth 100000 in
set_option maxHeartbeats 1000000 in
theorem before_of {l : List Sh} {E : List En} {U : List Mk} {d : Nat → Nat} {w : World} {cb lb mb lcap mcap : Nat} {C : Cfg} (hI : Inv l) (hE : EntOk l E) (hEl : E.length ≤ 512) (hU : U.length = l.length) (hd : ∀ (k : Nat) (x : Mk), U[k]? = some x → x.d = d k) (hd32 : ∀ k, d k ≤ 32) (hB : Bfr w cb lb mb C l E U) (k n : Nat) (hk : k < l.length) (_hn : n ≤ 1000)
    (H : ∀ p, p < k → ∀ (n : Nat) (W : World), n ≤ 1000 → Below w.heap.size w W → Calls Try.prog 101 #[.pointer (some ⟨cb, 0, none⟩), .slice (some ⟨lb, 0, none⟩) l.length lcap, .slice (some ⟨mb, 0, none⟩) U.length mcap, .int .i64 p, .int .i64 n] W fun e w' => e = .returned (.int .i64 (ahd l d p n)) ∧ Below W.heap.size W w') :
    Calls Try.prog 101 #[.pointer (some ⟨cb, 0, none⟩), .slice (some ⟨lb, 0, none⟩) l.length lcap, .slice (some ⟨mb, 0, none⟩) U.length mcap, .int .i64 k, .int .i64 n] w fun e w' => e = .returned (.int .i64 (ahd l d k n)) ∧ Below w.heap.size w w' := by
  have hs : l[k]? = some l[k] := List.getElem?_eq_getElem hk
  generalize l[k] = s at hs
  have h16 := hI.len
  have hp2 := (hI.parL k s hs).1
  have HPR := hide (hI.parR k s hs)
  have HAh := hide (ahd_bef hI d n hs)
  obtain ⟨M1, hM1⟩ : ∃ M1 : Nat → Int, ∀ j, M1 j = ahUp (-1) s.rl (min n (held (E.take j) k)) := ⟨_, fun _ => rfl⟩
  have HM0 : Hid (M1 0 = -1) := by unfold Hid; rw [hM1]; show ahUp (-1) s.rl (min n 0) = -1; rw [Nat.min_zero]; rfl
  have HMs : Hid (∀ (j : Nat) (e : En), E[j]? = some e → M1 (j + 1) = if e.shard = k ∧ e.place < n then lat (M1 j) e.time else M1 j) := by
    intro j e hj
    rw [hM1, hM1]
    exact maxUp_step hE hs hj
  have HMe : Hid (M1 E.length = ahUp (-1) s.rl n) := by
    unfold Hid
    rw [hM1, List.take_length, held_len hE hs, ahUp_min]
  have HBf := hide hB
  have HH := hide H
  have HUd : Hid (∀ p, p < k → ∃ x, U[p]? = some x ∧ x.d = d p) := fun p hp => ⟨U[p]'(by omega), List.getElem?_eq_getElem _, hd p _ (List.getElem?_eq_getElem _)⟩
  have HD := hide hd32
  have HT3 : Hid (∀ W, Below w.heap.size w W → ∃ pb pc, W.cell? ⟨lb, k * 5 + 3, none⟩ = some (.slice (some ⟨pb, 0, none⟩) s.par.length pc) ∧ ∀ j (hj : j < s.par.length), W.cell? ⟨pb, j, none⟩ = some (.int .i64 s.par[j])) := fun W hW => by
    obtain ⟨_, hT, _⟩ := hB W hW
    obtain ⟨_, _, pb, pc, _, t3, t4⟩ := hT.2 k s hs
    exact ⟨pb, pc, t3, t4⟩
  rw [unhide HAh]
  clear hE hd hd32 hB H hM1 hs hI hU HAh
  generalize ahUp (-1) s.rl n = a0 at *
  go_enter Try.func101, Try.ntmps101
  go_wp2
  go_loopw [11, 12] (fun u i wr => ∃ j : Nat, j ≤ E.length ∧ i = .int .i64 j ∧ u = .int .i64 (M1 j) ∧ Below w.heap.size w wr) (fun _ i _ => E.length - (intOf i).toNat)
  case atStart => exact ⟨0, Nat.zero_le _, rfl, by rw [unhide HM0], Below.refl _ _⟩
  case round =>
    obtain ⟨j, hj, rfl, rfl, hBr⟩ := hrel
    obtain ⟨⟨ea, ecap, c7, hER⟩, _⟩ := unhide HBf wr hBr
    by_cases hlt : j < E.length
    · obtain ⟨e, he⟩ : ∃ e, E[j]? = some e := ⟨E[j], List.getElem?_eq_getElem hlt⟩
      obtain ⟨eb, rfl, heb, hc⟩ := hER j e he
      have y0 : wr.cell? ⟨eb, j * 5, none⟩ = some (.int .i64 e.shard) := hc 0 (by omega)
      have y1 : wr.cell? ⟨eb, j * 5 + 1, none⟩ = some (.int .i64 e.place) := hc 1 (by omega)
      have y2 : wr.cell? ⟨eb, j * 5 + 2, none⟩ = some (.string e.key) := hc 2 (by omega)
      have y3 : wr.cell? ⟨eb, j * 5 + 3, none⟩ = some (.int .i64 e.value) := hc 3 (by omega)
      have y4 : wr.cell? ⟨eb, j * 5 + 4, none⟩ = some (.int .i64 e.time) := hc 4 (by omega)
      have HMj := hide (unhide HMs j e he)
      have HB1 : Hid (∀ o, Below w.heap.size w (wr.alloc o)) := fun o => hBr.alloc hBr.size o
      clear hc hER he hBr
      by_cases hk1 : e.shard = k
      · have d1 : ((e.shard : Int) == (k : Int)) = true := by simp [hk1]
        by_cases hp1 : e.place < n
        · have d2 : (e.place : Int) < (n : Int) := by omega
          have HMk : Hid (M1 (j + 1) = lat (M1 j) e.time) := by unfold Hid; rw [unhide HMj, if_pos ⟨hk1, hp1⟩]
          generalize M1 j = mj at *
          by_cases ht : mj < e.time
          · have HMt : Hid (M1 (j + 1) = e.time) := by unfold Hid; rw [unhide HMk, ← lat_gt, if_pos ht]
            clear hk1
            go_wp2
            go_roundw
            case rel => exact ⟨j + 1, by omega, by go_num, by rw [unhide HMt], unhide HB1 _⟩
            case measure => simp [intOf]; omega
          · have HMt : Hid (M1 (j + 1) = mj) := by unfold Hid; rw [unhide HMk, ← lat_gt, if_neg ht]
            clear hk1
            go_wp2
            go_roundw
            case rel => exact ⟨j + 1, by omega, by go_num, by rw [unhide HMt], unhide HB1 _⟩
            case measure => simp [intOf]; omega
        · have d2 : ¬ (e.place : Int) < (n : Int) := by omega
          have HMk : Hid (M1 (j + 1) = M1 j) := by unfold Hid; rw [unhide HMj, if_neg (fun hh => hp1 hh.2)]
          clear hk1
          go_wp2
          go_roundw
          case rel => exact ⟨j + 1, by omega, by go_num, by rw [unhide HMk], unhide HB1 _⟩
          case measure => simp [intOf]; omega
      · have d1 : ((e.shard : Int) == (k : Int)) = false := by rw [beq_eq_false_iff_ne]; omega
        have HMk : Hid (M1 (j + 1) = M1 j) := by unfold Hid; rw [unhide HMj, if_neg (fun hh => hk1 hh.1)]
        clear hk1
        go_wp2
        go_roundw
        case rel => exact ⟨j + 1, by omega, by go_num, by rw [unhide HMk], unhide HB1 _⟩
        case measure => simp [intOf]; omega
    · have e : j = E.length := by omega
      subst e
      have HBr := hide hBr
      clear hER hBr
      rw [unhide HMe]
      go_wp2
      go_loopw [11, 14] (fun u i wr => ∃ j : Nat, j ≤ s.par.length ∧ i = .int .i64 j ∧ u = .int .i64 (befP l d a0 (s.par.take j)) ∧ Below w.heap.size w wr) (fun _ i _ => s.par.length - (intOf i).toNat)
      case atStart => exact ⟨0, Nat.zero_le _, rfl, rfl, unhide HBr⟩
      case round =>
        obtain ⟨j, hj, rfl, rfl, hB2⟩ := hrel
        obtain ⟨pb, pc, t3, t4⟩ := unhide HT3 wr hB2
        by_cases hlt2 : j < s.par.length
        · obtain ⟨p, t, hpe, hpj, ht, _⟩ := unhide HPR s.par[j] (List.getElem_mem _)
          have z4 := t4 j hlt2
          rw [hpe] at z4
          have HBt := hide (befP_take l d a0 s.par j hlt2)
          rw [hpe, show ((p : Int)).toNat = p by omega] at HBt
          obtain ⟨_, _, hMk, _⟩ := unhide HBf wr hB2
          obtain ⟨x, hx, hxd⟩ := unhide HUd p hpj
          have m0 := (hMk.2 p x hx).1
          rw [hxd] at m0
          have hdp := unhide HD p
          have CB := hide (unhide HH p hpj (d p) wr (by omega) hB2)
          have m1 : decide ((p : Int) < 0) = false := by simp
          have m2 : decide ((k : Int) ≤ p) = false := by simp; omega
          have hpl : p < U.length := (List.getElem?_eq_some_iff.1 hx).1
          have hpl2 : p < l.length := by omega
          have HB2 := hide hB2
          generalize befP l d a0 (s.par.take j) = b0 at *
          clear t4 hpe ht hMk hx hxd hB2
          go_wp2_with fail
          refine (unhide CB).mono ?_
          rintro e w2 ⟨rfl, hb2⟩
          have HB3 := hide ((unhide HB2).trans (hb2.mono (unhide HB2).size))
          clear hb2
          generalize ahd l d p (d p) = v at *
          by_cases hv : b0 < v
          · have HV : Hid (lat b0 v = v) := by unfold Hid; rw [← lat_gt, if_pos hv]
            go_wp2
            go_roundw
            case rel => exact ⟨j + 1, by omega, by go_num, by rw [unhide HBt, unhide HV], unhide HB3⟩
            case measure => simp [intOf]; omega
          · have HV : Hid (lat b0 v = b0) := by unfold Hid; rw [← lat_gt, if_neg hv]
            go_wp2
            go_roundw
            case rel => exact ⟨j + 1, by omega, by go_num, by rw [unhide HBt, unhide HV], unhide HB3⟩
            case measure => simp [intOf]; omega
        · have e : j = s.par.length := by omega
          subst e
          have HB2 := hide hB2
          clear t4 hB2
          rw [List.take_length]
          go_wp2
          go_ret
          exact ⟨rfl, unhide HB2⟩

theorem before_any {l : List Sh} {E : List En} {U : List Mk} {d : Nat → Nat} {cb lb mb lcap mcap : Nat} {C : Cfg} (hI : Inv l) (hE : EntOk l E) (hEl : E.length ≤ 512) (hU : U.length = l.length) (hd : ∀ (k : Nat) (x : Mk), U[k]? = some x → x.d = d k) (hd32 : ∀ k, d k ≤ 32) : ∀ (k : Nat), k < l.length → ∀ (n : Nat) (w : World), n ≤ 1000 → Bfr w cb lb mb C l E U →
    Calls Try.prog 101 #[.pointer (some ⟨cb, 0, none⟩), .slice (some ⟨lb, 0, none⟩) l.length lcap, .slice (some ⟨mb, 0, none⟩) U.length mcap, .int .i64 k, .int .i64 n] w fun e w' => e = .returned (.int .i64 (ahd l d k n)) ∧ Below w.heap.size w w' := by
  intro k
  induction k using Nat.strongRecOn with
  | ind k ih =>
    intro hk n w hn hB
    exact before_of hI hE hEl hU hd hd32 hB k n hk hn (fun p hp n W hn hW => ih p hp (by omega) n W hn (hB.below hW))

end Go.Proofs.Ytpnkmnmchdabkaa
