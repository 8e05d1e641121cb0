import Derived.Test.YtpnkmnmchdabkaaM35
import Derived.Test.YtpnkmnmchdabkaaStepA
namespace Go.Proofs.Ytpnkmnmchdabkaa
open Go.RowKit

theorem lat_mono {a b a' b' : Int} (h : a ≤ a') (h' : b ≤ b') : lat a b ≤ lat a' b' := by unfold lat; split <;> split <;> omega
theorem lat_left (a b : Int) : a ≤ lat a b := by unfold lat; split <;> omega
theorem ahUp_more (a : Int) (rl : List Rc) (p : Nat) : ∀ q, ahUp a rl p ≤ ahUp a rl (p + q)
  | 0 => Int.le_refl _
  | q + 1 => by
    refine Int.le_trans (ahUp_more a rl p q) ?_
    show _ ≤ ahUp a rl (p + q + 1)
    have e : ahUp a rl (p + q + 1) = match rl[p + q]? with
      | some r => lat (ahUp a rl (p + q)) r.t
      | none => ahUp a rl (p + q) := rfl
    rw [e]
    cases rl[p + q]? with
    | none => exact Int.le_refl _
    | some r => exact lat_left _ _
theorem ahUp_same {a a' : Int} (h : a ≤ a') {rl rl' : List Rc} (hp : rl <+: rl') : ∀ p, p ≤ rl.length → ahUp a rl p ≤ ahUp a' rl' p
  | 0, _ => h
  | p + 1, hl => by
    have ih := ahUp_same h hp p (by omega)
    obtain ⟨r, hr⟩ : ∃ r, rl[p]? = some r := ⟨rl[p], List.getElem?_eq_getElem (by omega)⟩
    have hr' : rl'[p]? = some r := by
      obtain ⟨t, rfl⟩ := hp
      rw [List.getElem?_append_left (by omega)]; exact hr
    unfold ahUp
    rw [hr, hr']
    exact lat_mono ih (Int.le_refl _)
theorem ahUp_mono {a a' : Int} (h : a ≤ a') {rl rl' : List Rc} (hp : rl <+: rl') {p p' : Nat} (hl : p ≤ rl.length) (hpp : p ≤ p') : ahUp a rl p ≤ ahUp a' rl' p' := by
  obtain ⟨q, rfl⟩ := Nat.exists_eq_add_of_le hpp
  exact Int.le_trans (ahUp_same h hp p hl) (ahUp_more a' rl' p q)

theorem wmUp_stay (l : List Sh) (d : Nat → Nat) {k n : Nat} (h : k < n) : ∀ m, (wmUp l d (n + m))[k]? = (wmUp l d n)[k]?
  | 0 => rfl
  | m + 1 => by
    rw [← wmUp_stay l d h m]
    show (wmUp l d (n + m + 1))[k]? = _
    rw [wmUp]
    cases l[n + m]? with
    | none => rfl
    | some s => exact List.getElem?_set_ne (by omega)
theorem wmUp_at {l : List Sh} {d : Nat → Nat} {k n : Nat} {s : Sh} (hk : l[k]? = some s) (h16 : k < 16) (h : k < n) : (wmUp l d n)[k]? = some (ahUp (topOf (wmUp l d k) s.par) s.rl (d k)) := by
  obtain ⟨m, rfl⟩ := Nat.exists_eq_add_of_le (show k + 1 ≤ n by omega)
  rw [wmUp_stay l d (Nat.lt_succ_self k) m, wmUp, hk]
  exact List.getElem?_set_self (by rw [wmUp_len]; exact h16)
theorem fold_mono {wm wm' : List Int} : ∀ (par : List Int) (a a' : Int), a ≤ a' → (∀ p ∈ par, (wm[p.toNat]?).getD 0 ≤ (wm'[p.toNat]?).getD 0) → par.foldl (fun a p => lat a ((wm[p.toNat]?).getD 0)) a ≤ par.foldl (fun a p => lat a ((wm'[p.toNat]?).getD 0)) a'
  | [], _, _, h, _ => h
  | p :: r, a, a', h, hp => by
    rw [List.foldl_cons, List.foldl_cons]
    exact fold_mono r _ _ (lat_mono h (hp p (by simp))) (fun q hq => hp q (by simp [hq]))
/-- The watermarks only grow. -/
theorem wm_grows {l l' : List Sh} {d d' : Nat → Nat} (hI : Inv l) (ha : Adv l l') (hd : ∀ (k : Nat) (s : Sh), l[k]? = some s → d k ≤ s.rl.length) (hdd : ∀ k, d k ≤ d' k) : ∀ (k : Nat) (n n' : Nat), k < l.length → k < n → k < n' → ((wmUp l d n)[k]?).getD 0 ≤ ((wmUp l' d' n')[k]?).getD 0 := by
  intro k
  induction k using Nat.strongRecOn with
  | ind k ih =>
    intro n n' hk hn hn'
    have hs : l[k]? = some l[k] := List.getElem?_eq_getElem hk
    generalize l[k] = s at hs
    obtain ⟨s', hs', e1, e2, _⟩ := ha k s hs
    have h16 := hI.len
    rw [wmUp_at hs (by omega) hn, wmUp_at hs' (by omega) hn']
    show ahUp _ _ _ ≤ ahUp _ _ _
    refine ahUp_mono ?_ e2 (hd k s hs) (hdd k)
    rw [e1]
    unfold topOf
    refine fold_mono s.par _ _ (Int.le_refl _) (fun p hp => ?_)
    obtain ⟨q, t, rfl, hq, _⟩ := hI.parR k s hs p hp
    rw [show ((q : Int)).toNat = q by omega]
    exact ih q hq k k (by omega) hq hq

/-- Marks only grow. -/
theorem mk_grows {l l' : List Sh} {dn dn' : List Int} (hI : Inv l) (hg : Gro dn l dn' l') (h0 : ∀ k, k < 16 → 0 ≤ dnP dn k ∧ dnP dn k ≤ cn l k) (k : Nat) (hk : k < l.length) : (mkOf l dn k).d ≤ (mkOf l' dn' k).d ∧ (mkOf l dn k).e ≤ (mkOf l' dn' k).e ∧ (mkOf l dn k).w ≤ (mkOf l' dn' k).w := by
  have h16 := hI.len
  have hl := hg.1.len
  refine ⟨(hg.2 k).1, (hg.2 k).2, ?_⟩
  refine wm_grows hI hg.1 (fun k s hs => ?_) (fun k => ?_) k _ _ hk hk (by omega)
  · have hkl := (List.getElem?_eq_some_iff.1 hs).1
    have := (h0 k (by omega)).2
    rw [cn_is hs] at this
    unfold dnN
    have e : (s.cnt : Nat) = s.rl.length := rfl
    omega
  · have := (hg.2 k).1
    unfold dnN
    omega

end Go.Proofs.Ytpnkmnmchdabkaa
namespace Go.Proofs.Ytpnkmnmchdabkaa
open Go.RowKit
attribute [local go_sem ↓] Go.wp_at_zero Go.wp_at_succ

/-- A list of shards that came out, as a walk reads it: what is open, how many records, the parents. -/
def Tol (w : World) (lb : Nat) (l : List Sh) : Prop :=
  lb < w.heap.size ∧ ∀ (i : Nat) (s : Sh), l[i]? = some s → w.cell? ⟨lb, i * 5 + 2, none⟩ = some (.bool s.op) ∧ w.cell? ⟨lb, i * 5 + 4, none⟩ = some (.int .i64 s.cnt) ∧
    ∃ pb pc, pb < w.heap.size ∧ w.cell? ⟨lb, i * 5 + 3, none⟩ = some (.slice (some ⟨pb, 0, none⟩) s.par.length pc) ∧ ∀ j (hj : j < s.par.length), w.cell? ⟨pb, j, none⟩ = some (.int .i64 s.par[j])
theorem Tol.below {w w' : World} {lb : Nat} {l : List Sh} (h : Tol w lb l) (hb : Below w.heap.size w w') : Tol w' lb l := by
  have hs := hb.size
  refine ⟨by have := h.1; omega, fun i s hi => ?_⟩
  obtain ⟨a, b, pb, pc, c, d, e⟩ := h.2 i s hi
  exact ⟨(hb.cell (p := ⟨lb, _, none⟩) h.1).trans a, (hb.cell (p := ⟨lb, _, none⟩) h.1).trans b, pb, pc, by omega, (hb.cell (p := ⟨lb, _, none⟩) h.1).trans d, fun j hj => (hb.cell (p := ⟨pb, _, none⟩) c).trans (e j hj)⟩
/-- A list of marks, as a walk reads it. -/
def Mks (w : World) (mb : Nat) (U : List Mk) : Prop :=
  mb < w.heap.size ∧ ∀ (k : Nat) (x : Mk), U[k]? = some x → w.cell? ⟨mb, k * 3, none⟩ = some (.int .i64 x.d) ∧ w.cell? ⟨mb, k * 3 + 1, none⟩ = some (.int .i64 x.e) ∧ w.cell? ⟨mb, k * 3 + 2, none⟩ = some (.int .i64 x.w)
theorem Mks.below {w w' : World} {mb : Nat} {U : List Mk} (h : Mks w mb U) (hb : Below w.heap.size w w') : Mks w' mb U := by
  have hs := hb.size
  refine ⟨by have := h.1; omega, fun k x hk => ?_⟩
  obtain ⟨a, b, c⟩ := h.2 k x hk
  exact ⟨(hb.cell (p := ⟨mb, _, none⟩) h.1).trans a, (hb.cell (p := ⟨mb, _, none⟩) h.1).trans b, (hb.cell (p := ⟨mb, _, none⟩) h.1).trans c⟩
theorem mks_of {w : World} {B : Nat} {v : Value} {U : List Mk} (h : w.ownsRow B 45 3 v U.length (mkRow U)) (hU : 0 < U.length) : ∃ mb cap, v = .slice (some ⟨mb, 0, none⟩) U.length cap ∧ Mks w mb U := by
  obtain ⟨g, cap, cur, hv, hB, hg, _⟩ := ownsRow_shape h hU
  subst hv
  refine ⟨g, cap, rfl, lt_of_heap hg, fun k x hk => ?_⟩
  have hlt := (List.getElem?_eq_some_iff.1 hk).1
  have hcell : ∀ j, j < 3 → w.cell? ⟨g, k * 3 + j, none⟩ = (mkCells x)[j]? := by
    intro j hj
    rw [World.ownsRow.cellAt h (k * 3 + j) (by omega), mkRow_get U k j hj _ hk]
  exact ⟨hcell 0 (by omega), hcell 1 (by omega), hcell 2 (by omega)⟩
/-- The group's list of shards. -/
theorem shards_tol {w : World} {ρ : Nat → Nat} {gb : Nat} {C : Cfg} {now : Rest} {l : List Sh} (hG : Grp w ρ gb C now l) (hI : Inv l) :
    Calls Try.prog 33 #[.pointer (some ⟨gb, 0, none⟩)] w fun e w' => ∃ lb lcap, e = .returned (.slice (some ⟨lb, 0, none⟩) l.length lcap) ∧ Tol w' lb l ∧ Below w.heap.size w w' := by
  refine (gShards_any w ρ gb C now l hG hI).mono ?_
  rintro e w' ⟨v, k, rfl, hk, hL, hb⟩
  have hkl : k.length = l.length := by rw [← hk]; simp
  have hrow := hL.row
  rw [hkl] at hrow
  obtain ⟨g, cap, cur, hv, hB, hg, _⟩ := ownsRow_shape hrow hI.pos
  subst hv
  refine ⟨g, cap, rfl, ⟨lt_of_heap hg, ?_⟩, hb⟩
  intro i s hi
  rw [← hk] at hi
  simp at hi
  obtain ⟨pv, hx⟩ := hi
  have hlt := (List.getElem?_eq_some_iff.1 hx).1
  have hcell : ∀ j, j < 5 → w'.cell? ⟨g, i * 5 + j, none⟩ = (outCells (s, pv))[j]? := by
    intro j hj
    rw [World.ownsRow.cellAt hrow (i * 5 + j) (by omega), listCells_get k i j hj _ hx]
  refine ⟨hcell 2 (by omega), hcell 4 (by omega), ?_⟩
  have hpar := hL.par i _ hx
  obtain ⟨pg, hpg⟩ := hL.parS i _ hx
  obtain ⟨pa, pc, hpv⟩ := ownsRow_len hpar
  simp only at hpv hpg hpar
  rw [hpv] at hpg hpar
  have hpa : ∃ pb, pa = some ⟨pb, 0, none⟩ := by
    rcases hpar.2 with ⟨e, _⟩ | ⟨g', cap', cur', e, _⟩
    · injection e with e1
      rw [e1] at hpg; simp [Value.ownBlock] at hpg
    · injection e with e1
      exact ⟨g', e1⟩
  obtain ⟨pb, rfl⟩ := hpa
  refine ⟨pb, pc, (hpar.lt pb rfl).2, (hcell 3 (by omega)).trans (by rw [hpv]; rfl), fun j hj => ?_⟩
  rw [World.ownsRow.cellAt hpar j (by omega)]
  simp [hj]

set_option maxRecDepth 100000 in
set_option maxHeartbeats 4000000 in
theorem came_of {l : List Sh} (hI : Inv l) {U : List Mk} {dn : Nat → Int} {w : World} {lb mb lcap mcap : Nat} (hT : Tol w lb l) (k : Nat) (hk : k < l.length)
    (H : ∀ p, p < k → ∀ q, Calls Try.prog 66 #[.slice (some ⟨lb, 0, none⟩) l.length lcap, .slice (some ⟨mb, 0, none⟩) U.length mcap, .int .i64 p] (w.drewN q) fun e w' => e = .returned (.bool (fin l dn p)) ∧ ∃ n, w' = w.drewN n) :
    Calls Try.prog 39 #[.slice (some ⟨lb, 0, none⟩) l.length lcap, .slice (some ⟨mb, 0, none⟩) U.length mcap, .int .i64 k] w fun e w' => e = .returned (.bool (rdy l dn k)) ∧ ∃ n, w' = w.drewN n := by
  have hs : l[k]? = some l[k] := List.getElem?_eq_getElem hk
  generalize l[k] = s at hs
  have h16 := hI.len
  obtain ⟨_, _, pb, pc, _, t3, t4⟩ := hT.2 k s hs
  have HPR := hide (hI.parR k s hs)
  have hp2 := (hI.parL k s hs).1
  have HR := hide (rdy_is dn hs)
  have HH := hide H
  have T4 := hide t4
  clear hT hs H t4
  go_enter Try.func39, Try.ntmps39
  go_wp2
  go_loopw [7] (fun i wr => ∃ (a q : Nat), a ≤ s.par.length ∧ i = .int .i64 a ∧ wr = w.drewN q ∧ (s.par.take a).all (fun p => fin l dn p.toNat) = true) (fun i _ => s.par.length - (intOf i).toNat)
  case atStart => exact ⟨0, 0, Nat.zero_le _, rfl, rfl, by simp⟩
  case round =>
    obtain ⟨a, q, ha, rfl, rfl, hall⟩ := hrel
    by_cases hal : a < s.par.length
    · obtain ⟨p, t, hpe, hpj, ht, _⟩ := unhide HPR s.par[a] (List.getElem_mem _)
      have z4 := unhide T4 a hal
      have HE := hide hpe
      rw [hpe] at z4
      have Z4 : (w.drewN q).cell? ⟨pb, a, none⟩ = some (.int .i64 p) := z4
      have T3 : (w.drewN q).cell? ⟨lb, k * 5 + 3, none⟩ = some (.slice (some ⟨pb, 0, none⟩) s.par.length pc) := t3
      have HA : Hid ((s.par.take (a + 1)).all (fun p => fin l dn p.toNat) = fin l dn p) := by
        unfold Hid
        rw [List.take_succ_eq_append_getElem hal, List.all_append, hall, hpe]
        simp
      have CW := hide (unhide HH p hpj q)
      have hpl : p < l.length := by omega
      have m1 : decide ((p : Int) < 0) = false := by simp
      have m2 : decide ((k : Int) ≤ p) = false := by simp; omega
      have HAL := hide hall
      clear z4 t3 ht hpe hall
      go_wp2_with fail
      refine (unhide CW).mono ?_
      rintro e w1 ⟨rfl, n, rfl⟩
      cases hf : fin l dn p
      · have HF := hide hf
        clear hf
        go_wp2
        go_ret
        refine ⟨ret_bool ?_, n, rfl⟩
        rw [unhide HR]
        symm
        rw [List.all_eq_false]
        refine ⟨s.par[a], List.getElem_mem _, ?_⟩
        rw [unhide HE, show ((p : Int)).toNat = p by omega, unhide HF]
        simp
      · have HF := hide hf
        clear hf
        go_wp2
        go_roundw
        case rel => exact ⟨a + 1, n, by omega, by go_num, rfl, by rw [unhide HA]; exact unhide HF⟩
        case measure => simp [intOf]; omega
    · have HAL := hide hall
      have T3 : (w.drewN q).cell? ⟨lb, k * 5 + 3, none⟩ = some (.slice (some ⟨pb, 0, none⟩) s.par.length pc) := t3
      clear hall t3
      go_wp2
      go_ret
      refine ⟨ret_bool ?_, q, rfl⟩
      have := unhide HAL
      rw [List.take_of_length_le (by omega)] at this
      rw [unhide HR, this]

set_option maxRecDepth 100000 in
set_option maxHeartbeats 4000000 in
theorem whole_of {l : List Sh} (hI : Inv l) {U : List Mk} {dn : Nat → Int} {w : World} {lb mb lcap mcap : Nat} (hT : Tol w lb l) (hM : Mks w mb U) (hU : U.length = l.length) (hd : ∀ (k : Nat) (x : Mk), U[k]? = some x → x.d = dn k) (k : Nat) (hk : k < l.length)
    (H : ∀ q, Calls Try.prog 39 #[.slice (some ⟨lb, 0, none⟩) l.length lcap, .slice (some ⟨mb, 0, none⟩) U.length mcap, .int .i64 k] (w.drewN q) fun e w' => e = .returned (.bool (rdy l dn k)) ∧ ∃ n, w' = w.drewN n) :
    Calls Try.prog 66 #[.slice (some ⟨lb, 0, none⟩) l.length lcap, .slice (some ⟨mb, 0, none⟩) U.length mcap, .int .i64 k] w fun e w' => e = .returned (.bool (fin l dn k)) ∧ ∃ n, w' = w.drewN n := by
  have hs : l[k]? = some l[k] := List.getElem?_eq_getElem hk
  generalize l[k] = s at hs
  have hx : U[k]? = some (U[k]'(by omega)) := List.getElem?_eq_getElem (by omega)
  generalize U[k]'(by omega) = x at hx
  have h16 := hI.len
  obtain ⟨t2, t4, _⟩ := hT.2 k s hs
  obtain ⟨y0, _⟩ := hM.2 k x hx
  have HF := hide (fin_is hI dn hs)
  have hxd := hd k x hx
  have HH := hide H
  have hkU : k < U.length := by omega
  have HUL := hide hU
  clear hT hM hs hx H hd hU
  cases so : s.op
  · rw [so] at t2 HF
    by_cases he : x.d = s.cnt
    · have HX : Hid (fin l dn k = rdy l dn k) := by
        unfold Hid
        rw [unhide HF, ← hxd, he]
        simp
      have b1 : (x.d != (s.cnt : Int)) = false := by simp [he]
      have b2 : (x.d == (s.cnt : Int)) = true := by simp [he]
      clear so hxd he
      go_enter Try.func66, Try.ntmps66
      go_wp2
      go_region_held3 (fun w' => w'.cell? ⟨lb, k * 5 + 2, none⟩ = some (.bool false) ∧ w'.cell? ⟨mb, k * 3, none⟩ = some (.int .i64 x.d) ∧ w'.cell? ⟨lb, k * 5 + 4, none⟩ = some (.int .i64 s.cnt)) (first | go_keep | trivial) (fail)
      have CA := hide (unhide HH 1)
      go_wp2_with fail
      refine (unhide CA).mono ?_
      rintro e w1 ⟨rfl, n, rfl⟩
      go_wp2
      go_ret
      exact ⟨ret_bool (by rw [unhide HX]), n, rfl⟩
    · have HX : Hid (fin l dn k = false) := by
        unfold Hid
        rw [unhide HF, ← hxd]
        simp [he]
      have b1 : (x.d != (s.cnt : Int)) = true := by simpa using he
      have b2 : (x.d == (s.cnt : Int)) = false := by simpa using he
      clear so hxd he
      go_enter Try.func66, Try.ntmps66
      go_wp2
      go_region_held3 (fun w' => w'.cell? ⟨lb, k * 5 + 2, none⟩ = some (.bool false) ∧ w'.cell? ⟨mb, k * 3, none⟩ = some (.int .i64 x.d) ∧ w'.cell? ⟨lb, k * 5 + 4, none⟩ = some (.int .i64 s.cnt)) (first | go_keep | trivial) (fail)
      go_wp2
      go_ret
      exact ⟨ret_bool (by rw [unhide HX]), 1, rfl⟩
  · rw [so] at t2 HF
    have HX : Hid (fin l dn k = false) := by
      unfold Hid
      rw [unhide HF]
      simp
    clear so hxd
    go_enter Try.func66, Try.ntmps66
    go_wp2
    go_quiet (fail)
    go_wp2
    go_ret
    exact ⟨ret_bool (by rw [unhide HX]), nq, rfl⟩

theorem whole_any {l : List Sh} (hI : Inv l) {U : List Mk} {dn : Nat → Int} {lb mb lcap mcap : Nat} (hU : U.length = l.length) (hd : ∀ (k : Nat) (x : Mk), U[k]? = some x → x.d = dn k) : ∀ (k : Nat), k < l.length → ∀ w, Tol w lb l → Mks w mb U →
    (Calls Try.prog 39 #[.slice (some ⟨lb, 0, none⟩) l.length lcap, .slice (some ⟨mb, 0, none⟩) U.length mcap, .int .i64 k] w fun e w' => e = .returned (.bool (rdy l dn k)) ∧ ∃ n, w' = w.drewN n) ∧
    (Calls Try.prog 66 #[.slice (some ⟨lb, 0, none⟩) l.length lcap, .slice (some ⟨mb, 0, none⟩) U.length mcap, .int .i64 k] w fun e w' => e = .returned (.bool (fin l dn k)) ∧ ∃ n, w' = w.drewN n) := by
  intro k
  induction k using Nat.strongRecOn with
  | ind k ih =>
    intro hk w hT hM
    have hdr : ∀ q, Below w.heap.size w (w.drewN q) := fun q => ⟨rfl, rfl, rfl, Nat.le_refl _, fun _ _ => rfl⟩
    have hca : ∀ q, Calls Try.prog 39 #[.slice (some ⟨lb, 0, none⟩) l.length lcap, .slice (some ⟨mb, 0, none⟩) U.length mcap, .int .i64 k] (w.drewN q) fun e w' => e = .returned (.bool (rdy l dn k)) ∧ ∃ n, w' = w.drewN n := fun q => by
      refine (came_of (U := U) (mb := mb) (mcap := mcap) (lcap := lcap) (dn := dn) hI (hT.below (hdr q)) k hk fun p hp q' => ?_).mono fun e w' h => ⟨h.1, ?_⟩
      · have := (ih p hp (by omega) ((w.drewN q).drewN q') ((hT.below (hdr q)).below ⟨rfl, rfl, rfl, Nat.le_refl _, fun _ _ => rfl⟩) ((hM.below (hdr q)).below ⟨rfl, rfl, rfl, Nat.le_refl _, fun _ _ => rfl⟩)).2
        refine this.mono fun e w' h => ⟨h.1, ?_⟩
        obtain ⟨n, rfl⟩ := h.2
        exact ⟨q' + n, World.drewN_drewN ..⟩
      · obtain ⟨n, rfl⟩ := h.2
        exact ⟨q + n, World.drewN_drewN ..⟩
    exact ⟨hca 0, whole_of hI hT hM hU hd k hk hca⟩

end Go.Proofs.Ytpnkmnmchdabkaa
