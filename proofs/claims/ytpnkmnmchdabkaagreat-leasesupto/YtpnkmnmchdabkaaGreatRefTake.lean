import Derived.Test.YtpnkmnmchdabkaaGreatRefSteal
namespace Go.Proofs.YtpnkmnmchdabkaaGreat
open Go.RowKit
attribute [local go_sem ↓] Go.wp_at_zero Go.wp_at_succ

def ctrR (rs : List Rf) (k : Nat) : Int := (rs[k]?.map (·.ctr)).getD 0
def ownR (rs : List Rf) (k : Nat) : Int := (rs[k]?.map (·.own)).getD 0
/-- May the worker take the shard, if it has noted its counter since s? -/
def mayB (l : List Sh) (rs : List Rf) (hs : List Hd) (time lease : Int) (k : Nat) (s : Int) : Bool :=
  rdy l (dnR rs) k && (!fin l (dnR rs) k && ((firstOf hs k).isNone && (decide (ownR rs k = -1) || decide (s + lease ≤ time))))
/-- The notes, and the least shard that may be taken, the shards from n - 1 down. -/
def takeDown (l : List Sh) (rs : List Rf) (hs : List Hd) (time lease : Int) : Nat → List Nt → Int → List Nt × Int
  | 0, ns, b => (ns, b)
  | n + 1, ns, b => takeDown l rs hs time lease n (sinceN ns n (ctrR rs n) time).1 (if mayB l rs hs time lease n (sinceN ns n (ctrR rs n) time).2 = true then n else b)

theorem sinceN_bd {ns : List Nt} {k c t : Int} (ht : 0 ≤ t ∧ t ≤ 1000000000000) (h : ∀ x ∈ ns, 0 ≤ x.s ∧ x.s ≤ 1000000000000) : (∀ x ∈ (sinceN ns k c t).1, 0 ≤ x.s ∧ x.s ≤ 1000000000000) ∧ (0 ≤ (sinceN ns k c t).2 ∧ (sinceN ns k c t).2 ≤ 1000000000000) ∧ (sinceN ns k c t).1.length ≤ ns.length + 1 := by
  induction ns with
  | nil => exact ⟨fun x hx => by simp [sinceN] at hx; subst hx; exact ht, ht, by simp [sinceN]⟩
  | cons n r ih =>
    obtain ⟨i1, i2, i3⟩ := ih (fun x hx => h x (by simp [hx]))
    have hn := h n (by simp)
    by_cases hk : n.sh = k
    · by_cases hc : n.c = c
      · simp only [sinceN, if_pos hk, if_pos hc]
        exact ⟨h, hn, by omega⟩
      · simp only [sinceN, if_pos hk, if_neg hc]
        refine ⟨fun x hx => ?_, ht, by simp⟩
        rcases List.mem_cons.1 hx with rfl | hx
        · exact ht
        · exact h x (by simp [hx])
    · simp only [sinceN, if_neg hk]
      refine ⟨fun x hx => ?_, i2, by simp; omega⟩
      rcases List.mem_cons.1 hx with rfl | hx
      · exact hn
      · exact i1 x hx

theorem takeDown_least (l : List Sh) (rs : List Rf) (hs : List Hd) (time lease : Int) (n : Nat) : ∀ (ns : List Nt) (b : Int), (takeDown l rs hs time lease n ns b).2 = b ∨ ∃ k : Nat, k < n ∧ (takeDown l rs hs time lease n ns b).2 = k := by
  induction n with
  | zero => intro ns b; exact Or.inl rfl
  | succ n ih =>
    intro ns b
    rcases ih (sinceN ns n (ctrR rs n) time).1 (if mayB l rs hs time lease n (sinceN ns n (ctrR rs n) time).2 = true then n else b) with h | ⟨k, hk, h⟩
    · simp only [takeDown, h]
      split
      · exact Or.inr ⟨n, by omega, rfl⟩
      · exact Or.inl rfl
    · exact Or.inr ⟨k, by omega, by simp only [takeDown, h]⟩

/-- What Take leaves. -/
def TakePost (w : World) (ρ : Nat → Nat) (yb : Nat) (C : Cfg) (time : Int) (rs : List Rf) (P : List Pt) (wv : Wks) (fv : Value) (i : Nat) (y : Wk) (q : List Nt × Int) (e : Ending) (w' : World) : Prop :=
  (q.2 < 0 ∧ e = .returned (.tuple #[.int .i64 0, .int .i64 10]) ∧ ∃ nv', RefPost w ρ yb C time rs P (wv.setN i y q.1 nv') fv w') ∨
  (∃ (k : Nat) (r : Rf), q.2 = k ∧ rs[k]? = some r ∧ e = .returned (.tuple #[.int .i64 k, .int .i64 0]) ∧ ∃ nv' hv', RefPost w ρ yb C time (rs.set k { r with own := i, ctr := r.ctr + 1, lep := r.lep + 1 }) P ((wv.setN i y q.1 nv').setH i { y with ns := q.1, nv := nv' } (y.hs ++ [⟨k, r.lep + 1, r.done, 0⟩]) hv') fv w')

set_option maxRecDepth 100000 in
set_option maxHeartbeats 8000000 in
theorem refTake_any {w : World} {ρ : Nat → Nat} {yb : Nat} {C : Cfg} {time : Int} {rs : List Rf} {P : List Pt} {wv : Wks} {fv sv lv : Value} (h : RefAt w ρ yb C time rs P wv fv sv lv) (hf : Fits w ρ) (hI : Inv (absR rs P)) (hP : P.length ≤ 1000000) (i : Nat) (y : Wk) (hy : wv.l[i]? = some y) (hl : y.hs.length ≤ 500) (hln : y.ns.length ≤ 500) (hns : ∀ x ∈ y.ns, 0 ≤ x.s ∧ x.s ≤ 1000000000000) (ht : 0 ≤ time ∧ time ≤ 1000000000000) (hCl : 0 ≤ C.l ∧ C.l ≤ 100)
    (hcl : ∀ (k : Nat) (r : Rf), rs[k]? = some r → (0 ≤ r.ctr ∧ r.ctr ≤ 1000000000000) ∧ (0 ≤ r.lep ∧ r.lep ≤ 1000000000000)) :
    Calls Tryz.prog 62 #[.pointer (some ⟨yb, 0, none⟩), .int .i64 i] w (TakePost w ρ yb C time rs P wv fv i y (takeDown (absR rs P) rs y.hs time C.l rs.length y.ns (-1))) := by
  have hi := (List.getElem?_eq_some_iff.1 hy).1
  have hpos : 0 < rs.length := by have := hI.pos; rwa [absR_len] at this
  have hrs : rs.length ≤ 16 := by have := hI.len; rwa [absR_len] at this
  obtain ⟨vb, vc, hv, _⟩ := h.wk.shape hy
  have c8 : w.cell? ⟨yb, 8, none⟩ = some wv.v := cell_of h.blk 8
  rw [hv] at c8
  obtain ⟨sb0, cap0, rfl, _⟩ := h.shards hpos
  have c7 : w.cell? ⟨yb, 7, none⟩ = some (.slice (some ⟨sb0, 0, none⟩) rs.length cap0) := cell_of h.blk 7
  have HW := hide (refWorks_any yb wv.l.length vc (some ⟨vb, 0, none⟩) i w c8)
  have hd : decide (0 ≤ (i : Int) ∧ (i : Int) < (wv.l.length : Int)) = true := by simp; omega
  rw [hd] at HW
  have HStart : Hid (RefPost w ρ yb C time rs P (wv.setN i y y.ns y.nv) fv w) := by (rw [Wks.setN_self hy]; exact RefPost.below h hf (Below.refl _ w))
  have HF := hide hf
  have HI := hide hI
  have HCL := hide hcl
  have HNS := hide hns
  clear h hf hI hd hv hcl hns
  go_enter Tryz.func62, Tryz.ntmps62
  go_wp2_with (go_at_call 79; refine (unhide HW).mono ?_; rintro e w1 ⟨rfl, rfl⟩)
  go_loopw [7, 8] (fun b k wr => ∃ (j : Nat) (ns : List Nt) (bb : Int) (nv1 : Value), j ≤ rs.length ∧ k = .int .i64 ((j : Int) - 1) ∧ b = .int .i64 bb ∧ takeDown (absR rs P) rs y.hs time C.l rs.length y.ns (-1) = takeDown (absR rs P) rs y.hs time C.l j ns bb ∧ ns.length + j ≤ y.ns.length + rs.length ∧ (∀ x ∈ ns, 0 ≤ x.s ∧ x.s ≤ 1000000000000) ∧ RefPost w ρ yb C time rs P (wv.setN i y ns nv1) fv wr) (fun _ k _ => (intOf k + 1).toNat)
  case atStart => exact ⟨rs.length, y.ns, -1, y.nv, Nat.le_refl _, rfl, rfl, rfl, Nat.le_refl _, unhide HNS, unhide HStart⟩
  case round =>
    obtain ⟨j, ns, bb, nv1, hj, rfl, rfl, htd, hlen, hbd, hpost⟩ := hrel
    obtain ⟨ρ1, sv1, lv1, R1, k1, x1, f1⟩ := hpost
    cases j with
    | zero =>
      have hfull : takeDown (absR rs P) rs y.hs time C.l rs.length y.ns (-1) = (ns, bb) := htd
      rcases takeDown_least (absR rs P) rs y.hs time C.l rs.length y.ns (-1) with hb | ⟨k, hk, hb⟩
      · rw [hfull] at hb
        simp only at hb
        subst hb
        have HPo : Hid (TakePost w ρ yb C time rs P wv fv i y (takeDown (absR rs P) rs y.hs time C.l rs.length y.ns (-1)) (.returned (.tuple #[.int .i64 0, .int .i64 10])) wr) := by
          unfold Hid
          rw [hfull]
          exact Or.inl ⟨by simp, rfl, nv1, ρ1, sv1, lv1, R1, k1, x1, f1⟩
        clear htd hfull R1 k1 x1 f1
        go_wp2
        go_ret2
        exact unhide HPo
      · rw [hfull] at hb
        simp only at hb
        subst hb
        obtain ⟨r, hr⟩ : ∃ r, rs[k]? = some r := ⟨_, List.getElem?_eq_getElem hk⟩
        have HTk := hide (refTakes_any R1 f1 i _ (Wks.get_setN hy ns nv1) (by simp; omega) k r hr (unhide HCL k r hr).1 (unhide HCL k r hr).2)
        have HPo : Hid (∀ W, (∃ hv', RefPost wr ρ1 yb C time (rs.set k { r with own := i, ctr := r.ctr + 1, lep := r.lep + 1 }) P ((wv.setN i y ns nv1).setH i { y with ns := ns, nv := nv1 } (y.hs ++ [⟨k, r.lep + 1, r.done, 0⟩]) hv') fv W) → TakePost w ρ yb C time rs P wv fv i y (takeDown (absR rs P) rs y.hs time C.l rs.length y.ns (-1)) (.returned (.tuple #[.int .i64 k, .int .i64 0])) W) := by
          rintro W ⟨hv', hp⟩
          rw [hfull]
          exact Or.inr ⟨k, r, rfl, hr, rfl, nv1, hv', RefPost.trans k1 x1 hp⟩
        have hk0 : ¬ ((k : Int) < 0) := by omega
        clear htd hfull R1 k1 x1 f1
        simp only at HTk
        go_wp2_with (go_at_call 94; refine (unhide HTk).mono ?_; rintro e w2 ⟨rfl, hp⟩; have HPP := hide (unhide HPo w2 hp); clear hp)
        go_ret2
        exact unhide HPP
    | succ j =>
      obtain ⟨r, hr⟩ : ∃ r, rs[j]? = some r := ⟨_, List.getElem?_eq_getElem (by omega)⟩
      have hctr : ctrR rs j = r.ctr := by unfold ctrR; rw [hr]; rfl
      have hown : ownR rs j = r.own := by unfold ownR; rw [hr]; rfl
      have e1 : (((j + 1 : Nat) : Int) - 1) = (j : Int) := by omega
      rw [e1]
      have HSi := hide (refSince_any R1 f1 i _ (Wks.get_setN hy ns nv1) (by simp; omega) j r hr)
      have HTD := hide htd
      have K1 := hide k1
      have X1 := hide x1
      have hbd2 := sinceN_bd (k := j) (c := r.ctr) ht hbd
      clear htd k1 x1 f1 R1 e1
      simp only at HSi
      generalize hq : sinceN ns j r.ctr time = q at *
      have HQ := hide hq
      clear hq
      go_wp2_with (go_at_call 92; refine (unhide HSi).mono ?_; rintro e w1 ⟨rfl, nv2, hp1⟩; rw [Wks.setN_setN] at hp1; have HP1 := hide (RefPost.trans (unhide K1) (unhide X1) hp1); clear hp1)
      obtain ⟨ρ2, sv2, lv2, R2, k2, x2, f2⟩ := unhide HP1
      have HFn := hide (refFin_any R2 (unhide HI) hP j (by omega))
      have HHo : Hid (∀ W, Below w1.heap.size w1 W → Calls Tryz.prog 80 #[.pointer (some ⟨yb, 0, none⟩), .int .i64 i, .int .i64 j] W fun e w' => e = .returned (.int .i64 (ixOf y.hs j 0)) ∧ W = w') := fun W hb => refHold_any (R2.keeps (Keeps.of_below hb) (fun _ hk => Or.inr hk) (ρ' := ρ2) (fun _ _ => rfl)) i _ (Wks.get_setN hy q.1 nv2) (by simp; omega) j
      have HPo : Hid (∀ W, Below w1.heap.size w1 W → RefPost w ρ yb C time rs P (wv.setN i y q.1 nv2) fv W) := fun W hb => RefPost.trans k2 x2 (RefPost.below R2 f2 hb)
      obtain ⟨sb, cap, hsv, hsb, _, _, hcell⟩ := R2.shards hpos
      subst hsv
      have d7 : w1.cell? ⟨yb, 7, none⟩ = some (.slice (some ⟨sb, 0, none⟩) rs.length cap) := cell_of R2.blk 7
      have d6 : w1.cell? ⟨yb, 6, none⟩ = some (.int .i64 time) := cell_of R2.blk 6
      have d1 : w1.cell? ⟨yb, 1, none⟩ = some (.int .i64 C.l) := cell_of R2.blk 1
      have do_ : w1.cell? ⟨sb, j * 9 + 4, none⟩ = some (.int .i64 r.own) := hcell j r hr 4 (by omega)
      have hyb := lt_of_heap R2.blk
      clear R2 k2 x2 f2 hcell
      refine ((unhide HFn).2 _ (Below.refl _ _)).mono ?_
      rintro e w2 ⟨rfl, hb2⟩
      have HB2 := hide hb2
      clear hb2
      go_wp2_with fail
      refine ((unhide HFn).1 _ (unhide HB2)).mono ?_
      rintro e w3 ⟨rfl, hb3⟩
      have HB3 : Hid (Below w1.heap.size w1 w3) := (unhide HB2).trans (hb3.mono (unhide HB2).size)
      clear hb3
      go_wp2_with fail
      refine (unhide HHo _ (unhide HB3)).mono ?_
      rintro e w4 ⟨rfl, rfl⟩
      have d7 := ((unhide HB3).cell (p := ⟨yb, 7, none⟩) hyb).trans d7
      have d6 := ((unhide HB3).cell (p := ⟨yb, 6, none⟩) hyb).trans d6
      have d1 := ((unhide HB3).cell (p := ⟨yb, 1, none⟩) hyb).trans d1
      have do_ := ((unhide HB3).cell (p := ⟨sb, j * 9 + 4, none⟩) hsb).trans do_
      have HNx : Hid (∀ b : Bool, mayB (absR rs P) rs y.hs time C.l j q.2 = b → takeDown (absR rs P) rs y.hs time C.l rs.length y.ns (-1) = takeDown (absR rs P) rs y.hs time C.l j q.1 (if b = true then (j : Int) else bb)) := by
        intro b hb
        rw [unhide HTD]
        simp only [takeDown]
        rw [hctr, unhide HQ, hb]
      have HMay : Hid (mayB (absR rs P) rs y.hs time C.l j q.2 = (rdy (absR rs P) (dnR rs) j && (!fin (absR rs P) (dnR rs) j && ((firstOf y.hs j).isNone && (decide (r.own = -1) || decide (q.2 + C.l ≤ time)))))) := by
        unfold Hid mayB
        rw [hown]
      have HBd := hide hbd2
      obtain ⟨hq1, hq2⟩ := hbd2.2.1
      have hqa : q.2 + C.l ≤ 2000000000000 := by omega
      clear HTD hctr hown HFn HHo HQ hbd2 hbd
      generalize rdy (absR rs P) (dnR rs) j = b1 at *
      generalize fin (absR rs P) (dnR rs) j = b2 at *
      have HEnd : Hid (∀ (b : Bool) W, mayB (absR rs P) rs y.hs time C.l j q.2 = b → Below w1.heap.size w1 W → ∃ (j' : Nat) (ns' : List Nt) (bb' : Int) (nv1 : Value), j' ≤ rs.length ∧ Value.int .i64 ((j : Int) - 1) = .int .i64 ((j' : Int) - 1) ∧ Value.int .i64 (if b = true then (j : Int) else bb) = .int .i64 bb' ∧ takeDown (absR rs P) rs y.hs time C.l rs.length y.ns (-1) = takeDown (absR rs P) rs y.hs time C.l j' ns' bb' ∧ ns'.length + j' ≤ y.ns.length + rs.length ∧ (∀ x ∈ ns', 0 ≤ x.s ∧ x.s ≤ 1000000000000) ∧ RefPost w ρ yb C time rs P (wv.setN i y ns' nv1) fv W) := by
        intro b W hb hW
        exact ⟨j, q.1, _, nv2, by omega, rfl, rfl, unhide HNx b hb, by have := (unhide HBd).2.2; omega, (unhide HBd).1, unhide HPo W hW⟩
      clear HNx HPo HBd
      have HB3d : Hid (∀ nq, Below w1.heap.size w1 (w3.drewN nq)) := fun nq => ⟨(unhide HB3).os, (unhide HB3).tape, (unhide HB3).output, (unhide HB3).size, (unhide HB3).block⟩
      cases hfo : firstOf y.hs (j : Int) with
      | some x =>
        obtain ⟨jx, hjx, hix⟩ := ixOf_some hfo
        have dj : decide ((jx : Int) < 0) = false := by simp
        have HMf : Hid (mayB (absR rs P) rs y.hs time C.l j q.2 = false) := by (unfold Hid; rw [unhide HMay, hfo]; cases b1 <;> cases b2 <;> simp)
        rw [hix]
        clear hfo hix hjx HMay
        cases b1
        · go_wp2
          go_quiet (fail)
          go_wp2
          go_roundw
          case rel => exact unhide HEnd false _ (unhide HMf) (unhide HB3d _)
          case measure => simp [intOf]
        · cases b2
          · go_wp2
            go_quiet (fail)
            go_wp2
            go_roundw
            case rel => exact unhide HEnd false _ (unhide HMf) (unhide HB3d _)
            case measure => simp [intOf]
          · go_wp2
            go_quiet (fail)
            go_wp2
            go_roundw
            case rel => exact unhide HEnd false _ (unhide HMf) (unhide HB3d _)
            case measure => simp [intOf]
      | none =>
        have hix := ixOf_none hfo
        rw [hix]
        rw [hfo] at HMay
        clear hfo hix
        cases b1
        · have HMf : Hid (mayB (absR rs P) rs y.hs time C.l j q.2 = false) := by (unfold Hid; rw [unhide HMay]; simp)
          clear HMay
          go_wp2
          go_quiet (fail)
          go_wp2
          go_roundw
          case rel => exact unhide HEnd false _ (unhide HMf) (unhide HB3d _)
          case measure => simp [intOf]
        · cases b2
          · by_cases ho : r.own = -1
            · have HMt : Hid (mayB (absR rs P) rs y.hs time C.l j q.2 = true) := by (unfold Hid; rw [unhide HMay]; simp [ho])
              rw [ho] at do_
              clear HMay ho
              go_wp2
              go_quiet (fail)
              go_wp2
              go_roundw
              case rel => exact unhide HEnd true _ (unhide HMt) (unhide HB3d _)
              case measure => simp [intOf]
            · have dow : (r.own == -1) = false := by rw [beq_eq_false_iff_ne]; exact ho
              by_cases hle : q.2 + C.l ≤ time
              · have HMt : Hid (mayB (absR rs P) rs y.hs time C.l j q.2 = true) := by (unfold Hid; rw [unhide HMay]; simp [hle])
                have dle : decide (q.2 + C.l ≤ time) = true := by simpa using hle
                clear HMay ho
                go_wp2
                go_quiet (fail)
                go_wp2
                go_roundw
                case rel => exact unhide HEnd true _ (unhide HMt) (unhide HB3d _)
                case measure => simp [intOf]
              · have HMf : Hid (mayB (absR rs P) rs y.hs time C.l j q.2 = false) := by (unfold Hid; rw [unhide HMay]; simp [ho, hle])
                have dle : decide (q.2 + C.l ≤ time) = false := by simpa using hle
                clear HMay ho
                go_wp2
                go_quiet (fail)
                go_wp2
                go_roundw
                case rel => exact unhide HEnd false _ (unhide HMf) (unhide HB3d _)
                case measure => simp [intOf]
          · have HMf : Hid (mayB (absR rs P) rs y.hs time C.l j q.2 = false) := by (unfold Hid; rw [unhide HMay]; simp)
            clear HMay
            go_wp2
            go_quiet (fail)
            go_wp2
            go_roundw
            case rel => exact unhide HEnd false _ (unhide HMf) (unhide HB3d _)
            case measure => simp [intOf]

end Go.Proofs.YtpnkmnmchdabkaaGreat
