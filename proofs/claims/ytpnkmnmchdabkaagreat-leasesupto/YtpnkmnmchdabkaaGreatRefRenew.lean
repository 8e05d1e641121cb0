import Derived.Test.YtpnkmnmchdabkaaGreatRefTake
namespace Go.Proofs.YtpnkmnmchdabkaaGreat
open Go.RowKit
attribute [local go_sem ↓] Go.wp_at_zero Go.wp_at_succ

/-- A lease is laid anew. -/
theorem RefAt.setLease {w : World} {ρ : Nat → Nat} {yb : Nat} {C : Cfg} {time : Int} {rs : List Rf} {P : List Pt} {wv : Wks} {fv lv : Value} {sb cap : Nat} (h : RefAt w ρ yb C time rs P wv fv (.slice (some ⟨sb, 0, none⟩) rs.length cap) lv) (hf : Fits w ρ) (k : Nat) (r : Rf) (hr : rs[k]? = some r) (o c e : Int) :
    RefPost w ρ yb C time (rs.set k { r with own := o, ctr := c, lep := e }) P wv fv (((w.setCell ⟨sb, k * 9 + 4, none⟩ (.int .i64 o)).setCell ⟨sb, k * 9 + 4 + 1, none⟩ (.int .i64 c)).setCell ⟨sb, k * 9 + 4 + 2, none⟩ (.int .i64 e)) := by
  have hk := (List.getElem?_eq_some_iff.1 hr).1
  have R1 := h.setRf k 4 (by omega) r { r with own := o } hr (.int .i64 o) rfl rfl rfl
  rw [show (rs.length) = (rs.set k { r with own := o }).length by simp] at R1
  have R2 := R1.setRf k 5 (by omega) { r with own := o } { r with own := o, ctr := c } (by simp [hk]) (.int .i64 c) rfl rfl rfl
  rw [show (rs.set k { r with own := o }).length = ((rs.set k { r with own := o }).set k { r with own := o, ctr := c }).length by simp] at R2
  have R3 := R2.setRf k 6 (by omega) { r with own := o, ctr := c } { r with own := o, ctr := c, lep := e } (by simp [hk]) (.int .i64 e) rfl rfl rfl
  simp only [List.set_set, List.length_set] at R3
  have hT : theirs ρ sb := by have := h.rowT sb rfl; unfold theirs; omega
  exact ⟨ρ, _, _, R3, (((Keeps.refl (theirs ρ) w).setCell (p := ⟨sb, k * 9 + 4, none⟩) (Or.inl hT) _).setCell (p := ⟨sb, k * 9 + 4 + 1, none⟩) (Or.inl hT) _).setCell (p := ⟨sb, k * 9 + 4 + 2, none⟩) (Or.inl hT) _, ExtR.refl hf, fun q hq => hf q (by simpa [World.setCell] using hq)⟩

theorem absR_lease {rs : List Rf} {P : List Pt} {k : Nat} {r : Rf} (hr : rs[k]? = some r) (o c e : Int) : absR (rs.set k { r with own := o, ctr := c, lep := e }) P = absR rs P ∧ dnR (rs.set k { r with own := o, ctr := c, lep := e }) = dnR rs := by
  have hk := (List.getElem?_eq_some_iff.1 hr).1
  refine ⟨?_, ?_⟩
  · apply List.ext_getElem?
    intro j
    by_cases hj : j = k
    · subst hj
      rw [absR_get (r := { r with own := o, ctr := c, lep := e }) (by simp [hk]), absR_get hr]
    · cases hq : rs[j]? with
      | none => rw [List.getElem?_eq_none (by rw [absR_len, List.length_set]; exact List.getElem?_eq_none_iff.1 hq), List.getElem?_eq_none (by rw [absR_len]; exact List.getElem?_eq_none_iff.1 hq)]
      | some q => rw [absR_get (r := q) (by rw [List.getElem?_set_ne (fun e => hj e.symm)]; exact hq), absR_get hq]
  · funext j
    unfold dnR
    by_cases hj : j = k
    · subst hj; rw [List.getElem?_set_self hk, hr]; rfl
    · rw [List.getElem?_set_ne (fun e => hj e.symm)]

/-- Renew at one shard; at the first n. -/
def renewAt (f : Nat → Bool) (i : Int) (k : Nat) (st : List Rf × List Hd) : List Rf × List Hd :=
  match firstOf st.2 k, st.1[k]? with
  | some x, some r => if r.own ≠ i ∨ r.lep ≠ x.ep then (st.1, lost st.2 k) else if f k = true then (st.1.set k { r with own := -1, ctr := r.ctr + 1, lep := r.lep }, lost st.2 k) else (st.1.set k { r with own := i, ctr := r.ctr + 1, lep := r.lep }, st.2)
  | _, _ => st
def renewUp (f : Nat → Bool) (i : Int) : Nat → List Rf × List Hd → List Rf × List Hd
  | 0, st => st
  | n + 1, st => renewAt f i n (renewUp f i n st)

/-- Renew's loop. -/
structure RInv (w : World) (ρ : Nat → Nat) (yb : Nat) (C : Cfg) (time : Int) (rs : List Rf) (P : List Pt) (wv : Wks) (fv : Value) (i : Nat) (y : Wk) (j : Nat) (rs1 : List Rf) (hs1 : List Hd) (hv1 : Value) (wr : World) : Prop where
  st : renewUp (fin (absR rs P) (dnR rs)) i j (rs, y.hs) = (rs1, hs1)
  len : rs1.length = rs.length
  ab : absR rs1 P = absR rs P
  dn : dnR rs1 = dnR rs
  rest : ∀ k, j ≤ k → rs1[k]? = rs[k]?
  hl : hs1.length ≤ y.hs.length
  post : RefPost w ρ yb C time rs1 P (wv.setH i y hs1 hv1) fv wr

theorem Wks.setH_self {x : Wks} {i : Nat} {y : Wk} (hy : x.l[i]? = some y) : x.setH i y y.hs y.hv = x := by
  obtain ⟨hlt, he⟩ := List.getElem?_eq_some_iff.1 hy
  unfold Wks.setH
  have : x.l.set i { y with hs := y.hs, hv := y.hv } = x.l := by
    rw [show ({ y with hs := y.hs, hv := y.hv } : Wk) = x.l[i] from he.symm, List.set_getElem_self]
  rw [this]
theorem Wks.setH_setH (x : Wks) (i : Nat) (y : Wk) (hs hs' : List Hd) (hv hv' : Value) : (x.setH i y hs hv).setH i { y with hs := hs, hv := hv } hs' hv' = x.setH i y hs' hv' := by
  unfold Wks.setH
  simp

/-- What Renew leaves. -/
def RenewPost (w : World) (ρ : Nat → Nat) (yb : Nat) (C : Cfg) (time : Int) (P : List Pt) (wv : Wks) (fv : Value) (i : Nat) (y : Wk) (q : List Rf × List Hd) (e : Ending) (w' : World) : Prop :=
  ∃ hv', e = .returned (.tuple #[.int .i64 q.2.length, .int .i64 0]) ∧ RefPost w ρ yb C time q.1 P (wv.setH i y q.2 hv') fv w'

set_option maxRecDepth 100000 in
set_option maxHeartbeats 8000000 in
theorem refRenew_any {w : World} {ρ : Nat → Nat} {yb : Nat} {C : Cfg} {time : Int} {rs : List Rf} {P : List Pt} {wv : Wks} {fv sv lv : Value} (h : RefAt w ρ yb C time rs P wv fv sv lv) (hf : Fits w ρ) (hI : Inv (absR rs P)) (hP : P.length ≤ 1000000) (i : Nat) (y : Wk) (hy : wv.l[i]? = some y) (hl : y.hs.length ≤ 500)
    (hcl : ∀ (k : Nat) (r : Rf), rs[k]? = some r → (0 ≤ r.ctr ∧ r.ctr ≤ 1000000000000) ∧ (0 ≤ r.lep ∧ r.lep ≤ 1000000000000)) :
    Calls Tryz.prog 60 #[.pointer (some ⟨yb, 0, none⟩), .int .i64 i] w (RenewPost w ρ yb C time P wv fv i y (renewUp (fin (absR rs P) (dnR rs)) i rs.length (rs, y.hs))) := by
  have hi := (List.getElem?_eq_some_iff.1 hy).1
  have hpos : 0 < rs.length := by have := hI.pos; rwa [absR_len] at this
  have hrs : rs.length ≤ 16 := by have := hI.len; rwa [absR_len] at this
  obtain ⟨vb, vc, hv, _⟩ := h.wk.shape hy
  have c8 : w.cell? ⟨yb, 8, none⟩ = some wv.v := cell_of h.blk 8
  rw [hv] at c8
  have HW := hide (refWorks_any yb wv.l.length vc (some ⟨vb, 0, none⟩) i w c8)
  have hd : decide (0 ≤ (i : Int) ∧ (i : Int) < (wv.l.length : Int)) = true := by simp; omega
  rw [hd] at HW
  have HStart : Hid (RInv w ρ yb C time rs P wv fv i y 0 rs y.hs y.hv w) := ⟨rfl, rfl, rfl, rfl, fun _ _ => rfl, Nat.le_refl _, by rw [Wks.setH_self hy]; exact RefPost.below h hf (Below.refl _ w)⟩
  have HF := hide hf
  have HI := hide hI
  have HCL := hide hcl
  clear h hf hI hd hv hcl
  go_enter Tryz.func60, Tryz.ntmps60
  go_wp2_with (go_at_call 79; refine (unhide HW).mono ?_; rintro e w1 ⟨rfl, rfl⟩)
  go_loopw [7] (fun k wr => ∃ (j : Nat) (rs1 : List Rf) (hs1 : List Hd) (hv1 : Value), j ≤ rs.length ∧ k = .int .i64 j ∧ RInv w ρ yb C time rs P wv fv i y j rs1 hs1 hv1 wr) (fun k _ => rs.length - (intOf k).toNat)
  case atStart => exact ⟨0, rs, y.hs, y.hv, Nat.zero_le _, rfl, unhide HStart⟩
  case round =>
    obtain ⟨j, rs1, hs1, hv1, hj, rfl, hR⟩ := hrel
    obtain ⟨ρ1, sv1, lv1, R1, k1, x1, f1⟩ := hR.post
    have hy1 := Wks.get_setH hy hs1 hv1
    have hlen1 := hR.len
    have hhl := hR.hl
    obtain ⟨sb, cap, hsv, hsb, hsbT, hsf, hcell⟩ := R1.shards (by omega)
    subst hsv
    obtain ⟨vb1, vc1, hv1', hvT1, hvb1, _, ch1, _⟩ := R1.wk.shape hy1
    simp only at ch1
    have d8 : wr.cell? ⟨yb, 8, none⟩ = some (wv.setH i y hs1 hv1).v := cell_of R1.blk 8
    have hlw : (wv.setH i y hs1 hv1).l.length = wv.l.length := by simp [Wks.setH]
    rw [hv1', hlw] at d8
    have d7 : wr.cell? ⟨yb, 7, none⟩ = some (.slice (some ⟨sb, 0, none⟩) rs1.length cap) := cell_of R1.blk 7
    rw [hlen1] at d7
    have hyb := lt_of_heap R1.blk
    obtain ⟨ha, hcc, hhv, hcl1⟩ := R1.holdsAt hy1
    simp only at hhv hcl1
    rw [hhv] at ch1
    by_cases hlt : j < rs.length
    · have HHo := hide (refHold_any R1 i _ hy1 (by simp; omega) j)
      simp only at HHo
      cases hfo : firstOf hs1 (j : Int) with
      | none =>
        have hix := ixOf_none hfo
        rw [hix] at HHo
        have HN : Hid (RInv w ρ yb C time rs P wv fv i y (j + 1) rs1 hs1 hv1 wr) := ⟨by rw [renewUp, hR.st]; simp only [renewAt, hfo], hR.len, hR.ab, hR.dn, fun k hk => hR.rest k (by omega), hR.hl, hR.post⟩
        clear hR R1 k1 x1 f1 hcell hcl1 hfo hix hhv hy1
        go_wp2_with (go_at_call 80; refine (unhide HHo).mono ?_; rintro e w1 ⟨rfl, rfl⟩)
        go_roundw
        case rel => exact ⟨j + 1, rs1, hs1, hv1, by omega, by go_num, unhide HN⟩
        case measure => simp [intOf]; omega
      | some x =>
        obtain ⟨jx, hjx, hix⟩ := ixOf_some hfo
        rw [hix] at HHo
        have hjl := (List.getElem?_eq_some_iff.1 hjx).1
        obtain ⟨hb, hab, hbl, hbT, _, hcx⟩ := hcl1 jx x hjx
        subst hab
        have b0 : wr.cell? ⟨hb, jx * 4, none⟩ = some (.int .i64 x.sh) := hcx 0 (by omega)
        have b1 : wr.cell? ⟨hb, jx * 4 + 1, none⟩ = some (.int .i64 x.ep) := hcx 1 (by omega)
        have b2 : wr.cell? ⟨hb, jx * 4 + 2, none⟩ = some (.int .i64 x.at_) := hcx 2 (by omega)
        have b3 : wr.cell? ⟨hb, jx * 4 + 3, none⟩ = some (.int .i64 x.bf) := hcx 3 (by omega)
        obtain ⟨r, hr⟩ : ∃ r, rs[j]? = some r := ⟨_, List.getElem?_eq_getElem hlt⟩
        have hr1 : rs1[j]? = some r := (hR.rest j (Nat.le_refl _)).trans hr
        have l4 : wr.cell? ⟨sb, j * 9 + 4, none⟩ = some (.int .i64 r.own) := hcell j r hr1 4 (by omega)
        have l5 : wr.cell? ⟨sb, j * 9 + 4 + 1, none⟩ = some (.int .i64 r.ctr) := hcell j r hr1 5 (by omega)
        have l6 : wr.cell? ⟨sb, j * 9 + 4 + 2, none⟩ = some (.int .i64 r.lep) := hcell j r hr1 6 (by omega)
        have g4 := hsf (j * 9 + 4)
        have g5 := hsf (j * 9 + 4 + 1)
        have g6 := hsf (j * 9 + 4 + 2)
        have dj : decide ((jx : Int) < 0) = false := by simp
        have hFin := fun W hW => ((refFin_any R1 (by rw [hR.ab]; exact unhide HI) hP j (by omega)).1 W hW)
        rw [hR.ab, hR.dn] at hFin
        have HFin := hide hFin
        have hbd := unhide HCL j r hr
        have HRR := hide hR
        have HR1 := hide R1
        have K1 := hide k1
        have X1 := hide x1
        have F1 := hide f1
        have HY1 := hide hy1
        have HFo := hide hfo
        have HR1r := hide hr1
        clear hR R1 k1 x1 f1 hcell hcl1 hfo hix hhv hy1 hFin hcx hjx hsf hr hr1
        go_wp2_with (go_at_call 80; refine (unhide HHo).mono ?_; rintro e w1 ⟨rfl, rfl⟩)
        have HBV : Hid (Below wr.heap.size wr ((wr.alloc (.cells #[.int .i64 x.sh, .int .i64 x.ep, .int .i64 x.at_, .int .i64 x.bf] 102)).alloc (.cells #[.int .i64 r.own, .int .i64 r.ctr, .int .i64 r.lep] 59))) := ((Below.refl _ wr).alloc (Nat.le_refl _) _).alloc (by simp) _
        have hV1 : ((wr.alloc (.cells #[.int .i64 x.sh, .int .i64 x.ep, .int .i64 x.at_, .int .i64 x.bf] 102)).alloc (.cells #[.int .i64 r.own, .int .i64 r.ctr, .int .i64 r.lep] 59)).heap[wr.heap.size]? = some (.cells #[.int .i64 x.sh, .int .i64 x.ep, .int .i64 x.at_, .int .i64 x.bf] 102 (0, 0)) := by rw [Below.heap_alloc _ _ _ (by simp)]; exact heap_alloc_new wr _
        have hV2 : ((wr.alloc (.cells #[.int .i64 x.sh, .int .i64 x.ep, .int .i64 x.at_, .int .i64 x.bf] 102)).alloc (.cells #[.int .i64 r.own, .int .i64 r.ctr, .int .i64 r.lep] 59)).heap[wr.heap.size + 1]? = some (.cells #[.int .i64 r.own, .int .i64 r.ctr, .int .i64 r.lep] 59 (0, 0)) := by
          have := heap_alloc_new (wr.alloc (.cells #[.int .i64 x.sh, .int .i64 x.ep, .int .i64 x.at_, .int .i64 x.bf] 102)) (.cells #[.int .i64 r.own, .int .i64 r.ctr, .int .i64 r.lep] 59)
          simpa using this
        generalize (wr.alloc (.cells #[.int .i64 x.sh, .int .i64 x.ep, .int .i64 x.at_, .int .i64 x.bf] 102)).alloc (.cells #[.int .i64 r.own, .int .i64 r.ctr, .int .i64 r.lep] 59) = V at *
        refine (unhide HFin _ (unhide HBV)).mono ?_
        rintro e w2 ⟨rfl, hb2⟩
        have HB2 : Hid (Below wr.heap.size wr w2) := (unhide HBV).trans (hb2.mono (unhide HBV).size)
        have hz2 := (unhide HB2).size
        have hl1 := lt_of_heap hV1
        have hl2 := lt_of_heap hV2
        have hzV := hb2.size
        have W1 := (hb2.block _ hl1).trans hV1
        have W2 := (hb2.block _ hl2).trans hV2
        have e1 : w2.cell? ⟨wr.heap.size, 1, none⟩ = some (.int .i64 x.ep) := cell_of W1 1
        have m0 : w2.cell? ⟨wr.heap.size + 1, 0, none⟩ = some (.int .i64 r.own) := cell_of W2 0
        have m1 : w2.cell? ⟨wr.heap.size + 1, 1, none⟩ = some (.int .i64 r.ctr) := cell_of W2 1
        have m2 : w2.cell? ⟨wr.heap.size + 1, 2, none⟩ = some (.int .i64 r.lep) := cell_of W2 2
        have d7 := ((unhide HB2).cell (p := ⟨yb, 7, none⟩) hyb).trans d7
        have l4 := ((unhide HB2).cell (p := ⟨sb, j * 9 + 4, none⟩) hsb).trans l4
        have l5 := ((unhide HB2).cell (p := ⟨sb, j * 9 + 4 + 1, none⟩) hsb).trans l5
        have l6 := ((unhide HB2).cell (p := ⟨sb, j * 9 + 4 + 2, none⟩) hsb).trans l6
        have g4 := (World.frozen?_of_block (w := wr) (a := ⟨sb, j * 9 + 4, none⟩) ((unhide HB2).block sb hsb)).trans g4
        have g5 := (World.frozen?_of_block (w := wr) (a := ⟨sb, j * 9 + 4 + 1, none⟩) ((unhide HB2).block sb hsb)).trans g5
        have g6 := (World.frozen?_of_block (w := wr) (a := ⟨sb, j * 9 + 4 + 2, none⟩) ((unhide HB2).block sb hsb)).trans g6
        have R2 := hide ((unhide HR1).keeps (Keeps.of_below (unhide HB2)) (fun _ hk => Or.inr hk) (ρ' := ρ1) (fun _ _ => rfl))
        have F2 : Hid (Fits w2 ρ1) := fun q hq => unhide F1 q (by omega)
        have HUp : Hid (∀ rs2 wv2 W, RefPost w2 ρ1 yb C time rs2 P wv2 fv W → RefPost w ρ yb C time rs2 P wv2 fv W) := fun rs2 wv2 W hp => RefPost.trans (unhide K1) (unhide X1) (RefPost.later (unhide F1) (unhide HB2) hp)
        have nsy : ¬ sb = yb := by rintro rfl; have := (unhide R2).tag; omega
        have nys : ¬ yb = sb := fun e => nsy e.symm
        have nl : ¬ wr.heap.size + 1 = sb := by omega
        have nl2 : ¬ sb = wr.heap.size + 1 := by omega
        have HRst := hide (unhide HRR).st
        clear hb2 hV1 hV2 W1 W2 HFin HBV HR1 b0 b1 b2 b3 d8 ch1
        by_cases hc : r.own ≠ i ∨ r.lep ≠ x.ep
        · have HLo := hide (refLoses_any (unhide R2) (unhide F2) i _ (unhide HY1) (by simp; omega) j)
          have HNx : Hid (∀ W, (∃ hv', RefPost w2 ρ1 yb C time rs1 P ((wv.setH i y hs1 hv1).setH i { y with hs := hs1, hv := hv1 } (lost hs1 j) hv') fv W) → ∃ hv2, RInv w ρ yb C time rs P wv fv i y (j + 1) rs1 (lost hs1 j) hv2 W) := by
            rintro W ⟨hv', hp⟩
            rw [Wks.setH_setH] at hp
            refine ⟨hv', ⟨?_, (unhide HRR).len, (unhide HRR).ab, (unhide HRR).dn, fun k hk => (unhide HRR).rest k (by omega), Nat.le_trans (lost_le _ _) (unhide HRR).hl, unhide HUp _ _ _ hp⟩⟩
            rw [renewUp, unhide HRst]
            simp only [renewAt, unhide HFo, unhide HR1r, if_pos hc]
          simp only at HLo
          have HC : Hid ((r.own ≠ i) ∨ (r.own = i ∧ r.lep ≠ x.ep)) := by
            by_cases h1 : r.own = i
            · exact Or.inr ⟨h1, hc.elim (fun q => absurd h1 q) id⟩
            · exact Or.inl h1
          clear hc
          rcases unhide HC with h1 | ⟨h1, h2⟩
          · have q1 : (r.own != (i : Int)) = true := by rw [bne_iff_ne]; exact h1
            clear h1 HC
            go_wp2_with (go_at_call 46; refine (unhide HLo).mono ?_; rintro e w3 ⟨rfl, hp⟩; have HQ := hide (unhide HNx w3 hp); clear hp)
            go_roundw
            case rel =>
              obtain ⟨hv2, hq⟩ := unhide HQ
              exact ⟨j + 1, rs1, _, hv2, by omega, by go_num, hq⟩
            case measure => simp [intOf]; omega
          · have q2 : (r.lep != x.ep) = true := by rw [bne_iff_ne]; exact h2
            rw [h1] at m0
            clear h1 h2 HC
            go_wp2_with (go_at_call 46; refine (unhide HLo).mono ?_; rintro e w3 ⟨rfl, hp⟩; have HQ := hide (unhide HNx w3 hp); clear hp)
            go_roundw
            case rel =>
              obtain ⟨hv2, hq⟩ := unhide HQ
              exact ⟨j + 1, rs1, _, hv2, by omega, by go_num, hq⟩
            case measure => simp [intOf]; omega
        · have h1 : r.own = i := Classical.byContradiction fun q => hc (Or.inl q)
          have h2 : r.lep = x.ep := Classical.byContradiction fun q => hc (Or.inr q)
          rw [← h2] at e1
          rw [h1] at m0
          have HC := hide hc
          have hsv2 := (unhide R2)
          rw [← hlen1] at d7
          have HL1 := hide (hsv2.setLease (unhide F2) j r (unhide HR1r) (-1) (r.ctr + 1) r.lep)
          have HL2 := hide (hsv2.setLease (unhide F2) j r (unhide HR1r) i (r.ctr + 1) r.lep)
          rw [hlen1] at d7
          clear hc h1 h2 hsv2
          cases hfi : fin (absR rs P) (dnR rs) j
          · have HFi := hide hfi
            have HNx : Hid (∀ W, RefPost w2 ρ1 yb C time (rs1.set j { r with own := i, ctr := r.ctr + 1, lep := r.lep }) P (wv.setH i y hs1 hv1) fv W → RInv w ρ yb C time rs P wv fv i y (j + 1) (rs1.set j { r with own := i, ctr := r.ctr + 1, lep := r.lep }) hs1 hv1 W) := by
              intro W hp
              have ab := absR_lease (P := P) (unhide HR1r) i (r.ctr + 1) r.lep
              refine ⟨?_, by rw [List.length_set]; exact (unhide HRR).len, ab.1.trans (unhide HRR).ab, ab.2.trans (unhide HRR).dn, fun k hk => ?_, (unhide HRR).hl, unhide HUp _ _ _ hp⟩
              · rw [renewUp, unhide HRst]
                simp only [renewAt, unhide HFo, unhide HR1r, if_neg (unhide HC), unhide HFi]
                rfl
              · rw [List.getElem?_set_ne (by omega)]; exact (unhide HRR).rest k (by omega)
            clear hfi HFi
            go_wp2
            go_region_held3 (fun w' => w'.cell? ⟨yb, 7, none⟩ = some (.slice (some ⟨sb, 0, none⟩) rs.length cap) ∧ w'.cell? ⟨wr.heap.size + 1, 1, none⟩ = some (.int .i64 r.ctr) ∧ w'.cell? ⟨wr.heap.size + 1, 2, none⟩ = some (.int .i64 r.lep))
              (go_keep) (fail)
            go_wp2
            go_roundw
            case rel =>
              refine ⟨j + 1, _, hs1, hv1, by omega, by go_num, unhide HNx _ ?_⟩
              obtain ⟨ρ', sv', lv', a, b, c, d⟩ := unhide HL2
              exact ⟨ρ', sv', lv', a.keeps (Keeps.refl (fun _ => False) _).drew (fun _ h => h.elim) (fun _ _ => rfl), b.drew, c, d⟩
            case measure => simp [intOf]; omega
          · have HFi := hide hfi
            have HNx : Hid (∀ U W ρ3 sv3 lv3, RefAt U ρ3 yb C time (rs1.set j { r with own := -1, ctr := r.ctr + 1, lep := r.lep }) P (wv.setH i y hs1 hv1) fv sv3 lv3 → Keeps (theirs ρ1) w2 U → ExtR w2.heap.size ρ1 ρ3 → (∃ hv', RefPost U ρ3 yb C time (rs1.set j { r with own := -1, ctr := r.ctr + 1, lep := r.lep }) P ((wv.setH i y hs1 hv1).setH i { y with hs := hs1, hv := hv1 } (lost hs1 j) hv') fv W) → ∃ hv2, RInv w ρ yb C time rs P wv fv i y (j + 1) (rs1.set j { r with own := -1, ctr := r.ctr + 1, lep := r.lep }) (lost hs1 j) hv2 W) := by
              rintro U W ρ3 sv3 lv3 a b c ⟨hv', hp⟩
              rw [Wks.setH_setH] at hp
              have ab := absR_lease (P := P) (unhide HR1r) (-1) (r.ctr + 1) r.lep
              refine ⟨hv', ⟨?_, by rw [List.length_set]; exact (unhide HRR).len, ab.1.trans (unhide HRR).ab, ab.2.trans (unhide HRR).dn, fun k hk => ?_, Nat.le_trans (lost_le _ _) (unhide HRR).hl, unhide HUp _ _ _ (RefPost.trans b c hp)⟩⟩
              · rw [renewUp, unhide HRst]
                simp only [renewAt, unhide HFo, unhide HR1r, if_neg (unhide HC), unhide HFi]
                rfl
              · rw [List.getElem?_set_ne (by omega)]; exact (unhide HRR).rest k (by omega)
            clear hfi HFi
            go_wp2
            go_region_held3 (fun w' => w'.cell? ⟨yb, 7, none⟩ = some (.slice (some ⟨sb, 0, none⟩) rs.length cap) ∧ w'.cell? ⟨wr.heap.size + 1, 1, none⟩ = some (.int .i64 r.ctr) ∧ w'.cell? ⟨wr.heap.size + 1, 2, none⟩ = some (.int .i64 r.lep))
              (go_keep) (fail)
            obtain ⟨ρ3, sv3, lv3, a3, b3, c3, f3⟩ := unhide HL1
            have a4 := a3.keeps (Keeps.refl (fun _ => False) _).drew (fun _ h => h.elim) (ρ' := ρ3) (fun _ _ => rfl)
            have f4 : Fits ((((w2.setCell ⟨sb, j * 9 + 4, none⟩ (.int .i64 (-1))).setCell ⟨sb, j * 9 + 4 + 1, none⟩ (.int .i64 (r.ctr + 1))).setCell ⟨sb, j * 9 + 4 + 2, none⟩ (.int .i64 r.lep)).drew) ρ3 := f3
            have HLo := hide (refLoses_any a4 f4 i _ (unhide HY1) (by simp; omega) j)
            simp only at HLo
            have HNy := hide (fun W hp => unhide HNx _ W ρ3 sv3 lv3 a4 b3.drew c3 hp)
            clear a3 b3 c3 f3 a4 f4 HNx
            go_wp2_with (go_at_call 46; refine (unhide HLo).mono ?_; rintro e w3 ⟨rfl, hp⟩; have HQ := hide (unhide HNy w3 hp); clear hp)
            go_roundw
            case rel =>
              obtain ⟨hv2, hq⟩ := unhide HQ
              exact ⟨j + 1, _, _, hv2, by omega, by go_num, hq⟩
            case measure => simp [intOf]; omega
    · have ej : j = rs.length := by omega
      subst ej
      have HE : Hid (renewUp (fin (absR rs P) (dnR rs)) i rs.length (rs, y.hs) = (rs1, hs1)) := hR.st
      have HPo := hide hR.post
      clear hR R1 k1 x1 f1 hcell hcl1 hy1
      go_wp2
      go_ret2
      rw [unhide HE]
      exact ⟨_, rfl, unhide HPo⟩
end Go.Proofs.YtpnkmnmchdabkaaGreat
