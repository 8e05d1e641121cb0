import Derived.Test.YtpnkmnmchdabkaaGreatM21
namespace Go.Proofs.YtpnkmnmchdabkaaGreat
open Go.RowKit
attribute [local go_sem ↓] Go.wp_at_zero Go.wp_at_succ

/-- ONE SIDE: the program's group and the document's, which say the same; the law's block with both has the tag 150. -/
structure Side (w : World) (ρ : Nat → Nat) (sb gb yb : Nat) (C : Cfg) (now : Rest) (time : Int) (l : List Sh) (rs : List Rf) (P : List Pt) (wv : Wks) (fv : Value) : Prop where
  blk : w.heap[sb]? = some (.cells #[.pointer (some ⟨gb, 0, none⟩), .pointer (some ⟨yb, 0, none⟩)] 46 (0, 0))
  tag : ρ sb = 150
  grp : Grp w ρ gb C now l
  ref : ∃ sv lv, RefAt w ρ yb C time rs P wv fv sv lv
  same : absR rs P = l
  inv : Inv l
  pin : ∀ e ∈ P, e.shard < rs.length

theorem Side.keeps {S : Nat → Prop} {w w' : World} {ρ ρ' : Nat → Nat} {sb gb yb : Nat} {C : Cfg} {now : Rest} {time : Int} {l : List Sh} {rs : List Rf} {P : List Pt} {wv : Wks} {fv : Value} (h : Side w ρ sb gb yb C now time l rs P wv fv) (hk : Keeps S w w') (hS : ∀ k, S k → ρ k = 0 ∨ 300 ≤ ρ k ∨ w.heap.size ≤ k) (he : ∀ k, k < w.heap.size → ρ' k = ρ k) : Side w' ρ' sb gb yb C now time l rs P wv fv := by
  have hlt := lt_of_heap h.blk
  refine ⟨?_, by rw [he sb hlt]; exact h.tag, ?_, ?_, h.same, h.inv, h.pin⟩
  · rw [hk.block sb hlt fun hs => ?_]
    · exact h.blk
    · have := hS sb hs; have := h.tag; omega
  · obtain ⟨sv, m, hm, G⟩ := h.grp
    exact ⟨sv, m, hm, G.keeps hk (fun k hs => by have := hS k hs; unfold mine; omega) he (by have := h.inv.len; rw [← hm] at this; simpa using this)⟩
  · obtain ⟨sv, lv, R⟩ := h.ref
    exact ⟨sv, lv, R.keeps hk (fun k hs => by have := hS k hs; unfold theirs; omega) he⟩

theorem Fits.below {w w' : World} {ρ : Nat → Nat} (h : Fits w ρ) (hs : w.heap.size ≤ w'.heap.size) : Fits w' ρ := fun k hk => h k (by omega)

theorem LawAt.below {w w' : World} {ρ : Nat → Nat} {wb : Nat} {sdv : Value} {last : Int} {sv iv hv m1 m2 m3 : Value} {Ls Li Lh : List Ke} (h : LawAt w ρ wb sdv last sv iv hv m1 m2 m3 Ls Li Lh) (hb : Below w.heap.size w w') : LawAt w' ρ wb sdv last sv iv hv m1 m2 m3 Ls Li Lh :=
  h.keeps (Keeps.of_below hb) (fun _ hk => Or.inr hk) (fun _ _ _ => rfl)

theorem ListAt.below {w w' : World} {B : Nat} {v : Value} {l : List (Sh × Value)} (h : ListAt w B v l) (hb : Below w.heap.size w w') : ListAt w' B v l :=
  ⟨ownsRow_of_block h.row fun k hk => hb.block k (h.row.lt k hk).2, h.blk, fun i x hi => ownsRow_of_block (h.par i x hi) fun k hk => hb.block k ((h.par i x hi).lt k hk).2, h.parS, h.apart, h.vapart⟩

/-- What is left of what is nobody's: all. -/
def Frame (w : World) (ρ : Nat → Nat) (w' : World) (ρ' : Nat → Nat) : Prop := Keeps (fun k => ρ k ≠ 0) w w' ∧ ∀ k, k < w.heap.size → ρ k = 0 → ρ' k = 0

/-- What a question leaves. -/
def AskPost (w : World) (ρ : Nat → Nat) (wb : Nat) (sdv : Value) (last : Int) (hv m3 : Value) (Ls Li Lh : List Ke) (sb gb yb : Nat) (C : Cfg) (now : Rest) (time : Int) (l : List Sh) (rs : List Rf) (P : List Pt) (wv : Wks) (fv : Value) (e : Ending) (w' : World) : Prop :=
  e = .returned (.bool true) ∧ ∃ ρ' last' sv' iv' m1' m2' Ls' Li', LawAt w' ρ' wb sdv last' sv' iv' hv m1' m2' m3 Ls' Li' Lh ∧ Side w' ρ' sb gb yb C now time l rs P wv fv ∧ Fits w' ρ' ∧ Ls'.length = Ls.length + 4 ∧ Li'.length ≤ Li.length + 64 ∧ last - 17 ≤ last' ∧ last' ≤ last ∧ Frame w ρ w' ρ'

theorem AskPost.of {w w4 w' : World} {ρ : Nat → Nat} {wb : Nat} {sdv : Value} {last : Int} {hv m3 : Value} {Ls Li Lh : List Ke} {sb gb yb : Nat} {C : Cfg} {now : Rest} {time : Int} {l : List Sh} {rs : List Rf} {P : List Pt} {wv : Wks} {fv : Value} (hS : Side w ρ sb gb yb C now time l rs P wv fv) {v : Value} {k : List (Sh × Value)} (hb : Below w.heap.size w w4) (hl : ListAt w4 w.heap.size v k) (hkl : k.length ≤ 16) {e : Ending}
    (hp : KeepPostS w4 ρ wb sdv last hv m3 Ls Li Lh v k e w') : AskPost w ρ wb sdv last hv m3 Ls Li Lh sb gb yb C now time l rs P wv fv (.returned (.bool true)) w' := by
  obtain ⟨_, ρ', sv', iv', m1', m2', Lt, Ln, hL, h4, hn, t1, t2, hf, hk⟩ := hp
  have hz := hb.size
  have out : ∀ q, OutB v k q → w.heap.size ≤ q := by
    rintro q (h | ⟨i, x, hi, hx⟩)
    · exact (hl.row.lt q h).1
    · exact ((hl.par i x hi).lt q hx).1
  have tg : ∀ q, q < w.heap.size → ρ' q = ρ q := fun q hq => t1 q (by omega) (fun h => by have := out q h; omega)
  have kk : Keeps (fun q => laws ρ q ∨ w.heap.size ≤ q) w w' := ⟨hk.os.trans hb.os, hk.tape.trans hb.tape, hk.output.trans hb.output, Nat.le_trans hz hk.size, fun q hq hs => by
    rw [hk.block q (by omega) (fun h => hs (h.elim Or.inl (fun h => Or.inr (out q h))))]
    exact hb.block q hq⟩
  refine ⟨rfl, ρ', _, sv', iv', m1', m2', Ls ++ Lt, Li ++ Ln, hL, ?_, hf, by rw [List.length_append, h4], by rw [List.length_append, hn]; omega, by omega, by omega, ?_, fun q hq h0 => by rw [tg q hq]; exact h0⟩
  · exact hS.keeps kk (fun q hq => by rcases hq with hq | hq; exact Or.inr (Or.inl hq); exact Or.inr (Or.inr hq)) tg
  · exact kk.mono (fun q hq hs => by rcases hs with hs | hs; unfold laws at hs; omega; omega)

theorem of_mapP {k : List (Sh × Value)} {l : List Sh} (h : k.map (·.1) = l) : k.length = l.length := by rw [← h]; simp

theorem refOut_fst (rs : List Rf) (P : List Pt) : (refOut rs P).map (·.1) = absR rs P := by
  unfold refOut absR
  apply List.ext_getElem?
  intro i
  simp
  cases rs[i]? <;> rfl

set_option maxRecDepth 100000 in
set_option maxHeartbeats 8000000 in
theorem shardsAre_any {w : World} {ρ : Nat → Nat} {wb : Nat} {sdv : Value} {last : Int} {sv iv hv m1 m2 m3 : Value} {Ls Li Lh : List Ke} {sb gb yb : Nat} {C : Cfg} {now : Rest} {time : Int} {l : List Sh} {rs : List Rf} {P : List Pt} {wv : Wks} {fv : Value} (hL : LawAt w ρ wb sdv last sv iv hv m1 m2 m3 Ls Li Lh) (hS : Side w ρ sb gb yb C now time l rs P wv fv) (hf : Fits w ρ)
    (h1 : -8000000000000000000 ≤ last) (h2 : last ≤ 0) (hlen : Li.length ≤ 9999000) (hlenS : Ls.length ≤ 10000000) (hP : P.length ≤ 1000000) :
    Calls Tryz.prog 12 #[.pointer (some ⟨wb, 0, none⟩), .pointer (some ⟨sb, 0, none⟩)] w (AskPost w ρ wb sdv last hv m3 Ls Li Lh sb gb yb C now time l rs P wv fv) := by
  have hsl := lt_of_heap hS.blk
  have s0 : w.cell? ⟨sb, 0, none⟩ = some (.pointer (some ⟨gb, 0, none⟩)) := cell_of hS.blk 0
  have s1 : w.cell? ⟨sb, 1, none⟩ = some (.pointer (some ⟨yb, 0, none⟩)) := cell_of hS.blk 1
  have HG := hide (gShards_any w ρ gb C now l hS.grp hS.inv)
  have hrl : rs.length = l.length := by rw [← hS.same, absR_len]
  have hl0 : 0 < l.length := hS.inv.pos
  have hl16 : l.length ≤ 16 := hS.inv.len
  have HR : Hid (∀ w1, Below w.heap.size w w1 → Calls Tryz.prog 32 #[.pointer (some ⟨yb, 0, none⟩)] w1 fun e w' => ∃ a cap, e = .returned (.slice a l.length cap) ∧ w'.ownsRow w1.heap.size 100 5 (.slice a l.length cap) l.length (listCells (refOut rs P)) ∧ Below w1.heap.size w1 w') := fun w1 hb => by
    obtain ⟨sv, lv, R⟩ := hS.ref
    rw [← hrl]
    exact refList_any (R.keeps (Keeps.of_below hb) (fun _ hk => Or.inr hk) (fun _ _ => rfl)) hP (by omega) (by omega)
  have HRP : Hid (∀ w1, Below w.heap.size w w1 → ∀ (i : Nat) (r : Rf), rs[i]? = some r → w1.ownsRow 0 3 1 r.pv r.par.length (r.par.map (Value.int .i64))) := fun w1 hb => by
    obtain ⟨sv, lv, R⟩ := hS.ref
    exact (R.keeps (Keeps.of_below hb) (fun _ hk => Or.inr hk) (fun _ _ => rfl)).par
  have HL := hide hL
  have HS := hide hS
  have HF := hide hf
  clear hL hS hf
  go_enter Tryz.func12, Tryz.ntmps12
  have HRL := hide hrl
  clear hrl
  go_wp2_with (go_at_call 31; refine (unhide HG).mono ?_; rintro e w1 ⟨v, k, rfl, hkl, hat, hb1⟩; have s2 := (hb1.cell (p := ⟨sb, 1, none⟩) hsl).trans s1; have HAT := hide hat; have HB1 := hide hb1; have HKL := hide hkl; have hrow : w1.ownsRow w.heap.size 100 5 v l.length (listCells k) := (by have := hat.row; rw [← of_mapP hkl]; exact this); obtain ⟨va, vc, rfl⟩ := ownsRow_len hrow; clear hat hb1 hkl hrow)
  refine (unhide HR _ (unhide HB1)).mono ?_
  rintro e w2 ⟨ya, yc, rfl, hown, hb2⟩
  have HOW := hide hown
  have HB2 := hide hb2
  have hw12 := (unhide HB1).size
  have hw22 := hb2.size
  have HB12 : Hid (Below w.heap.size w w2) := (unhide HB1).trans (hb2.mono hw12)
  have HAT2 := hide ((unhide HAT).below hb2)
  clear hown hb2 s0 s1 s2 HAT
  go_wp2
  go_loopw [7] (fun i wr => ∃ j : Nat, j ≤ l.length ∧ i = .int .i64 j ∧ Below w2.heap.size w2 wr) (fun i _ => l.length - (intOf i).toNat)
  case atStart => exact ⟨0, Nat.zero_le _, rfl, Below.refl _ _⟩
  case round =>
    obtain ⟨j, hj, rfl, hbr⟩ := hrel
    have hwr := hbr.size
    by_cases hlt : j < l.length
    · obtain ⟨x, hx⟩ : ∃ x, k[j]? = some x := ⟨_, List.getElem?_eq_getElem (by rw [of_mapP (unhide HKL)]; exact hlt)⟩
      obtain ⟨r, hr⟩ : ∃ r, rs[j]? = some r := ⟨_, List.getElem?_eq_getElem (by rw [unhide HRL]; exact hlt)⟩
      have hls : l[j]? = some x.1 := by rw [← unhide HKL]; simp [hx]
      have hlr : (⟨r.lo, r.hi, r.op, r.par, (ofShard P j).length⟩ : Sh) = x.1 := by
        have := absR_get (P := P) hr
        rw [(unhide HS).same, hls] at this
        injection this with this
        exact this.symm
      have hro := refOut_get (P := P) hr
      rw [hlr] at hro
      have hpar : r.par = x.1.par := by rw [← hlr]
      obtain ⟨s, pv⟩ := x
      simp only at hls hro hpar
      have hp2 : s.par.length ≤ 2 := ((unhide HS).inv.parL j s hls).1
      have hat3 := (unhide HAT2).below hbr
      have row3 : wr.ownsRow w.heap.size 100 5 (.slice va l.length vc) l.length (listCells k) := by have := hat3.row; rw [of_mapP (unhide HKL)] at this; exact this
      obtain ⟨lb, cp, cur, hv1, _, hcb, _⟩ := ownsRow_shape row3 (by omega)
      injection hv1 with e1 _ e3
      subst e1 e3
      have out3 : wr.ownsRow w1.heap.size 100 5 (.slice ya l.length yc) l.length (listCells (refOut rs P)) := ownsRow_of_block (unhide HOW) fun q hq => hbr.block q ((unhide HOW).lt q hq).2
      obtain ⟨mb, cp2, cur2, hv2, _, hcb2, _⟩ := ownsRow_shape out3 (by omega)
      injection hv2 with e4 _ e5
      subst e4 e5
      have hlbl := lt_of_heap hcb
      have hmbl := lt_of_heap hcb2
      have ca : ∀ q, q < 5 → wr.cell? ⟨lb, j * 5 + q, none⟩ = (outCells (s, pv))[q]? := fun q hq => (World.ownsRow.cellAt row3 (j * 5 + q) (by omega)).trans (listCells_get k j q hq _ hx)
      have cb : ∀ q, q < 5 → wr.cell? ⟨mb, j * 5 + q, none⟩ = (outCells (s, r.pv))[q]? := fun q hq => (World.ownsRow.cellAt out3 (j * 5 + q) (by omega)).trans (listCells_get _ j q hq _ hro)
      have hpa := ownsRow_base (hat3.par j (s, pv) hx) (Nat.zero_le _)
      have hpb := unhide HRP wr ((unhide HB12).trans (hbr.mono (by omega))) j r hr
      rw [hpar] at hpb
      have HSI : Hid (∀ W, Below wr.heap.size wr W → Calls Tryz.prog 33 #[pv, r.pv] W fun e w' => e = .returned (.bool true) ∧ Below W.heap.size W w') := fun W hW => by
        have := sameInts_any W pv r.pv s.par s.par (ownsRow_of_block hpa fun q hq => hW.block q (hpa.lt q hq).2) (ownsRow_of_block hpb fun q hq => hW.block q (hpb.lt q hq).2) (by omega)
        simpa using this
      have a0 : wr.cell? ⟨lb, j * 5, none⟩ = some (.int .i64 s.lo) := ca 0 (by omega)
      have a1 : wr.cell? ⟨lb, j * 5 + 1, none⟩ = some (.int .i64 s.hi) := ca 1 (by omega)
      have a2 : wr.cell? ⟨lb, j * 5 + 2, none⟩ = some (.bool s.op) := ca 2 (by omega)
      have a3 : wr.cell? ⟨lb, j * 5 + 3, none⟩ = some pv := ca 3 (by omega)
      have a4 : wr.cell? ⟨lb, j * 5 + 4, none⟩ = some (.int .i64 s.cnt) := ca 4 (by omega)
      have b0 : wr.cell? ⟨mb, j * 5, none⟩ = some (.int .i64 s.lo) := cb 0 (by omega)
      have b1 : wr.cell? ⟨mb, j * 5 + 1, none⟩ = some (.int .i64 s.hi) := cb 1 (by omega)
      have b2 : wr.cell? ⟨mb, j * 5 + 2, none⟩ = some (.bool s.op) := cb 2 (by omega)
      have b3 : wr.cell? ⟨mb, j * 5 + 3, none⟩ = some r.pv := cb 3 (by omega)
      have b4 : wr.cell? ⟨mb, j * 5 + 4, none⟩ = some (.int .i64 s.cnt) := cb 4 (by omega)
      have HBR := hide hbr
      generalize r.pv = rv at *
      clear hat3 row3 out3 ca cb hpa hpb hls hlr hro hpar hx hr hcb hcb2 hbr
      go_wp2
      go_region_held3 (fun w' => w'.cell? ⟨lb, j * 5 + 3, none⟩ = some pv ∧ w'.cell? ⟨mb, j * 5 + 3, none⟩ = some rv)
        (first | go_keep | (go_split_ands; refine ⟨?_, ?_⟩ <;> (rw [hb5.cell (by simp; omega)]; assumption)))
        ((go_at_call 33; refine (unhide HSI _ (by first | exact (Below.refl _ _).drew | exact Below.refl _ _)).mono ?_; rintro e w5 ⟨rfl, hb5⟩))
      have hs5 : wr.heap.size ≤ w5.heap.size := hb5.size
      have a0 := (hb5.cell (p := ⟨lb, j * 5, none⟩) hlbl).trans a0
      have a1 := (hb5.cell (p := ⟨lb, j * 5 + 1, none⟩) hlbl).trans a1
      have a2 := (hb5.cell (p := ⟨lb, j * 5 + 2, none⟩) hlbl).trans a2
      have a4 := (hb5.cell (p := ⟨lb, j * 5 + 4, none⟩) hlbl).trans a4
      have b0 := (hb5.cell (p := ⟨mb, j * 5, none⟩) hmbl).trans b0
      have b1 := (hb5.cell (p := ⟨mb, j * 5 + 1, none⟩) hmbl).trans b1
      have b2 := (hb5.cell (p := ⟨mb, j * 5 + 2, none⟩) hmbl).trans b2
      have b4 := (hb5.cell (p := ⟨mb, j * 5 + 4, none⟩) hmbl).trans b4
      have HB5 : Hid (Below w2.heap.size w2 w5) := (unhide HBR).drew.trans (hb5.mono (show w2.heap.size ≤ wr.heap.size from hwr))
      clear hb5
      go_wp2
      go_quiet (fail)
      go_wp2
      go_roundw
      case rel => exact ⟨j + 1, by omega, by go_num, ⟨(unhide HB5).os, (unhide HB5).tape, (unhide HB5).output, (unhide HB5).size, (unhide HB5).block⟩⟩
      case measure => simp [intOf]; omega
    · have HB3 : Hid (Below w.heap.size w wr) := (unhide HB12).trans (hbr.mono (by omega))
      have HAT3 := hide ((unhide HAT2).below hbr)
      have HK := hide (((unhide HL).below (unhide HB3)).kept)
      have HKS : Hid (∀ W, Below wr.heap.size wr W → Calls Tryz.prog 34 #[.pointer (some ⟨wb, 0, none⟩), .slice va l.length vc] W (KeepPostS W ρ wb sdv last hv m3 Ls Li Lh (.slice va l.length vc) k)) := fun W hW => by
        have hBW : Below w.heap.size w W := (unhide HB3).trans (hW.mono (by have := (unhide HB3).size; omega))
        refine keepShards_any ((unhide HL).below hBW) ((unhide HF).below hBW.size) h1 h2 _ k (((unhide HAT3).below hW).outAt ρ (fun q hq => unhide HF q hq)) (by rw [of_mapP (unhide HKL)]; exact hl16) (fun i x hi => ?_) hlen hlenS
        exact ((unhide HS).inv.parL i x.1 (by rw [← unhide HKL]; simp [hi])).1
      clear hbr
      go_wp2_with (go_at_call 11; refine (unhide HK).mono ?_; rintro e w6 ⟨rfl, hb6⟩; have HB6 := hide hb6; clear hb6)
      refine (unhide HKS _ (unhide HB6)).mono ?_
      rintro e w7 hp
      have HPP := hide (AskPost.of (unhide HS) ((unhide HB3).trans ((unhide HB6).mono (unhide HB3).size)) ((unhide HAT3).below (unhide HB6)) (by rw [of_mapP (unhide HKL)]; exact hl16) hp)
      obtain ⟨rfl, -⟩ := hp
      go_wp2
      go_ret
      exact unhide HPP
end Go.Proofs.YtpnkmnmchdabkaaGreat
