import Derived.Test.YtpnkmnmchdabkaaM35
import Derived.Test.YtpnkmnmchdabkaaM26
namespace Go.Proofs.Ytpnkmnmchdabkaa
open Go.RowKit

/-- Nothing was taken: what has no owner waits. -/
theorem took_none {B n : Nat} {Cb : Int} {l : List Sh} {dn : List Int} {ls : List Le} {P : List Pl} (o : Ow B n Cb l dn ls P) (hI : Inv l) {t L : Int} {i : Nat} (hi : i < n) (ht : TakeIs (mayP (stgUp l (dnP dn) l.length) ls P t L i) none) {k : Nat} (hk : k < l.length) {x : Le} (hx : ls[k]? = some x) (hox : x.o = -1) : (!(rdy l (dnP dn) k) || fin l (dnP dn) k) = true := by
  have h16 := hI.len
  by_cases hr : rdy l (dnP dn) k = true
  · by_cases hf : fin l (dnP dn) k = true
    · rw [hf]; simp
    · exfalso
      have hs := (o.stg hI).1 k hk
      unfold stg at hs
      rw [if_pos hr, if_neg hf] at hs
      obtain ⟨p, hp⟩ : ∃ p, P[i * 16 + k]? = some p := ⟨P[i * 16 + k]'(by rw [o.pL]; omega), List.getElem?_eq_getElem _⟩
      have hm := ht k (by omega)
      unfold mayP at hm
      rw [hp] at hm
      have hfr : freeP ls P t L i k = true := by
        unfold freeP
        rw [hx, hp]
        simp [hox]
      simp [hs, hfr] at hm
      have H := o.hd i k p x hi (by omega) hp hm hx
      exact hf ((o.le k x hx).2.2.2.2.2.2 hox (by have := H.e1; have := H.e2; omega))
  · simp [hr]

/-- A shard was taken. -/
theorem took_some {B B' n : Nat} {Cb : Int} {l : List Sh} {dn : List Int} {ls : List Le} {P P1 : List Pl} (o : Ow B n Cb l dn ls P) (hI : Inv l) {t L : Int} {i : Nat} (hi : i < n) {m : Nat} (ht : TakeIs (mayP (stgUp l (dnP dn) l.length) ls P1 t L i) (some m)) (o' : Ow B' n Cb l dn (takeLs i ls (some m)) (takeP (dnP dn) i ls P1 (some m))) :
    m < l.length ∧ (!(rdy l (dnP dn) m) || fin l (dnP dn) m) = false ∧ ∃ x, (takeLs i ls (some m))[m]? = some x ∧ x.o = i ∧ (∀ y ∈ heldOf (takeP (dnP dn) i ls P1 (some m)) i 16, y.sh = m → y.ep = x.e ∧ y.at_ = dnP dn m ∧ y.bf = 0) ∧ ∃ y ∈ heldOf (takeP (dnP dn) i ls P1 (some m)) i 16, y.sh = m := by
  obtain ⟨h16, hm, _⟩ := ht
  obtain ⟨p, hp, hh, hst⟩ := may_is hm
  obtain ⟨o1, o2, o3⟩ := o.one hI m h16 hst
  obtain ⟨x, hx⟩ : ∃ x, ls[m]? = some x := ⟨ls[m]'(by rw [o.lsL]; exact h16), List.getElem?_eq_getElem _⟩
  have hml : m < ls.length := (List.getElem?_eq_some_iff.1 hx).1
  have el : takeLs i ls (some m) = ls.set m ⟨i, inc x.c, inc x.e⟩ := by show giveLs i m ls = _; unfold giveLs; rw [hx]
  have ep : takeP (dnP dn) i ls P1 (some m) = P1.set (i * 16 + m) { p with held := true, h := ⟨m, inc x.e, dnP dn m, 0⟩ } := by show giveP (dnP dn m) i m ls P1 = _; unfold giveP; rw [hx, hp]
  rw [el, ep] at o' ⊢
  have hxl : (ls.set m ⟨i, inc x.c, inc x.e⟩)[m]? = some ⟨i, inc x.c, inc x.e⟩ := List.getElem?_set_self hml
  refine ⟨o1, by rw [o2, o3]; rfl, ⟨i, inc x.c, inc x.e⟩, hxl, rfl, fun y hy hs => ?_, ?_⟩
  · obtain ⟨k, q, hk, hq, hqh, rfl⟩ := heldOf_in hy
    obtain ⟨z, hz⟩ : ∃ z, (ls.set m ⟨i, inc x.c, inc x.e⟩)[k]? = some z := ⟨_, List.getElem?_eq_getElem (by rw [o'.lsL]; exact hk)⟩
    have e1 := (o'.hd i k q z hi hk hq hqh hz).sh
    have e : k = m := by omega
    subst e
    rcases plAt_set h16 h16 hq with ⟨_, _, rfl⟩ | ⟨h9, _⟩
    · exact ⟨rfl, rfl, rfl⟩
    · exact absurd ⟨rfl, rfl⟩ h9
  · refine ⟨_, heldOf_has (k := m) (p := { p with held := true, h := ⟨m, inc x.e, dnP dn m, 0⟩ }) ?_ rfl 16 h16, rfl⟩
    exact List.getElem?_set_self (List.getElem?_eq_some_iff.1 hp).1

/-- What Take leaves a crew, and what it took. -/
def TkP (B : Bd) (N : Nat) (w : World) (ρ : Nat → Nat) (cb gb : Nat) (C : Cfg) (l : List Sh) (E : List En) (i : Nat) (e : Ending) (w' : World) : Prop :=
  ∃ (r : Option Nat) (now' : Rest) (P : List Pl), e = .returned (takeV r) ∧ Crew true B.up N w' ρ cb gb C now' l E l.length ∧ Below N w w' ∧ now'.n ≤ 4 ∧ (i : Nat) < now'.n ∧ now'.ls.length = 16 ∧ Rds w' cb gb C now' l E P ∧
    (match r with
      | none => ∀ (k : Nat) (x : Le), k < l.length → now'.ls[k]? = some x → x.o = -1 → (!(rdy l (dnP now'.dn) k) || fin l (dnP now'.dn) k) = true
      | some m => m < l.length ∧ (!(rdy l (dnP now'.dn) m) || fin l (dnP now'.dn) m) = false ∧ ∃ x, now'.ls[m]? = some x ∧ x.o = i ∧ (∀ y ∈ heldOf P i 16, y.sh = m → y.ep = x.e ∧ y.at_ = dnP now'.dn m ∧ y.bf = 0) ∧ ∃ y ∈ heldOf P i 16, y.sh = m)

theorem crew_take {B : Bd} {N : Nat} {w : World} {ρ : Nat → Nat} {cb gb : Nat} {C : Cfg} {now : Rest} {l : List Sh} {E : List En} (h : Crew true B N w ρ cb gb C now l E l.length) (hN : N ≤ w.heap.size) (hB : B.n ≤ 9223372036854775807) (i : Nat) (hi : (i : Int) < C.a) :
    Calls Try.prog 27 #[.pointer (some ⟨gb, 0, none⟩), .int .i64 i] w (TkP B N w ρ cb gb C l E i) := by
  have hgr := h.wok.1
  have hn := h.wok.2.1
  have hn4 := h.wok.2.2.1
  have hb := h.wok.2.2.2.1
  have hin : i < now.n := by omega
  refine (kTookP h.grp h.fits h.inv hB h.wok i hi).mono fun e w' q => ?_
  obtain ⟨sv, m, g, cap, P, P1, r, e1, _, o, _, ht, rfl, q, o', t'⟩ := q
  have hG : GrpL w' ρ gb C (now.up (takeLs i now.ls r) (takeP (dnP now.dn) i now.ls P1 r)) sv m g cap (takeP (dnP now.dn) i now.ls P1 r) := q.1
  have hw : Wok true B.up C l (now.up (takeLs i now.ls r) (takeP (dnP now.dn) i now.ls P1 r)) := ⟨hgr, hn, hn4, hb, g, cap, _, hG.hw, hG.hm, hG.hl, o', fun _ => t'⟩
  obtain ⟨ev, h1, h2, h3⟩ := h.ent
  have hk := q.2
  have hC : Crew true B.up N w' ρ cb gb C (now.up (takeLs i now.ls r) (takeP (dnP now.dn) i now.ls P1 r)) l E l.length := by
    refine ⟨⟨ev, ?_, ?_, h3⟩, h.tag, ⟨sv, m, e1, hG.G⟩, h.inv, hG.fits, h.low, h.cnt, h.tot, h.rng, h.val, hw⟩
    · rw [hk.block cb (lt_of_heap h1) (fun hm => by unfold mine at hm; rw [h.tag] at hm; omega)]; exact h1
    · exact ownsRow_keeps h2 hk (fun k hkk hm => by unfold mine at hm; rw [h3 k hkk] at hm; omega)
  refine ⟨r, _, takeP (dnP now.dn) i now.ls P1 r, rfl, hC, hk.below hN (fun k _ hm => h.low k (by unfold mine at hm; omega)), hn4, hin, o'.lsL, reads_of hC hG.hw hG.hm hG.hl, ?_⟩
  cases r with
  | none => exact fun k x hk hx hox => took_none o' h.inv hin ht hk hx hox
  | some m => exact took_some o h.inv hin ht o'

end Go.Proofs.Ytpnkmnmchdabkaa
namespace Go.Proofs.Ytpnkmnmchdabkaa
open Go.RowKit

/-- A list of holds, as a walk reads it; the row a is another. -/
def HsAt (w : World) (ha : Option Addr) (hs : List Hd) (a : Option Addr) : Prop :=
  0 < hs.length → ∃ hb, ha = some ⟨hb, 0, none⟩ ∧ hb < w.heap.size ∧ (∀ g, a = some g → g.block ≠ hb) ∧ ∀ (j : Nat) (x : Hd), hs[j]? = some x →
    w.cell? ⟨hb, j * 4, none⟩ = some (.int .i64 x.sh) ∧ w.cell? ⟨hb, j * 4 + 1, none⟩ = some (.int .i64 x.ep) ∧ w.cell? ⟨hb, j * 4 + 2, none⟩ = some (.int .i64 x.at_) ∧ w.cell? ⟨hb, j * 4 + 3, none⟩ = some (.int .i64 x.bf)
theorem hsAt_of {w : World} {B : Nat} {v : Value} {hs : List Hd} (h : w.ownsRow B 75 4 v hs.length (rowHd hs)) (a : Option Addr) (hB : ∀ g, a = some g → g.block < B) : ∃ ha cap, v = .slice ha hs.length cap ∧ HsAt w ha hs a := by
  obtain ⟨ha, cap, rfl⟩ := ownsRow_len h
  refine ⟨ha, cap, rfl, fun hpos => ?_⟩
  obtain ⟨g, cap', cur, hv, hBg, hg, _⟩ := ownsRow_shape h hpos
  injection hv with e1 e2 e3
  subst e1
  refine ⟨g, rfl, lt_of_heap hg, fun q hq => by have := hB q hq; omega, fun j x hj => ?_⟩
  have hlt := (List.getElem?_eq_some_iff.1 hj).1
  have hcell : ∀ k, k < 4 → w.cell? ⟨g, j * 4 + k, none⟩ = (hdCells x)[k]? := by
    intro k hk
    rw [World.ownsRow.cellAt h (j * 4 + k) (by omega), rowHd_get hs j k hk _ hj]
  exact ⟨hcell 0 (by omega), hcell 1 (by omega), hcell 2 (by omega), hcell 3 (by omega)⟩
theorem HsAt.keep {w w' : World} {ha : Option Addr} {hs : List Hd} {a a' : Option Addr} (h : HsAt w ha hs a) (hsz : w.heap.size ≤ w'.heap.size) (hb : ∀ hb, ha = some ⟨hb, 0, none⟩ → hb < w.heap.size → (∀ g, a = some g → g.block ≠ hb) → w'.heap[hb]? = w.heap[hb]? ∧ ∀ g, a' = some g → g.block ≠ hb) : HsAt w' ha hs a' := by
  intro hpos
  obtain ⟨b, e, h1, h2, h3⟩ := h hpos
  obtain ⟨h4, h5⟩ := hb b e h1 h2
  have hc : ∀ j, w'.cell? ⟨b, j, none⟩ = w.cell? ⟨b, j, none⟩ := fun j => World.cell?_of_block (w := w) h4
  refine ⟨b, e, by omega, h5, fun j x hj => ?_⟩
  obtain ⟨c0, c1, c2, c3⟩ := h3 j x hj
  exact ⟨(hc _).trans c0, (hc _).trans c1, (hc _).trans c2, (hc _).trans c3⟩

theorem HsAt.grow {V w6 : World} {o : Obj} {ha a : Option Addr} {hs : List Hd} {n c g2 : Nat} (h : HsAt V ha hs a) (hg : (V.alloc o).grownBy w6 (Value.slice a n c).ownBlock) (hat : (Value.slice a n c).ownBlock = some g2 ∨ g2 = V.heap.size + 1) : HsAt w6 ha hs (some ⟨g2, 0, none⟩) := by
  have hsz : (V.alloc o).heap.size = V.heap.size + 1 := by simp
  have hs6 := hg.size
  refine h.keep (by omega) (fun b _ hb hba => ?_)
  have hne : (Value.slice a n c).ownBlock ≠ some b := by
    cases a with
    | none => simp [Value.ownBlock]
    | some p => intro e; simp [Value.ownBlock] at e; exact hba p rfl e
  refine ⟨(hg.block b (by omega) (fun e => hne e.symm)).trans (Below.heap_alloc _ _ _ hb), fun g e => ?_⟩
  injection e with e
  subst e
  show g2 ≠ b
  rcases hat with e | e
  · intro e2; subst e2; exact hne e
  · omega

end Go.Proofs.Ytpnkmnmchdabkaa
