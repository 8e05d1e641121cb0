import Derived.Test.YtpnkmnmchdabkaaM36
namespace Go.Proofs.Ytpnkmnmchdabkaa
open Go.RowKit
attribute [local go_sem ↓] Go.wp_at_zero Go.wp_at_succ

/-- All that the law asks of a crew and its group, wherever only new memory was made. -/
def Rds (w : World) (cb gb : Nat) (C : Cfg) (now : Rest) (l : List Sh) (E : List En) (P : List Pl) : Prop :=
  ∀ W, Below w.heap.size w W →
    (W.cell? ⟨cb, 0, none⟩ = some (.int .i64 C.a) ∧ W.cell? ⟨cb, 2, none⟩ = some (.int .i64 C.b) ∧ W.cell? ⟨cb, 6, none⟩ = some (.pointer (some ⟨gb, 0, none⟩)) ∧ W.cell? ⟨cb, 8, none⟩ = some (.int .i64 l.length)) ∧
    (∀ k : Nat, Calls Try.prog 18 #[.pointer (some ⟨cb, 0, none⟩), .int .i64 k] W fun e w' => e = .returned (.int .i64 (held E k)) ∧ W = w') ∧
    (∀ i : Nat, i < now.n → Calls Try.prog 35 #[.pointer (some ⟨gb, 0, none⟩), .int .i64 i] W fun e w' => ∃ v, e = .returned (.tuple #[v, .int .i64 0]) ∧ w'.ownsRow W.heap.size 75 4 v (heldOf P i 16).length (rowHd (heldOf P i 16)) ∧ Below W.heap.size W w') ∧
    (∀ (k : Nat) (x : Le), k < l.length → now.ls[k]? = some x → Calls Try.prog 36 #[.pointer (some ⟨gb, 0, none⟩), .int .i64 k] W fun e w' => e = .returned (.tuple #[.agg #[.int .i64 x.o, .int .i64 x.c, .int .i64 x.e], .int .i64 0]) ∧ Below W.heap.size W w')

theorem reads_of {t : Bool} {B : Bd} {N : Nat} {w : World} {ρ : Nat → Nat} {cb gb : Nat} {C : Cfg} {now : Rest} {l : List Sh} {E : List En} (h : Crew t B N w ρ cb gb C now l E l.length) {g cap : Nat} {P : List Pl} (a : now.wv = .slice (some ⟨g, 0, none⟩) now.n cap) (b : now.mem = plsCells P) (c : P.length = now.n * 16) : Rds w cb gb C now l E P := by
  intro W hb
  have hW := h.below hb
  have hlen := h.inv.len
  have hpos := h.inv.pos
  obtain ⟨ea, ecap, c0, c6, c7, c8, _, _, hE⟩ := crew_cells hW.ent2
  obtain ⟨ev, hv, _⟩ := hW.ent2
  obtain ⟨sv, m, e, G⟩ := hW.grp
  have gs : GS W ρ gb C now sv m g cap now.ls P := GrpL.gs ⟨G, a, b, c, by rw [← e] at hlen; simpa using hlen, hW.fits⟩
  have hml : m.length = l.length := by rw [← e]; simp
  exact ⟨⟨c0, cell_of hv 2, c6, c8⟩, fun k => count_raw hW.short c7 hE k, fun i hi => gHolds_any gs i hi, fun k x hk hx => gLease_any gs (by omega) k (by omega) x hx⟩
theorem crew_reads {t : Bool} {B : Bd} {N : Nat} {w : World} {ρ : Nat → Nat} {cb gb : Nat} {C : Cfg} {now : Rest} {l : List Sh} {E : List En} (h : Crew t B N w ρ cb gb C now l E l.length) :
    ∃ P, (now.n : Int) = C.a ∧ now.n ≤ 4 ∧ Ow B.n now.n C.b l now.dn now.ls P ∧ Rds w cb gb C now l E P := by
  obtain ⟨_, hn, hn4, _, g, cap, P, a, b, c, o, _⟩ := h.wok
  exact ⟨P, hn, hn4, o, reads_of h a b c⟩

/-- The holds of a worker rise. -/
theorem heldOf_sorted {P : List Pl} {i : Nat} (hs : ∀ (k : Nat) (p : Pl), k < 16 → P[i * 16 + k]? = some p → p.held = true → p.h.sh = k) : ∀ n, n ≤ 16 → (heldOf P i n).Pairwise (fun x y => x.sh < y.sh)
  | 0, _ => List.Pairwise.nil
  | n + 1, hn => by
    rw [heldOf, List.pairwise_append]
    refine ⟨heldOf_sorted hs n (by omega), ?_, fun x hx y hy => ?_⟩
    · cases hp : P[i * 16 + n]? with
      | none => simp
      | some p => by_cases hh : p.held = true <;> simp [hh]
    · obtain ⟨k, p, hk, hp, hh, rfl⟩ := heldOf_in hx
      cases hq : P[i * 16 + n]? with
      | none => rw [hq] at hy; simp at hy
      | some q =>
        rw [hq] at hy
        by_cases hh' : q.held = true
        · simp [hh'] at hy
          subst hy
          rw [hs k p (by omega) hp hh, hs n q (by omega) hq hh']
          omega
        · simp [hh'] at hy
theorem heldOf_has {P : List Pl} {i k : Nat} {p : Pl} (hp : P[i * 16 + k]? = some p) (hh : p.held = true) : ∀ n, k < n → p.h ∈ heldOf P i n
  | 0, h => by omega
  | n + 1, h => by
    rw [heldOf, List.mem_append]
    by_cases e : k < n
    · exact Or.inl (heldOf_has hp hh n e)
    · have e : k = n := by omega
      subst e
      rw [hp]
      simp [hh]
/-- All holds of the first n workers. -/
def allUp (P : List Pl) : Nat → List Hd
  | 0 => []
  | n + 1 => allUp P n ++ heldOf P n 16
theorem allUp_in {P : List Pl} {x : Hd} : ∀ {n : Nat}, x ∈ allUp P n → ∃ i, i < n ∧ x ∈ heldOf P i 16
  | 0, h => by simp [allUp] at h
  | n + 1, h => by
    rw [allUp, List.mem_append] at h
    rcases h with h | h
    · obtain ⟨i, a, b⟩ := allUp_in h
      exact ⟨i, by omega, b⟩
    · exact ⟨n, by omega, h⟩
theorem allUp_len (P : List Pl) : ∀ n, (allUp P n).length ≤ n * 16
  | 0 => by simp [allUp]
  | n + 1 => by
    rw [allUp, List.length_append]
    have := allUp_len P n
    have := heldOf_le P n 16
    omega

/-- What is so of a hold that is listed. -/
theorem Ow.hold {B n : Nat} {Cb : Int} {l : List Sh} {dn : List Int} {ls : List Le} {P : List Pl} (h : Ow B n Cb l dn ls P) {i : Nat} (hi : i < n) {y : Hd} (hy : y ∈ heldOf P i 16) :
    ∃ (k : Nat) (x : Le), k < l.length ∧ y.sh = k ∧ ls[k]? = some x ∧ 1 ≤ y.ep ∧ y.ep ≤ x.e ∧ (y.ep = x.e → x.o = i) ∧ epP dn k ≤ x.e ∧ 0 ≤ y.at_ ∧ y.at_ ≤ dnP dn k ∧ 0 ≤ y.bf ∧ y.bf ≤ Cb ∧ y.at_ + y.bf ≤ cn l k := by
  obtain ⟨k, p, hk, hp, hh, rfl⟩ := heldOf_in hy
  obtain ⟨x, hx⟩ : ∃ x, ls[k]? = some x := ⟨ls[k]'(by rw [h.lsL]; exact hk), List.getElem?_eq_getElem _⟩
  have H := h.hd i k p x hi hk hp hh hx
  exact ⟨k, x, H.lt, H.sh, hx, H.e1, H.e2, H.own, (h.le k x hx).2.2.1, H.a0, H.a1, H.b0, H.b1, H.ab⟩
theorem Ow.rise {B n : Nat} {Cb : Int} {l : List Sh} {dn : List Int} {ls : List Le} {P : List Pl} (h : Ow B n Cb l dn ls P) {i : Nat} (hi : i < n) : (heldOf P i 16).Pairwise (fun x y => x.sh < y.sh) := by
  refine heldOf_sorted (fun k p hk hp hh => ?_) 16 (Nat.le_refl _)
  obtain ⟨x, hx⟩ : ∃ x, ls[k]? = some x := ⟨ls[k]'(by rw [h.lsL]; exact hk), List.getElem?_eq_getElem _⟩
  exact (h.hd i k p x hi hk hp hh hx).sh
theorem rise_at {L : List Hd} (h : L.Pairwise (fun x y => x.sh < y.sh)) {a b : Nat} {x y : Hd} (hab : a < b) (hx : L[a]? = some x) (hy : L[b]? = some y) : x.sh < y.sh := by
  obtain ⟨h1, rfl⟩ := List.getElem?_eq_some_iff.1 hx
  obtain ⟨h2, rfl⟩ := List.getElem?_eq_some_iff.1 hy
  exact List.pairwise_iff_getElem.1 h a b h1 h2 hab
/-- No two holds are of one shard and one epoch. -/
theorem Ow.apart {B n : Nat} {Cb : Int} {l : List Sh} {dn : List Int} {ls : List Le} {P : List Pl} (h : Ow B n Cb l dn ls P) {i j : Nat} (hi : i < n) {x y : Hd} (hy : (heldOf P i 16)[j]? = some y) (hx : x ∈ allUp P i ++ (heldOf P i 16).take j) (he : x.sh = y.sh) : x.ep ≠ y.ep := by
  rw [List.mem_append] at hx
  rcases hx with hx | hx
  · obtain ⟨i', hi', hx⟩ := allUp_in hx
    obtain ⟨k, p, hk, hp, hh, rfl⟩ := heldOf_in hx
    obtain ⟨k', q, hk', hq, hh', rfl⟩ := heldOf_in (List.mem_of_getElem? hy)
    obtain ⟨z, hz⟩ : ∃ z, ls[k]? = some z := ⟨ls[k]'(by rw [h.lsL]; exact hk), List.getElem?_eq_getElem _⟩
    obtain ⟨z', hz'⟩ : ∃ z, ls[k']? = some z := ⟨ls[k']'(by rw [h.lsL]; exact hk'), List.getElem?_eq_getElem _⟩
    have e1 := (h.hd i' k p z (by omega) hk hp hh hz).sh
    have e2 := (h.hd i k' q z' hi hk' hq hh' hz').sh
    have e : k = k' := by omega
    subst e
    exact h.df i' i k p q (by omega) hi hk hp hq hh hh' (by omega)
  · obtain ⟨a, ha⟩ := List.getElem?_of_mem hx
    rw [List.getElem?_take] at ha
    split at ha
    · have := rise_at (h.rise hi) (by assumption) ha hy
      omega
    · cases ha

set_option maxRecDepth 100000 in
set_option maxHeartbeats 4000000 in
theorem waits_any {l : List Sh} (hI : Inv l) {U : List Mk} {dn : Nat → Int} {lb mb lcap mcap : Nat} (hU : U.length = l.length) (hd : ∀ (k : Nat) (x : Mk), U[k]? = some x → x.d = dn k) (k : Nat) (hk : k < l.length) (w : World) (hT : Tol w lb l) (hM : Mks w mb U) :
    Calls Try.prog 37 #[.slice (some ⟨lb, 0, none⟩) l.length lcap, .slice (some ⟨mb, 0, none⟩) U.length mcap, .int .i64 k] w fun e w' => e = .returned (.bool (!(rdy l dn k) || fin l dn k)) ∧ ∃ n, w' = w.drewN n := by
  have C1 := hide (whole_any (lcap := lcap) (mcap := mcap) hI hU hd k hk w hT hM).1
  have C2 : Hid (∀ q, Calls Try.prog 66 #[.slice (some ⟨lb, 0, none⟩) l.length lcap, .slice (some ⟨mb, 0, none⟩) U.length mcap, .int .i64 k] (w.drewN q) fun e w' => e = .returned (.bool (fin l dn k)) ∧ ∃ n, w' = (w.drewN q).drewN n) := fun q =>
    (whole_any (lcap := lcap) (mcap := mcap) hI hU hd k hk (w.drewN q) (hT.below ⟨rfl, rfl, rfl, Nat.le_refl _, fun _ _ => rfl⟩) (hM.below ⟨rfl, rfl, rfl, Nat.le_refl _, fun _ _ => rfl⟩)).2
  have h16 := hI.len
  generalize rdy l dn k = r at *
  generalize fin l dn k = f at *
  clear hT hM hI hd hU
  go_enter Try.func37, Try.ntmps37
  go_wp2_with fail
  refine (unhide C1).mono ?_
  rintro e w1 ⟨rfl, n, rfl⟩
  have C3 := hide (unhide C2 n)
  have HN : Hid (∀ m, (w.drewN n).drewN m = w.drewN (n + m)) := fun m => World.drewN_drewN ..
  generalize w.drewN n = V at *
  go_wp2_with fail
  refine (unhide C3).mono ?_
  rintro e w1 ⟨rfl, m, rfl⟩
  cases r <;> cases f
  all_goals
    go_wp2
    go_ret
    exact ⟨ret_bool (by rfl), n + m, unhide HN m⟩

end Go.Proofs.Ytpnkmnmchdabkaa
namespace Go.Proofs.Ytpnkmnmchdabkaa
open Go.RowKit

/-- A list of holds, as a walk reads it; the row a is another. -/
def HsAt (w : World) (ha : Option Addr) (hs : List Hd) (a : Option Addr) : Prop :=
  0 < hs.length → ∃ hb, ha = some ⟨hb, 0, none⟩ ∧ hb < w.heap.size ∧ (∀ g, a = some g → g.block ≠ hb) ∧ ∀ (j : Nat) (x : Hd), hs[j]? = some x →
    w.cell? ⟨hb, j * 4, none⟩ = some (.int .i64 x.sh) ∧ w.cell? ⟨hb, j * 4 + 1, none⟩ = some (.int .i64 x.ep) ∧ w.cell? ⟨hb, j * 4 + 2, none⟩ = some (.int .i64 x.at_) ∧ w.cell? ⟨hb, j * 4 + 3, none⟩ = some (.int .i64 x.bf)
theorem hsAt_of {w : World} {B : Nat} {v : Value} {hs : List Hd} (h : w.ownsRow B 75 4 v hs.length (rowHd hs)) (a : Option Addr) (hB : ∀ g, a = some g → g.block < B) : ∃ ha cap, v = .slice ha hs.length cap ∧ HsAt w ha hs a := by
  obtain ⟨ha, cap, rfl⟩ := ownsRow_len h
  refine ⟨ha, cap, rfl, fun hpos => ?_⟩
  obtain ⟨g, cap', cur, hv, hBg, hg, _⟩ := ownsRow_shape h hpos
  injection hv with e1 e2 e3
  subst e1
  refine ⟨g, rfl, lt_of_heap hg, fun q hq => by have := hB q hq; omega, fun j x hj => ?_⟩
  have hlt := (List.getElem?_eq_some_iff.1 hj).1
  have hcell : ∀ k, k < 4 → w.cell? ⟨g, j * 4 + k, none⟩ = (hdCells x)[k]? := by
    intro k hk
    rw [World.ownsRow.cellAt h (j * 4 + k) (by omega), rowHd_get hs j k hk _ hj]
  exact ⟨hcell 0 (by omega), hcell 1 (by omega), hcell 2 (by omega), hcell 3 (by omega)⟩
theorem HsAt.keep {w w' : World} {ha : Option Addr} {hs : List Hd} {a a' : Option Addr} (h : HsAt w ha hs a) (hsz : w.heap.size ≤ w'.heap.size) (hb : ∀ hb, ha = some ⟨hb, 0, none⟩ → hb < w.heap.size → (∀ g, a = some g → g.block ≠ hb) → w'.heap[hb]? = w.heap[hb]? ∧ ∀ g, a' = some g → g.block ≠ hb) : HsAt w' ha hs a' := by
  intro hpos
  obtain ⟨b, e, h1, h2, h3⟩ := h hpos
  obtain ⟨h4, h5⟩ := hb b e h1 h2
  have hc : ∀ j, w'.cell? ⟨b, j, none⟩ = w.cell? ⟨b, j, none⟩ := fun j => World.cell?_of_block (w := w) h4
  refine ⟨b, e, by omega, h5, fun j x hj => ?_⟩
  obtain ⟨c0, c1, c2, c3⟩ := h3 j x hj
  exact ⟨(hc _).trans c0, (hc _).trans c1, (hc _).trans c2, (hc _).trans c3⟩

theorem HsAt.grow {V w6 : World} {o : Obj} {ha a : Option Addr} {hs : List Hd} {n c g2 : Nat} (h : HsAt V ha hs a) (hg : (V.alloc o).grownBy w6 (Value.slice a n c).ownBlock) (hat : (Value.slice a n c).ownBlock = some g2 ∨ g2 = V.heap.size + 1) : HsAt w6 ha hs (some ⟨g2, 0, none⟩) := by
  have hsz : (V.alloc o).heap.size = V.heap.size + 1 := by simp
  have hs6 := hg.size
  refine h.keep (by omega) (fun b _ hb hba => ?_)
  have hne : (Value.slice a n c).ownBlock ≠ some b := by
    cases a with
    | none => simp [Value.ownBlock]
    | some p => intro e; simp [Value.ownBlock] at e; exact hba p rfl e
  refine ⟨(hg.block b (by omega) (fun e => hne e.symm)).trans (Below.heap_alloc _ _ _ hb), fun g e => ?_⟩
  injection e with e
  subst e
  show g2 ≠ b
  rcases hat with e | e
  · intro e2; subst e2; exact hne e
  · omega

end Go.Proofs.Ytpnkmnmchdabkaa
