import Derived.Test.YtpnkmnmchdabkaaGreatLawG
namespace Go.Proofs.YtpnkmnmchdabkaaGreat
open Go.RowKit

/-- A list that came out, as keepShards gets it: nothing of it has a tag yet. -/
structure OutAt (w : World) (ρ : Nat → Nat) (v : Value) (l : List (Sh × Value)) : Prop where
  row : w.ownsRow 0 100 5 v l.length (listCells l)
  par : ∀ (i : Nat) (x : Sh × Value), l[i]? = some x → w.ownsRow 0 3 1 x.2 x.1.par.length (x.1.par.map (Value.int .i64))
  apart : ∀ (i j : Nat) (x y : Sh × Value), i < j → l[i]? = some x → l[j]? = some y → ∀ k, x.2.ownBlock = some k → y.2.ownBlock ≠ some k
  vapart : ∀ (i : Nat) (x : Sh × Value), l[i]? = some x → ∀ k, x.2.ownBlock = some k → v.ownBlock ≠ some k
  tagV : ∀ k, v.ownBlock = some k → ρ k = 0
  tagP : ∀ (i : Nat) (x : Sh × Value), l[i]? = some x → ∀ k, x.2.ownBlock = some k → ρ k = 0

theorem ListAt.outAt {w : World} {B : Nat} {v : Value} {l : List (Sh × Value)} (h : ListAt w B v l) (ρ : Nat → Nat) (hρ : ∀ k, B ≤ k → ρ k = 0) : OutAt w ρ v l :=
  ⟨ownsRow_base h.row (Nat.zero_le _), fun i x hi => ownsRow_base (h.par i x hi) (Nat.zero_le _), fun i j x y hij hi hj _ hk hk' => h.apart i j x y hij hi hj (hk.trans hk'.symm), fun i x hi _ hk hk' => h.vapart i x hi (hk.trans hk'.symm), fun k hk => hρ k (h.row.lt k hk).1, fun i x hi k hk => hρ k ((h.par i x hi).lt k hk).1⟩

/-- The blocks of the parents' lists of the first j shards. -/
def DoneP (l : List (Sh × Value)) (j k : Nat) : Prop := ∃ (i : Nat) (x : Sh × Value), i < j ∧ l[i]? = some x ∧ x.2.ownBlock = some k

/-- keepShards' first loop. -/
structure PInv (w : World) (ρ : Nat → Nat) (wb : Nat) (sdv : Value) (last : Int) (sv hv m2 m3 : Value) (Ls Li Lh : List Ke) (l : List (Sh × Value)) (j : Nat) (ρ1 : Nat → Nat) (iv1 m11 : Value) (Ln : List Ke) (wr : World) : Prop where
  law : LawAt wr ρ1 wb sdv (last - j) sv iv1 hv m11 m2 m3 Ls (Li ++ Ln) Lh
  len : Ln.length = 4 * j
  e1 : ∀ k, k < w.heap.size → ¬ DoneP l j k → ρ1 k = ρ k
  e2 : ∀ k, w.heap.size ≤ k → ρ1 k = 0 ∨ 300 ≤ ρ1 k
  fits : Fits wr ρ1
  keeps : Keeps (fun k => laws ρ k ∨ DoneP l j k) w wr

theorem PInv.start {w : World} {ρ : Nat → Nat} {wb : Nat} {sdv : Value} {last : Int} {sv iv hv m1 m2 m3 : Value} {Ls Li Lh : List Ke} (h : LawAt w ρ wb sdv last sv iv hv m1 m2 m3 Ls Li Lh) (hf : Fits w ρ) (l : List (Sh × Value)) : PInv w ρ wb sdv last sv hv m2 m3 Ls Li Lh l 0 ρ iv m1 [] w := by
  refine ⟨?_, rfl, fun k _ _ => rfl, fun k hk => Or.inl (hf k hk), hf, Keeps.refl _ _⟩
  rw [List.append_nil, Int.natCast_zero, Int.sub_zero]; exact h

theorem PInv.par {w wr : World} {ρ ρ1 : Nat → Nat} {wb : Nat} {sdv : Value} {last : Int} {sv hv m2 m3 iv1 m11 : Value} {Ls Li Lh Ln : List Ke} {l : List (Sh × Value)} {v : Value} {j : Nat} (h : PInv w ρ wb sdv last sv hv m2 m3 Ls Li Lh l j ρ1 iv1 m11 Ln wr) (ho : OutAt w ρ v l) (x : Sh × Value) (hx : l[j]? = some x) :
    wr.ownsRow 0 3 1 x.2 x.1.par.length (x.1.par.map (Value.int .i64)) ∧ (∀ k, x.2.ownBlock = some k → ρ1 k = 0) ∧ wr.ownsRow 0 100 5 v l.length (listCells l) ∧ ∀ k, v.ownBlock = some k → ρ1 k = 0 := by
  have np : ∀ k, x.2.ownBlock = some k → ¬ DoneP l j k := fun k hk ⟨i, y, hij, hy, hyk⟩ => ho.apart i j y x hij hy hx k hyk hk
  have nv : ∀ k, v.ownBlock = some k → ¬ DoneP l j k := fun k hk ⟨i, y, hij, hy, hyk⟩ => ho.vapart i y hy k hyk hk
  refine ⟨?_, fun k hk => (h.e1 k ((ho.par j x hx).lt k hk).2 (np k hk)).trans (ho.tagP j x hx k hk), ?_, fun k hk => (h.e1 k (ho.row.lt k hk).2 (nv k hk)).trans (ho.tagV k hk)⟩
  · refine ownsRow_keeps (ho.par j x hx) h.keeps fun k hk hs => ?_
    rcases hs with hs | hs
    · have := ho.tagP j x hx k hk; unfold laws at hs; omega
    · exact np k hk hs
  · refine ownsRow_keeps ho.row h.keeps fun k hk hs => ?_
    rcases hs with hs | hs
    · have := ho.tagV k hk; unfold laws at hs; omega
    · exact nv k hk hs

theorem PInv.row {w wr : World} {ρ ρ1 : Nat → Nat} {wb : Nat} {sdv : Value} {last : Int} {sv hv m2 m3 iv1 m11 : Value} {Ls Li Lh Ln : List Ke} {l : List (Sh × Value)} {v : Value} {j : Nat} (h : PInv w ρ wb sdv last sv hv m2 m3 Ls Li Lh l j ρ1 iv1 m11 Ln wr) (ho : OutAt w ρ v l) :
    wr.ownsRow 0 100 5 v l.length (listCells l) ∧ ∀ k, v.ownBlock = some k → ρ1 k = 0 := by
  have nv : ∀ k, v.ownBlock = some k → ¬ DoneP l j k := fun k hk ⟨i, y, hij, hy, hyk⟩ => ho.vapart i y hy k hyk hk
  refine ⟨?_, fun k hk => (h.e1 k (ho.row.lt k hk).2 (nv k hk)).trans (ho.tagV k hk)⟩
  refine ownsRow_keeps ho.row h.keeps fun k hk hs => ?_
  rcases hs with hs | hs
  · have := ho.tagV k hk; unfold laws at hs; omega
  · exact nv k hk hs

theorem PInv.step {w wr w' : World} {ρ ρ1 : Nat → Nat} {wb : Nat} {sdv : Value} {last : Int} {sv hv m2 m3 iv1 m11 : Value} {Ls Li Lh Ln : List Ke} {l : List (Sh × Value)} {v : Value} {j : Nat} {e : Ending} (h : PInv w ρ wb sdv last sv hv m2 m3 Ls Li Lh l j ρ1 iv1 m11 Ln wr) (ho : OutAt w ρ v l) (x : Sh × Value) (hx : l[j]? = some x)
    (hp : KeepPost wr ρ1 wb sdv (last - j - 1) sv hv m2 m3 Ls (Li ++ Ln) Lh x.2 e w') : ∃ ρ2 iv2 m12 L2, PInv w ρ wb sdv last sv hv m2 m3 Ls Li Lh l (j + 1) ρ2 iv2 m12 L2 w' := by
  obtain ⟨_, ρ2, iv2, m12, L4, hL, hlen, t1, t2, hf, hk, t3⟩ := hp
  have hxl : ∀ k, x.2.ownBlock = some k → k < w.heap.size := fun k hk => ((ho.par j x hx).lt k hk).2
  have hz := h.keeps.size
  have hd : ∀ k, ¬ DoneP l (j + 1) k → ¬ DoneP l j k ∧ x.2.ownBlock ≠ some k := fun k hn => ⟨fun ⟨i, y, a, b, c⟩ => hn ⟨i, y, by omega, b, c⟩, fun e => hn ⟨j, x, by omega, hx, e⟩⟩
  refine ⟨ρ2, iv2, m12, Ln ++ L4, ?_, by rw [List.length_append, h.len, hlen]; omega, ?_, ?_, hf, ?_⟩
  · rw [← List.append_assoc, show last - ((j + 1 : Nat) : Int) = last - j - 1 by omega]; exact hL
  · intro k hk hn
    rw [t1 k (by omega) (hd k hn).2]; exact h.e1 k hk (hd k hn).1
  · intro k hk
    by_cases hlt : k < wr.heap.size
    · rw [t1 k hlt (fun e => by have := hxl k e; omega)]; exact h.e2 k hk
    · exact t2 k (by omega)
  · refine ⟨hk.os.trans h.keeps.os, hk.tape.trans h.keeps.tape, hk.output.trans h.keeps.output, Nat.le_trans hz hk.size, fun k hkk hs => ?_⟩
    have hn : ¬ DoneP l (j + 1) k := fun q => hs (Or.inr q)
    have hl : ¬ laws ρ k := fun q => hs (Or.inl q)
    rw [hk.block k (by omega) (fun q => by
      rcases q with q | q
      · unfold laws at q hl; rw [h.e1 k hkk (hd k hn).1] at q; exact hl q
      · exact (hd k hn).2 q)]
    exact h.keeps.block k hkk (fun q => by
      rcases q with q | q
      · exact hl q
      · exact (hd k hn).1 q)

/-- The blocks of a list that came out. -/
def OutB (v : Value) (l : List (Sh × Value)) (k : Nat) : Prop := v.ownBlock = some k ∨ ∃ (i : Nat) (x : Sh × Value), l[i]? = some x ∧ x.2.ownBlock = some k

/-- What keepShards leaves. -/
def KeepPostS (w : World) (ρ : Nat → Nat) (wb : Nat) (sdv : Value) (last : Int) (hv m3 : Value) (Ls Li Lh : List Ke) (v : Value) (l : List (Sh × Value)) (e : Ending) (w' : World) : Prop :=
  e = .returned (.tuple #[]) ∧ ∃ ρ' sv iv m1 m2 Lt Ln, LawAt w' ρ' wb sdv (last - l.length - 1) sv iv hv m1 m2 m3 (Ls ++ Lt) (Li ++ Ln) Lh ∧ Lt.length = 4 ∧ Ln.length = 4 * l.length ∧
    (∀ k, k < w.heap.size → ¬ OutB v l k → ρ' k = ρ k) ∧ (∀ k, w.heap.size ≤ k → ρ' k = 0 ∨ 300 ≤ ρ' k) ∧ Fits w' ρ' ∧ Keeps (fun k => laws ρ k ∨ OutB v l k) w w'

theorem PInv.done {w wr w' : World} {ρ ρ1 ρ2 : Nat → Nat} {wb : Nat} {sdv : Value} {last : Int} {sv hv m2 m3 iv1 m11 sv1 m21 : Value} {Ls Li Lh Ln Lt : List Ke} {l : List (Sh × Value)} {v : Value} {x : Ke} {n : Nat} (hn : n = l.length) (h : PInv w ρ wb sdv last sv hv m2 m3 Ls Li Lh l n ρ1 iv1 m11 Ln wr) (ho : OutAt w ρ v l)
    (hs : KInvS wr ρ1 wb sdv (last - n - 1) iv1 hv m11 m3 Ls (Li ++ Ln) Lh v n 4 ρ2 sv1 m21 Lt x w') : KeepPostS w ρ wb sdv last hv m3 Ls Li Lh v l (.returned (.tuple #[])) w' := by
  subst hn
  have hz := h.keeps.size
  have hd : ∀ k, ¬ OutB v l k → ¬ DoneP l l.length k ∧ v.ownBlock ≠ some k := fun k hn => ⟨fun ⟨i, y, _, b, c⟩ => hn (Or.inr ⟨i, y, b, c⟩), fun e => hn (Or.inl e)⟩
  refine ⟨rfl, ρ2, sv1, iv1, m11, m21, Lt, Ln, hs.law, hs.len, h.len, ?_, ?_, hs.fits, ?_⟩
  · intro k hk hn
    rw [hs.e1 k (by omega) (hd k hn).2]; exact h.e1 k hk (hd k hn).1
  · intro k hk
    by_cases hlt : k < wr.heap.size
    · rw [hs.e1 k hlt (fun e => by have := (ho.row.lt k e).2; omega)]; exact h.e2 k hk
    · exact hs.e2 k (by omega)
  · refine ⟨hs.keeps.os.trans h.keeps.os, hs.keeps.tape.trans h.keeps.tape, hs.keeps.output.trans h.keeps.output, Nat.le_trans hz hs.keeps.size, fun k hkk hq => ?_⟩
    have hn : ¬ OutB v l k := fun q => hq (Or.inr q)
    have hl : ¬ laws ρ k := fun q => hq (Or.inl q)
    rw [hs.keeps.block k (by omega) (fun q => by
      rcases q with q | q
      · unfold laws at q hl; rw [h.e1 k hkk (hd k hn).1] at q; exact hl q
      · exact (hd k hn).2 q)]
    exact h.keeps.block k hkk (fun q => by
      rcases q with q | q
      · exact hl q
      · exact (hd k hn).1 q)

/-- Five cells of the row are written over. -/
theorem row_put5 {w : World} {te : TypeId} {lb n c : Nat} {xs : List Value} (h : w.ownsRow 0 te 5 (.slice (some ⟨lb, 0, none⟩) n c) n xs) (j : Nat) (v0 v1 v2 v3 v4 : Value) :
    (((((w.setCell ⟨lb, j * 5, none⟩ v0).setCell ⟨lb, j * 5 + 1, none⟩ v1).setCell ⟨lb, j * 5 + 2, none⟩ v2).setCell ⟨lb, j * 5 + 3, none⟩ v3).setCell ⟨lb, j * 5 + 4, none⟩ v4).ownsRow 0 te 5 (.slice (some ⟨lb, 0, none⟩) n c) n
      (((((xs.set (j * 5) v0).set (j * 5 + 1) v1).set (j * 5 + 2) v2).set (j * 5 + 3) v3).set (j * 5 + 4) v4) := by
  have h := (World.ownsRow.stored h (j * 5) v0).1
  have h := (World.ownsRow.stored h (j * 5 + 1) v1).1
  have h := (World.ownsRow.stored h (j * 5 + 2) v2).1
  have h := (World.ownsRow.stored h (j * 5 + 3) v3).1
  have h := (World.ownsRow.stored h (j * 5 + 4) v4).1
  exact h

theorem repS_set {m : Int} {xs : List Value} {j : Nat} (hj : j * 5 + 5 ≤ xs.length) :
    ((((((repP patS m j ++ xs.drop (j * 5)).set (j * 5) (.int .i64 m)).set (j * 5 + 1) (.int .i64 0)).set (j * 5 + 2) (.bool false)).set (j * 5 + 3) (.slice none 0 0)).set (j * 5 + 4) (.int .i64 0)) = repP patS m (j + 1) ++ xs.drop ((j + 1) * 5) := by
  have hl := repP_len (patS_len m) j
  have hd : xs.drop (j * 5) = xs[j * 5] :: xs[j * 5 + 1] :: xs[j * 5 + 2] :: xs[j * 5 + 3] :: xs[j * 5 + 4] :: xs.drop ((j + 1) * 5) := by
    rw [List.drop_eq_getElem_cons (by omega), List.drop_eq_getElem_cons (by omega), List.drop_eq_getElem_cons (by omega), List.drop_eq_getElem_cons (by omega), List.drop_eq_getElem_cons (by omega), show (j + 1) * 5 = j * 5 + 1 + 1 + 1 + 1 + 1 by omega]
  rw [hd, List.set_append_right _ _ (by omega), List.set_append_right _ _ (by omega), List.set_append_right _ _ (by omega), List.set_append_right _ _ (by omega), List.set_append_right _ _ (by omega), hl, Nat.sub_self, Nat.add_sub_cancel_left, Nat.add_sub_cancel_left, Nat.add_sub_cancel_left, Nat.add_sub_cancel_left]
  simp only [List.set_cons_zero, List.set_cons_succ, repP, patS, List.append_assoc, List.cons_append, List.nil_append]

theorem listCells_len (l : List (Sh × Value)) : (listCells l).length = l.length * 5 := by
  induction l with
  | nil => rfl
  | cons s r ih => simp only [listCells, List.length_append, ih, outCells, List.length_cons, List.length_nil]; omega

end Go.Proofs.YtpnkmnmchdabkaaGreat
