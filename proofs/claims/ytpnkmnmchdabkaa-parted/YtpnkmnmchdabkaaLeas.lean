import Derived.Test.YtpnkmnmchdabkaaProgGh
namespace Go.Proofs.Ytpnkmnmchdabkaa
open Go.RowKit

/-- Each hold lies at the place of its shard, and there is such a shard. -/
def Shd (L : Nat) (P : List Pl) : Prop := ∀ (q : Nat) (p : Pl), P[q]? = some p → p.held = true → p.h.sh = ((q % 16 : Nat) : Int) ∧ q % 16 < L
theorem Shd.set {L : Nat} {P : List Pl} (h : Shd L P) (q : Nat) (p : Pl) (hp : p.held = true → p.h.sh = ((q % 16 : Nat) : Int) ∧ q % 16 < L) : Shd L (P.set q p) := by
  intro j x hx hh
  by_cases hj : j = q
  · subst hj
    by_cases hl : j < P.length
    · rw [List.getElem?_set_self hl] at hx
      injection hx with hx
      subst hx
      exact hp hh
    · rw [List.getElem?_eq_none (by rw [List.length_set]; omega)] at hx
      cases hx
  · rw [List.getElem?_set_ne (fun e => hj e.symm)] at hx
    exact h j x hx hh
theorem Shd.mono {L M : Nat} {P : List Pl} (h : Shd L P) (hm : L ≤ M) : Shd M P := fun q p hp hh => ⟨(h q p hp hh).1, by have := (h q p hp hh).2; omega⟩

theorem Shd.rhP {L : Nat} {P : List Pl} (h : Shd L P) (i n : Nat) (f : Bool) (ls : List Le) : Shd L (rhP i n f ls P) := by
  unfold Go.Proofs.Ytpnkmnmchdabkaa.rhP
  split
  · split
    · exact h.set _ _ (fun e => by simp [dropped] at e)
    · exact h
  · exact h
theorem Shd.rnUp {L : Nat} {P : List Pl} (h : Shd L P) (i : Nat) (st : List Int) (ls : List Le) : ∀ n, Shd L (rnUp i st n (ls, P)).2
  | 0 => h
  | n + 1 => (Shd.rnUp h i st ls n).rhP i n _ _
theorem Shd.notesP {L : Nat} {P : List Pl} (h : Shd L P) (ls : List Le) (t : Int) (i : Nat) : ∀ n, Shd L (notesP ls t i n P)
  | 0 => h
  | n + 1 => by
    have ih := Shd.notesP h ls t i n
    unfold Go.Proofs.Ytpnkmnmchdabkaa.notesP
    split
    · rename_i x p hx hp
      refine ih.set _ _ (fun e => ?_)
      have e2 : (noted p x.c t).held = p.held ∧ (noted p x.c t).h = p.h := by unfold noted; split <;> exact ⟨rfl, rfl⟩
      rw [e2.1] at e
      rw [e2.2]
      exact ih _ p hp e
    · exact ih
theorem mod16 {i n : Nat} (hn : n < 16) : (i * 16 + n) % 16 = n := by omega
theorem Shd.giveP {L : Nat} {P : List Pl} (h : Shd L P) (d : Int) (i n : Nat) (hn : n < 16) (hL : n < L) (ls : List Le) : Shd L (giveP d i n ls P) := by
  unfold Go.Proofs.Ytpnkmnmchdabkaa.giveP
  split
  · exact h.set _ _ (fun _ => by rw [mod16 hn]; exact ⟨rfl, hL⟩)
  · exact h
theorem Shd.forgetP {L : Nat} {P : List Pl} (h : Shd L P) (i : Nat) : ∀ k, Shd L (forgetP P i k)
  | 0 => h
  | k + 1 => (Shd.forgetP h i k).set _ _ (fun e => by simp [pl0] at e)
theorem Shd.heardP {L : Nat} {P : List Pl} (h : Shd L P) (f : Bool) (i k : Nat) (hk : k < 16) (hL : k < L) (p : Pl) : Shd L (heardP f i k p P) := by
  unfold Go.Proofs.Ytpnkmnmchdabkaa.heardP
  split
  · exact h.set _ _ (fun _ => by rw [mod16 hk]; exact ⟨rfl, hL⟩)
  · exact h.set _ _ (fun e => by simp [dropped] at e)
theorem heldOf_in {P : List Pl} {i : Nat} {x : Hd} : ∀ {n : Nat}, x ∈ heldOf P i n → ∃ k p, k < n ∧ P[i * 16 + k]? = some p ∧ p.held = true ∧ x = p.h
  | 0, h => by simp [heldOf] at h
  | n + 1, h => by
    rw [heldOf, List.mem_append] at h
    rcases h with h | h
    · obtain ⟨k, p, a, b⟩ := heldOf_in h
      exact ⟨k, p, by omega, b⟩
    · cases hp : P[i * 16 + n]? with
      | none => rw [hp] at h; simp at h
      | some p =>
        rw [hp] at h
        by_cases hh : p.held = true
        · simp [hh] at h
          exact ⟨n, p, by omega, hp, hh, h⟩
        · simp [hh] at h

/-- The workers of a group are in order. -/
def Wok (C : Cfg) (L : Nat) (now : Rest) : Prop := (now.n : Int) = C.a ∧ ∃ g cap P, now.wv = .slice (some ⟨g, 0, none⟩) now.n cap ∧ now.mem = plsCells P ∧ P.length = now.n * 16 ∧ Shd L P
theorem Wok.mono {C : Cfg} {L M : Nat} {now : Rest} (h : Wok C L now) (hm : L ≤ M) : Wok C M now := by
  obtain ⟨a, g, cap, P, b, c, d, e⟩ := h
  exact ⟨a, g, cap, P, b, c, d, e.mono hm⟩
theorem Wok.tick {C : Cfg} {L : Nat} {now : Rest} (h : Wok C L now) (t : Int) : Wok C L { now with t := t } := h

theorem mem_0 : memN 0 = plsCells (List.replicate (0 * 16) pl0) := by kernel_rfl
theorem mem_1 : memN 1 = plsCells (List.replicate (1 * 16) pl0) := by kernel_rfl
theorem mem_2 : memN 2 = plsCells (List.replicate (2 * 16) pl0) := by kernel_rfl
theorem mem_3 : memN 3 = plsCells (List.replicate (3 * 16) pl0) := by kernel_rfl
theorem mem_4 : memN 4 = plsCells (List.replicate (4 * 16) pl0) := by kernel_rfl
theorem plsCells_rep (n : Nat) (hn : n ≤ 4) : memN n = plsCells (List.replicate (n * 16) pl0) := by
  match n, hn with
  | 0, _ => exact mem_0
  | 1, _ => exact mem_1
  | 2, _ => exact mem_2
  | 3, _ => exact mem_3
  | 4, _ => exact mem_4
theorem wok_new (C : Cfg) (L wb kn cap : Nat) (hk : (kn : Int) = C.a) (hC : C.a ≤ 4) : Wok C L (rest0 (.slice (some ⟨wb, 0, none⟩) kn cap) kn (memN kn)) :=
  ⟨hk, wb, cap, List.replicate (kn * 16) pl0, rfl, plsCells_rep kn (by omega), by simp [rest0], fun q p hp hh => by
    have := List.eq_of_mem_replicate (List.mem_of_getElem? hp)
    subst this
    simp [pl0] at hh⟩

theorem Grp.gs {w : World} {ρ : Nat → Nat} {gb : Nat} {C : Cfg} {now : Rest} {l : List Sh} (h : Grp w ρ gb C now l) (hf : Fits w ρ) (hI : Inv l) (hw : Wok C l.length now) :
    ∃ sv m g cap P, m.map (·.s) = l ∧ GS w ρ gb C now sv m g cap now.ls P ∧ Shd l.length P := by
  obtain ⟨sv, m, e, G⟩ := h
  obtain ⟨_, g, cap, P, a, b, c, d⟩ := hw
  exact ⟨sv, m, g, cap, P, e, GrpL.gs ⟨G, a, b, c, by have := hI.len; rw [← e] at this; simpa using this, hf⟩, d⟩
/-- What a call on leases leaves, for a law that does not look at them. -/
def LeaseP (w : World) (ρ : Nat → Nat) (gb : Nat) (C : Cfg) (l : List Sh) (w' : World) : Prop := ∃ now', Wok C l.length now' ∧ Grp w' ρ gb C now' l ∧ Keeps (mine ρ) w w' ∧ Fits w' ρ
theorem GSP.lease {w w' : World} {ρ : Nat → Nat} {gb : Nat} {C : Cfg} {now : Rest} {sv : Value} {m : List Cs} {g cap : Nat} {ls : List Le} {P : List Pl} {l : List Sh} (h : GSP w ρ gb C now sv m g cap ls P w') (he : m.map (·.s) = l) (hn : (now.n : Int) = C.a) (hs : Shd l.length P) : LeaseP w ρ gb C l w' := by
  have hG : GrpL w' ρ gb C (now.up ls P) sv m g cap P := h.1
  exact ⟨now.up ls P, ⟨hn, g, cap, P, hG.hw, hG.hm, hG.hl, hs⟩, ⟨sv, m, he, hG.G⟩, h.2, hG.fits⟩
theorem LeaseP.post {w w' : World} {ρ : Nat → Nat} {gb : Nat} {C : Cfg} {l : List Sh} (h : LeaseP w ρ gb C l w') (hf : Fits w ρ) : ∃ now', Wok C l.length now' ∧ GrpPost w ρ gb C now' l w' := by
  obtain ⟨now', a, ⟨sv, m, b, c⟩, d, e⟩ := h
  exact ⟨now', a, ρ, sv, m, b, c, d, Ext.refl hf, e⟩

theorem kRenew {w : World} {ρ : Nat → Nat} {gb : Nat} {C : Cfg} {now : Rest} {l : List Sh} (h : Grp w ρ gb C now l) (hf : Fits w ρ) (hI : Inv l) (hw : Wok C l.length now) (i : Nat) (hi : (i : Int) < C.a) :
    Calls Try.prog 26 #[.pointer (some ⟨gb, 0, none⟩), .int .i64 i] w fun e w' => (∃ a b : Int, e = .returned (.tuple #[.int .i64 a, .int .i64 b])) ∧ LeaseP w ρ gb C l w' := by
  have hn := hw.1
  obtain ⟨sv, m, g, cap, P, rfl, h1, h2⟩ := h.gs hf hI hw
  exact (gRenew_any h1 hI i (by omega)).mono fun e w' q => ⟨⟨_, _, q.1⟩, q.2.lease rfl hn (h2.rnUp _ _ _ _)⟩
theorem kTake {w : World} {ρ : Nat → Nat} {gb : Nat} {C : Cfg} {now : Rest} {l : List Sh} (h : Grp w ρ gb C now l) (hf : Fits w ρ) (hI : Inv l) (hw : Wok C l.length now) (i : Nat) (hi : (i : Int) < C.a) :
    Calls Try.prog 27 #[.pointer (some ⟨gb, 0, none⟩), .int .i64 i] w fun e w' => (∃ a b : Int, e = .returned (.tuple #[.int .i64 a, .int .i64 b])) ∧ LeaseP w ρ gb C l w' := by
  have hn := hw.1
  obtain ⟨sv, m, g, cap, P, rfl, h1, h2⟩ := h.gs hf hI hw
  have h16 : m.length ≤ 16 := GrpL.le h1
  refine (gTake_any h1 hI i (by omega)).mono fun e w' q => ?_
  obtain ⟨r, hr, rfl, q⟩ := q
  cases r with
  | none => exact ⟨⟨_, _, rfl⟩, q.lease rfl hn (h2.notesP _ _ _ _)⟩
  | some n =>
    obtain ⟨hn16, hmay, _⟩ := hr
    have hlt : n < m.length := by
      by_cases hlt : n < m.length
      · exact hlt
      · exfalso
        have hz := stgUp_zero (m.map (·.s)) (dnP now.dn) m.length n (by omega) hn16
        unfold mayP at hmay
        split at hmay
        · rw [hz] at hmay
          simp at hmay
        · cases hmay
    exact ⟨⟨_, _, rfl⟩, q.lease rfl hn ((h2.notesP _ _ _ _).giveP _ _ _ hn16 (by simpa using hlt) _)⟩
theorem kSteal {w : World} {ρ : Nat → Nat} {gb : Nat} {C : Cfg} {now : Rest} {l : List Sh} (h : Grp w ρ gb C now l) (hf : Fits w ρ) (hI : Inv l) (hw : Wok C l.length now) (i : Nat) (hi : (i : Int) < C.a) (k : Nat) (hk : k < l.length) :
    Calls Try.prog 28 #[.pointer (some ⟨gb, 0, none⟩), .int .i64 i, .int .i64 k] w fun e w' => (∃ a : Int, e = .returned (.int .i64 a)) ∧ LeaseP w ρ gb C l w' := by
  have hn := hw.1
  obtain ⟨sv, m, g, cap, P, rfl, h1, h2⟩ := h.gs hf hI hw
  have h16 : m.length ≤ 16 := GrpL.le h1
  have hk' : k < m.length := by simpa using hk
  have hin : i < now.n := by omega
  obtain ⟨p, hp⟩ := h1.pl hin (show k < 16 by omega)
  have hsl := stgUp_len (m.map (·.s)) (dnP now.dn) m.length
  have hv : (stgUp (m.map (·.s)) (dnP now.dn) m.length)[k]? = some ((stgUp (m.map (·.s)) (dnP now.dn) m.length)[k]'(by omega)) := List.getElem?_eq_getElem _
  refine (gSteal_any h1 hI i hin k hk' p hp _ hv).mono fun e w' q => ⟨⟨_, q.1⟩, q.2.lease rfl hn ?_⟩
  unfold stealP
  split
  · exact h2.giveP _ _ _ (by omega) hk _
  · exact h2
theorem kCrash {w : World} {ρ : Nat → Nat} {gb : Nat} {C : Cfg} {now : Rest} {l : List Sh} (h : Grp w ρ gb C now l) (hf : Fits w ρ) (hI : Inv l) (hw : Wok C l.length now) (i : Nat) (hi : (i : Int) < C.a) :
    Calls Try.prog 29 #[.pointer (some ⟨gb, 0, none⟩), .int .i64 i] w fun e w' => (∃ a : Int, e = .returned (.int .i64 a)) ∧ LeaseP w ρ gb C l w' := by
  have hn := hw.1
  obtain ⟨sv, m, g, cap, P, rfl, h1, h2⟩ := h.gs hf hI hw
  exact (gCrash_any h1 i (by omega)).mono fun e w' q => ⟨⟨_, q.1⟩, q.2.lease rfl hn (h2.forgetP _ _)⟩
theorem kFetch {w : World} {ρ : Nat → Nat} {gb : Nat} {C : Cfg} {now : Rest} {l : List Sh} (h : Grp w ρ gb C now l) (hf : Fits w ρ) (hI : Inv l) (hw : Wok C l.length now) (i : Nat) (hi : (i : Int) < C.a) (k : Nat) (hk : k < l.length) :
    Calls Try.prog 30 #[.pointer (some ⟨gb, 0, none⟩), .int .i64 i, .int .i64 k] w fun e w' => (∃ a b : Int, e = .returned (.tuple #[.int .i64 a, .int .i64 b])) ∧ LeaseP w ρ gb C l w' := by
  have hn := hw.1
  obtain ⟨sv, m, g, cap, P, rfl, h1, h2⟩ := h.gs hf hI hw
  have h16 : m.length ≤ 16 := GrpL.le h1
  have hk' : k < m.length := by simpa using hk
  have hin : i < now.n := by omega
  obtain ⟨p, hp⟩ := h1.pl hin (show k < 16 by omega)
  cases hh : p.held
  · exact (gFetch_no h1 i hin k hk' p hp hh).mono fun e w' q => ⟨⟨_, _, q.1⟩, q.2.lease rfl hn h2⟩
  · have hsh := (h2 _ p hp hh).1
    rw [mod16 (by omega)] at hsh
    exact (gFetch_yes h1 i hin k hk' p hp hh hsh _ (List.getElem?_eq_getElem hk')).mono fun e w' q => ⟨⟨_, _, q.1⟩, q.2.lease rfl hn (h2.set _ _ (fun _ => by rw [mod16 (by omega)]; exact ⟨rfl, hk⟩))⟩
theorem fold_n (now : Rest) (k : Nat) (ep at_ bf : Int) : (now.fold k ep at_ bf).n = now.n := by
  unfold Rest.fold
  split <;> rfl
theorem kCommit {w : World} {ρ : Nat → Nat} {gb : Nat} {C : Cfg} {now : Rest} {l : List Sh} (h : Grp w ρ gb C now l) (hf : Fits w ρ) (hI : Inv l) (hw : Wok C l.length now) (i : Nat) (hi : (i : Int) < C.a) (k : Nat) (hk : k < l.length) (lost : Bool) :
    Calls Try.prog 31 #[.pointer (some ⟨gb, 0, none⟩), .int .i64 i, .int .i64 k, .bool lost] w fun e w' => (∃ a : Int, e = .returned (.int .i64 a)) ∧ LeaseP w ρ gb C l w' := by
  have hn := hw.1
  obtain ⟨sv, m, g, cap, P, rfl, h1, h2⟩ := h.gs hf hI hw
  have h16 : m.length ≤ 16 := GrpL.le h1
  have hk' : k < m.length := by simpa using hk
  have hin : i < now.n := by omega
  obtain ⟨p, hp⟩ := h1.pl hin (show k < 16 by omega)
  cases hh : p.held
  · exact (gCommit_no h1 i hin k hk' p hp hh lost).mono fun e w' q => ⟨⟨_, q.1⟩, q.2.lease rfl hn h2⟩
  · have hsh := (h2 _ p hp hh).1
    rw [mod16 (by omega)] at hsh
    by_cases hb : p.h.bf = 0
    · exact (gCommit_empty h1 i hin k hk' p hp hh hb lost).mono fun e w' q => ⟨⟨_, q.1⟩, q.2.lease rfl hn h2⟩
    · refine (gCommit_any h1 i hin k hk' p hp hh hsh hb lost).mono fun e w' q => ⟨⟨_, q.1⟩, q.2.lease rfl (by rw [fold_n]; exact hn) ?_⟩
      split
      · exact h2
      · exact h2.heardP _ _ _ (by omega) hk _
theorem kHolds {w : World} {ρ : Nat → Nat} {gb : Nat} {C : Cfg} {now : Rest} {l : List Sh} (h : Grp w ρ gb C now l) (hf : Fits w ρ) (hI : Inv l) (hw : Wok C l.length now) (i : Nat) (hi : (i : Int) < C.a) :
    Calls Try.prog 35 #[.pointer (some ⟨gb, 0, none⟩), .int .i64 i] w fun e w' => ∃ v hs, e = .returned (.tuple #[v, .int .i64 0]) ∧ hs.length ≤ 16 ∧ (∀ x ∈ hs, ∃ k : Nat, k < l.length ∧ x.sh = (k : Int)) ∧ w'.ownsRow w.heap.size 75 4 v hs.length (rowHd hs) ∧ Below w.heap.size w w' := by
  have hn := hw.1
  obtain ⟨sv, m, g, cap, P, rfl, h1, h2⟩ := h.gs hf hI hw
  refine (gHolds_any h1 i (by omega)).mono fun e w' q => ?_
  obtain ⟨v, a, b, c⟩ := q
  refine ⟨v, heldOf P i 16, a, heldOf_le _ _ _, fun x hx => ?_, b, c⟩
  obtain ⟨k, p, hk, hp, hh, rfl⟩ := heldOf_in hx
  have := h2 _ p hp hh
  rw [mod16 hk] at this
  exact ⟨k, this.2, this.1⟩

end Go.Proofs.Ytpnkmnmchdabkaa
