import Derived.Test.YtpnkmnmchdabkaaM20
import Derived.Test.YtpnkmnmchdabkaaM04
namespace Go.Proofs.Ytpnkmnmchdabkaa
open Go.RowKit

theorem mod16 {i n : Nat} (hn : n < 16) : (i * 16 + n) % 16 = n := by omega
theorem heldOf_in {P : List Pl} {i : Nat} {x : Hd} : ∀ {n : Nat}, x ∈ heldOf P i n → ∃ k p, k < n ∧ P[i * 16 + k]? = some p ∧ p.held = true ∧ x = p.h
  | 0, h => by simp [heldOf] at h
  | n + 1, h => by
    rw [heldOf, List.mem_append] at h
    rcases h with h | h
    · obtain ⟨k, p, a, b⟩ := heldOf_in h
      exact ⟨k, p, by omega, b⟩
    · cases hp : P[i * 16 + n]? with
      | none => rw [hp] at h; simp at h
      | some p =>
        rw [hp] at h
        by_cases hh : p.held = true
        · simp [hh] at h
          exact ⟨n, p, by omega, hp, hh, h⟩
        · simp [hh] at h

/-- How great an epoch may be; how far all was once; blocks of the law's own that stand. -/
structure Bd where
  n : Nat
  dn : List Int
  l : List Sh
  X : Nat → Option Obj
def Bd.up (B : Bd) : Bd := { B with n := B.n + 1 }
/-- As long as the script is not too long for any machine. -/
def NtC (B n : Nat) (t : Int) (ls : List Le) (P : List Pl) : Prop := B ≤ 1000000000000000 → Nt B n t ls P
theorem NtC.up {B n : Nat} {t : Int} {ls : List Le} {P : List Pl} (h : NtC B n t ls P) : NtC (B + 1) n t ls P := fun hB => (h (by omega)).up
/-- The workers of a group are in order. -/
def Wok (t : Bool) (B : Bd) (C : Cfg) (l : List Sh) (now : Rest) : Prop := Gro B.dn B.l now.dn l ∧ (now.n : Int) = C.a ∧ now.n ≤ 4 ∧ 0 ≤ C.b ∧ ∃ g cap P, now.wv = .slice (some ⟨g, 0, none⟩) now.n cap ∧ now.mem = plsCells P ∧ P.length = now.n * 16 ∧ Ow B.n now.n C.b l now.dn now.ls P ∧ (t = true → Tight B.n now.n now.ls P) ∧ NtC B.n now.n now.t now.ls P
theorem Wok.loose {t : Bool} {B : Bd} {C : Cfg} {l : List Sh} {now : Rest} (h : Wok t B C l now) : Wok false B C l now := by
  obtain ⟨z, a, b, c, g, cap, P, d, e, f, o, _, q⟩ := h
  exact ⟨z, a, b, c, g, cap, P, d, e, f, o, fun e => (by cases e), q⟩
theorem Wok.next {t : Bool} {B : Bd} {C : Cfg} {l : List Sh} {now : Rest} (h : Wok t B C l now) : Wok true B.up C l now := by
  obtain ⟨z, a, b, c, g, cap, P, d, e, f, o, _, q⟩ := h
  exact ⟨z, a, b, c, g, cap, P, d, e, f, o.up.1, fun _ => o.up.2, q.up⟩
theorem Wok.log {t : Bool} {B : Bd} {C : Cfg} {l l' : List Sh} {now : Rest} (h : Wok t B C l now) (hI : Inv l) (hI' : Inv l') (ha : Adv l l') : Wok t B C l' now := by
  obtain ⟨z, a, b, c, g, cap, P, d, e, f, o, q⟩ := h
  exact ⟨z.log ha, a, b, c, g, cap, P, d, e, f, o.log hI hI' ha, q⟩
theorem Wok.tick {t : Bool} {B : Bd} {C : Cfg} {l : List Sh} {now : Rest} (h : Wok t B C l now) : Wok true B.up C l { now with t := wrap64 (now.t + 1) } := by
  obtain ⟨z, a, b, c, g, cap, P, d, e, f, o, _, q⟩ := h
  exact ⟨z, a, b, c, g, cap, P, d, e, f, o.up.1, fun _ => o.up.2, fun hB => (q (by have : B.n + 1 ≤ 1000000000000000 := hB; omega)).tick (by have : B.n + 1 ≤ 1000000000000000 := hB; omega)⟩

theorem noneL_at {k : Nat} {x : Le} (h : (noneL 16)[k]? = some x) : x.o = -1 ∧ x.e = 0 := by
  have hx : x ∈ noneL 16 := List.mem_of_getElem? h
  have e : noneL 16 = List.replicate 16 ⟨-1, 0, 0⟩ := by unfold noneL; simp
  rw [e] at hx
  have := List.eq_of_mem_replicate hx
  subst this
  exact ⟨rfl, rfl⟩
theorem ow_new (n : Nat) (Cb : Int) (hn : n ≤ 4) : Ow 0 n Cb [⟨0, 256, true, [], []⟩] (List.replicate 32 0) (noneL 16) (List.replicate (n * 16) pl0) := by
  have z1 : ∀ k, dnP (List.replicate 32 0) k = 0 := by
    intro k
    unfold dnP
    rw [List.getElem?_replicate]
    split <;> rfl
  have z2 : ∀ k, epP (List.replicate 32 0) k = 0 := by
    intro k
    unfold epP
    rw [List.getElem?_replicate]
    split <;> rfl
  have no : ∀ {q : Nat} {p : Pl}, (List.replicate (n * 16) pl0)[q]? = some p → p.held = true → False := by
    intro q p hp hh
    have := List.eq_of_mem_replicate (List.mem_of_getElem? hp)
    subst this
    simp [pl0] at hh
  refine ⟨by simp, by simp [noneL], by simp, fun k hk => ?_, fun k x hx => ?_, fun i k p x _ _ hp hh _ => (no hp hh).elim, fun i j k p q _ _ _ hp _ hh _ _ => (no hp hh).elim⟩
  · rw [z1, z2]
    exact ⟨by omega, by omega, by omega, by omega, fun h => by omega⟩
  · obtain ⟨a, b⟩ := noneL_at hx
    rw [a, b, z2]
    exact ⟨by omega, by omega, by omega, by omega, by omega, fun _ => rfl, fun _ h => by omega⟩
theorem hc_zero {P : List Pl} {k : Nat} (h : ∀ j, hol P j k = false) : ∀ n, hc P k n = 0
  | 0 => rfl
  | n + 1 => by unfold hc; rw [hc_zero h n, h n]; rfl
def bd0 : Bd := ⟨0, List.replicate 32 0, [⟨0, 256, true, [], []⟩], fun _ => none⟩
theorem nt_new (n : Nat) : Nt 0 n 0 (noneL 16) (List.replicate (n * 16) pl0) := by
  refine ⟨by omega, fun k x hx => ?_, fun i k p x hi hk hp hm hx => ?_⟩
  · have h9 : x ∈ noneL 16 := List.mem_of_getElem? hx
    have e : noneL 16 = List.replicate 16 ⟨-1, 0, 0⟩ := by unfold noneL; simp
    rw [e] at h9
    have := List.eq_of_mem_replicate h9
    subst this
    exact ⟨Int.le_refl _, Int.le_refl _⟩
  · have := List.eq_of_mem_replicate (List.mem_of_getElem? hp)
    subst this
    cases hm
theorem wok_new (C : Cfg) (wb kn cap : Nat) (hk : (kn : Int) = C.a) (hC : C.a ≤ 4) (hb : 0 ≤ C.b) : Wok true bd0 C [⟨0, 256, true, [], []⟩] (rest0 (.slice (some ⟨wb, 0, none⟩) kn cap) kn (memN kn)) :=
  ⟨Gro.refl _ _, hk, by show kn ≤ 4; omega, hb, wb, cap, List.replicate (kn * 16) pl0, rfl, plsCells_rep kn (by omega), by simp [rest0], ow_new kn C.b (by omega), fun _ k x hx e => by
    refine hc_zero (fun j => ?_) _
    unfold hol
    split
    · rename_i p hp
      have := List.eq_of_mem_replicate (List.mem_of_getElem? hp)
      subst this
      rfl
    · rfl, fun _ => nt_new kn⟩

theorem Grp.gs {w : World} {ρ : Nat → Nat} {gb : Nat} {C : Cfg} {now : Rest} {l : List Sh} {t : Bool} {B : Bd} (h : Grp w ρ gb C now l) (hf : Fits w ρ) (hI : Inv l) (hw : Wok t B C l now) :
    ∃ sv m g cap P, m.map (·.s) = l ∧ GS w ρ gb C now sv m g cap now.ls P ∧ Ow B.n now.n C.b l now.dn now.ls P ∧ (t = true → Tight B.n now.n now.ls P) := by
  obtain ⟨sv, m, e, G⟩ := h
  obtain ⟨_, _, _, _, g, cap, P, a, b, c, d, f, _⟩ := hw
  exact ⟨sv, m, g, cap, P, e, GrpL.gs ⟨G, a, b, c, by have := hI.len; rw [← e] at this; simpa using this, hf⟩, d, f⟩
theorem Grp.gsN {w : World} {ρ : Nat → Nat} {gb : Nat} {C : Cfg} {now : Rest} {l : List Sh} {t : Bool} {B : Bd} (h : Grp w ρ gb C now l) (hf : Fits w ρ) (hI : Inv l) (hw : Wok t B C l now) :
    ∃ sv m g cap P, m.map (·.s) = l ∧ GS w ρ gb C now sv m g cap now.ls P ∧ Ow B.n now.n C.b l now.dn now.ls P ∧ (t = true → Tight B.n now.n now.ls P) ∧ NtC B.n now.n now.t now.ls P := by
  obtain ⟨sv, m, e, G⟩ := h
  obtain ⟨_, _, _, _, g, cap, P, a, b, c, d, f⟩ := hw
  exact ⟨sv, m, g, cap, P, e, GrpL.gs ⟨G, a, b, c, by have := hI.len; rw [← e] at this; simpa using this, hf⟩, d, f⟩
/-- What a call on leases leaves. -/
def LeaseP (t : Bool) (B : Bd) (w : World) (ρ : Nat → Nat) (gb : Nat) (C : Cfg) (l : List Sh) (w' : World) : Prop := ∃ now', Wok t B C l now' ∧ Grp w' ρ gb C now' l ∧ Keeps (mine ρ) w w' ∧ Fits w' ρ
theorem LeaseP.next {t : Bool} {B : Bd} {w w' : World} {ρ : Nat → Nat} {gb : Nat} {C : Cfg} {l : List Sh} (h : LeaseP t B w ρ gb C l w') : LeaseP true B.up w ρ gb C l w' := by
  obtain ⟨now', a, b⟩ := h
  exact ⟨now', a.next, b⟩
theorem GSP.lease {t : Bool} {B : Bd} {w w' : World} {ρ : Nat → Nat} {gb : Nat} {C : Cfg} {now : Rest} {sv : Value} {m : List Cs} {g cap : Nat} {ls : List Le} {P : List Pl} {l : List Sh} (h : GSP w ρ gb C now sv m g cap ls P w') (he : m.map (·.s) = l) (hn : (now.n : Int) = C.a) (hn4 : now.n ≤ 4) (hb : 0 ≤ C.b) (hgr : Gro B.dn B.l now.dn l) (hs : Ow B.n now.n C.b l now.dn ls P) (ht : t = true → Tight B.n now.n ls P) (hq : NtC B.n now.n now.t ls P) : LeaseP t B w ρ gb C l w' := by
  have hG : GrpL w' ρ gb C (now.up ls P) sv m g cap P := h.1
  exact ⟨now.up ls P, ⟨hgr, hn, hn4, hb, g, cap, P, hG.hw, hG.hm, hG.hl, hs, ht, hq⟩, ⟨sv, m, he, hG.G⟩, h.2, hG.fits⟩
theorem LeaseP.post {t : Bool} {B : Bd} {w w' : World} {ρ : Nat → Nat} {gb : Nat} {C : Cfg} {l : List Sh} (h : LeaseP t B w ρ gb C l w') (hf : Fits w ρ) : ∃ now', Wok t B C l now' ∧ GrpPost w ρ gb C now' l w' := by
  obtain ⟨now', a, ⟨sv, m, b, c⟩, d, e⟩ := h
  exact ⟨now', a, ρ, sv, m, b, c, d, Ext.refl hf, e⟩

/-- The stages that the program reckons are those of the document. -/
theorem Ow.stg {B n : Nat} {Cb : Int} {l : List Sh} {dn : List Int} {ls : List Le} {P : List Pl} (h : Ow B n Cb l dn ls P) (hI : Inv l) : (∀ k, k < l.length → (stgUp l (dnP dn) l.length)[k]? = some (Go.Proofs.Ytpnkmnmchdabkaa.stg l (dnP dn) k)) ∧ (∀ k, l.length ≤ k → k < 16 → (stgUp l (dnP dn) l.length)[k]? = some 0) :=
  stgUp_is hI (dnP dn) (fun k s hk => by have := (h.mr k (by have := (List.getElem?_eq_some_iff.1 hk).1; have := hI.len; omega)).2.1; rw [cn_is hk] at this; exact this) _ (Nat.le_refl _)
theorem Ow.two {B n : Nat} {Cb : Int} {l : List Sh} {dn : List Int} {ls : List Le} {P : List Pl} (h : Ow B n Cb l dn ls P) (hI : Inv l) (k : Nat) (hk : k < 16) (e : (stgUp l (dnP dn) l.length)[k]? = some 2) : fin l (dnP dn) k = true := by
  obtain ⟨h1, h2⟩ := h.stg hI
  by_cases hlt : k < l.length
  · rw [h1 k hlt] at e
    injection e with e
    exact (stg_two hI (List.getElem?_eq_getElem hlt)).1 e
  · rw [h2 k (by omega) hk] at e
    injection e with e
    omega
theorem Ow.one {B n : Nat} {Cb : Int} {l : List Sh} {dn : List Int} {ls : List Le} {P : List Pl} (h : Ow B n Cb l dn ls P) (hI : Inv l) (k : Nat) (hk : k < 16) (e : (stgUp l (dnP dn) l.length)[k]? = some 1) : k < l.length ∧ rdy l (dnP dn) k = true ∧ fin l (dnP dn) k = false := by
  obtain ⟨h1, h2⟩ := h.stg hI
  by_cases hlt : k < l.length
  · rw [h1 k hlt] at e
    injection e with e
    unfold Go.Proofs.Ytpnkmnmchdabkaa.stg at e
    by_cases hr : rdy l (dnP dn) k = true
    · rw [if_pos hr] at e
      by_cases hf : fin l (dnP dn) k = true
      · rw [if_pos hf] at e; omega
      · exact ⟨hlt, hr, by simpa using hf⟩
    · rw [if_neg hr] at e; omega
  · rw [h2 k (by omega) hk] at e
    injection e with e
    omega

theorem kRenew {t : Bool} {B : Bd} {w : World} {ρ : Nat → Nat} {gb : Nat} {C : Cfg} {now : Rest} {l : List Sh} (h : Grp w ρ gb C now l) (hf : Fits w ρ) (hI : Inv l) (hw : Wok t B C l now) (i : Nat) (hi : (i : Int) < C.a) :
    Calls Try.prog 26 #[.pointer (some ⟨gb, 0, none⟩), .int .i64 i] w fun e w' => (∃ a b : Int, e = .returned (.tuple #[.int .i64 a, .int .i64 b])) ∧ LeaseP true B.up w ρ gb C l w' := by
  have hgr := hw.1
  have hn := hw.2.1
  have hn4 := hw.2.2.1
  have hb := hw.2.2.2.1
  obtain ⟨sv, m, g, cap, P, rfl, h1, h2, _, hq⟩ := h.gsN hf hI hw
  have hlen : m.length = (m.map (·.s)).length := by simp
  exact (gRenew_any h1 hI i (by omega)).mono fun e w' q => ⟨⟨_, _, q.1⟩, by
    have o := (h2.rn i (by omega) _ (fun k hk e => h2.two hI k hk (by rw [← hlen]; exact e)) 16 (Nat.le_refl _)).up
    exact q.2.lease rfl hn hn4 hb hgr o.1 (fun _ => o.2) (fun hB => (hq (by have : B.n + 1 ≤ 1000000000000000 := hB; omega)).rn i _ hB 16 (Nat.le_refl _))⟩
/-- Take, and what it took. -/
def TookP (B : Bd) (w : World) (ρ : Nat → Nat) (gb : Nat) (C : Cfg) (now : Rest) (l : List Sh) (i : Nat) (e : Ending) (w' : World) : Prop := ∃ sv m g cap P P1 r, m.map (·.s) = l ∧ GS w ρ gb C now sv m g cap now.ls P ∧ Ow B.n now.n C.b l now.dn now.ls P ∧ P1 = notesP now.ls now.t i l.length P ∧ TakeIs (mayP (stgUp l (dnP now.dn) l.length) now.ls P1 now.t C.l i) r ∧ e = .returned (takeV r) ∧ GSP w ρ gb C now sv m g cap (takeLs i now.ls r) (takeP (dnP now.dn) i now.ls P1 r) w' ∧ Ow B.up.n now.n C.b l now.dn (takeLs i now.ls r) (takeP (dnP now.dn) i now.ls P1 r) ∧ Tight B.up.n now.n (takeLs i now.ls r) (takeP (dnP now.dn) i now.ls P1 r) ∧ NtC B.up.n now.n now.t (takeLs i now.ls r) (takeP (dnP now.dn) i now.ls P1 r)
theorem may_is {st : List Int} {ls : List Le} {P : List Pl} {t L : Int} {i n : Nat} (h : mayP st ls P t L i n = true) : ∃ p, P[i * 16 + n]? = some p ∧ p.held = false ∧ st[n]? = some 1 := by
  unfold mayP at h
  split at h
  · rename_i p hp
    simp only [Bool.and_eq_true, Bool.not_eq_true', decide_eq_true_eq] at h
    exact ⟨p, hp, h.1.2, h.1.1⟩
  · cases h
theorem kTookP {B : Bd} {w : World} {ρ : Nat → Nat} {gb : Nat} {C : Cfg} {now : Rest} {l : List Sh} (h : Grp w ρ gb C now l) (hf : Fits w ρ) (hI : Inv l) (hB : B.n ≤ 9223372036854775807) (hw : Wok true B C l now) (i : Nat) (hi : (i : Int) < C.a) :
    Calls Try.prog 27 #[.pointer (some ⟨gb, 0, none⟩), .int .i64 i] w (TookP B w ρ gb C now l i) := by
  have hgr := hw.1
  have hn := hw.2.1
  have hn4 := hw.2.2.1
  have hb := hw.2.2.2.1
  obtain ⟨sv, m, g, cap, P, rfl, h1, h2, h3, hq⟩ := h.gsN hf hI hw
  have h16 : m.length ≤ 16 := GrpL.le h1
  have hlen : (m.map (·.s)).length = m.length := by simp
  obtain ⟨n1, n2⟩ := h2.notes now.t i m.length h16
  have ht : Tight B.n now.n now.ls (notesP now.ls now.t i m.length P) := fun k x hx e => by
    have := h3 rfl k x hx e
    rw [← this]
    exact hc_same fun j hj => n2 j k (by have := (List.getElem?_eq_some_iff.1 hx).1; rw [h2.lsL] at this; exact this)
  refine (gTake_any h1 hI i (by omega)).mono fun e w' q => ?_
  obtain ⟨r, hr, rfl, q⟩ := q
  refine ⟨sv, m, g, cap, P, _, r, rfl, h1, h2, rfl, by rw [hlen]; exact hr, rfl, by rw [hlen]; exact q, ?_⟩
  rw [hlen]
  cases r with
  | none => exact ⟨n1.up.1, n1.up.2, fun hB => ((hq (by have : B.n + 1 ≤ 1000000000000000 := hB; omega)).notes i m.length h16).up⟩
  | some n =>
    obtain ⟨hn16, hmay, _⟩ := hr
    obtain ⟨p, hp, hh, hst⟩ := may_is hmay
    obtain ⟨o1, o2, _⟩ := h2.one hI n hn16 (by rw [hlen]; exact hst)
    obtain ⟨a, b, _⟩ := n1.give ht hn4 hB hb i n (by omega) o1 hn16 p hp hh o2
    exact ⟨a, b, fun hB => ((hq (by have : B.n + 1 ≤ 1000000000000000 := hB; omega)).notes i m.length h16).give _ i n hn16 hB⟩
theorem kTake {B : Bd} {w : World} {ρ : Nat → Nat} {gb : Nat} {C : Cfg} {now : Rest} {l : List Sh} (h : Grp w ρ gb C now l) (hf : Fits w ρ) (hI : Inv l) (hB : B.n ≤ 9223372036854775807) (hw : Wok true B C l now) (i : Nat) (hi : (i : Int) < C.a) :
    Calls Try.prog 27 #[.pointer (some ⟨gb, 0, none⟩), .int .i64 i] w fun e w' => (∃ a b : Int, e = .returned (.tuple #[.int .i64 a, .int .i64 b])) ∧ LeaseP true B.up w ρ gb C l w' := by
  have hgr := hw.1
  have hn := hw.2.1
  have hn4 := hw.2.2.1
  have hb := hw.2.2.2.1
  refine (kTookP h hf hI hB hw i hi).mono fun e w' q => ?_
  obtain ⟨sv, m, g, cap, P, P1, r, e1, _, _, _, _, rfl, q, o, t, hq⟩ := q
  exact ⟨by cases r <;> exact ⟨_, _, rfl⟩, q.lease e1 hn hn4 hb hgr o (fun _ => t) hq⟩
theorem kSteal {B : Bd} {w : World} {ρ : Nat → Nat} {gb : Nat} {C : Cfg} {now : Rest} {l : List Sh} (h : Grp w ρ gb C now l) (hf : Fits w ρ) (hI : Inv l) (hB : B.n ≤ 9223372036854775807) (hw : Wok true B C l now) (i : Nat) (hi : (i : Int) < C.a) (k : Nat) (hk : k < l.length) :
    Calls Try.prog 28 #[.pointer (some ⟨gb, 0, none⟩), .int .i64 i, .int .i64 k] w fun e w' => (∃ a : Int, e = .returned (.int .i64 a)) ∧ LeaseP true B.up w ρ gb C l w' := by
  have hgr := hw.1
  have hn := hw.2.1
  have hn4 := hw.2.2.1
  have hb := hw.2.2.2.1
  obtain ⟨sv, m, g, cap, P, rfl, h1, h2, h3, hq⟩ := h.gsN hf hI hw
  have h16 : m.length ≤ 16 := GrpL.le h1
  have hlen : (m.map (·.s)).length = m.length := by simp
  have hk' : k < m.length := by simpa using hk
  have hin : i < now.n := by omega
  obtain ⟨p, hp⟩ := h1.pl hin (show k < 16 by omega)
  have hsl := stgUp_len (m.map (·.s)) (dnP now.dn) m.length
  obtain ⟨v, hv⟩ : ∃ v, (stgUp (m.map (·.s)) (dnP now.dn) m.length)[k]? = some v := ⟨_, List.getElem?_eq_getElem (by omega)⟩
  refine (gSteal_any h1 hI i hin k hk' p hp v hv).mono fun e w' q => ⟨⟨_, q.1⟩, ?_⟩
  have q2 := q.2
  by_cases hc : p.held = false ∧ v = 1
  · unfold stealLs stealP at q2
    rw [if_pos hc, if_pos hc] at q2
    obtain ⟨o1, o2, _⟩ := h2.one hI k (by omega) (by rw [hlen, hv, hc.2])
    obtain ⟨a, b, _⟩ := h2.give (h3 rfl) hn4 hB hb i k hin o1 (by omega) p hp hc.1 o2
    exact q2.lease rfl hn hn4 hb hgr a (fun _ => b) (fun hB => (hq (by have : B.n + 1 ≤ 1000000000000000 := hB; omega)).give _ i k (by omega) hB)
  · unfold stealLs stealP at q2
    rw [if_neg hc, if_neg hc] at q2
    exact q2.lease rfl hn hn4 hb hgr h2.up.1 (fun _ => h2.up.2) hq.up
theorem kCrash {t : Bool} {B : Bd} {w : World} {ρ : Nat → Nat} {gb : Nat} {C : Cfg} {now : Rest} {l : List Sh} (h : Grp w ρ gb C now l) (hf : Fits w ρ) (hI : Inv l) (hw : Wok t B C l now) (i : Nat) (hi : (i : Int) < C.a) :
    Calls Try.prog 29 #[.pointer (some ⟨gb, 0, none⟩), .int .i64 i] w fun e w' => (∃ a : Int, e = .returned (.int .i64 a)) ∧ LeaseP true B.up w ρ gb C l w' := by
  have hgr := hw.1
  have hn := hw.2.1
  have hn4 := hw.2.2.1
  have hb := hw.2.2.2.1
  obtain ⟨sv, m, g, cap, P, rfl, h1, h2, _, hq⟩ := h.gsN hf hI hw
  exact (gCrash_any h1 i (by omega)).mono fun e w' q => ⟨⟨_, q.1⟩, LeaseP.next (t := false) (q.2.lease rfl hn hn4 hb hgr (h2.forget i 16 (Nat.le_refl _)) (fun e => by cases e) (fun hB => (hq hB).forget i 16 (Nat.le_refl _)))⟩
theorem kFetchL {t : Bool} {B : Bd} {w : World} {ρ : Nat → Nat} {gb : Nat} {C : Cfg} {now : Rest} {l : List Sh} (h : Grp w ρ gb C now l) (hf : Fits w ρ) (hI : Inv l) (hw : Wok t B C l now) (i : Nat) (hi : (i : Int) < C.a) (k : Nat) (hk : k < l.length) :
    Calls Try.prog 30 #[.pointer (some ⟨gb, 0, none⟩), .int .i64 i, .int .i64 k] w fun e w' => (∃ a b : Int, e = .returned (.tuple #[.int .i64 a, .int .i64 b])) ∧ LeaseP false B w ρ gb C l w' := by
  have hgr := hw.1
  have hn := hw.2.1
  have hn4 := hw.2.2.1
  have hb := hw.2.2.2.1
  obtain ⟨sv, m, g, cap, P, rfl, h1, h2, _, hq⟩ := h.gsN hf hI hw
  have h16 : m.length ≤ 16 := GrpL.le h1
  have hk' : k < m.length := by simpa using hk
  have hin : i < now.n := by omega
  obtain ⟨p, hp⟩ := h1.pl hin (show k < 16 by omega)
  obtain ⟨x, hx⟩ := h1.lease (show k < 16 by omega)
  cases hh : p.held
  · exact (gFetch_no h1 i hin k hk' p hp hh).mono fun e w' q => ⟨⟨_, _, q.1⟩, q.2.lease rfl hn hn4 hb hgr h2 (fun e => by cases e) hq⟩
  · have hsh := (h2.hd i k p x hin (by omega) hp hh hx).sh
    have hcn : cn (m.map (·.s)) k = (m[k]).s.cnt := cn_is (by rw [List.getElem?_map, List.getElem?_eq_getElem hk']; rfl)
    exact (gFetch_yes h1 i hin k hk' p hp hh hsh _ (List.getElem?_eq_getElem hk')).mono fun e w' q => ⟨⟨_, _, q.1⟩, q.2.lease rfl hn hn4 hb hgr (by have := h2.fetch hI hb i k hin (by omega) p hp hh; rw [hcn] at this; exact this) (fun e => by cases e) (fun hB => (hq hB).set i k (by omega) p _ hp (fun hm => ⟨hm, rfl, rfl⟩))⟩
theorem fold_n (now : Rest) (k : Nat) (ep at_ bf : Int) : (now.fold k ep at_ bf).n = now.n := by
  unfold Rest.fold
  split <;> rfl
theorem fold_t (now : Rest) (k : Nat) (ep at_ bf : Int) : (now.fold k ep at_ bf).t = now.t := by
  unfold Rest.fold
  split <;> rfl
theorem nt_heard {B n : Nat} {t : Int} {ls : List Le} {P : List Pl} (h : NtC B n t ls P) (i k : Nat) (hk : k < 16) (p : Pl) (hp : P[i * 16 + k]? = some p) (f lost : Bool) : NtC B n t ls (if lost = true then P else heardP f i k p P) := by
  intro hB
  split
  · exact h hB
  · unfold heardP
    split
    · exact (h hB).set i k hk p _ hp (fun hm => ⟨hm, rfl, rfl⟩)
    · exact (h hB).set i k hk p _ hp (fun hm => ⟨hm, rfl, rfl⟩)
theorem kCommitL {t : Bool} {B : Bd} {w : World} {ρ : Nat → Nat} {gb : Nat} {C : Cfg} {now : Rest} {l : List Sh} (h : Grp w ρ gb C now l) (hf : Fits w ρ) (hI : Inv l) (hw : Wok t B C l now) (i : Nat) (hi : (i : Int) < C.a) (k : Nat) (hk : k < l.length) (lost : Bool) :
    Calls Try.prog 31 #[.pointer (some ⟨gb, 0, none⟩), .int .i64 i, .int .i64 k, .bool lost] w fun e w' => (∃ a : Int, e = .returned (.int .i64 a)) ∧ LeaseP false B w ρ gb C l w' := by
  have hgr := hw.1
  have hn := hw.2.1
  have hn4 := hw.2.2.1
  have hb := hw.2.2.2.1
  obtain ⟨sv, m, g, cap, P, rfl, h1, h2, _, hq⟩ := h.gsN hf hI hw
  have h16 : m.length ≤ 16 := GrpL.le h1
  have hk' : k < m.length := by simpa using hk
  have hin : i < now.n := by omega
  obtain ⟨p, hp⟩ := h1.pl hin (show k < 16 by omega)
  obtain ⟨x, hx⟩ := h1.lease (show k < 16 by omega)
  cases hh : p.held
  · exact (gCommit_no h1 i hin k hk' p hp hh lost).mono fun e w' q => ⟨⟨_, q.1⟩, q.2.lease rfl hn hn4 hb hgr h2 (fun e => by cases e) hq⟩
  · have hsh := (h2.hd i k p x hin (by omega) hp hh hx).sh
    by_cases hbf : p.h.bf = 0
    · exact (gCommit_empty h1 i hin k hk' p hp hh hbf lost).mono fun e w' q => ⟨⟨_, q.1⟩, q.2.lease rfl hn hn4 hb hgr h2 (fun e => by cases e) hq⟩
    · exact (gCommit_any h1 i hin k hk' p hp hh hsh hbf lost).mono fun e w' q => ⟨⟨_, q.1⟩, q.2.lease rfl (by rw [fold_n]; exact hn) (by rw [fold_n]; exact hn4) hb (hgr.commit h2 hI i k hin (by omega) p hp hh hbf) (by rw [fold_n]; exact h2.commit hI hb i k hin (by omega) p hp hh hbf lost) (fun e => by cases e) (by rw [fold_n, fold_t]; exact nt_heard hq i k (by omega) p hp _ lost)⟩
theorem kFetch {t : Bool} {B : Bd} {w : World} {ρ : Nat → Nat} {gb : Nat} {C : Cfg} {now : Rest} {l : List Sh} (h : Grp w ρ gb C now l) (hf : Fits w ρ) (hI : Inv l) (hw : Wok t B C l now) (i : Nat) (hi : (i : Int) < C.a) (k : Nat) (hk : k < l.length) :
    Calls Try.prog 30 #[.pointer (some ⟨gb, 0, none⟩), .int .i64 i, .int .i64 k] w fun e w' => (∃ a b : Int, e = .returned (.tuple #[.int .i64 a, .int .i64 b])) ∧ LeaseP true B.up w ρ gb C l w' :=
  (kFetchL h hf hI hw i hi k hk).mono fun _ _ q => ⟨q.1, q.2.next⟩
theorem kCommit {t : Bool} {B : Bd} {w : World} {ρ : Nat → Nat} {gb : Nat} {C : Cfg} {now : Rest} {l : List Sh} (h : Grp w ρ gb C now l) (hf : Fits w ρ) (hI : Inv l) (hw : Wok t B C l now) (i : Nat) (hi : (i : Int) < C.a) (k : Nat) (hk : k < l.length) (lost : Bool) :
    Calls Try.prog 31 #[.pointer (some ⟨gb, 0, none⟩), .int .i64 i, .int .i64 k, .bool lost] w fun e w' => (∃ a : Int, e = .returned (.int .i64 a)) ∧ LeaseP true B.up w ρ gb C l w' :=
  (kCommitL h hf hI hw i hi k hk lost).mono fun _ _ q => ⟨q.1, q.2.next⟩
theorem kHolds {t : Bool} {B : Bd} {w : World} {ρ : Nat → Nat} {gb : Nat} {C : Cfg} {now : Rest} {l : List Sh} (h : Grp w ρ gb C now l) (hf : Fits w ρ) (hI : Inv l) (hw : Wok t B C l now) (i : Nat) (hi : (i : Int) < C.a) :
    Calls Try.prog 35 #[.pointer (some ⟨gb, 0, none⟩), .int .i64 i] w fun e w' => ∃ v hs, e = .returned (.tuple #[v, .int .i64 0]) ∧ hs.length ≤ 16 ∧ (∀ x ∈ hs, ∃ k : Nat, k < l.length ∧ x.sh = (k : Int)) ∧ w'.ownsRow w.heap.size 75 4 v hs.length (rowHd hs) ∧ Below w.heap.size w w' := by
  have hn := hw.2.1
  obtain ⟨sv, m, g, cap, P, rfl, h1, h2, _⟩ := h.gs hf hI hw
  refine (gHolds_any h1 i (by omega)).mono fun e w' q => ?_
  obtain ⟨v, a, b, c⟩ := q
  refine ⟨v, heldOf P i 16, a, heldOf_le _ _ _, fun x hx => ?_, b, c⟩
  obtain ⟨k, p, hk, hp, hh, rfl⟩ := heldOf_in hx
  obtain ⟨y, hy⟩ := h1.lease hk
  have := h2.hd i k p y (by omega) hk hp hh hy
  exact ⟨k, this.lt, this.sh⟩

end Go.Proofs.Ytpnkmnmchdabkaa
namespace Go.Proofs.Ytpnkmnmchdabkaa
open Go.RowKit

set_option maxHeartbeats 400000 in
theorem lawHash_any (s : ByteArray) (w : World) (hs : s.size ≤ maxLen) :
    Calls Try.prog 34 #[.string s] w fun e w' => e = .returned (.int .i64 (hashL s.data.toList)) ∧ w = w' := by
  unfold maxLen at hs
  go_enter Try.func34, Try.ntmps34
  go_wp2
  go_loop [3, 4] (fun n i => ∃ k : Nat, k ≤ s.size ∧ i = .int .i64 k ∧ n = .int .i64 (hashL (s.data.toList.take k))) (fun _ i => s.size - (intOf i).toNat)
  case atStart => exact ⟨0, Nat.zero_le _, rfl, rfl⟩
  case round =>
    obtain ⟨k, hk, rfl, rfl⟩ := hrel
    obtain ⟨hd1, hd2⟩ := hashL_bd (s.data.toList.take k)
    by_cases hlt : k < s.size
    · have HS := hide ((congrArg hashL (take_snoc s k hlt)).trans (hashL_snoc _ _))
      have hb : (s[k].toNat : Int) < 256 := by have := s[k].toNat_lt; omega
      go_wp2
      go_round
      case rel => exact ⟨k + 1, by omega, by go_num, by rw [unhide HS]⟩
      case measure => simp [intOf]; omega
    · go_wp2
      go_ret
      exact ⟨ret_int (by rw [List.take_of_length_le (by simp; omega)]), rfl⟩

set_option maxHeartbeats 400000 in
theorem isKey_any (s : ByteArray) (w : World) (hs : s.size ≤ maxLen) :
    Calls Try.prog 45 #[.string s] w fun e w' => e = .returned (.bool (keyB s)) ∧ w = w' := by
  unfold maxLen at hs
  go_enter Try.func45, Try.ntmps45
  go_wp2
  go_loop [3] (fun i => ∃ k : Nat, k ≤ s.size ∧ i = .int .i64 k ∧ (s.data.toList.take k).all letter = true) (fun i => s.size - (intOf i).toNat)
  case atStart => exact ⟨0, Nat.zero_le _, rfl, by simp⟩
  case round =>
    obtain ⟨k, hk, rfl, ha⟩ := hrel
    have HA := hide ha
    clear ha
    by_cases hlt : k < s.size
    · have HS := hide (all_take_succ s k hlt)
      have HF := hide (all_false s k hlt)
      by_cases h1 : s[k].toNat < 97
      · have hb : (s[k].toNat : Int) < 97 := by omega
        go_wp2
        go_ret
        exact ⟨ret_bool (by have := unhide HF (by simp [letter]; omega); simp [keyB, this]), rfl⟩
      · by_cases h2 : s[k].toNat ≤ 122
        · have hb : ¬ (s[k].toNat : Int) < 97 := by omega
          have hb2 : ¬ (122 < (s[k].toNat : Int)) := by omega
          go_wp2
          go_round
          case rel => exact ⟨k + 1, by omega, by go_num, by rw [unhide HS, unhide HA]; simp [letter]; omega⟩
          case measure => simp [intOf]; omega
        · have hb : ¬ (s[k].toNat : Int) < 97 := by omega
          have hb2 : (122 < (s[k].toNat : Int)) := by omega
          go_wp2
          go_ret
          exact ⟨ret_bool (by have := unhide HF (by simp [letter]; omega); simp [keyB, this]), rfl⟩
    · have HE : Hid (s.data.toList.all letter = true) := by
        have := unhide HA
        rw [List.take_of_length_le (by simp; omega)] at this
        exact this
      by_cases h1 : 1 ≤ s.size
      · by_cases h2 : s.size ≤ 8
        all_goals
          go_wp2
          go_ret
          exact ⟨ret_bool (by simp only [keyB, unhide HE]; rw [Bool.eq_iff_iff]; simp; omega), rfl⟩
      · go_wp2
        go_ret
        exact ⟨ret_bool (by simp only [keyB, unhide HE]; simp; omega), rfl⟩

end Go.Proofs.Ytpnkmnmchdabkaa
