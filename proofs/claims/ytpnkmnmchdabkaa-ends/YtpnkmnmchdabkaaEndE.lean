import Derived.Test.YtpnkmnmchdabkaaM26
namespace Go.Proofs.Ytpnkmnmchdabkaa
open Go.RowKit
attribute [local go_sem ↓] Go.wp_at_zero Go.wp_at_succ

/-- The crew, the places of its workers named; all is in order. -/
structure Cq (B : Bd) (N : Nat) (w : World) (ρ : Nat → Nat) (cb gb : Nat) (C : Cfg) (now : Rest) (l : List Sh) (E : List En) (P : List Pl) : Prop where
  cr : Crew false B N w ρ cb gb C now l E l.length
  hw : ∃ g cap, now.wv = .slice (some ⟨g, 0, none⟩) now.n cap
  hm : now.mem = plsCells P
  hl : P.length = now.n * 16
  ow : Ow B.n now.n C.b l now.dn now.ls P
  nt : Nt B.n now.n now.t now.ls P
def fs (now : Rest) (P : List Pl) : Fs := fsOf now.t now.dn now.ls P
theorem cq_of {t : Bool} {B : Bd} {N : Nat} {w : World} {ρ : Nat → Nat} {cb gb : Nat} {C : Cfg} {now : Rest} {l : List Sh} {E : List En} (h : Crew t B N w ρ cb gb C now l E l.length) (hB : B.n ≤ 1000000000000000) : ∃ P, Cq B N w ρ cb gb C now l E P := by
  obtain ⟨_, _, _, _, g, cap, P, a, b, c, o, _, q⟩ := h.wok
  exact ⟨P, h.loose, ⟨g, cap, a⟩, b, c, o, q hB⟩
theorem Cq.gd {B : Bd} {N : Nat} {w : World} {ρ : Nat → Nat} {cb gb : Nat} {C : Cfg} {now : Rest} {l : List Sh} {E : List En} {P : List Pl} (h : Cq B N w ρ cb gb C now l E P) : Gd now.n l (fs now P) := gd_of h.ow h.nt
theorem Cq.below {B : Bd} {N : Nat} {w w' : World} {ρ : Nat → Nat} {cb gb : Nat} {C : Cfg} {now : Rest} {l : List Sh} {E : List En} {P : List Pl} (h : Cq B N w ρ cb gb C now l E P) (hb : Below w.heap.size w w') : Cq B N w' ρ cb gb C now l E P := ⟨h.cr.below hb, h.hw, h.hm, h.hl, h.ow, h.nt⟩
theorem Cq.gs {B : Bd} {N : Nat} {w : World} {ρ : Nat → Nat} {cb gb : Nat} {C : Cfg} {now : Rest} {l : List Sh} {E : List En} {P : List Pl} (h : Cq B N w ρ cb gb C now l E P) : ∃ sv m g cap, m.map (·.s) = l ∧ GS w ρ gb C now sv m g cap now.ls P := by
  obtain ⟨g, cap, a⟩ := h.hw
  obtain ⟨sv, m, e, G⟩ := h.cr.grp
  exact ⟨sv, m, g, cap, e, GrpL.gs ⟨G, a, h.hm, h.hl, by have := h.cr.inv.len; rw [← e] at this; simpa using this, h.cr.fits⟩⟩
theorem Cq.up {B : Bd} {N : Nat} {w : World} {ρ : Nat → Nat} {cb gb : Nat} {C : Cfg} {now : Rest} {l : List Sh} {E : List En} {P : List Pl} (h : Cq B N w ρ cb gb C now l E P) : Cq B.up N w ρ cb gb C now l E P := ⟨h.cr.next.loose, h.hw, h.hm, h.hl, h.ow.up.1, h.nt.up⟩
/-- A call that leaves the log. -/
theorem Cq.step {B B' : Bd} {N : Nat} {w w' : World} {ρ : Nat → Nat} {cb gb : Nat} {C : Cfg} {now now2 : Rest} {l : List Sh} {E : List En} {P P' : List Pl} {sv : Value} {m : List Cs} {g cap : Nat} {ls' : List Le} (h : Cq B N w ρ cb gb C now l E P) (hN : N ≤ w.heap.size) (e : m.map (·.s) = l) (q : GSP w ρ gb C now2 sv m g cap ls' P' w') (hn2 : now2.n = now.n) (hX : B'.X = B.X) (hgr : Gro B'.dn B'.l now2.dn l) (o' : Ow B'.n now2.n C.b l now2.dn ls' P') (q' : Nt B'.n now2.n now2.t ls' P') :
    Cq B' N w' ρ cb gb C (now2.up ls' P') l E P' ∧ Below N w w' ∧ Keeps (mine ρ) w w' := by
  have hn := h.cr.wok.2.1
  have hn4 := h.cr.wok.2.2.1
  have hb := h.cr.wok.2.2.2.1
  have hG : GrpL w' ρ gb C (now2.up ls' P') sv m g cap P' := q.1
  have hk := q.2
  obtain ⟨ev, h1, h2, h3⟩ := h.cr.ent
  have hw : Wok false B' C l (now2.up ls' P') := ⟨hgr, by show (now2.n : Int) = C.a; rw [hn2]; exact hn, by show now2.n ≤ 4; rw [hn2]; exact hn4, hb, g, cap, P', hG.hw, hG.hm, hG.hl, o', fun e => (by cases e), fun _ => q'⟩
  refine ⟨⟨⟨⟨ev, ?_, ?_, h3⟩, h.cr.tag, ⟨sv, m, e, hG.G⟩, h.cr.inv, hG.fits, by rw [hX]; exact h.cr.low.still hk (fun k _ hm => by unfold mine at hm; omega), h.cr.cnt, h.cr.tot, h.cr.rng, h.cr.val, hw⟩, ⟨g, cap, hG.hw⟩, hG.hm, hG.hl, o', q'⟩, hk.below hN (fun k _ hm => h.cr.low.1 k (by unfold mine at hm; omega)), hk⟩
  · rw [hk.block cb (lt_of_heap h1) (fun hm => by unfold mine at hm; rw [h.cr.tag] at hm; omega)]; exact h1
  · exact ownsRow_keeps h2 hk (fun k hkk hm => by unfold mine at hm; rw [h3 k hkk] at hm; omega)

theorem cRenew {B : Bd} {N : Nat} {w : World} {ρ : Nat → Nat} {cb gb : Nat} {C : Cfg} {now : Rest} {l : List Sh} {E : List En} {P : List Pl} (h : Cq B N w ρ cb gb C now l E P) (hN : N ≤ w.heap.size) (hB : B.n + 1 ≤ 1000000000000000) (i : Nat) (hi : i < now.n) :
    Calls Try.prog 26 #[.pointer (some ⟨gb, 0, none⟩), .int .i64 i] w fun e w' => (∃ a b : Int, e = .returned (.tuple #[.int .i64 a, .int .i64 b])) ∧ ∃ now' P', Cq B.up N w' ρ cb gb C now' l E P' ∧ Below N w w' ∧ now'.n = now.n ∧ Rn i (fun k => fin l (fs now P).d k) (fs now P) (fs now' P') := by
  have hI := h.cr.inv
  obtain ⟨sv, m, g, cap, e, hg⟩ := h.gs
  subst e
  have hlen : m.length = (m.map (·.s)).length := by simp
  have hR := rn_of hI h.ow h.nt (by omega) i hi
  have hO := (h.ow.rn i hi _ (fun k hk e => h.ow.two hI k hk e) 16 (Nat.le_refl _)).up.1
  have hT := h.nt.rn i (stgUp (m.map (·.s)) (dnP now.dn) (m.map (·.s)).length) hB 16 (Nat.le_refl _)
  refine (gRenew_any hg hI i hi).mono fun e w' q => ⟨⟨_, _, q.1⟩, ?_⟩
  have q2 := q.2
  rw [hlen] at q2
  generalize rnUp i (stgUp (m.map (·.s)) (dnP now.dn) (m.map (·.s)).length) 16 (now.ls, P) = z at *
  obtain ⟨a, b, _⟩ := h.step (B' := B.up) hN rfl q2 rfl rfl h.cr.wok.1 hO hT
  exact ⟨now.up z.1 z.2, z.2, a, b, rfl, hR⟩

theorem cTake {B : Bd} {N : Nat} {w : World} {ρ : Nat → Nat} {cb gb : Nat} {C : Cfg} {now : Rest} {l : List Sh} {E : List En} {P : List Pl} (h : Cq B N w ρ cb gb C now l E P) (hN : N ≤ w.heap.size) (hB : B.n + 2 ≤ 1000000000000000) (i : Nat) (hi : i < now.n) :
    Calls Try.prog 27 #[.pointer (some ⟨gb, 0, none⟩), .int .i64 i] w fun e w' => (∃ a b : Int, e = .returned (.tuple #[.int .i64 a, .int .i64 b])) ∧ ∃ now' P' r, Cq B.up.up N w' ρ cb gb C now' l E P' ∧ Below N w w' ∧ now'.n = now.n ∧ Tk i l.length (fs now P) (fs now' P') r ∧ TkI i C.l l (fs now P) r := by
  have hI := h.cr.inv
  have h4 := h.cr.wok.2.2.1
  have hb := h.cr.wok.2.2.2.1
  have h16 := hI.len
  obtain ⟨sv, m, g, cap, e, hg⟩ := h.gs
  subst e
  have hlen : (m.map (·.s)).length = m.length := by simp
  obtain ⟨o1, t1⟩ := h.ow.up
  obtain ⟨n1, n2⟩ := o1.notes now.t i m.length (by omega)
  have ht : Tight (B.n + 1) now.n now.ls (notesP now.ls now.t i m.length P) := fun k x hx e => by
    have := t1 k x hx e
    rw [← this]
    exact hc_same fun j hj => n2 j k (by have := (List.getElem?_eq_some_iff.1 hx).1; rw [h.ow.lsL] at this; exact this)
  refine (gTake_any hg hI i hi).mono fun e w' q => ?_
  obtain ⟨r, hr, rfl, q⟩ := q
  obtain ⟨T1, T2⟩ := tk_of (L := C.l) (r := r) hI h.ow h.nt (by omega) i hi (by rw [hlen]; exact hr)
  rw [hlen] at T1
  have hO : Ow B.up.up.n now.n C.b (m.map (·.s)) now.dn (takeLs i now.ls r) (takeP (dnP now.dn) i now.ls (notesP now.ls now.t i m.length P) r) ∧ Nt B.up.up.n now.n now.t (takeLs i now.ls r) (takeP (dnP now.dn) i now.ls (notesP now.ls now.t i m.length P) r) := by
    have hnt := h.nt.up.notes i m.length (show m.length ≤ 16 by omega)
    cases r with
    | none => exact ⟨n1.up.1, hnt.up⟩
    | some n =>
      obtain ⟨hn16, hmay, _⟩ := hr
      obtain ⟨p, hp, hh, hst⟩ := may_is hmay
      obtain ⟨o1, o2, _⟩ := h.ow.one hI n hn16 (by rw [hlen]; exact hst)
      obtain ⟨a, _⟩ := n1.give ht h4 (by omega) hb i n hi o1 hn16 p hp hh o2
      exact ⟨a, hnt.give _ i n hn16 hB⟩
  obtain ⟨a, b, _⟩ := h.step (B' := B.up.up) hN rfl q rfl rfl h.cr.wok.1 hO.1 hO.2
  refine ⟨by cases r <;> exact ⟨_, _, rfl⟩, _, _, r, a, b, rfl, ?_, T2⟩
  rw [hlen]
  exact T1

theorem cFetch {B : Bd} {N : Nat} {w : World} {ρ : Nat → Nat} {cb gb : Nat} {C : Cfg} {now : Rest} {l : List Sh} {E : List En} {P : List Pl} (h : Cq B N w ρ cb gb C now l E P) (hN : N ≤ w.heap.size) (i k : Nat) (hi : i < now.n) (hk : k < l.length) (p : Pl) (hp : P[i * 16 + k]? = some p) (hh : p.held = true) :
    Calls Try.prog 30 #[.pointer (some ⟨gb, 0, none⟩), .int .i64 i, .int .i64 k] w fun e w' => e = .returned (.tuple #[.int .i64 (bufV (cn l k) p.h.at_ C.b), .int .i64 0]) ∧ Cq B N w' ρ cb gb C (now.up now.ls (P.set (i * 16 + k) { p with held := true, h := ⟨k, p.h.ep, p.h.at_, bufV (cn l k) p.h.at_ C.b⟩ })) l E (P.set (i * 16 + k) { p with held := true, h := ⟨k, p.h.ep, p.h.at_, bufV (cn l k) p.h.at_ C.b⟩ }) ∧ Below N w w' ∧ Keeps (mine ρ) w w' := by
  have hI := h.cr.inv
  have hb := h.cr.wok.2.2.2.1
  have h16 := hI.len
  obtain ⟨sv, m, g, cap, e, hg⟩ := h.gs
  subst e
  have hk' : k < m.length := by simpa using hk
  have hsh := (h.ow.hd i k p _ hi (by omega) hp hh (leD_at h.ow.lsL (by omega))).sh
  have hcn : cn (m.map (·.s)) k = (m[k]).s.cnt := cn_is (by rw [List.getElem?_map, List.getElem?_eq_getElem hk']; rfl)
  refine (gFetch_yes hg i hi k hk' p hp hh hsh _ (List.getElem?_eq_getElem hk')).mono fun e w' q => ?_
  rw [hcn]
  have o := h.ow.fetch hI hb i k hi (by omega) p hp hh
  rw [hcn] at o
  exact ⟨q.1, h.step (B' := B) hN rfl q.2 rfl rfl h.cr.wok.1 o (h.nt.set i k (by omega) p _ hp (fun hm => ⟨hm, rfl, rfl⟩))⟩
theorem cCommit {B : Bd} {N : Nat} {w : World} {ρ : Nat → Nat} {cb gb : Nat} {C : Cfg} {now : Rest} {l : List Sh} {E : List En} {P : List Pl} (h : Cq B N w ρ cb gb C now l E P) (hN : N ≤ w.heap.size) (hB : B.n ≤ 1000000000000000) (i k : Nat) (hi : i < now.n) (hk : k < l.length) (p : Pl) (hp : P[i * 16 + k]? = some p) (hh : p.held = true) (hbf : ¬ p.h.bf = 0) :
    Calls Try.prog 31 #[.pointer (some ⟨gb, 0, none⟩), .int .i64 i, .int .i64 k, .bool false] w fun e w' => (∃ a : Int, e = .returned (.int .i64 a)) ∧ Cq B N w' ρ cb gb C ((now.fold k p.h.ep p.h.at_ p.h.bf).up now.ls (heardP (folds now.dn k p.h.ep p.h.at_) i k p P)) l E (heardP (folds now.dn k p.h.ep p.h.at_) i k p P) ∧ Below N w w' ∧ Keeps (mine ρ) w w' := by
  have hI := h.cr.inv
  have hb := h.cr.wok.2.2.2.1
  have h16 := hI.len
  obtain ⟨sv, m, g, cap, e, hg⟩ := h.gs
  subst e
  have hk' : k < m.length := by simpa using hk
  have hsh := (h.ow.hd i k p _ hi (by omega) hp hh (leD_at h.ow.lsL (by omega))).sh
  refine (gCommit_any hg i hi k hk' p hp hh hsh hbf false).mono fun e w' q => ⟨⟨_, q.1⟩, ?_⟩
  have q2 := q.2
  have o := h.ow.commit hI hb i k hi (by omega) p hp hh hbf false
  have nn := nt_heard (fun _ => h.nt) i k (by omega) p hp (folds now.dn k p.h.ep p.h.at_) false hB
  simp only [Bool.false_eq_true, if_false] at q2 o nn
  exact h.step (B' := B) hN rfl q2 (fold_n _ _ _ _ _) rfl (h.cr.wok.1.commit h.ow hI i k hi (by omega) p hp hh hbf) (by rw [fold_n]; exact o) (by rw [fold_n, fold_t]; exact nn)

/-- While works goes through the holds: those of pr are done. -/
structure WJ (i : Nat) (l : List Sh) (pr : Nat → Prop) (s0 s : Fs) : Prop where
  t : s.t = s0.t
  g : s.g = s0.g
  f : ∀ a k, k < 16 → a ≠ i → s.f a k = s0.f a k
  fn : ∀ k, k < 16 → (s.f i k).made = (s0.f i k).made ∧ (s.f i k).c = (s0.f i k).c ∧ (s.f i k).s = (s0.f i k).s
  un : ∀ k, k < 16 → ¬ pr k → s.f i k = s0.f i k ∧ s.d k = s0.d k
  yes : ∀ k, k < 16 → pr k → (s0.f i k).h.at_ = s0.d k → (s.f i k).held = true ∧ (s.f i k).h.ep = (s0.f i k).h.ep ∧ (s.f i k).h.at_ = s.d k ∧ s0.d k ≤ s.d k ∧ s.d k ≤ cn l k ∧ (s0.d k < cn l k → s0.d k < s.d k)
  out : ∀ k, k < 16 → pr k → (s0.f i k).h.at_ ≠ s0.d k → (s.f i k).held = false ∧ s.d k = s0.d k
theorem WJ.zero (i : Nat) (l : List Sh) (s : Fs) : WJ i l (fun _ => False) s s := ⟨rfl, rfl, fun _ _ _ _ => rfl, fun _ _ => ⟨rfl, rfl, rfl⟩, fun _ _ _ => ⟨rfl, rfl⟩, fun _ _ h => h.elim, fun _ _ h => h.elim⟩
theorem WJ.wk {i : Nat} {l : List Sh} {pr : Nat → Prop} {s0 s : Fs} (h : WJ i l pr s0 s) (b : Int) (h1 : ∀ k, k < 16 → (s0.f i k).held = true → pr k) (h2 : ∀ k, k < 16 → pr k → (s0.f i k).held = true) : Wk i l b s0 s := by
  refine ⟨h.t, h.g, h.f, h.fn, fun k hk hh => ?_, fun k hk hh ha => h.yes k hk (h1 k hk hh) ha, fun k hk hh ha => h.out k hk (h1 k hk hh) ha⟩
  have hno : ¬ pr k := fun hp => by rw [h2 k hk hp] at hh; cases hh
  obtain ⟨a, b⟩ := h.un k hk hno
  exact ⟨by rw [a]; exact hh, b⟩
theorem WJ.next {i : Nat} {l : List Sh} {pr : Nat → Prop} {s0 s s' : Fs} (h : WJ i l pr s0 s) (k : Nat) (hk : k < 16) (hpr : ¬ pr k) (ht : s'.t = s.t) (hg : s'.g = s.g) (hf : ∀ a m, m < 16 → ¬ (a = i ∧ m = k) → s'.f a m = s.f a m) (hd : ∀ m, m < 16 → m ≠ k → s'.d m = s.d m)
    (hn : (s'.f i k).made = (s0.f i k).made ∧ (s'.f i k).c = (s0.f i k).c ∧ (s'.f i k).s = (s0.f i k).s)
    (hy : (s0.f i k).h.at_ = s0.d k → (s'.f i k).held = true ∧ (s'.f i k).h.ep = (s0.f i k).h.ep ∧ (s'.f i k).h.at_ = s'.d k ∧ s0.d k ≤ s'.d k ∧ s'.d k ≤ cn l k ∧ (s0.d k < cn l k → s0.d k < s'.d k))
    (ho : (s0.f i k).h.at_ ≠ s0.d k → (s'.f i k).held = false ∧ s'.d k = s0.d k) : WJ i l (fun m => pr m ∨ m = k) s0 s' := by
  refine ⟨ht.trans h.t, hg.trans h.g, fun a m hm ha => (hf a m hm (fun e => ha e.1)).trans (h.f a m hm ha), fun m hm => ?_, fun m hm hno => ?_, fun m hm hp ha => ?_, fun m hm hp ha => ?_⟩
  · by_cases e : m = k
    · subst e; exact hn
    · rw [hf i m hm (fun e2 => e e2.2)]; exact h.fn m hm
  · have e : m ≠ k := fun e => hno (Or.inr e)
    obtain ⟨a, b⟩ := h.un m hm (fun e2 => hno (Or.inl e2))
    exact ⟨(hf i m hm (fun e2 => e e2.2)).trans a, (hd m hm e).trans b⟩
  · by_cases e : m = k
    · subst e; exact hy ha
    · have hp' : pr m := hp.resolve_right e
      rw [hf i m hm (fun e2 => e e2.2), hd m hm e]
      exact h.yes m hm hp' ha
  · by_cases e : m = k
    · subst e; exact ho ha
    · have hp' : pr m := hp.resolve_right e
      rw [hf i m hm (fun e2 => e e2.2), hd m hm e]
      exact h.out m hm hp' ha
theorem bufV_is {cnt : Nat} {at_ b : Int} (h : 0 ≤ at_ ∧ at_ ≤ cnt) (hc : cnt ≤ 32) : bufV cnt at_ b = if b < cnt - at_ then b else cnt - at_ := by
  unfold bufV
  rw [dif_small (by omega) (by omega)]
/-- A hold that had nothing to fold. -/
theorem WJ.idle {i n k : Nat} {l : List Sh} {pr : Nat → Prop} {s0 : Fs} {t Cb : Int} {dn : List Int} {ls : List Le} {P : List Pl} {p : Pl} (h : WJ i l pr s0 (fsOf t dn ls P)) (hP : P.length = n * 16) (hi : i < n) (hk : k < 16) (hpr : ¬ pr k) (hp : P[i * 16 + k]? = some p) (ha : 0 ≤ p.h.at_ ∧ p.h.at_ ≤ dnP dn k) (hd : dnP dn k ≤ cn l k) (hc : cn l k ≤ 32) (hC : 1 ≤ Cb) (hb : ¬ 0 < bufV (cn l k) p.h.at_ Cb) :
    WJ i l (fun m => pr m ∨ m = k) s0 (fsOf t dn ls (P.set (i * 16 + k) { p with held := true, h := ⟨k, p.h.ep, p.h.at_, bufV (cn l k) p.h.at_ Cb⟩ })) := by
  obtain ⟨u1, u2⟩ := h.un k hk hpr
  have e0 : s0.f i k = p := by rw [← u1]; exact plD_is hp
  have e1 : s0.d k = dnP dn k := u2.symm
  have hz : p.h.at_ = cn l k := by
    rw [bufV_is (by omega) hc] at hb
    split at hb <;> omega
  have es : ∀ a m, m < 16 → (fsOf t dn ls (P.set (i * 16 + k) { p with held := true, h := ⟨k, p.h.ep, p.h.at_, bufV (cn l k) p.h.at_ Cb⟩ })).f a m = if a = i ∧ m = k then { p with held := true, h := ⟨k, p.h.ep, p.h.at_, bufV (cn l k) p.h.at_ Cb⟩ } else plD P a m := fun a m hm => plD_set hP hi hk hm
  refine h.next k hk hpr rfl rfl (fun a m hm hne => by rw [es a m hm, if_neg hne]; rfl) (fun _ _ _ => rfl) ?_ (fun hx => ?_) (fun hx => ?_)
  · rw [es i k hk, if_pos ⟨rfl, rfl⟩, e0]; exact ⟨rfl, rfl, rfl⟩
  · rw [es i k hk, if_pos ⟨rfl, rfl⟩, e0, e1]
    show true = true ∧ p.h.ep = p.h.ep ∧ p.h.at_ = dnP dn k ∧ dnP dn k ≤ dnP dn k ∧ dnP dn k ≤ cn l k ∧ (dnP dn k < cn l k → dnP dn k < dnP dn k)
    refine ⟨rfl, rfl, by omega, Int.le_refl _, hd, fun h9 => by omega⟩
  · rw [e0, e1] at hx
    omega
/-- A hold that had. -/
theorem WJ.busy {i n k : Nat} {l : List Sh} {pr : Nat → Prop} {s0 : Fs} {now : Rest} {Cb : Int} {P : List Pl} {p p1 : Pl} (h : WJ i l pr s0 (fsOf now.t now.dn now.ls P)) (hP : P.length = n * 16) (hdl : now.dn.length = 32) (hi : i < n) (hk : k < 16) (hpr : ¬ pr k) (hp : P[i * 16 + k]? = some p) (ha : 0 ≤ p.h.at_ ∧ p.h.at_ ≤ dnP now.dn k) (hd : dnP now.dn k ≤ cn l k) (hc : cn l k ≤ 32) (hC : 1 ≤ Cb ∧ Cb ≤ 8) (hb : 0 < bufV (cn l k) p.h.at_ Cb) (hep : epP now.dn k ≤ p.h.ep)
    (hp1 : p1 = { p with held := true, h := ⟨k, p.h.ep, p.h.at_, bufV (cn l k) p.h.at_ Cb⟩ }) :
    WJ i l (fun m => pr m ∨ m = k) s0 (fsOf (now.fold k p1.h.ep p1.h.at_ p1.h.bf).t (now.fold k p1.h.ep p1.h.at_ p1.h.bf).dn now.ls (heardP (folds now.dn k p1.h.ep p1.h.at_) i k p1 (P.set (i * 16 + k) p1))) := by
  obtain ⟨u1, u2⟩ := h.un k hk hpr
  have e0 : s0.f i k = p := by rw [← u1]; exact plD_is hp
  have e1 : s0.d k = dnP now.dn k := u2.symm
  have hbv := bufV_is (b := Cb) (show 0 ≤ p.h.at_ ∧ p.h.at_ ≤ (cn l k : Int) by omega) hc
  have h1 : p1.h.ep = p.h.ep ∧ p1.h.at_ = p.h.at_ ∧ p1.h.bf = bufV (cn l k) p.h.at_ Cb ∧ p1.made = p.made ∧ p1.c = p.c ∧ p1.s = p.s := by subst hp1; exact ⟨rfl, rfl, rfl, rfl, rfl, rfl⟩
  obtain ⟨q1, q2, q3, q4, q5, q6⟩ := h1
  have hbb : bufV (cn l k) p.h.at_ Cb ≤ 8 ∧ bufV (cn l k) p.h.at_ Cb ≤ cn l k - p.h.at_ := by rw [hbv]; split <;> omega
  by_cases hat : p.h.at_ = dnP now.dn k
  · have hf : folds now.dn k p1.h.ep p1.h.at_ = true := by unfold folds; rw [q1, q2]; simp [hep, hat]
    have ef : now.fold k p1.h.ep p1.h.at_ p1.h.bf = { now with dn := dnSet now.dn k (dnP now.dn k + bufV (cn l k) p.h.at_ Cb) p.h.ep } := by
      unfold Rest.fold
      rw [if_pos hf, q3, q1, plus_small (by omega) (by omega)]
    have eh : heardP (folds now.dn k p1.h.ep p1.h.at_) i k p1 (P.set (i * 16 + k) p1) = P.set (i * 16 + k) { p1 with held := true, h := ⟨k, p.h.ep, dnP now.dn k + bufV (cn l k) p.h.at_ Cb, 0⟩ } := by
      unfold heardP
      rw [if_pos hf, List.set_set, q1, q2, q3, plus_small (by omega) (by omega), hat]
    rw [ef, eh]
    have es : ∀ a m, m < 16 → plD (P.set (i * 16 + k) { p1 with held := true, h := ⟨k, p.h.ep, dnP now.dn k + bufV (cn l k) p.h.at_ Cb, 0⟩ }) a m = if a = i ∧ m = k then { p1 with held := true, h := ⟨k, p.h.ep, dnP now.dn k + bufV (cn l k) p.h.at_ Cb, 0⟩ } else plD P a m := fun a m hm => plD_set hP hi hk hm
    have ed : ∀ m, dnP (dnSet now.dn k (dnP now.dn k + bufV (cn l k) p.h.at_ Cb) p.h.ep) m = if m = k then dnP now.dn k + bufV (cn l k) p.h.at_ Cb else dnP now.dn m := fun m => dnP_set hdl hk _ _
    refine h.next k hk hpr rfl rfl (fun a m hm hne => ?_) (fun m hm hne => ?_) ?_ (fun hx => ?_) (fun hx => ?_)
    · show plD _ a m = plD P a m
      rw [es a m hm, if_neg hne]
    · show dnP _ m = dnP now.dn m
      rw [ed m, if_neg hne]
    · show (plD _ i k).made = _ ∧ (plD _ i k).c = _ ∧ (plD _ i k).s = _
      rw [es i k hk, if_pos ⟨rfl, rfl⟩, e0]; exact ⟨q4, q5, q6⟩
    · show (plD _ i k).held = true ∧ (plD _ i k).h.ep = _ ∧ (plD _ i k).h.at_ = dnP _ k ∧ s0.d k ≤ dnP _ k ∧ dnP _ k ≤ cn l k ∧ (s0.d k < cn l k → s0.d k < dnP _ k)
      rw [es i k hk, if_pos ⟨rfl, rfl⟩, e0, e1, ed k, if_pos rfl]
      exact ⟨rfl, rfl, rfl, by omega, by omega, fun _ => by omega⟩
    · rw [e0, e1] at hx
      exact absurd hat hx
  · have hf : folds now.dn k p1.h.ep p1.h.at_ = false := by unfold folds; rw [q1, q2]; simp [hat]
    have ef : now.fold k p1.h.ep p1.h.at_ p1.h.bf = now := by unfold Rest.fold; rw [hf]; simp
    have eh : heardP (folds now.dn k p1.h.ep p1.h.at_) i k p1 (P.set (i * 16 + k) p1) = P.set (i * 16 + k) (dropped p1) := by
      unfold heardP
      rw [hf, if_neg (by simp), List.set_set]
    rw [ef, eh]
    have es : ∀ a m, m < 16 → plD (P.set (i * 16 + k) (dropped p1)) a m = if a = i ∧ m = k then dropped p1 else plD P a m := fun a m hm => plD_set hP hi hk hm
    refine h.next k hk hpr rfl rfl (fun a m hm hne => ?_) (fun m hm hne => rfl) ?_ (fun hx => ?_) (fun hx => ?_)
    · show plD _ a m = plD P a m
      rw [es a m hm, if_neg hne]
    · show (plD _ i k).made = _ ∧ (plD _ i k).c = _ ∧ (plD _ i k).s = _
      rw [es i k hk, if_pos ⟨rfl, rfl⟩, e0]; exact ⟨q4, q5, q6⟩
    · rw [e0, e1] at hx
      exact absurd hx hat
    · show (plD _ i k).held = false ∧ dnP now.dn k = s0.d k
      rw [es i k hk, if_pos ⟨rfl, rfl⟩, e1]
      exact ⟨rfl, rfl⟩

end Go.Proofs.Ytpnkmnmchdabkaa
