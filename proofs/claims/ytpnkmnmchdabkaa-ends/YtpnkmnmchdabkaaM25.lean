import Derived.Test.YtpnkmnmchdabkaaM24
namespace Go.Proofs.Ytpnkmnmchdabkaa

/-- How many records of the first n shards are not folded. -/
def unf (l : List Sh) (d : Nat → Int) : Nat → Nat
  | 0 => 0
  | n + 1 => unf l d n + ((cn l n : Int) - d n).toNat
/-- How many of the first n are so. -/
def num (p : Nat → Bool) : Nat → Nat
  | 0 => 0
  | n + 1 => num p n + (if p n = true then 1 else 0)
theorem num_le (p : Nat → Bool) : ∀ n, num p n ≤ n
  | 0 => Nat.le_refl _
  | n + 1 => by
    have := num_le p n
    unfold num
    split <;> omega
theorem num_mono {p q : Nat → Bool} : ∀ n, (∀ k, k < n → p k = true → q k = true) → num p n ≤ num q n
  | 0, _ => Nat.le_refl _
  | n + 1, h => by
    have ih := num_mono n (fun k hk => h k (by omega))
    have h1 := h n (by omega)
    unfold num
    by_cases hp : p n = true
    · rw [if_pos hp, if_pos (h1 hp)]; omega
    · rw [if_neg hp]; omega
theorem num_lt {p q : Nat → Bool} {m : Nat} (hm1 : p m = false) (hm2 : q m = true) : ∀ n, m < n → (∀ k, k < n → p k = true → q k = true) → num p n < num q n
  | 0, h, _ => by omega
  | n + 1, h, hh => by
    have h1 := hh n (by omega)
    unfold num
    by_cases e : m = n
    · subst e
      have ih := num_mono m (fun k hk => hh k (by omega))
      rw [hm1, hm2]
      simp
      omega
    · have ih := num_lt hm1 hm2 n (by omega) (fun k hk => hh k (by omega))
      by_cases hp : p n = true
      · rw [if_pos hp, if_pos (h1 hp)]; omega
      · rw [if_neg hp]; omega
theorem unf_mono {l : List Sh} {d d' : Nat → Int} : ∀ n, (∀ k, k < n → d k ≤ d' k) → unf l d' n ≤ unf l d n
  | 0, _ => Nat.le_refl _
  | n + 1, h => by
    have ih := unf_mono (l := l) n (fun k hk => h k (by omega))
    have := h n (by omega)
    unfold unf
    omega
theorem unf_lt {l : List Sh} {d d' : Nat → Int} {m : Nat} (hm : d m < d' m) (hc : d' m ≤ cn l m) : ∀ n, m < n → (∀ k, k < n → d k ≤ d' k) → unf l d' n < unf l d n
  | 0, h, _ => by omega
  | n + 1, h, hh => by
    have h1 := hh n (by omega)
    unfold unf
    by_cases e : m = n
    · subst e
      have ih := unf_mono (l := l) m (fun k hk => hh k (by omega))
      omega
    · have ih := unf_lt hm hc n (by omega) (fun k hk => hh k (by omega))
      omega
theorem unf_zero {l : List Sh} {d : Nat → Int} : ∀ n, unf l d n = 0 → ∀ k, k < n → (cn l k : Int) ≤ d k
  | 0, _, k, hk => by omega
  | n + 1, h, k, hk => by
    unfold unf at h
    by_cases e : k = n
    · subst e; omega
    · exact unf_zero n (by omega) k (by omega)
theorem unf_all {l : List Sh} {d : Nat → Int} : ∀ n, (∀ k, k < n → (cn l k : Int) ≤ d k) → unf l d n = 0
  | 0, _ => rfl
  | n + 1, h => by
    unfold unf
    have := unf_all n (fun k hk => h k (by omega))
    have := h n (by omega)
    omega
/-- The first shard of which something is not folded. -/
theorem unf_least {l : List Sh} {d : Nat → Int} : ∀ n, 0 < unf l d n → ∃ k, k < n ∧ d k < cn l k ∧ ∀ q, q < k → (cn l q : Int) ≤ d q
  | 0, h => by unfold unf at h; omega
  | n + 1, h => by
    by_cases hz : 0 < unf l d n
    · obtain ⟨k, a, b, c⟩ := unf_least n hz
      exact ⟨k, by omega, b, c⟩
    · unfold unf at h
      exact ⟨n, by omega, by omega, unf_zero n (by omega)⟩

def mtB (s : Fs) (a k : Nat) : Bool := (s.f a k).held && (decide ((s.g k).o = a) && decide ((s.g k).e = (s.f a k).h.ep))
theorem mtB_is (s : Fs) (a k : Nat) : mtB s a k = true ↔ mt s a k := by unfold mtB mt; simp
def chB (A : Nat → Bool) (s : Fs) (k : Nat) : Nat → Bool
  | 0 => false
  | n + 1 => chB A s k n || (A n && mtB s n k)
theorem chB_is (A : Nat → Bool) (s : Fs) (k : Nat) : ∀ n, chB A s k n = true ↔ ch (fun a => A a = true) n s k
  | 0 => by
    unfold chB ch
    constructor
    · intro h; cases h
    · rintro ⟨a, h, _⟩; omega
  | n + 1 => by
    unfold chB
    rw [Bool.or_eq_true, chB_is A s k n, Bool.and_eq_true, mtB_is]
    constructor
    · rintro (⟨a, h1, h2, h3⟩ | ⟨h1, h2⟩)
      · exact ⟨a, by omega, h2, h3⟩
      · exact ⟨n, by omega, h1, h2⟩
    · rintro ⟨a, h1, h2, h3⟩
      by_cases e : a = n
      · subst e; exact Or.inr ⟨h2, h3⟩
      · exact Or.inl ⟨a, by omega, h2, h3⟩
/-- Nobody of the crew has it, and it is not finished. -/
def opn (A : Nat → Bool) (n : Nat) (l : List Sh) (s : Fs) (k : Nat) : Bool := !(chB A s k n) && !(fin l s.d k)
theorem opn_is {A : Nat → Bool} {n : Nat} {l : List Sh} {s : Fs} {k : Nat} : opn A n l s k = true ↔ (¬ ch (fun a => A a = true) n s k ∧ fin l s.d k = false) := by
  unfold opn
  rw [Bool.and_eq_true, Bool.not_eq_true', Bool.not_eq_true', ← chB_is A s k n]
  simp
def pot (A : Nat → Bool) (n : Nat) (l : List Sh) (s : Fs) : Nat := unf l s.d l.length + num (opn A n l s) l.length

theorem fin_up {l : List Sh} (hI : Inv l) {d d' : Nat → Int} (h : ∀ k, k < l.length → d k ≤ d' k ∧ d' k ≤ cn l k) {k : Nat} (hf : fin l d k = true) : fin l d' k = true := by
  refine fin_adv hI hI (Adv.refl l) (fun q s hs e => ?_) k hf
  have hq := (List.getElem?_eq_some_iff.1 hs).1
  have := h q hq
  rw [cn_is hs] at this
  omega
theorem rdy_first {l : List Sh} (hI : Inv l) {d : Nat → Int} : ∀ (k : Nat), k < l.length → (∀ q, q < k → d q = cn l q) → rdy l d k = true := by
  intro k
  induction k using Nat.strongRecOn with
  | ind k ih =>
    intro hk h
    have hs : l[k]? = some l[k] := List.getElem?_eq_getElem hk
    rw [rdy_is d hs, List.all_eq_true]
    intro p hp
    obtain ⟨q, t, rfl, hq, ht, _⟩ := hI.parR k _ hs p hp
    rw [show ((q : Int)).toNat = q by omega, fin_is hI d ht, ih q hq (by omega) (fun r hr => h r (by omega))]
    have h1 := hI.parC k _ hs _ hp q t rfl ht
    have h2 := h q hq
    rw [cn_is ht] at h2
    simp [h1, h2]

/-- Take's choice. -/
def TkI (i : Nat) (L : Int) (l : List Sh) (s : Fs) (r : Option Nat) : Prop := match r with
  | none => ∀ k, k < l.length → rdy l s.d k = true → fin l s.d k = false → (s.f i k).held = false → (s.g k).o ≠ -1 ∧ ¬ (L ≤ s.t - (if (s.f i k).made = true ∧ (s.f i k).c = (s.g k).c then (s.f i k).s else s.t))
  | some k => k < l.length ∧ fin l s.d k = false ∧ (s.f i k).held = false ∧ ((s.g k).o = -1 ∨ L ≤ s.t - (if (s.f i k).made = true ∧ (s.f i k).c = (s.g k).c then (s.f i k).s else s.t))
/-- One worker's turn in a round. -/
structure Turn (i n : Nat) (b L : Int) (l : List Sh) (s s1 s2 s3 : Fs) (r : Option Nat) : Prop where
  rn : Rn i (fun k => fin l s.d k) s s1
  tk : Tk i l.length s1 s2 r
  ti : TkI i L l s1 r
  wk : Wk i l b s2 s3
  g0 : Gd n l s
  g1 : Gd n l s1
  g2 : Gd n l s2
  g3 : Gd n l s3
theorem Turn.held {i n : Nat} {b L : Int} {l : List Sh} {s s1 s2 s3 : Fs} {r : Option Nat} (h : Turn i n b L l s s1 s2 s3 r) {k : Nat} (hk : k < 16) (hh : (s2.f i k).held = true) : mt s2 i k := by
  by_cases hr : r = some k
  · exact (h.tk.near hk hr).2 rfl
  · rw [(h.tk.fh k hk hr).1] at hh
    exact (h.tk.far hk hr).2 (h.rn.held hk hh)
theorem Turn.at {i n : Nat} {b L : Int} {l : List Sh} {s s1 s2 s3 : Fs} {r : Option Nat} (h : Turn i n b L l s s1 s2 s3 r) {M : Nat → Prop} (ho : AtOk M n s) : AtOk (fun a => M a ∨ a = i) n s3 :=
  h.wk.at (fun _ hk hh => h.held hk hh) (h.tk.at (h.rn.at ho))
theorem Turn.nw {i n : Nat} {b L : Int} {l : List Sh} {s s1 s2 s3 : Fs} {r : Option Nat} (h : Turn i n b L l s s1 s2 s3 r) {M : Nat → Prop} {a0 : Nat} (h0 : a0 < n) (hi : i ≠ a0) (ho : Nw M n a0 s) : Nw (fun a => M a ∨ a = i) n a0 s3 :=
  h.wk.nw (h.tk.nw h.g1 h0 hi (h.rn.nw h.g0 h0 ho))
theorem Turn.le {i n : Nat} {b L : Int} {l : List Sh} {s s1 s2 s3 : Fs} {r : Option Nat} (h : Turn i n b L l s s1 s2 s3 r) {k : Nat} (hk : k < 16) : s.d k ≤ s3.d k := by
  have := h.wk.le hk
  rw [h.tk.d, h.rn.d] at this
  exact this
theorem Turn.unf {i n : Nat} {b L : Int} {l : List Sh} {s s1 s2 s3 : Fs} {r : Option Nat} (h : Turn i n b L l s s1 s2 s3 r) (h16 : l.length ≤ 16) : Go.Proofs.Ytpnkmnmchdabkaa.unf l s3.d l.length ≤ Go.Proofs.Ytpnkmnmchdabkaa.unf l s.d l.length := unf_mono _ (fun k hk => h.le (by omega))
theorem Turn.fin {i n : Nat} {b L : Int} {l : List Sh} {s s1 s2 s3 : Fs} {r : Option Nat} (h : Turn i n b L l s s1 s2 s3 r) (hI : Inv l) {k : Nat} (hf : Go.Proofs.Ytpnkmnmchdabkaa.fin l s2.d k = true) : Go.Proofs.Ytpnkmnmchdabkaa.fin l s3.d k = true := by
  have h16 := hI.len
  exact fin_up hI (fun k hk => ⟨h.wk.le (by omega), (h.g3.dd k (by omega)).2⟩) hf
theorem Turn.t {i n : Nat} {b L : Int} {l : List Sh} {s s1 s2 s3 : Fs} {r : Option Nat} (h : Turn i n b L l s s1 s2 s3 r) : s3.t = s.t := by rw [h.wk.t, h.tk.t, h.rn.t]
theorem Turn.bk3 {i n : Nat} {b L : Int} {l : List Sh} {s s1 s2 s3 : Fs} {r : Option Nat} (h : Turn i n b L l s s1 s2 s3 r) (hI : Inv l) {A : Nat → Bool} (hi : i < n) {a0 : Nat} {τ : Int} (ho : AtOk (fun a => a = i) n s) (hb : Bk (fun a => A a = true) n a0 τ l s2) : Bk (fun a => A a = true) n a0 τ l s3 := by
  have h16 := hI.len
  intro k hk
  have hk16 : k < 16 := by omega
  rcases hb k hk with hc | hc | hc
  · exact Or.inl (h.wk.ch hi (h.tk.at (h.rn.at ho)) hk16 hc)
  · exact Or.inr (Or.inl (h.fin hI hc))
  · refine Or.inr (Or.inr ?_)
    rw [h.wk.g]
    by_cases e : a0 = i
    · subst e
      obtain ⟨b1, b2, b3⟩ := h.wk.fn k hk16
      rw [b1, b2, b3]; exact hc
    · rw [h.wk.f a0 k hk16 e]; exact hc
theorem Turn.bk {i n : Nat} {b L : Int} {l : List Sh} {s s1 s2 s3 : Fs} {r : Option Nat} (h : Turn i n b L l s s1 s2 s3 r) (hI : Inv l) {A : Nat → Bool} (hi : i < n) (hA : A i = true) {a0 : Nat} {τ : Int} (ho : AtOk (fun a => a = i) n s) (hb : Bk (fun a => A a = true) n a0 τ l s) : Bk (fun a => A a = true) n a0 τ l s3 :=
  h.bk3 hI hi ho (h.tk.bk hi hA hI.len rfl (h.rn.bk hi hA hI.len (fun _ e => e) hb))
theorem Turn.bk0 {i n : Nat} {b L : Int} {l : List Sh} {s s1 s2 s3 : Fs} {r : Option Nat} (h : Turn i n b L l s s1 s2 s3 r) (hI : Inv l) {A : Nat → Bool} (hi : i < n) (hA : A i = true) (ho : AtOk (fun a => a = i) n s) : Bk (fun a => A a = true) n i s.t l s3 := by
  refine h.bk3 hI hi ho ?_
  have := h.tk.first (A := fun a => A a = true) h.g1 hi hA hI.len rfl
  rw [h.rn.t] at this
  exact this
/-- The three parts of a turn, and what is left to do. -/
theorem Turn.pot1 {i n : Nat} {b L : Int} {l : List Sh} {s s1 s2 s3 : Fs} {r : Option Nat} (h : Turn i n b L l s s1 s2 s3 r) (hI : Inv l) (A : Nat → Bool) : pot A n l s1 ≤ pot A n l s := by
  have h16 := hI.len
  unfold pot
  rw [h.rn.d]
  have := num_mono (p := opn A n l s1) (q := opn A n l s) l.length (fun k hk hp => by
    rw [opn_is] at hp ⊢
    rw [h.rn.d] at hp
    refine ⟨fun hc => ?_, hp.2⟩
    rcases h.rn.ch (show k < 16 by omega) hc with h1 | h1
    · exact hp.1 h1
    · rw [hp.2] at h1; cases h1)
  omega
theorem Turn.pot2 {i n : Nat} {b L : Int} {l : List Sh} {s s1 s2 s3 : Fs} {r : Option Nat} (h : Turn i n b L l s s1 s2 s3 r) (hI : Inv l) {A : Nat → Bool} (hi : i < n) (hA : A i = true) : pot A n l s2 ≤ pot A n l s1 ∧ (∀ k, r = some k → ¬ ch (fun a => A a = true) n s1 k → pot A n l s2 < pot A n l s1) := by
  have h16 := hI.len
  have hm : ∀ k, k < l.length → opn A n l s2 k = true → opn A n l s1 k = true := fun k hk hp => by
    rw [opn_is] at hp ⊢
    rw [h.tk.d] at hp
    exact ⟨fun hc => hp.1 (h.tk.ch hi hA (show k < 16 by omega) hc), hp.2⟩
  unfold pot
  rw [h.tk.d]
  refine ⟨by have := num_mono l.length hm; omega, fun k hr hc => ?_⟩
  have ht := h.ti
  rw [hr] at ht
  obtain ⟨k1, k2, _⟩ := ht
  have := num_lt (p := opn A n l s2) (q := opn A n l s1) (m := k) (by
    have h9 : ¬ opn A n l s2 k = true := fun hp => by
      rw [opn_is] at hp
      exact hp.1 ⟨i, hi, hA, (h.tk.near (show k < 16 by omega) hr).2 rfl⟩
    simpa using h9) (by rw [opn_is]; exact ⟨hc, k2⟩) l.length k1 hm
  omega
theorem Turn.pot3 {i n : Nat} {b L : Int} {l : List Sh} {s s1 s2 s3 : Fs} {r : Option Nat} (h : Turn i n b L l s s1 s2 s3 r) (hI : Inv l) {A : Nat → Bool} (hi : i < n) (ho : AtOk (fun a => a = i) n s) : pot A n l s3 ≤ pot A n l s2 ∧ (∀ k, k < l.length → mt s2 i k → s2.d k < cn l k → pot A n l s3 < pot A n l s2) := by
  have h16 := hI.len
  have ho2 := h.tk.at (h.rn.at ho)
  have hm : ∀ k, k < l.length → opn A n l s3 k = true → opn A n l s2 k = true := fun k hk hp => by
    rw [opn_is] at hp ⊢
    refine ⟨fun hc => hp.1 (h.wk.ch hi ho2 (show k < 16 by omega) hc), ?_⟩
    cases hf : Go.Proofs.Ytpnkmnmchdabkaa.fin l s2.d k
    · rfl
    · rw [h.fin hI hf] at hp; cases hp.2
  have h1 := num_mono l.length hm
  have h2 := unf_mono (l := l) (d := s2.d) (d' := s3.d) l.length (fun k hk => h.wk.le (by omega))
  unfold pot
  refine ⟨by omega, fun k hk hmt hd => ?_⟩
  have h3 := h.wk.yes k (by omega) hmt.1 (ho2 i k hi rfl (by omega) hmt)
  have := unf_lt (l := l) (d := s2.d) (d' := s3.d) (m := k) (h3.2.2.2.2.2 hd) h3.2.2.2.2.1 l.length hk (fun k hk => h.wk.le (by omega))
  omega
theorem Turn.pot {i n : Nat} {b L : Int} {l : List Sh} {s s1 s2 s3 : Fs} {r : Option Nat} (h : Turn i n b L l s s1 s2 s3 r) (hI : Inv l) {A : Nat → Bool} (hi : i < n) (hA : A i = true) (ho : AtOk (fun a => a = i) n s) : Go.Proofs.Ytpnkmnmchdabkaa.pot A n l s3 ≤ Go.Proofs.Ytpnkmnmchdabkaa.pot A n l s := by
  have a := h.pot1 hI A
  have b := (h.pot2 hI hi hA).1
  have c := (h.pot3 hI (A := A) hi ho).1
  omega
/-- A worker that is to come has something to fold. -/
def Due (A : Nat → Bool) (n w : Nat) (l : List Sh) (s : Fs) : Prop := ∃ b k, w ≤ b ∧ b < n ∧ A b = true ∧ k < l.length ∧ mt s b k ∧ s.d k < cn l k
/-- The first worker's turn: it folds something, or takes a shard that was not the crew's; or another will fold something. -/
theorem Turn.lead {i n : Nat} {b L : Int} {l : List Sh} {s s1 s2 s3 : Fs} {r : Option Nat} (h : Turn i n b L l s s1 s2 s3 r) (hI : Inv l) {A : Nat → Bool} (hi : i < n) (hA : A i = true) (hfirst : ∀ a, A a = true → i ≤ a) (ho : AtOk (fun a => a = i) n s) (hN : Nw (fun a => A a = true) n i s) {τ : Int} (hB : Bk (fun a => A a = true) n i τ l s) (hL : 1 ≤ L) (hτ : τ + L ≤ s.t) (hu : 0 < Go.Proofs.Ytpnkmnmchdabkaa.unf l s.d l.length) :
    Go.Proofs.Ytpnkmnmchdabkaa.pot A n l s3 < Go.Proofs.Ytpnkmnmchdabkaa.pot A n l s ∨ Due A n (i + 1) l s3 := by
  have h16 := hI.len
  have a1 := h.pot1 hI A
  obtain ⟨b1, b2⟩ := h.pot2 hI hi hA
  obtain ⟨c1, c2⟩ := h.pot3 hI (A := A) hi ho
  have hN1 := h.rn.nw h.g0 hi hN
  have ht := h.ti
  cases hr : r with
  | some k =>
    rw [hr] at ht
    obtain ⟨k1, k2, k3, k4⟩ := ht
    refine Or.inl ?_
    have := b2 k hr (fun hc => by
      obtain ⟨a, ha, hAa, hm⟩ := hc
      by_cases e : a = i
      · subst e
        rw [hm.1] at k3; cases k3
      · rcases k4 with k4 | k4
        · have := hm.2.1; omega
        · have hno : ¬ ((s1.f i k).made = true ∧ (s1.f i k).c = (s1.g k).c) := fun hx => by
            have := hN1 a k ha (Or.inl hAa) e (by omega) hm hx.1
            omega
          rw [if_neg hno] at k4
          omega)
    omega
  | none =>
    rw [hr] at ht
    obtain ⟨k, hk, hd, hq⟩ := unf_least l.length hu
    have hk16 : k < 16 := by omega
    have hrd : rdy l s.d k = true := rdy_first hI k hk (fun q hq' => by
      have := hq q hq'
      have := (h.g0.dd q (by omega)).2
      omega)
    have hfn : Go.Proofs.Ytpnkmnmchdabkaa.fin l s.d k = false := by
      have hs : l[k]? = some l[k] := List.getElem?_eq_getElem hk
      rw [fin_is hI s.d hs]
      rw [cn_is hs] at hd
      have : ¬ s.d k = (l[k].cnt : Int) := by omega
      simp [this]
    by_cases hh : (s1.f i k).held = true
    · have hm := h.rn.held hk16 hh
      have hm2 := (h.tk.far hk16 (by rw [hr]; simp)).2 hm
      refine Or.inl ?_
      have := c2 k hk hm2 (by rw [h.tk.d, h.rn.d]; exact hd)
      omega
    · have hh : (s1.f i k).held = false := by simpa using hh
      obtain ⟨e1, e2⟩ := ht k hk (by rw [h.rn.d]; exact hrd) (by rw [h.rn.d]; exact hfn) hh
      have hB1 := h.rn.bk hi hA h16 (fun _ e => e) hB
      rcases hB1 k hk with hc | hc | hc
      · obtain ⟨a, ha, hAa, hm⟩ := hc
        have hne : a ≠ i := fun e => by subst e; rw [hm.1] at hh; cases hh
        have h9 := hfirst a hAa
        refine Or.inr ⟨a, k, by omega, ha, hAa, hk, ?_, ?_⟩
        · exact (h.wk.other hk16 hne).2 ((h.tk.far hk16 (by rw [hr]; simp)).2 hm)
        · have hh2 : (s2.f i k).held = false := by rw [(h.tk.fh k hk16 (by rw [hr]; simp)).1]; exact hh
          rw [(h.wk.no k hk16 hh2).2, h.tk.d, h.rn.d]
          exact hd
      · rw [h.rn.d, hfn] at hc; cases hc
      · exfalso
        rw [if_pos ⟨hc.1, hc.2.1⟩, h.rn.t] at e2
        omega
/-- Another worker's turn. -/
theorem Turn.due {i n : Nat} {b L : Int} {l : List Sh} {s s1 s2 s3 : Fs} {r : Option Nat} (h : Turn i n b L l s s1 s2 s3 r) (hI : Inv l) {A : Nat → Bool} (hi : i < n) (hA : A i = true) (ho : AtOk (fun a => a = i) n s) (hD : Due A n i l s) :
    Go.Proofs.Ytpnkmnmchdabkaa.pot A n l s3 < Go.Proofs.Ytpnkmnmchdabkaa.pot A n l s ∨ Due A n (i + 1) l s3 := by
  have h16 := hI.len
  have a1 := h.pot1 hI A
  obtain ⟨b1, b2⟩ := h.pot2 hI hi hA
  obtain ⟨c1, c2⟩ := h.pot3 hI (A := A) hi ho
  obtain ⟨q, k, hq, hqn, hAq, hk, hm, hd⟩ := hD
  have hk16 : k < 16 := by omega
  have hfn : Go.Proofs.Ytpnkmnmchdabkaa.fin l s.d k = false := by
    have hs : l[k]? = some l[k] := List.getElem?_eq_getElem hk
    rw [fin_is hI s.d hs]
    rw [cn_is hs] at hd
    have : ¬ s.d k = (l[k].cnt : Int) := by omega
    simp [this]
  have hd2 : s2.d k < cn l k := by rw [h.tk.d, h.rn.d]; exact hd
  by_cases hr : r = some k
  · refine Or.inl ?_
    have := c2 k hk ((h.tk.near hk16 hr).2 rfl) hd2
    omega
  · by_cases e : q = i
    · subst e
      have hm1 := (h.rn.mine hk16).2 ⟨hm, hfn⟩
      refine Or.inl ?_
      have := c2 k hk ((h.tk.far hk16 hr).2 hm1) hd2
      omega
    · have hm2 := (h.tk.far hk16 hr).2 ((h.rn.other hk16 e).2 hm)
      refine Or.inr ⟨q, k, by omega, hqn, hAq, hk, (h.wk.other hk16 e).2 hm2, ?_⟩
      have hh : (s2.f i k).held = false := by
        cases hh : (s2.f i k).held
        · rfl
        · have h1 := (h.held hk16 hh).2.1
          have h2 := hm2.2.1
          omega
      rw [(h.wk.no k hk16 hh).2]
      exact hd2

end Go.Proofs.Ytpnkmnmchdabkaa
namespace Go.Proofs.Ytpnkmnmchdabkaa

/-- In a round, ahead of worker w's turn. R2: it is not the first round; R3: nor the second. X, u: what was left to do when it began, how many records. -/
structure Rin (A : Nat → Bool) (n a0 : Nat) (l : List Sh) (L τ : Int) (R2 R3 : Prop) (X u : Nat) (w : Nat) (s : Fs) : Prop where
  a2 : R2 → AtOk (fun a => A a = true) n s
  a1 : AtOk (fun a => A a = true ∧ a < w) n s
  n1 : a0 < w → Nw (fun a => A a = true ∧ a < w) n a0 s
  n2 : R2 → w ≤ a0 → Nw (fun a => A a = true) n a0 s
  b3 : R3 → Bk (fun a => A a = true) n a0 τ l s
  b2 : R2 → a0 < w → Bk (fun a => A a = true) n a0 τ l s
  tt : R2 → ¬ R3 → τ = s.t
  px : R2 → pot A n l s ≤ X
  uu : unf l s.d l.length ≤ u
  pr : R3 → τ + L ≤ s.t → 0 < u → a0 < w → pot A n l s < X ∨ Due A n w l s
  wu : w ≤ a0 → unf l s.d l.length = u
  wx : w ≤ a0 → pot A n l s = X

theorem AtOk.sub {M M' : Nat → Prop} {n : Nat} {s : Fs} (h : AtOk M n s) (hM : ∀ a, M' a → M a) : AtOk M' n s := fun a k ha hMa hk hm => h a k ha (hM a hMa) hk hm
theorem Nw.sub {M M' : Nat → Prop} {n a0 : Nat} {s : Fs} (h : Nw M n a0 s) (hM : ∀ a, M' a → M a) : Nw M' n a0 s := fun a k ha hMa h0 hk hm hx => h a k ha (hM a hMa) h0 hk hm hx

theorem Rin.skip {A : Nat → Bool} {n a0 : Nat} {l : List Sh} {L τ : Int} {R2 R3 : Prop} {X u w : Nat} {s : Fs} (h : Rin A n a0 l L τ R2 R3 X u w s) (h0 : A a0 = true) (hw : A w = false) : Rin A n a0 l L τ R2 R3 X u (w + 1) s := by
  have hne : a0 ≠ w := fun e => by subst e; rw [h0] at hw; cases hw
  have hsub : ∀ a, (A a = true ∧ a < w + 1) → (A a = true ∧ a < w) := fun a ha => ⟨ha.1, by
    have : a ≠ w := fun e => by subst e; rw [ha.1] at hw; cases hw
    omega⟩
  refine ⟨h.a2, h.a1.sub hsub, fun hl => (h.n1 (by omega)).sub hsub, fun r hl => h.n2 r (by omega), h.b3, fun r hl => h.b2 r (by omega), h.tt, h.px, h.uu, fun r3 ht hu hl => ?_, fun hl => h.wu (by omega), fun hl => h.wx (by omega)⟩
  rcases h.pr r3 ht hu (by omega) with h1 | ⟨b, k, h1, h2, h3, h4⟩
  · exact Or.inl h1
  · refine Or.inr ⟨b, k, ?_, h2, h3, h4⟩
    have : b ≠ w := fun e => by subst e; rw [h3] at hw; cases hw
    omega

theorem Rin.turn {A : Nat → Bool} {n a0 : Nat} {l : List Sh} {L τ : Int} {R2 R3 : Prop} {X u w : Nat} {s s1 s2 s3 : Fs} {b : Int} {r : Option Nat} (hI : Inv l) (h : Rin A n a0 l L τ R2 R3 X u w s) (h0 : A a0 = true) (h0n : a0 < n) (hfirst : ∀ a, A a = true → a0 ≤ a) (hL : 1 ≤ L) (h32 : R3 → R2) (hw : A w = true) (hwn : w < n) (hT : Turn w n b L l s s1 s2 s3 r) : Rin A n a0 l L τ R2 R3 X u (w + 1) s3 := by
  have hle := hfirst w hw
  have hme : R2 → AtOk (fun a => a = w) n s := fun r => (h.a2 r).sub (fun a e => by subst e; exact hw)
  have hunf := hT.unf hI.len
  have hpt : R2 → pot A n l s3 ≤ pot A n l s := fun r => hT.pot hI hwn hw (hme r)
  by_cases e : w = a0
  · subst e
    refine ⟨fun r => (hT.at (h.a2 r)).sub (fun a ha => Or.inl ha), (hT.at h.a1).sub (fun a ha => ?_), fun _ => ?_, fun _ hl => by omega, fun r3 => hT.bk hI hwn hw (hme (h32 r3)) (h.b3 r3), fun r2 _ => ?_, fun r2 r3 => by rw [hT.t]; exact h.tt r2 r3, fun r2 => Nat.le_trans (hpt r2) (h.px r2), Nat.le_trans hunf h.uu, fun r3 ht hu _ => ?_, fun hl => by omega, fun hl => by omega⟩
    · by_cases e : a = w
      · exact Or.inr e
      · exact Or.inl ⟨ha.1, by omega⟩
    · intro a k ha hM ha0
      exfalso
      have := hfirst a hM.1
      have := hM.2
      omega
    · by_cases r3 : R3
      · exact hT.bk hI hwn hw (hme r2) (h.b3 r3)
      · have := hT.bk0 hI hwn hw (hme r2)
        rw [h.tt r2 r3]
        exact this
    · have r2 := h32 r3
      rw [hT.t] at ht
      have hx := h.wx (Nat.le_refl _)
      rcases hT.lead hI hwn hw hfirst (hme r2) (h.n2 r2 (Nat.le_refl _)) (h.b3 r3) hL ht (by rw [h.wu (Nat.le_refl _)]; exact hu) with h1 | h1
      · exact Or.inl (by rw [← hx]; exact h1)
      · exact Or.inr h1
  · have hlt : a0 < w := by omega
    refine ⟨fun r => (hT.at (h.a2 r)).sub (fun a ha => Or.inl ha), (hT.at h.a1).sub (fun a ha => ?_), fun _ => (hT.nw h0n e (h.n1 hlt)).sub (fun a ha => ?_), fun _ hl => by omega, fun r3 => hT.bk hI hwn hw (hme (h32 r3)) (h.b3 r3), fun r2 _ => hT.bk hI hwn hw (hme r2) (h.b2 r2 hlt), fun r2 r3 => by rw [hT.t]; exact h.tt r2 r3, fun r2 => Nat.le_trans (hpt r2) (h.px r2), Nat.le_trans hunf h.uu, fun r3 ht hu _ => ?_, fun hl => by omega, fun hl => by omega⟩
    · by_cases e : a = w
      · exact Or.inr e
      · exact Or.inl ⟨ha.1, by omega⟩
    · by_cases e : a = w
      · exact Or.inr e
      · exact Or.inl ⟨ha.1, by omega⟩
    · have r2 := h32 r3
      rw [hT.t] at ht
      have h2 := hpt r2
      have h3 := h.px r2
      rcases h.pr r3 ht hu hlt with h1 | h1
      · exact Or.inl (by omega)
      · rcases hT.due hI hwn hw (hme r2) h1 with h1 | h1
        · exact Or.inl (by omega)
        · exact Or.inr h1

/-- Between two rounds: r of them have been. u0: how many records were not folded at first. -/
structure Rnd (A : Nat → Bool) (n a0 : Nat) (l : List Sh) (L : Int) (u0 r : Nat) (s : Fs) : Prop where
  uu : unf l s.d l.length ≤ u0
  a1 : 1 ≤ r → AtOk (fun a => A a = true) n s
  n1 : 1 ≤ r → Nw (fun a => A a = true) n a0 s
  b2 : 2 ≤ r → ∃ τ, Bk (fun a => A a = true) n a0 τ l s ∧ s.t + 2 = τ + r
  pp : 0 < unf l s.d l.length → L + 2 ≤ r → (pot A n l s : Int) + (r - (L + 1)) ≤ l.length + u0
theorem Rnd.zero {A : Nat → Bool} {n a0 : Nat} {l : List Sh} {L : Int} (s : Fs) (hL : 1 ≤ L) : Rnd A n a0 l L (unf l s.d l.length) 0 s :=
  ⟨Nat.le_refl _, fun h => by omega, fun h => by omega, fun h => by omega, fun _ h => by omega⟩
theorem pot_le {A : Nat → Bool} {n : Nat} {l : List Sh} {s : Fs} : pot A n l s ≤ unf l s.d l.length + l.length := by
  unfold pot
  have := num_le (opn A n l s) l.length
  omega
/-- A round begins. -/
theorem Rnd.begin {A : Nat → Bool} {n a0 : Nat} {l : List Sh} {L : Int} {u0 r : Nat} {s s' : Fs} (h : Rnd A n a0 l L u0 r s) (ht : s'.t = s.t + 1) (hd : s'.d = s.d) (hg : s'.g = s.g) (hf : s'.f = s.f) :
    ∃ τ, Rin A n a0 l L τ (1 ≤ r) (2 ≤ r) (pot A n l s) (unf l s.d l.length) 0 s' ∧ (1 ≤ r → s'.t + 1 = τ + r) := by
  have e1 : ∀ M : Nat → Prop, AtOk M n s → AtOk M n s' := fun M ho a k ha hM hk hm => by
    unfold mt at hm
    rw [hg, hf] at hm
    rw [hf, hd]
    exact ho a k ha hM hk hm
  have e2 : Nw (fun a => A a = true) n a0 s → Nw (fun a => A a = true) n a0 s' := fun ho a k ha hM h0 hk hm hx => by
    unfold mt at hm
    rw [hg, hf] at hm
    rw [hf] at hx ⊢
    rw [hg]
    exact ho a k ha hM h0 hk hm hx
  have e3 : ∀ τ, Bk (fun a => A a = true) n a0 τ l s → Bk (fun a => A a = true) n a0 τ l s' := fun τ ho k hk => by
    have := ho k hk
    unfold ch mt at this ⊢
    rw [hg, hf, hd]
    exact this
  have e4 : pot A n l s' = pot A n l s := by
    unfold pot
    rw [hd]
    congr 1
    have : opn A n l s' = opn A n l s := by
      funext k
      unfold opn
      rw [hd]
      congr 2
      have hc : ∀ m, chB A s' k m = chB A s k m := by
        intro m
        induction m with
        | zero => rfl
        | succ m ih =>
          unfold chB mtB
          rw [ih, hg, hf]
      exact hc n
    rw [this]
  have base : ∀ τ, (2 ≤ r → Bk (fun a => A a = true) n a0 τ l s) → (1 ≤ r → ¬ 2 ≤ r → τ = s'.t) → Rin A n a0 l L τ (1 ≤ r) (2 ≤ r) (pot A n l s) (unf l s.d l.length) 0 s' := fun τ hb htt =>
    ⟨fun r2 => e1 _ (h.a1 r2), fun a k ha hM => by have := hM.2; omega, fun hl => by omega, fun r2 _ => e2 (h.n1 r2), fun r3 => e3 τ (hb r3), fun _ hl => by omega, htt, fun _ => by rw [e4]; exact Nat.le_refl _, by rw [hd]; exact Nat.le_refl _, fun _ _ _ hl => by omega, fun _ => by rw [hd], fun _ => e4⟩
  by_cases h2 : 2 ≤ r
  · obtain ⟨τ, hb, hτ⟩ := h.b2 h2
    exact ⟨τ, base τ (fun _ => hb) (fun _ h9 => absurd h2 h9), fun _ => by omega⟩
  · exact ⟨s'.t, base _ (fun h9 => absurd h9 h2) (fun _ _ => rfl), fun h1 => by omega⟩
/-- A round ends. -/
theorem Rnd.finish {A : Nat → Bool} {n a0 : Nat} {l : List Sh} {L : Int} {u0 r : Nat} {s s' : Fs} {τ : Int} (h : Rnd A n a0 l L u0 r s) (hL : 1 ≤ L) (h0n : a0 < n) (hR : Rin A n a0 l L τ (1 ≤ r) (2 ≤ r) (pot A n l s) (unf l s.d l.length) n s') (hτ : 1 ≤ r → s'.t + 1 = τ + r) : Rnd A n a0 l L u0 (r + 1) s' := by
  have hu := hR.uu
  have hu2 := h.uu
  have hAn : AtOk (fun a => A a = true) n s' := fun a k ha hM hk hm => hR.a1 a k ha ⟨hM, ha⟩ hk hm
  have hNn : Nw (fun a => A a = true) n a0 s' := fun a k ha hM h0 hk hm hx => hR.n1 h0n a k ha ⟨hM, ha⟩ h0 hk hm hx
  refine ⟨by omega, fun _ => hAn, fun _ => hNn, fun h2 => ⟨τ, hR.b2 (by omega) h0n, by have := hτ (by omega); omega⟩, fun hpos hr => ?_⟩
  have hr1 : L + 1 ≤ r := by omega
  have h2r : 2 ≤ r := by omega
  have ht := hτ (by omega)
  have hup : 0 < unf l s.d l.length := by omega
  have hlt : pot A n l s' < pot A n l s := by
    rcases hR.pr h2r (by omega) hup h0n with h1 | ⟨b, k, h1, h2, _⟩
    · exact h1
    · omega
  by_cases h9 : L + 2 ≤ r
  · have := h.pp hup h9
    omega
  · have := pot_le (A := A) (n := n) (l := l) (s := s)
    omega
/-- WITHIN SO MANY ROUNDS ALL IS FOLDED. -/
theorem Rnd.done {A : Nat → Bool} {n a0 : Nat} {l : List Sh} {L : Int} {u0 r : Nat} {s : Fs} (h : Rnd A n a0 l L u0 r s) (hr : L + 3 + l.length + u0 ≤ r) : unf l s.d l.length = 0 := by
  by_cases h0 : 0 < unf l s.d l.length
  · have := h.pp h0 (by omega)
    omega
  · omega

end Go.Proofs.Ytpnkmnmchdabkaa
