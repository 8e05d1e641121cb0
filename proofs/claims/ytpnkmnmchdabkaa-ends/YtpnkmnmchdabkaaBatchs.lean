import Derived.Test.YtpnkmnmchdabkaaLawBat
import Derived.Test.YtpnkmnmchdabkaaLawSum
import Derived.Test.YtpnkmnmchdabkaaM31
namespace Go.Proofs.Ytpnkmnmchdabkaa
open Go.RowKit
attribute [local go_sem ↓] Go.wp_at_zero Go.wp_at_succ

theorem Crew.sink {t : Bool} {B : Bd} {N : Nat} {w : World} {ρ : Nat → Nat} {cb gb : Nat} {C : Cfg} {now : Rest} {l : List Sh} {E : List En} {n : Nat} (h : Crew t B N w ρ cb gb C now l E n) : (∀ k, dnN now.dn k ≤ 32) ∧ (∀ k, dnP now.dn k = (dnN now.dn k : Int)) ∧ MkOk l (dnN now.dn) := by
  obtain ⟨_, _, _, _, _, _, P, _, _, _, o, _⟩ := h.wok
  have h16 := h.inv.len
  have hz : ∀ k, ¬ k < 16 → dnP now.dn k = 0 := fun k hk => by
    unfold dnP
    rw [List.getElem?_eq_none (by rw [o.dnL]; omega)]
    rfl
  have h1 : ∀ k, dnP now.dn k = (dnN now.dn k : Int) := fun k => by
    by_cases hk : k < 16
    · have := (o.mr k hk).1
      unfold dnN
      omega
    · unfold dnN
      rw [hz k hk]
      rfl
  have h2 : ∀ (k : Nat) (s : Sh), l[k]? = some s → dnN now.dn k ≤ s.rl.length := fun k s hs => by
    have hk := (List.getElem?_eq_some_iff.1 hs).1
    have a := (o.mr k (by omega)).2.1
    have b : cn l k = s.rl.length := cn_is hs
    have c := h1 k
    omega
  have hf : (fun k => (dnN now.dn k : Int)) = dnP now.dn := funext fun k => (h1 k).symm
  refine ⟨fun k => ?_, h1, h2, fun k hk h0 => ?_⟩
  · by_cases hk : k < 16
    · have a := (o.mr k hk).2.1
      have b := cn_le h.inv k
      have c := h1 k
      omega
    · have c := h1 k
      rw [hz k hk] at c
      omega
  · rw [hf]
    exact (o.mr k (by omega)).2.2.2.2 (by have := h1 k; omega)

/-- What the program tells of a key, whatever new memory there is. -/
theorem crew_tells {t : Bool} {B : Bd} {N : Nat} {w : World} {ρ : Nat → Nat} {cb gb : Nat} {C : Cfg} {now : Rest} {l : List Sh} {E : List En} {n : Nat} (h : Crew t B N w ρ cb gb C now l E n) (key : ByteArray) (hs : key.size ≤ maxLen) (hk : keyB key = true) :
    Calls Try.prog 69 #[.pointer (some ⟨gb, 0, none⟩), .string key] w (fun e w' => ∃ v, e = .returned (.tuple #[v, .int .i64 0]) ∧ w'.ownsRow w.heap.size 3 1 v (stsOf C.n C.s ((fol E (dnN now.dn) key).map (·.time))).length ((stsOf C.n C.s ((fol E (dnN now.dn) key).map (·.time))).map (Value.int .i64)) ∧ Below w.heap.size w w') ∧
    ∀ st, beginsW C.s st = true → Calls Try.prog 70 #[.pointer (some ⟨gb, 0, none⟩), .string key, .int .i64 st] w fun e w' => e = .returned (.tuple #[suV (rdOf C st ((fol E (dnN now.dn) key).map (enFd l (dnN now.dn)))), .int .i64 0]) ∧ Below w.heap.size w w' := by
  obtain ⟨d1, d2, d3⟩ := h.sink
  have hv := (validB_iff _ _ _ _ _ _).1 h.val
  have hE := h.rng
  obtain ⟨sv, m, g, cap, P, e1, h1, _⟩ := h.grp.gs h.fits h.inv h.wok
  have hml : m.length = l.length := by rw [← e1]; simp
  have hF : (fol E (dnN now.dn) key).map (enFd l (dnN now.dn)) = fdKey key.data.toList (fdUp (m.map (·.s)) (dnN now.dn) m.length) (fdUp (m.map (·.s)) (dnN now.dn) m.length).length := by
    rw [e1, hml]
    exact (fdKey_is h.inv hE (dnN now.dn) hk).symm
  have hT : ∀ y ∈ (fol E (dnN now.dn) key).map (enFd l (dnN now.dn)), 0 ≤ y.1.t ∧ y.1.t ≤ 1000000 := by
    intro y hy
    obtain ⟨e, he, rfl⟩ := List.mem_map.1 hy
    unfold fol at he
    have := hE.key e (List.mem_filter.1 he).1
    exact this.2.2.2
  have hI : Inv (m.map (·.s)) := by rw [e1]; exact h.inv
  have hdc : ∀ (k : Nat) (s : Cs), m[k]? = some s → dnN now.dn k ≤ s.s.rl.length := fun k s hs => d3.1 k s.s (by rw [← e1, List.getElem?_map, hs]; rfl)
  have hts : ((fol E (dnN now.dn) key).map (enFd l (dnN now.dn))).map (·.1.t) = (fol E (dnN now.dn) key).map (·.time) := by
    rw [List.map_map]
    rfl
  refine ⟨?_, fun st hst => ?_⟩
  · have := gWindows_any h1 hI (dnN now.dn) d1 (fun k _ => d2 k) hdc key hs hk (by omega) _ hF hT
    rw [hts] at this
    exact this
  · exact gRead_any h1 hI (dnN now.dn) d1 (fun k _ => d2 k) hdc key st hs hk (by omega) (by omega) hst _ hF hT

/-- All that batch asks, of one key. -/
theorem crew_batch {t : Bool} {B : Bd} {N : Nat} {w : World} {ρ : Nat → Nat} {cb gb lb mb lcap mcap : Nat} {C : Cfg} {now : Rest} {l : List Sh} {E : List En} (h : Crew t B N w ρ cb gb C now l E l.length) (hT : Tol w lb l) (hM : Mks w mb (mkUp l now.dn l.length)) (e : En) (he : e ∈ E) :
    Calls Try.prog 38 #[.pointer (some ⟨cb, 0, none⟩), .slice (some ⟨lb, 0, none⟩) l.length lcap, .slice (some ⟨mb, 0, none⟩) (mkUp l now.dn l.length).length mcap, .string e.key] w fun e w' => e = .returned (.bool true) ∧ Below w.heap.size w w' := by
  obtain ⟨d1, d2, d3⟩ := h.sink
  have hv := (validB_iff _ _ _ _ _ _).1 h.val
  have hE := h.rng
  have hks := (hE.lt e he).2
  have hkk := (hE.key e he).1
  have hU := mkUp_len l now.dn l.length
  have hd : ∀ (k : Nat) (x : Mk), (mkUp l now.dn l.length)[k]? = some x → x.d = (dnN now.dn k : Int) := fun k x hx => by
    have hk := (List.getElem?_eq_some_iff.1 hx).1
    rw [hU] at hk
    rw [mkUp_get l now.dn l.length k hk] at hx
    injection hx with hx
    rw [← hx, ← d2 k]
    rfl
  have hB : ∀ {W}, Below w.heap.size w W → Bfr W cb lb mb C l E (mkUp l now.dn l.length) := by
    intro W hW W2 hW2
    have hb := hW.trans (hW2.mono hW.size)
    obtain ⟨ev, v1, v2⟩ := (h.below hb).ent2
    obtain ⟨ea, ecap, rfl⟩ := ownsRow_len v2
    exact ⟨⟨ea, ecap, cell_of v1 7, enR_of v2⟩, hT.below hb, hM.below hb, cell_of v1 3, cell_of v1 5⟩
  have hfl : (fol E (dnN now.dn) e.key).length ≤ 512 := by
    have h1 := h.short
    unfold fol
    have h2 := List.length_filter_le (fun x => decide (x.key = e.key) && decide (x.place < dnN now.dn x.shard)) E
    omega
  have hmem : ∀ x ∈ fol E (dnN now.dn) e.key, x ∈ E := fun x hx => by unfold fol at hx; exact (List.mem_filter.1 hx).1
  have htm : ∀ x ∈ fol E (dnN now.dn) e.key, 0 ≤ x.time ∧ x.time ≤ 1000000 := fun x hx => (hE.key x (hmem x hx)).2.2.2
  have hst : Sts (stsOf C.n C.s ((fol E (dnN now.dn) e.key).map (·.time))) := by
    have := sts_of (wd := C.n) (sl := C.s) (ts := (fol E (dnN now.dn) e.key).map (·.time)) (fun t ht => by
      obtain ⟨x, hx, rfl⟩ := List.mem_map.1 ht
      exact (htm x hx).2) _ (Nat.le_refl _)
    rwa [List.take_length] at this
  have hmul : ∀ z ∈ stsOf C.n C.s ((fol E (dnN now.dn) e.key).map (·.time)), z % C.s = 0 := by
    have := stsOf_mul (wd := C.n) (sl := C.s) (ts := (fol E (dnN now.dn) e.key).map (·.time)) _ (Nat.le_refl _)
    rwa [List.take_length] at this
  refine batch_of (gb := gb) e.key (fol E (dnN now.dn) e.key) (stsOf C.n C.s ((fol E (dnN now.dn) e.key).map (·.time))) (fun z => rdOf C z ((fol E (dnN now.dn) e.key).map (enFd l (dnN now.dn)))) hst.len (fun W hW => ?_) ?_ (fun W ra rc hW hR => ?_) (fun W hW => ?_) (fun W z hz hW => ?_) (fun W z ra rc hz hW hR => ?_)
  · obtain ⟨ea, ecap, _, c6, _, _, _, hcb, _⟩ := crew_cells (h.below hW).ent2
    exact ⟨c6, hcb⟩
  · exact lawFolded_any h.inv hE h.short hU hd d3 (hB (Below.refl _ _)) e.key
  · refine lawStarts_any (fol E (dnN now.dn) e.key) ra rc (by omega) (by omega) (fun W2 hW2 => ?_) (by omega) htm hR
    obtain ⟨ev, v1, v2⟩ := (h.below (hW.trans (hW2.mono hW.size))).ent2
    exact ⟨cell_of v1 3, cell_of v1 4⟩
  · exact (crew_tells (h.below hW) e.key hks hkk).1
  · refine (crew_tells (h.below hW) e.key hks hkk).2 z ?_
    unfold beginsW
    simp [hmul z hz, (hst.2 z hz).1]
  · exact lawSum_any h.inv hE h.short hU hd d1 (hB hW) (by omega) (fol E (dnN now.dn) e.key) hmem hfl ra rc hR z (hst.2 z hz)

set_option maxRecDepth 100000 in
set_option maxHeartbeats 1000000 in
theorem batches_any {t : Bool} {B : Bd} {N : Nat} {w : World} {ρ : Nat → Nat} {cb gb : Nat} {C : Cfg} {now : Rest} {l : List Sh} {E : List En} (h : Crew t B N w ρ cb gb C now l E l.length) :
    Calls Try.prog 15 #[.pointer (some ⟨cb, 0, none⟩)] w fun e w' => e = .returned (.bool true) ∧ Below w.heap.size w w' := by
  have HM := hide (marks_any h)
  have hUl := mkUp_len l now.dn l.length
  have hpos := h.inv.pos
  have h16 := h.inv.len
  have hshort := h.short
  have HS : Hid (∀ W, Below w.heap.size w W → (W.cell? ⟨cb, 6, none⟩ = some (.pointer (some ⟨gb, 0, none⟩)) ∧ W.cell? ⟨cb, 8, none⟩ = some (.int .i64 l.length)) ∧ Calls Try.prog 33 #[.pointer (some ⟨gb, 0, none⟩)] W fun e w' => ∃ lb lcap, e = .returned (.slice (some ⟨lb, 0, none⟩) l.length lcap) ∧ Tol w' lb l ∧ Below W.heap.size W w') := by
    intro W hb
    have hW := h.below hb
    obtain ⟨ea, ecap, _, c6, _, c8, _, _, _⟩ := crew_cells hW.ent2
    exact ⟨⟨c6, c8⟩, shards_tol hW.grp hW.inv⟩
  have HE : Hid (∀ W, Below w.heap.size w W → ∃ ea ecap, W.cell? ⟨cb, 7, none⟩ = some (.slice ea E.length ecap) ∧ EnR W ea E) := by
    intro W hb
    obtain ⟨ev, v1, v2⟩ := (h.below hb).ent2
    obtain ⟨ea, ecap, rfl⟩ := ownsRow_len v2
    exact ⟨ea, ecap, cell_of v1 7, enR_of v2⟩
  have HBt : Hid (∀ (W : World) (lb mb lcap mcap : Nat) (j : Nat) (e : En), Below w.heap.size w W → Tol W lb l → Mks W mb (mkUp l now.dn l.length) → E[j]? = some e → Calls Try.prog 38 #[.pointer (some ⟨cb, 0, none⟩), .slice (some ⟨lb, 0, none⟩) l.length lcap, .slice (some ⟨mb, 0, none⟩) (mkUp l now.dn l.length).length mcap, .string e.key] W fun e w' => e = .returned (.bool true) ∧ Below W.heap.size W w') := by
    intro W lb mb lcap mcap j e hb hT hM he
    exact crew_batch (h.below hb) hT hM e (List.mem_of_getElem? he)
  have HUp : Hid (0 < (mkUp l now.dn l.length).length) := by unfold Hid; omega
  generalize mkUp l now.dn l.length = U at *
  clear h hUl
  go_enter Try.func15, Try.ntmps15
  go_wp2_with fail
  refine (unhide HM).mono ?_
  rintro e w1 ⟨v1, rfl, hrow1, hb1⟩
  obtain ⟨mb, mcap, rfl, hM1⟩ := mks_of hrow1 (unhide HUp)
  have HM1 := hide hM1
  have HB1 := hide hb1
  obtain ⟨⟨c6, c8⟩, hsh⟩ := unhide HS w1 hb1
  have HSh := hide hsh
  clear hrow1 hb1 hM1 HM hsh
  go_wp2_with fail
  refine (unhide HSh).mono ?_
  rintro e w2 ⟨lb, lcap, rfl, hT2, hb2⟩
  have HT2 := hide hT2
  have HM2 := hide ((unhide HM1).below hb2)
  have HB2 := hide ((unhide HB1).trans (hb2.mono (unhide HB1).size))
  obtain ⟨⟨c6, c8⟩, _⟩ := unhide HS w2 (unhide HB2)
  have hll : ((l.length : Int) == (l.length : Int)) = true := by simp
  clear hT2 hb2 HM1 HB1 HSh
  go_wp2
  go_loopw [4, 6] (fun b i wr => ∃ j : Nat, j ≤ E.length ∧ i = .int .i64 j ∧ b = .bool true ∧ Below w2.heap.size w2 wr) (fun _ i _ => E.length - (intOf i).toNat)
  case atStart => exact ⟨0, Nat.zero_le _, rfl, rfl, Below.refl _ _⟩
  case round =>
    obtain ⟨j, hj, rfl, rfl, hB⟩ := hrel
    have HBw := hide ((unhide HB2).trans (hB.mono (unhide HB2).size))
    obtain ⟨ea, ecap, c7, hER⟩ := unhide HE wr (unhide HBw)
    by_cases hlt : j < E.length
    · obtain ⟨e, he⟩ : ∃ e, E[j]? = some e := ⟨E[j], List.getElem?_eq_getElem hlt⟩
      obtain ⟨eb, rfl, heb, hc⟩ := hER j e he
      have y2 : wr.cell? ⟨eb, j * 5 + 2, none⟩ = some (.string e.key) := hc 2 (by omega)
      have CB := hide (unhide HBt wr lb mb lcap mcap j e (unhide HBw) ((unhide HT2).below hB) ((unhide HM2).below hB) he)
      have HV := hide hB
      clear hc hER he hB
      go_wp2_with fail
      refine (unhide CB).mono ?_
      rintro e9 w3 ⟨rfl, hb3⟩
      have HV3 := hide ((unhide HV).trans (hb3.mono (unhide HV).size))
      clear hb3
      go_wp2
      go_roundw
      case rel => exact ⟨j + 1, by omega, by go_num, rfl, unhide HV3⟩
      case measure => simp [intOf]; omega
    · clear hER
      go_wp2
      go_ret
      exact ⟨rfl, unhide HBw⟩

end Go.Proofs.Ytpnkmnmchdabkaa
