import Derived.Test.YtpnkmnmchdabkaaM43
import Derived.Test.YtpnkmnmchdabkaaM44
import Derived.Test.YtpnkmnmchdabkaaM31
import Derived.Test.YtpnkmnmchdabkaaM23
namespace Go.Proofs.Ytpnkmnmchdabkaa
open Go.RowKit
attribute [local go_sem ↓] Go.wp_at_zero Go.wp_at_succ

/-- What the law's own reckoning reads: its records, the shards, the marks. -/
def Bfr (w : World) (cb lb mb : Nat) (C : Cfg) (l : List Sh) (E : List En) (U : List Mk) : Prop := ∀ W, Below w.heap.size w W → (∃ ea ecap, W.cell? ⟨cb, 7, none⟩ = some (.slice ea E.length ecap) ∧ EnR W ea E) ∧ Tol W lb l ∧ Mks W mb U ∧ W.cell? ⟨cb, 3, none⟩ = some (.int .i64 C.n) ∧ W.cell? ⟨cb, 5, none⟩ = some (.int .i64 C.t)
theorem Bfr.below {w w' : World} {cb lb mb : Nat} {C : Cfg} {l : List Sh} {E : List En} {U : List Mk} (h : Bfr w cb lb mb C l E U) (hb : Below w.heap.size w w') : Bfr w' cb lb mb C l E U := fun W hW => h W (hb.trans (hW.mono hb.size))

set_option maxRecDepth 100000 in
set_option maxHeartbeats 1000000 in
theorem before_of {l : List Sh} {E : List En} {U : List Mk} {d : Nat → Nat} {w : World} {cb lb mb lcap mcap : Nat} {C : Cfg} (hI : Inv l) (hE : EntOk l E) (hEl : E.length ≤ 512) (hU : U.length = l.length) (hd : ∀ (k : Nat) (x : Mk), U[k]? = some x → x.d = d k) (hd32 : ∀ k, d k ≤ 32) (hB : Bfr w cb lb mb C l E U) (k n : Nat) (hk : k < l.length) (_hn : n ≤ 1000)
    (H : ∀ p, p < k → ∀ (n : Nat) (W : World), n ≤ 1000 → Below w.heap.size w W → Calls Try.prog 101 #[.pointer (some ⟨cb, 0, none⟩), .slice (some ⟨lb, 0, none⟩) l.length lcap, .slice (some ⟨mb, 0, none⟩) U.length mcap, .int .i64 p, .int .i64 n] W fun e w' => e = .returned (.int .i64 (ahd l d p n)) ∧ Below W.heap.size W w') :
    Calls Try.prog 101 #[.pointer (some ⟨cb, 0, none⟩), .slice (some ⟨lb, 0, none⟩) l.length lcap, .slice (some ⟨mb, 0, none⟩) U.length mcap, .int .i64 k, .int .i64 n] w fun e w' => e = .returned (.int .i64 (ahd l d k n)) ∧ Below w.heap.size w w' := by
  have hs : l[k]? = some l[k] := List.getElem?_eq_getElem hk
  generalize l[k] = s at hs
  have h16 := hI.len
  have hp2 := (hI.parL k s hs).1
  have HPR := hide (hI.parR k s hs)
  have HAh := hide (ahd_bef hI d n hs)
  obtain ⟨M1, hM1⟩ : ∃ M1 : Nat → Int, ∀ j, M1 j = ahUp (-1) s.rl (min n (held (E.take j) k)) := ⟨_, fun _ => rfl⟩
  have HM0 : Hid (M1 0 = -1) := by unfold Hid; rw [hM1]; show ahUp (-1) s.rl (min n 0) = -1; rw [Nat.min_zero]; rfl
  have HMs : Hid (∀ (j : Nat) (e : En), E[j]? = some e → M1 (j + 1) = if e.shard = k ∧ e.place < n then lat (M1 j) e.time else M1 j) := by
    intro j e hj
    rw [hM1, hM1]
    exact maxUp_step hE hs hj
  have HMe : Hid (M1 E.length = ahUp (-1) s.rl n) := by
    unfold Hid
    rw [hM1, List.take_length, held_len hE hs, ahUp_min]
  have HBf := hide hB
  have HH := hide H
  have HUd : Hid (∀ p, p < k → ∃ x, U[p]? = some x ∧ x.d = d p) := fun p hp => ⟨U[p]'(by omega), List.getElem?_eq_getElem _, hd p _ (List.getElem?_eq_getElem _)⟩
  have HD := hide hd32
  have HT3 : Hid (∀ W, Below w.heap.size w W → ∃ pb pc, W.cell? ⟨lb, k * 5 + 3, none⟩ = some (.slice (some ⟨pb, 0, none⟩) s.par.length pc) ∧ ∀ j (hj : j < s.par.length), W.cell? ⟨pb, j, none⟩ = some (.int .i64 s.par[j])) := fun W hW => by
    obtain ⟨_, hT, _⟩ := hB W hW
    obtain ⟨_, _, pb, pc, _, t3, t4⟩ := hT.2 k s hs
    exact ⟨pb, pc, t3, t4⟩
  rw [unhide HAh]
  clear hE hd hd32 hB H hM1 hs hI hU HAh
  generalize ahUp (-1) s.rl n = a0 at *
  go_enter Try.func101, Try.ntmps101
  go_wp2
  go_loopw [11, 12] (fun u i wr => ∃ j : Nat, j ≤ E.length ∧ i = .int .i64 j ∧ u = .int .i64 (M1 j) ∧ Below w.heap.size w wr) (fun _ i _ => E.length - (intOf i).toNat)
  case atStart => exact ⟨0, Nat.zero_le _, rfl, by rw [unhide HM0], Below.refl _ _⟩
  case round =>
    obtain ⟨j, hj, rfl, rfl, hBr⟩ := hrel
    obtain ⟨⟨ea, ecap, c7, hER⟩, _⟩ := unhide HBf wr hBr
    by_cases hlt : j < E.length
    · obtain ⟨e, he⟩ : ∃ e, E[j]? = some e := ⟨E[j], List.getElem?_eq_getElem hlt⟩
      obtain ⟨eb, rfl, heb, hc⟩ := hER j e he
      have y0 : wr.cell? ⟨eb, j * 5, none⟩ = some (.int .i64 e.shard) := hc 0 (by omega)
      have y1 : wr.cell? ⟨eb, j * 5 + 1, none⟩ = some (.int .i64 e.place) := hc 1 (by omega)
      have y2 : wr.cell? ⟨eb, j * 5 + 2, none⟩ = some (.string e.key) := hc 2 (by omega)
      have y3 : wr.cell? ⟨eb, j * 5 + 3, none⟩ = some (.int .i64 e.value) := hc 3 (by omega)
      have y4 : wr.cell? ⟨eb, j * 5 + 4, none⟩ = some (.int .i64 e.time) := hc 4 (by omega)
      have HMj := hide (unhide HMs j e he)
      have HB1 : Hid (∀ o, Below w.heap.size w (wr.alloc o)) := fun o => hBr.alloc hBr.size o
      clear hc hER he hBr
      by_cases hk1 : e.shard = k
      · have d1 : ((e.shard : Int) == (k : Int)) = true := by simp [hk1]
        by_cases hp1 : e.place < n
        · have d2 : (e.place : Int) < (n : Int) := by omega
          have HMk : Hid (M1 (j + 1) = lat (M1 j) e.time) := by unfold Hid; rw [unhide HMj, if_pos ⟨hk1, hp1⟩]
          generalize M1 j = mj at *
          by_cases ht : mj < e.time
          · have HMt : Hid (M1 (j + 1) = e.time) := by unfold Hid; rw [unhide HMk, ← lat_gt, if_pos ht]
            clear hk1
            go_wp2
            go_roundw
            case rel => exact ⟨j + 1, by omega, by go_num, by rw [unhide HMt], unhide HB1 _⟩
            case measure => simp [intOf]; omega
          · have HMt : Hid (M1 (j + 1) = mj) := by unfold Hid; rw [unhide HMk, ← lat_gt, if_neg ht]
            clear hk1
            go_wp2
            go_roundw
            case rel => exact ⟨j + 1, by omega, by go_num, by rw [unhide HMt], unhide HB1 _⟩
            case measure => simp [intOf]; omega
        · have d2 : ¬ (e.place : Int) < (n : Int) := by omega
          have HMk : Hid (M1 (j + 1) = M1 j) := by unfold Hid; rw [unhide HMj, if_neg (fun hh => hp1 hh.2)]
          clear hk1
          go_wp2
          go_roundw
          case rel => exact ⟨j + 1, by omega, by go_num, by rw [unhide HMk], unhide HB1 _⟩
          case measure => simp [intOf]; omega
      · have d1 : ((e.shard : Int) == (k : Int)) = false := by rw [beq_eq_false_iff_ne]; omega
        have HMk : Hid (M1 (j + 1) = M1 j) := by unfold Hid; rw [unhide HMj, if_neg (fun hh => hk1 hh.1)]
        clear hk1
        go_wp2
        go_roundw
        case rel => exact ⟨j + 1, by omega, by go_num, by rw [unhide HMk], unhide HB1 _⟩
        case measure => simp [intOf]; omega
    · have e : j = E.length := by omega
      subst e
      have HBr := hide hBr
      clear hER hBr
      rw [unhide HMe]
      go_wp2
      go_loopw [11, 14] (fun u i wr => ∃ j : Nat, j ≤ s.par.length ∧ i = .int .i64 j ∧ u = .int .i64 (befP l d a0 (s.par.take j)) ∧ Below w.heap.size w wr) (fun _ i _ => s.par.length - (intOf i).toNat)
      case atStart => exact ⟨0, Nat.zero_le _, rfl, rfl, unhide HBr⟩
      case round =>
        obtain ⟨j, hj, rfl, rfl, hB2⟩ := hrel
        obtain ⟨pb, pc, t3, t4⟩ := unhide HT3 wr hB2
        by_cases hlt2 : j < s.par.length
        · obtain ⟨p, t, hpe, hpj, ht, _⟩ := unhide HPR s.par[j] (List.getElem_mem _)
          have z4 := t4 j hlt2
          rw [hpe] at z4
          have HBt := hide (befP_take l d a0 s.par j hlt2)
          rw [hpe, show ((p : Int)).toNat = p by omega] at HBt
          obtain ⟨_, _, hMk, _⟩ := unhide HBf wr hB2
          obtain ⟨x, hx, hxd⟩ := unhide HUd p hpj
          have m0 := (hMk.2 p x hx).1
          rw [hxd] at m0
          have hdp := unhide HD p
          have CB := hide (unhide HH p hpj (d p) wr (by omega) hB2)
          have m1 : decide ((p : Int) < 0) = false := by simp
          have m2 : decide ((k : Int) ≤ p) = false := by simp; omega
          have hpl : p < U.length := (List.getElem?_eq_some_iff.1 hx).1
          have hpl2 : p < l.length := by omega
          have HB2 := hide hB2
          generalize befP l d a0 (s.par.take j) = b0 at *
          clear t4 hpe ht hMk hx hxd hB2
          go_wp2_with fail
          refine (unhide CB).mono ?_
          rintro e w2 ⟨rfl, hb2⟩
          have HB3 := hide ((unhide HB2).trans (hb2.mono (unhide HB2).size))
          clear hb2
          generalize ahd l d p (d p) = v at *
          by_cases hv : b0 < v
          · have HV : Hid (lat b0 v = v) := by unfold Hid; rw [← lat_gt, if_pos hv]
            go_wp2
            go_roundw
            case rel => exact ⟨j + 1, by omega, by go_num, by rw [unhide HBt, unhide HV], unhide HB3⟩
            case measure => simp [intOf]; omega
          · have HV : Hid (lat b0 v = b0) := by unfold Hid; rw [← lat_gt, if_neg hv]
            go_wp2
            go_roundw
            case rel => exact ⟨j + 1, by omega, by go_num, by rw [unhide HBt, unhide HV], unhide HB3⟩
            case measure => simp [intOf]; omega
        · have e : j = s.par.length := by omega
          subst e
          have HB2 := hide hB2
          clear t4 hB2
          rw [List.take_length]
          go_wp2
          go_ret
          exact ⟨rfl, unhide HB2⟩

theorem before_any {l : List Sh} {E : List En} {U : List Mk} {d : Nat → Nat} {cb lb mb lcap mcap : Nat} {C : Cfg} (hI : Inv l) (hE : EntOk l E) (hEl : E.length ≤ 512) (hU : U.length = l.length) (hd : ∀ (k : Nat) (x : Mk), U[k]? = some x → x.d = d k) (hd32 : ∀ k, d k ≤ 32) : ∀ (k : Nat), k < l.length → ∀ (n : Nat) (w : World), n ≤ 1000 → Bfr w cb lb mb C l E U →
    Calls Try.prog 101 #[.pointer (some ⟨cb, 0, none⟩), .slice (some ⟨lb, 0, none⟩) l.length lcap, .slice (some ⟨mb, 0, none⟩) U.length mcap, .int .i64 k, .int .i64 n] w fun e w' => e = .returned (.int .i64 (ahd l d k n)) ∧ Below w.heap.size w w' := by
  intro k
  induction k using Nat.strongRecOn with
  | ind k ih =>
    intro hk n w hn hB
    exact before_of hI hE hEl hU hd hd32 hB k n hk hn (fun p hp n W hn hW => ih p hp (by omega) n W hn (hB.below hW))

end Go.Proofs.Ytpnkmnmchdabkaa
namespace Go.Proofs.Ytpnkmnmchdabkaa
open Go.RowKit
attribute [local go_sem ↓] Go.wp_at_zero Go.wp_at_succ

theorem key_of {a b : ByteArray} (h : a.toList = b.toList) : a = b := by
  rw [ByteArray.toList_eq, ByteArray.toList_eq] at h
  rcases a with ⟨a⟩
  rcases b with ⟨b⟩
  simpa using h

set_option maxRecDepth 100000 in
set_option maxHeartbeats 1000000 in
theorem lawFolded_any {l : List Sh} {E : List En} {U : List Mk} {d : Nat → Nat} {w : World} {cb lb mb mcap : Nat} {C : Cfg} (hI : Inv l) (hE : EntOk l E) (hEl : E.length ≤ 512) (hU : U.length = l.length) (hd : ∀ (k : Nat) (x : Mk), U[k]? = some x → x.d = d k) (hdk : MkOk l d) (hB : Bfr w cb lb mb C l E U) (key : ByteArray) :
    Calls Try.prog 67 #[.pointer (some ⟨cb, 0, none⟩), .slice (some ⟨mb, 0, none⟩) U.length mcap, .string key] w fun e w' => ∃ a cp, e = .returned (.tuple #[.slice a (fol E d key).length cp, .bool true]) ∧ w'.ownsRow w.heap.size 59 5 (.slice a (fol E d key).length cp) (fol E d key).length (entCells (fol E d key)) ∧ Below w.heap.size w w' := by
  obtain ⟨i0, hi0, hz0, hz1, hz2⟩ := info_parts info77
  have HBf := hide hB
  have HUd : Hid (∀ (j : Nat) (e : En), E[j]? = some e → e.shard < U.length ∧ ∃ x, U[e.shard]? = some x ∧ x.d = d e.shard) := fun j e hj => by
    have := (hE.lt e (List.mem_of_getElem? hj)).1
    exact ⟨by omega, U[e.shard]'(by omega), List.getElem?_eq_getElem _, hd _ _ (List.getElem?_eq_getElem _)⟩
  have HFi : Hid (∀ (i j : Nat) (e f : En), i < j → E[i]? = some e → E[j]? = some f → e.key = f.key → f.place < d f.shard → e.place < d e.shard) := fun i j e f h1 h2 h3 h4 h5 => fol_first hI hE hdk h1 h2 h3 h4 h5
  obtain ⟨F, hF⟩ : ∃ F : Nat → List En, ∀ j, F j = fol (E.take j) d key := ⟨_, fun _ => rfl⟩
  have HFe : Hid (fol E d key = F E.length) := by unfold Hid; rw [hF, List.take_length]
  have HF0 : Hid (F 0 = []) := by unfold Hid; rw [hF]; rfl
  have HFs : Hid (∀ (j : Nat) (e : En), E[j]? = some e → F (j + 1) = F j ++ if e.key = key ∧ e.place < d e.shard then [e] else []) := fun j e hj => by rw [hF, hF]; exact fol_take hj
  have HFl : Hid (∀ j, (F j).length ≤ 512) := fun j => by
    rw [hF]
    unfold fol
    have h1 := List.length_filter_le (fun e => decide (e.key = key) && decide (e.place < d e.shard)) (E.take j)
    have h2 : (E.take j).length ≤ E.length := by rw [List.length_take]; omega
    omega
  rw [unhide HFe]
  clear hE hd hB hI hdk hF HFe hU
  go_enter Try.func67, Try.ntmps67
  go_wp2
  go_loopw [8, 9, 10] (fun o g i wr => ∃ (j cp : Nat) (b : Bool) (a : Option Addr), j ≤ E.length ∧ i = .int .i64 j ∧ g = .bool b ∧ o = .slice a (F j).length cp ∧ (b = true → ∃ (q : Nat) (x : En), q < j ∧ E[q]? = some x ∧ x.key = key ∧ ¬ x.place < d x.shard) ∧ wr.ownsRow w.heap.size 59 5 (.slice a (F j).length cp) (F j).length (entCells (F j)) ∧ Below w.heap.size w wr) (fun _ _ i _ => E.length - (intOf i).toNat)
  case atStart => exact ⟨0, 0, false, none, Nat.zero_le _, rfl, rfl, by rw [unhide HF0]; rfl, fun h => (by cases h), by rw [unhide HF0]; exact World.ownsRow_nil _ _ _ _, Below.refl _ _⟩
  case round =>
    obtain ⟨j, cp, b, a, hj, rfl, rfl, rfl, hb, hown, hBr⟩ := hrel
    obtain ⟨⟨ea, ecap, c7, hER⟩, _, hMk, _⟩ := unhide HBf wr hBr
    by_cases hlt : j < E.length
    · obtain ⟨e, he⟩ : ∃ e, E[j]? = some e := ⟨E[j], List.getElem?_eq_getElem hlt⟩
      obtain ⟨eb, rfl, heb, hc⟩ := hER j e he
      have y0 : wr.cell? ⟨eb, j * 5, none⟩ = some (.int .i64 e.shard) := hc 0 (by omega)
      have y1 : wr.cell? ⟨eb, j * 5 + 1, none⟩ = some (.int .i64 e.place) := hc 1 (by omega)
      have y2 : wr.cell? ⟨eb, j * 5 + 2, none⟩ = some (.string e.key) := hc 2 (by omega)
      have y3 : wr.cell? ⟨eb, j * 5 + 3, none⟩ = some (.int .i64 e.value) := hc 3 (by omega)
      have y4 : wr.cell? ⟨eb, j * 5 + 4, none⟩ = some (.int .i64 e.time) := hc 4 (by omega)
      obtain ⟨hsl, x, hx, hxd⟩ := unhide HUd j e he
      have m0 := (hMk.2 e.shard x hx).1
      rw [hxd] at m0
      have hmbl := hMk.1
      have HFj := hide (unhide HFs j e he)
      have hFjl := unhide HFl j
      have HE := hide he
      have Hb := hide hb
      have HO1 := hide (hown.alloc (.cells #[.int .i64 e.shard, .int .i64 e.place, .string e.key, .int .i64 e.value, .int .i64 e.time] 59))
      have HB1 := hide (hBr.alloc hBr.size (.cells #[.int .i64 e.shard, .int .i64 e.place, .string e.key, .int .i64 e.value, .int .i64 e.time] 59))
      have HX1 := hide (heap_alloc_new wr (.cells #[.int .i64 e.shard, .int .i64 e.place, .string e.key, .int .i64 e.value, .int .i64 e.time] 59))
      have M0 := (World.cell?_of_block (w := wr) (a := ⟨mb, e.shard * 3, none⟩) (Below.heap_alloc wr (.cells #[.int .i64 e.shard, .int .i64 e.place, .string e.key, .int .i64 e.value, .int .i64 e.time] 59) _ hmbl)).trans m0
      clear hc hER he hBr hMk hx hxd hown hb
      by_cases hk : e.key = key
      · have d1 : (e.key.toList == key.toList) = true := by rw [hk]; simp
        have HK := hide hk
        clear hk
        go_wp2_with fail
        generalize wr.alloc (.cells #[.int .i64 e.shard, .int .i64 e.place, .string e.key, .int .i64 e.value, .int .i64 e.time] 59) = V at *
        obtain ⟨x0, x1, x2, x3, x4⟩ : V.cell? ⟨wr.heap.size, 0, none⟩ = some (.int .i64 e.shard) ∧ V.cell? ⟨wr.heap.size, 1, none⟩ = some (.int .i64 e.place) ∧ V.cell? ⟨wr.heap.size, 2, none⟩ = some (.string e.key) ∧ V.cell? ⟨wr.heap.size, 3, none⟩ = some (.int .i64 e.value) ∧ V.cell? ⟨wr.heap.size, 4, none⟩ = some (.int .i64 e.time) := ⟨cell_of (unhide HX1) 0, cell_of (unhide HX1) 1, cell_of (unhide HX1) 2, cell_of (unhide HX1) 3, cell_of (unhide HX1) 4⟩
        have HOd : Hid (∀ n, (V.drewN n).ownsRow w.heap.size 59 5 (.slice a (F j).length cp) (F j).length (entCells (F j))) := fun n => ownsRow_of_block (unhide HO1) fun _ _ => rfl
        have HBd : Hid (∀ n, Below w.heap.size w (V.drewN n)) := fun n => below_drewN (unhide HB1) n
        clear y0 y1 y2 y3 y4 m0 HX1
        by_cases hp : e.place < d e.shard
        · have d3 : ¬ ((d e.shard : Int) ≤ (e.place : Int)) := by omega
          have d4 : decide ((d e.shard : Int) ≤ (e.place : Int)) = false := by simpa using d3
          have HFk : Hid (F (j + 1) = F j ++ [e]) := by unfold Hid; rw [unhide HFj, if_pos ⟨unhide HK, hp⟩]
          cases b
          · go_quiet (fail)
            have HO4 := hide (unhide HOd nq)
            have HB4 := hide (unhide HBd nq)
            obtain ⟨z0, z1, z2, z3, z4⟩ : (V.drewN nq).cell? ⟨wr.heap.size, 0, none⟩ = some (.int .i64 e.shard) ∧ (V.drewN nq).cell? ⟨wr.heap.size, 1, none⟩ = some (.int .i64 e.place) ∧ (V.drewN nq).cell? ⟨wr.heap.size, 2, none⟩ = some (.string e.key) ∧ (V.drewN nq).cell? ⟨wr.heap.size, 3, none⟩ = some (.int .i64 e.value) ∧ (V.drewN nq).cell? ⟨wr.heap.size, 4, none⟩ = some (.int .i64 e.time) := ⟨x0, x1, x2, x3, x4⟩
            clear HOd HBd x0 x1 x2 x3 x4 M0 HO1 HB1
            generalize V.drewN nq = V4 at *
            have hzz := (unhide HB4).size
            go_wp2_with (at_builtin; go_must (refine wpList_append_lies _ rfl _ _ _ rfl w.heap.size 59 i0 _ 5 48 Try.underlying29 hi0 hz0 hz1 hz2 rfl (by omega) _ (F j).length (entCells (F j)) rfl ((unhide HO4).alloc _) ⟨V4.heap.size, 0, none⟩ 1 1 (enCells e) rfl rfl (World.news_of_block (heap_alloc_new V4 _)) (by simp [enCells, Value.oneCell']) (by omega) (by unfold maxLen; omega) (by omega) (by simp; omega) (V4.heap.size + 1) (by simp) ?next))
            case next =>
              intro g2 cap2 w6 hown6 hgrow6 hat hlt6
              have hB6 : Hid (Below w.heap.size w w6) := ((unhide HB4).alloc hzz _).grown hgrow6 (by simp; omega) (fun q hq => ((unhide HO4).lt q hq).1)
              have HN : Hid (w6.ownsRow w.heap.size 59 5 (.slice (some ⟨g2, 0, none⟩) (F (j + 1)).length cap2) (F (j + 1)).length (entCells (F (j + 1)))) := by
                unfold Hid
                rw [unhide HFk, entCells_append, List.length_append]
                simpa [entCells] using hown6
              have HLn : Hid ((F (j + 1)).length = (F j).length + 1) := by unfold Hid; rw [unhide HFk, List.length_append]; rfl
              clear hown6 hgrow6 hat
              go_wp2
              go_roundw
              case rel => exact ⟨j + 1, cap2, false, some ⟨g2, 0, none⟩, by omega, by go_num, rfl, by rw [unhide HLn], fun h => (by cases h), unhide HN, unhide hB6⟩
              case measure => simp [intOf]; omega
          · exfalso
            obtain ⟨q, x9, h1, h2, h3, h4⟩ := unhide Hb rfl
            exact h4 (unhide HFi q j x9 e h1 h2 (unhide HE) (h3.trans (unhide HK).symm) hp)
        · have d3 : ((d e.shard : Int) ≤ (e.place : Int)) := by omega
          have d4 : decide ((d e.shard : Int) ≤ (e.place : Int)) = true := by simpa using d3
          have HFk : Hid (F (j + 1) = F j) := by unfold Hid; rw [unhide HFj, if_neg (fun hh => hp hh.2), List.append_nil]
          go_quiet (fail)
          have HO4 := hide (unhide HOd nq)
          have HB4 := hide (unhide HBd nq)
          clear HOd HBd x0 x1 x2 x3 x4 M0 HO1 HB1
          generalize V.drewN nq = V4 at *
          go_wp2
          go_roundw
          case rel => exact ⟨j + 1, cp, true, a, by omega, by go_num, rfl, by rw [unhide HFk], fun _ => ⟨j, e, by omega, unhide HE, unhide HK, hp⟩, by rw [unhide HFk]; exact unhide HO4, unhide HB4⟩
          case measure => simp [intOf]; omega
      · have d1 : (e.key.toList == key.toList) = false := by
          rw [beq_eq_false_iff_ne]
          exact fun hh => hk (key_of hh)
        have HFk : Hid (F (j + 1) = F j) := by unfold Hid; rw [unhide HFj, if_neg (fun hh => hk hh.1), List.append_nil]
        clear hk
        go_wp2
        go_roundw
        case rel => exact ⟨j + 1, cp, b, a, by omega, by go_num, rfl, by rw [unhide HFk], fun h => by obtain ⟨q, x, h1, h2⟩ := unhide Hb h; exact ⟨q, x, by omega, h2⟩, by rw [unhide HFk]; exact unhide HO1, unhide HB1⟩
        case measure => simp [intOf]; omega
    · have e : j = E.length := by omega
      subst e
      have HO := hide hown
      have HBr := hide hBr
      clear hown hBr hER hMk hb
      go_wp2
      go_ret2
      exact ⟨a, cp, rfl, unhide HO, unhide HBr⟩

end Go.Proofs.Ytpnkmnmchdabkaa
