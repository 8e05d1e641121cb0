import Derived.Test.YtpnkmnmchdabkaaGreatM00
namespace Go.Proofs.YtpnkmnmchdabkaaGreat
open Go.RowKit

/-- The eight bytes of a key, from a list of up to eight. -/
def byteAt (l : List UInt8) (i : Nat) : Int := ((l[i]?.getD 0).toNat : Int)
def keyArr (l : List UInt8) : Array Value := #[.int .u8 (byteAt l 0), .int .u8 (byteAt l 1), .int .u8 (byteAt l 2), .int .u8 (byteAt l 3), .int .u8 (byteAt l 4), .int .u8 (byteAt l 5), .int .u8 (byteAt l 6), .int .u8 (byteAt l 7)]

theorem keyArr_get (l : List UInt8) (k : Nat) (hk : k < 8) : (keyArr l)[k]? = some (.int .u8 (byteAt l k)) := by
  match k, hk with
  | 0, _ => rfl
  | 1, _ => rfl
  | 2, _ => rfl
  | 3, _ => rfl
  | 4, _ => rfl
  | 5, _ => rfl
  | 6, _ => rfl
  | 7, _ => rfl
theorem byteAt_bd (l : List UInt8) (k : Nat) : 0 ≤ byteAt l k ∧ byteAt l k < 256 := by
  have := (l[k]?.getD 0).toNat_lt
  unfold byteAt; omega

theorem hash_step (l : List UInt8) (k : Nat) (hk : k < l.length) : hashL (l.take (k + 1)) = (31 * hashL (l.take k) + byteAt l k) % 256 := by
  rw [List.take_succ_eq_append_getElem hk, hashL_snoc]
  simp [byteAt, List.getElem?_eq_getElem hk]

set_option maxRecDepth 100000 in
set_option maxHeartbeats 400000 in
theorem hash_any (l : List UInt8) (w : World) (hl : l.length ≤ 8) (hz : ∀ b ∈ l, b.toNat ≠ 0) :
    Calls Tryz.prog 132 #[.agg (keyArr l)] w fun e w' => e = .returned (.int .i64 (hashL l)) ∧ Below w.heap.size w w' := by
  have hc : ∀ k, k < 8 → (w.alloc (.cells (keyArr l) 130)).cell? ⟨w.heap.size, k, none⟩ = some (.int .u8 (byteAt l k)) := by
    intro k hk
    rw [cell_of (heap_alloc_new w _), keyArr_get l k hk]
  have hb : Below w.heap.size w (w.alloc (.cells (keyArr l) 130)) := (Below.refl _ _).alloc (Nat.le_refl _) _
  have HZ : Hid (∀ k, k < l.length → byteAt l k ≠ 0) := by
    intro k hk h
    have := hz _ (List.getElem_mem hk)
    simp only [byteAt, List.getElem?_eq_getElem hk, Option.getD_some] at h
    omega
  have HO : Hid (∀ k, l.length ≤ k → byteAt l k = 0) := by
    intro k hk
    simp [byteAt, List.getElem?_eq_none hk]
  unfold keyArr at hc hb ⊢
  clear hz
  go_enter Tryz.func132, Tryz.ntmps132
  go_wp2
  generalize World.alloc w _ = W at *
  go_loop [3, 4] (fun n i => ∃ k : Nat, k ≤ l.length ∧ i = .int .i64 k ∧ n = .int .i64 (hashL (l.take k))) (fun _ i => l.length - (intOf i).toNat)
  case atStart => exact ⟨0, Nat.zero_le _, rfl, rfl⟩
  case round =>
    obtain ⟨k, hk, rfl, rfl⟩ := hrel
    obtain ⟨hd1, hd2⟩ := hashL_bd (l.take k)
    by_cases hlt : k < l.length
    · have HS := hide (hash_step l k hlt)
      obtain ⟨hb1, hb2⟩ := byteAt_bd l k
      have hck := hc k (by omega)
      have hk8 : k < 8 := by omega
      have hne : (byteAt l k != 0) = true := by rw [bne_iff_ne]; exact unhide HZ k hlt
      clear hc
      go_wp2
      go_round
      case rel => exact ⟨k + 1, by omega, by go_num, by rw [unhide HS]⟩
      case measure => simp [intOf]; omega
    · have hkl : k = l.length := by omega
      have HK := hide hkl
      clear hkl
      by_cases hk8 : k < 8
      · have hck := hc k hk8
        have hne : (byteAt l k != 0) = false := by rw [unhide HO k (by omega)]; rfl
        clear hc
        go_wp2
        go_ret
        exact ⟨ret_int (by rw [unhide HK, List.take_length]), hb⟩
      · go_wp2
        go_ret
        exact ⟨ret_int (by rw [unhide HK, List.take_length]), hb⟩

theorem keyArr_set (l : List UInt8) (c : UInt8) (hk : l.length < 8) : (keyArr l).setIfInBounds l.length (.int .u8 (c.toNat : Int)) = keyArr (l ++ [c]) := by
  match l, hk with
  | [], _ => rfl
  | [_], _ => rfl
  | [_, _], _ => rfl
  | [_, _, _], _ => rfl
  | [_, _, _, _], _ => rfl
  | [_, _, _, _, _], _ => rfl
  | [_, _, _, _, _, _], _ => rfl
  | [_, _, _, _, _, _, _], _ => rfl

theorem len_take (s : ByteArray) (k : Nat) (hk : k ≤ s.size) : (s.data.toList.take k).length = k := by
  rw [List.length_take]; have : s.data.toList.length = s.size := by simp
  omega

/-- A row of eight cells, all of them written. -/
def set8 (w : World) (b : Nat) (v0 v1 v2 v3 v4 v5 v6 v7 : Value) : World :=
  (((((((w.setCell ⟨b, 0, none⟩ v0).setCell ⟨b, 1, none⟩ v1).setCell ⟨b, 2, none⟩ v2).setCell ⟨b, 3, none⟩ v3).setCell ⟨b, 4, none⟩ v4).setCell ⟨b, 5, none⟩ v5).setCell ⟨b, 6, none⟩ v6).setCell ⟨b, 7, none⟩ v7
theorem set8_heap {w : World} {b : Nat} {l : List UInt8} {e : TypeId} (h : w.heap[b]? = some (.cells (keyArr l) e (0, 0))) (v0 v1 v2 v3 v4 v5 v6 v7 : Value) :
    (set8 w b v0 v1 v2 v3 v4 v5 v6 v7).heap[b]? = some (.cells #[v0, v1, v2, v3, v4, v5, v6, v7] e (0, 0)) := by
  unfold set8
  have h := heap_setCell_same (i := 0) h v0
  have h := heap_setCell_same (i := 1) h v1
  have h := heap_setCell_same (i := 2) h v2
  have h := heap_setCell_same (i := 3) h v3
  have h := heap_setCell_same (i := 4) h v4
  have h := heap_setCell_same (i := 5) h v5
  have h := heap_setCell_same (i := 6) h v6
  have h := heap_setCell_same (i := 7) h v7
  rw [h]
  simp [keyArr]
theorem set8_below {B : Nat} {a w : World} {b : Nat} (h : Below B a w) (hb : B ≤ b) (v0 v1 v2 v3 v4 v5 v6 v7 : Value) : Below B a (set8 w b v0 v1 v2 v3 v4 v5 v6 v7) :=
  (((((((h.setCell (p := ⟨b, 0, none⟩) hb _).setCell (p := ⟨b, 1, none⟩) hb _).setCell (p := ⟨b, 2, none⟩) hb _).setCell (p := ⟨b, 3, none⟩) hb _).setCell (p := ⟨b, 4, none⟩) hb _).setCell (p := ⟨b, 5, none⟩) hb _).setCell (p := ⟨b, 6, none⟩) hb _).setCell (p := ⟨b, 7, none⟩) hb _
theorem load8 {w : World} {b : Nat} {v0 v1 v2 v3 v4 v5 v6 v7 : Value} {e : TypeId} {f : Nat × Nat} (h : w.heap[b]? = some (.cells #[v0, v1, v2, v3, v4, v5, v6, v7] e f)) :
    w.cell? ⟨b, 0, none⟩ = some v0 ∧ w.cell? ⟨b, 1, none⟩ = some v1 ∧ w.cell? ⟨b, 2, none⟩ = some v2 ∧ w.cell? ⟨b, 3, none⟩ = some v3 ∧ w.cell? ⟨b, 4, none⟩ = some v4 ∧ w.cell? ⟨b, 5, none⟩ = some v5 ∧ w.cell? ⟨b, 6, none⟩ = some v6 ∧ w.cell? ⟨b, 7, none⟩ = some v7 :=
  ⟨cell_of h 0, cell_of h 1, cell_of h 2, cell_of h 3, cell_of h 4, cell_of h 5, cell_of h 6, cell_of h 7⟩

/-- What ParseKey answers. -/
def parsed (s : ByteArray) : Value := if keyB s then .tuple #[.agg (keyArr s.data.toList), .bool true] else .tuple #[.agg (keyArr []), .bool false]

theorem parsed_no {s : ByteArray} (h : keyB s = false) : parsed s = .tuple #[.agg (keyArr []), .bool false] := by simp [parsed, h]
theorem parsed_yes {s : ByteArray} (h : keyB s = true) : parsed s = .tuple #[.agg (keyArr s.data.toList), .bool true] := by simp [parsed, h]

set_option maxHeartbeats 1000000 in
theorem parse_any (s : ByteArray) (w : World) (hs : s.size ≤ maxLen) :
    Calls Tryz.prog 51 #[.string s] w fun e w' => e = .returned (parsed s) ∧ Below w.heap.size w w' := by
  unfold maxLen at hs
  by_cases h1 : s.size < 1
  · have HP := hide (parsed_no (s := s) (by simp [keyB]; omega))
    go_enter Tryz.func51, Tryz.ntmps51
    go_wp2
    refine bodyPost_ret (v := .tuple #[.agg (keyArr []), .bool false]) (by simp [results, Tryz.results51, go_sem]; rfl) rfl ⟨by rw [unhide HP], ?_⟩
    exact (Below.refl _ _).alloc (Nat.le_refl _) _
  · by_cases h2 : 8 < s.size
    · have HP := hide (parsed_no (s := s) (by simp [keyB]; omega))
      go_enter Tryz.func51, Tryz.ntmps51
      go_wp2
      refine bodyPost_ret (v := .tuple #[.agg (keyArr []), .bool false]) (by simp [results, Tryz.results51, go_sem]; rfl) rfl ⟨by rw [unhide HP], ?_⟩
      exact (Below.refl _ _).alloc (Nat.le_refl _) _
    · have d1 : decide ((s.size : Int) < 1) = false := by simp; omega
      have d2 : decide (8 < (s.size : Int)) = false := by simp; omega
      go_enter Tryz.func51, Tryz.ntmps51
      go_wp2
      go_loopw [5] (fun i wr => ∃ k : Nat, k ≤ s.size ∧ i = .int .i64 k ∧ (s.data.toList.take k).all letter = true ∧ wr.heap[w.heap.size + 1]? = some (.cells (keyArr (s.data.toList.take k)) 130 (0, 0)) ∧ wr.heap[w.heap.size]? = some (.cells (keyArr []) 130 (0, 0)) ∧ Below w.heap.size w wr) (fun i _ => s.size - (intOf i).toNat)
      case atStart =>
        refine ⟨0, Nat.zero_le _, rfl, by simp, ?_, ?_, ((Below.refl _ _).alloc (Nat.le_refl _) _).alloc (by simp) _⟩
        · have := heap_alloc_new (w.alloc (.cells (keyArr []) 130)) (.cells (keyArr []) 130)
          rw [show (w.alloc (.cells (keyArr []) 130)).heap.size = w.heap.size + 1 by simp] at this
          exact this
        · have := heap_alloc_new w (.cells (keyArr []) 130)
          rw [Below.heap_alloc _ _ _ (by simp)]
          exact this
      case round =>
        obtain ⟨k, hk, rfl, ha, hb1, hb0, hbel⟩ := hrel
        have HA := hide ha
        clear ha
        by_cases hlt : k < s.size
        · have HS := hide (all_take_succ s k hlt)
          have HF := hide (all_false s k hlt)
          by_cases h3 : s[k].toNat < 97
          · have hb : (s[k].toNat : Int) < 97 := by omega
            have HP := hide (parsed_no (s := s) (by have := unhide HF (by simp [letter]; omega); simp [keyB, this]))
            have f0 := fun i => frozen_of hb0 i
            obtain ⟨k0, k1, k2, k3, k4, k5, k6, k7⟩ := load8 hb0
            go_wp2
            have hN := set8_heap hb0 (.int .u8 0) (.int .u8 0) (.int .u8 0) (.int .u8 0) (.int .u8 0) (.int .u8 0) (.int .u8 0) (.int .u8 0)
            have hB := set8_below hbel (Nat.le_refl _) (.int .u8 0) (.int .u8 0) (.int .u8 0) (.int .u8 0) (.int .u8 0) (.int .u8 0) (.int .u8 0) (.int .u8 0)
            unfold set8 at hN hB
            generalize World.setCell _ _ _ = W8 at *
            obtain ⟨m0, m1, m2, m3, m4, m5, m6, m7⟩ := load8 hN
            refine bodyPost_ret (v := .tuple #[.agg (keyArr []), .bool false]) (by simp [results, Tryz.results51, go_sem, m0, m1, m2, m3, m4, m5, m6, m7]; rfl) rfl ⟨by rw [unhide HP], ?_⟩
            exact hB
          · by_cases h4 : s[k].toNat ≤ 122
            · have hb : ¬ (s[k].toNat : Int) < 97 := by omega
              have hb2 : ¬ (122 < (s[k].toNat : Int)) := by omega
              have hcell := cell_of hb1 k
              rw [keyArr_get _ _ (by omega)] at hcell
              have hfro := frozen_of hb1 k
              have hk8 : k < 8 := by omega
              have HB1 := hide hb1
              have HB0 := hide hb0
              have HBE := hide hbel
              clear hb1 hb0 hbel
              go_wp2
              go_roundw
              case rel =>
                refine ⟨k + 1, by omega, by go_num, by rw [unhide HS, unhide HA]; simp [letter]; omega, ?_, ?_, (unhide HBE).setCell (by simp) _⟩
                · rw [heap_setCell_same (unhide HB1), take_snoc s k hlt, ← keyArr_set _ _ (by rw [len_take s k hk]; omega), len_take s k hk]
                · rw [Below.heap_setCell _ _ _ _ (by simp)]; exact unhide HB0
              case measure => simp [intOf]; omega
            · have hb : ¬ (s[k].toNat : Int) < 97 := by omega
              have hb2 : (122 < (s[k].toNat : Int)) := by omega
              have HP := hide (parsed_no (s := s) (by have := unhide HF (by simp [letter]; omega); simp [keyB, this]))
              have f0 := fun i => frozen_of hb0 i
              obtain ⟨k0, k1, k2, k3, k4, k5, k6, k7⟩ := load8 hb0
              go_wp2
              have hN := set8_heap hb0 (.int .u8 0) (.int .u8 0) (.int .u8 0) (.int .u8 0) (.int .u8 0) (.int .u8 0) (.int .u8 0) (.int .u8 0)
              have hB := set8_below hbel (Nat.le_refl _) (.int .u8 0) (.int .u8 0) (.int .u8 0) (.int .u8 0) (.int .u8 0) (.int .u8 0) (.int .u8 0) (.int .u8 0)
              unfold set8 at hN hB
              generalize World.setCell _ _ _ = W8 at *
              obtain ⟨m0, m1, m2, m3, m4, m5, m6, m7⟩ := load8 hN
              refine bodyPost_ret (v := .tuple #[.agg (keyArr []), .bool false]) (by simp [results, Tryz.results51, go_sem, m0, m1, m2, m3, m4, m5, m6, m7]; rfl) rfl ⟨by rw [unhide HP], ?_⟩
              exact hB
        · have hkl : s.data.toList.take k = s.data.toList := List.take_of_length_le (by simp; omega)
          rw [hkl] at hb1
          have HP := hide (parsed_yes (s := s) (by have := unhide HA; rw [hkl] at this; simp [keyB, this]; omega))
          clear hkl
          have f0 := fun i => frozen_of hb0 i
          obtain ⟨k0, k1, k2, k3, k4, k5, k6, k7⟩ := load8 hb0
          obtain ⟨j0, j1, j2, j3, j4, j5, j6, j7⟩ := load8 hb1
          go_wp2
          have hN := set8_heap hb0 (.int .u8 (byteAt s.data.toList 0)) (.int .u8 (byteAt s.data.toList 1)) (.int .u8 (byteAt s.data.toList 2)) (.int .u8 (byteAt s.data.toList 3)) (.int .u8 (byteAt s.data.toList 4)) (.int .u8 (byteAt s.data.toList 5)) (.int .u8 (byteAt s.data.toList 6)) (.int .u8 (byteAt s.data.toList 7))
          have hB := set8_below hbel (Nat.le_refl _) (.int .u8 (byteAt s.data.toList 0)) (.int .u8 (byteAt s.data.toList 1)) (.int .u8 (byteAt s.data.toList 2)) (.int .u8 (byteAt s.data.toList 3)) (.int .u8 (byteAt s.data.toList 4)) (.int .u8 (byteAt s.data.toList 5)) (.int .u8 (byteAt s.data.toList 6)) (.int .u8 (byteAt s.data.toList 7))
          unfold set8 at hN hB
          generalize World.setCell _ _ _ = W8 at *
          obtain ⟨m0, m1, m2, m3, m4, m5, m6, m7⟩ := load8 hN
          refine bodyPost_ret (v := .tuple #[.agg (keyArr s.data.toList), .bool true]) (by simp [results, Tryz.results51, go_sem, m0, m1, m2, m3, m4, m5, m6, m7]; rfl) rfl ⟨by rw [unhide HP], ?_⟩
          exact hB

end Go.Proofs.YtpnkmnmchdabkaaGreat
