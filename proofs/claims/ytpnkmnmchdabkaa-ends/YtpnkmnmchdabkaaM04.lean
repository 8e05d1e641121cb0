import Derived.Test.YtpnkmnmchdabkaaM01
import Derived.Test.YtpnkmnmchdabkaaM00
namespace Go.Proofs.Ytpnkmnmchdabkaa
open Go.RowKit

/-- A record more in shard k, behind the append and the store of what it answered. -/
theorem GrpAt.addRec {w w2 : World} {ρ : Nat → Nat} {gb : Nat} {C : Cfg} {now : Rest} {bs cap : Nat} {m : List Cs} (h : GrpAt w ρ gb C now (.slice (some ⟨bs, 0, none⟩) m.length cap) m) (hf : Fits w ρ) (hm : m.length ≤ 16)
    (k : Nat) (s : Cs) (hk : m[k]? = some s) (W : World) (hWk : Keeps (fun _ => False) w W) (hgrow : W.grownBy w2 s.rv.ownBlock) (g cap2 : Nat) (r : Rc)
    (hown : w2.ownsRow 0 145 10 (.slice (some ⟨g, 0, none⟩) (s.s.cnt + 1) cap2) (s.s.cnt + 1) (rcRow (s.s.rl ++ [r]))) (hat : s.rv.ownBlock = some g ∨ g = W.heap.size) :
    GrpPost w ρ gb C now ((m.map (·.s)).set k { s.s with rl := s.s.rl ++ [r] }) (w2.setCell ⟨bs, k * 5 + 4, none⟩ (.slice (some ⟨g, 0, none⟩) (s.s.cnt + 1) cap2)) := by
  have hgb := lt_of_heap h.blk
  have hbs : ρ bs = 2 := h.log.rowT bs rfl
  have hbsl : bs < w.heap.size := (h.log.row.lt bs rfl).2
  have hkl : k < m.length := (List.getElem?_eq_some_iff.1 hk).1
  have hWs := hWk.size
  have hg2 : g < w2.heap.size := by
    obtain ⟨g', cap', cur, hv, _, hg, _⟩ := ownsRow_shape hown (by omega)
    cases hv; exact lt_of_heap hg
  have hrv : ∀ j, s.rv.ownBlock = some j → ρ j = 4 + 2 * k ∧ j < w.heap.size := fun j hj => by
    obtain ⟨xs, hx⟩ := h.log.rcs k s hk
    exact ⟨h.log.rcT k s hk j hj, (hx.lt j hj).2⟩
  -- what was there, and is not the records' row
  have old : ∀ j, j < w.heap.size → ρ j ≠ 4 + 2 * k → w2.heap[j]? = w.heap[j]? := by
    intro j hj hne
    rw [hgrow.block j (by omega) (fun e => hne (hrv j e.symm).1), hWk.block j hj (fun h => h)]
  have gtag : g < w.heap.size → ρ g = 4 + 2 * k := by
    intro hlt
    rcases hat with e | e
    · exact (hrv g e).1
    · omega
  have tagOf : ∀ j, j < w.heap.size → (if j = g then 4 + 2 * k else ρ j) = ρ j := by
    intro j hj
    split
    · rename_i e; subst e; exact (gtag hj).symm
    · rfl
  have keepO : ∀ {e : TypeId} {size : Nat} {u : Value} {n : Nat} {ys : List Value} {t : Nat}, w.ownsRow 0 e size u n ys → (∀ j, u.ownBlock = some j → ρ j = t) → t ≠ 4 + 2 * k → t ≠ 2 →
      (w2.setCell ⟨bs, k * 5 + 4, none⟩ (.slice (some ⟨g, 0, none⟩) (s.s.cnt + 1) cap2)).ownsRow 0 e size u n ys := by
    intro e size u n ys t ho ht h3 h4
    refine ownsRow_of_block ho fun j hj => ?_
    rw [Below.heap_setCell _ _ _ _ (by rintro rfl; have := ht _ hj; omega), old j (ho.lt j hj).2 (by rw [ht j hj]; exact h3)]
  have hrow : w2.ownsRow 0 141 5 (.slice (some ⟨bs, 0, none⟩) m.length cap) m.length (logCells m) := by
    refine ownsRow_of_block h.log.row fun j hj => ?_
    have := h.log.rowT j hj
    exact old j (h.log.row.lt j hj).2 (by omega)
  have hgbs : g ≠ bs := by
    rintro rfl
    have := gtag hbsl
    omega
  refine ⟨fun j => if j = g then 4 + 2 * k else ρ j, .slice (some ⟨bs, 0, none⟩) m.length cap, m.set k ⟨{ s.s with rl := s.s.rl ++ [r] }, s.pv, .slice (some ⟨g, 0, none⟩) (s.s.cnt + 1) cap2⟩, by rw [List.map_set], ⟨?_, ?_, ⟨?_, ?_, ?_, ?_, ?_, ?_⟩, keepO h.wk h.wkT (by omega) (by omega), fun j hj => (tagOf j (h.wk.lt j hj).2).trans (h.wkT j hj), h.dnL, h.lsL⟩, ?_, ?_, ?_⟩
  · rw [Below.heap_setCell _ _ _ _ (by rintro rfl; have := h.tag; omega), old gb hgb (by rw [h.tag]; omega)]
    exact h.blk
  · show (if gb = g then _ else ρ gb) = 1
    rw [tagOf gb hgb]; exact h.tag
  · have := (World.ownsRow.stored hrow (k * 5 + 4) (.slice (some ⟨g, 0, none⟩) (s.s.cnt + 1) cap2)).1
    rw [logCells_set m k 4 (by omega) s ⟨{ s.s with rl := s.s.rl ++ [r] }, s.pv, .slice (some ⟨g, 0, none⟩) (s.s.cnt + 1) cap2⟩ hk _ rfl] at this
    simpa using this
  · intro j hj
    simp [Value.ownBlock] at hj
    subst hj
    show (if bs = g then _ else ρ bs) = 2
    rw [tagOf bs hbsl]; exact hbs
  · intro i t ht
    rw [List.getElem?_set] at ht
    split at ht
    · rename_i e; subst e
      cases ht
      exact keepO (h.log.par k s hk) (h.log.parT k s hk) (by omega) (by omega)
    · exact keepO (h.log.par i t ht) (h.log.parT i t ht) (by omega) (by omega)
  · intro i t ht j hj
    rw [List.getElem?_set] at ht
    show (if j = g then _ else ρ j) = _
    split at ht
    · rename_i e; subst e
      cases ht
      rw [tagOf j ((h.log.par k s hk).lt j hj).2]; exact h.log.parT k s hk j hj
    · rw [tagOf j ((h.log.par i t ht).lt j hj).2]; exact h.log.parT i t ht j hj
  · intro i t ht
    rw [List.getElem?_set] at ht
    split at ht
    · rename_i e; subst e
      cases ht
      rw [Sh.cnt_add]
      refine ownsRow_of_block hown fun j hj => Below.heap_setCell _ _ _ _ ?_
      simp [Value.ownBlock] at hj
      subst hj
      exact hgbs
    · exact keepO (h.log.rcv i t ht) (h.log.rcT i t ht) (by omega) (by omega)
  · intro i t ht j hj
    rw [List.getElem?_set] at ht
    show (if j = g then _ else ρ j) = _
    split at ht
    · rename_i e; subst e
      cases ht
      simp [Value.ownBlock] at hj
      subst hj
      rw [if_pos rfl]
    · obtain ⟨ys, hy⟩ := h.log.rcs i t ht
      rw [tagOf j (hy.lt j hj).2]; exact h.log.rcT i t ht j hj
  · refine ⟨?_, ?_, ?_, ?_, ?_⟩
    · show w2.os = w.os; rw [hgrow.os, hWk.os]
    · show w2.tape = w.tape; rw [hgrow.tape, hWk.tape]
    · show w2.output = w.output; rw [hgrow.output, hWk.output]
    · have := hgrow.size; simp [World.setCell]; omega
    · intro j hj hs
      rw [Below.heap_setCell _ _ _ _ (by rintro rfl; exact hs (by unfold mine; omega)), old j hj (fun e => hs (by unfold mine; omega))]
  · refine ⟨fun j hj => tagOf j hj, fun j hj => ?_⟩
    show (if j = g then _ else ρ j) < 100
    split
    · omega
    · rw [hf j hj]; omega
  · intro j hj
    have hj' : w2.heap.size ≤ j := by simpa [World.setCell] using hj
    show (if j = g then _ else ρ j) = 0
    have := hgrow.size
    rw [if_neg (by omega)]
    exact hf j (by omega)

end Go.Proofs.Ytpnkmnmchdabkaa
namespace Go.Proofs.Ytpnkmnmchdabkaa
open Go.RowKit

set_option maxHeartbeats 400000 in
theorem home_any (b off bs n cap : Nat) (lo hi : Nat → Int) (op : Nat → Bool) (h : Int) (w : World) (hn0 : 0 < n) (hn : n ≤ 100)
    (c : w.cell? ⟨b, off, none⟩ = some (.slice (some ⟨bs, 0, none⟩) n cap))
    (c0 : ∀ i, i < n → w.cell? ⟨bs, i * 5, none⟩ = some (.int .i64 (lo i))) (c1 : ∀ i, i < n → w.cell? ⟨bs, i * 5 + 1, none⟩ = some (.int .i64 (hi i))) (c2 : ∀ i, i < n → w.cell? ⟨bs, i * 5 + 2, none⟩ = some (.bool (op i))) :
    Calls Try.prog 104 #[.pointer (some ⟨b, off, none⟩), .int .i64 h] w fun e w' => ∃ k : Nat, e = .returned (.int .i64 k) ∧ w = w' ∧ k < n ∧ (k = 0 ∨ accB (op k) (lo k) (hi k) h = true) ∧ ∀ j, k < j → j < n → accB (op j) (lo j) (hi j) h = false := by
  go_enter Try.func104, Try.ntmps104
  go_wp2_with fail
  go_loop [5] (fun t => ∃ k : Nat, t = .int .i64 k ∧ k < n ∧ ∀ j, k < j → j < n → accB (op j) (lo j) (hi j) h = false) (fun t => (intOf t).toNat)
  case atStart => exact ⟨n - 1, by go_num, by omega, fun j h1 h2 => by omega⟩
  case round =>
    obtain ⟨k, rfl, hk, hj⟩ := hrel
    have Hj := hj
    clear hj
    by_cases hk0 : 0 < k
    · have hh := accepts_any bs (k * 5) (lo k) (hi k) h (op k) w (c0 k hk) (c1 k hk) (c2 k hk)
      cases hB : accB (op k) (lo k) (hi k) h
      · rw [hB] at hh
        have HB := hide hB
        have HH := hide hh
        have HJ := hide Hj
        clear hB hh Hj
        go_wp2_with (go_at_call 114; refine (unhide HH).mono ?_; rintro e w' ⟨rfl, rfl⟩)
        go_round
        case rel =>
          refine ⟨k - 1, by go_num, by omega, fun j h1 h2 => ?_⟩
          by_cases e : j = k
          · subst e; exact unhide HB
          · exact unhide HJ j (by omega) h2
        case measure => simp [intOf]; omega
      · rw [hB] at hh
        have HB := hide hB
        have HH := hide hh
        have HJ := hide Hj
        clear hB hh Hj
        go_wp2_with (go_at_call 114; refine (unhide HH).mono ?_; rintro e w' ⟨rfl, rfl⟩)
        go_ret
        exact ⟨k, rfl, rfl, hk, Or.inr (unhide HB), unhide HJ⟩
    · have HJ := hide Hj
      clear Hj
      go_wp2
      go_ret
      exact ⟨k, rfl, rfl, hk, Or.inl (by omega), unhide HJ⟩

end Go.Proofs.Ytpnkmnmchdabkaa
namespace Go.Proofs.Ytpnkmnmchdabkaa
open Go.RowKit

/-- The hash of the bytes of a text. -/
def hashL (l : List UInt8) : Int := l.foldl (fun h b => (31 * h + (b.toNat : Int)) % 256) 0
def letter (b : UInt8) : Bool := decide (97 ≤ b.toNat ∧ b.toNat ≤ 122)
def keyB (s : ByteArray) : Bool := decide (1 ≤ s.size ∧ s.size ≤ 8) && s.data.toList.all letter

theorem hashL_bd (l : List UInt8) : 0 ≤ hashL l ∧ hashL l < 256 := by
  have : ∀ (l : List UInt8) (h : Int), 0 ≤ h → h < 256 → 0 ≤ l.foldl (fun h b => (31 * h + (b.toNat : Int)) % 256) h ∧ l.foldl (fun h b => (31 * h + (b.toNat : Int)) % 256) h < 256 := by
    intro l
    induction l with
    | nil => intro h a b; exact ⟨a, b⟩
    | cons x r ih => intro h a b; exact ih _ (by show 0 ≤ (31 * h + (x.toNat : Int)) % 256; omega) (by show (31 * h + (x.toNat : Int)) % 256 < 256; omega)
  exact this l 0 (by omega) (by omega)
theorem hashL_snoc (l : List UInt8) (c : UInt8) : hashL (l ++ [c]) = (31 * hashL l + (c.toNat : Int)) % 256 := by simp [hashL]
theorem take_snoc (s : ByteArray) (k : Nat) (h : k < s.size) : s.data.toList.take (k + 1) = s.data.toList.take k ++ [s[k]] := by
  rw [List.take_succ_eq_append_getElem (by simpa using h)]; rfl

theorem all_take_succ (s : ByteArray) (k : Nat) (h : k < s.size) : (s.data.toList.take (k + 1)).all letter = ((s.data.toList.take k).all letter && letter s[k]) := by
  rw [take_snoc s k h, List.all_append]; simp
theorem all_false (s : ByteArray) (k : Nat) (h : k < s.size) (hl : letter s[k] = false) : s.data.toList.all letter = false := by
  rw [List.all_eq_false]
  refine ⟨s[k], ?_, by simp [hl]⟩
  have : s[k] = s.data.toList[k]'(by simpa using h) := rfl
  rw [this]; exact List.getElem_mem _

end Go.Proofs.Ytpnkmnmchdabkaa
namespace Go.Proofs.Ytpnkmnmchdabkaa
open Go.RowKit

/-- The eight bytes of a key, from a list of up to eight. -/
def keyArr (l : List UInt8) : Array Value := #[.int .u8 (byteAt l 0), .int .u8 (byteAt l 1), .int .u8 (byteAt l 2), .int .u8 (byteAt l 3), .int .u8 (byteAt l 4), .int .u8 (byteAt l 5), .int .u8 (byteAt l 6), .int .u8 (byteAt l 7)]

theorem keyArr_get (l : List UInt8) (k : Nat) (hk : k < 8) : (keyArr l)[k]? = some (.int .u8 (byteAt l k)) := by
  match k, hk with
  | 0, _ => rfl
  | 1, _ => rfl
  | 2, _ => rfl
  | 3, _ => rfl
  | 4, _ => rfl
  | 5, _ => rfl
  | 6, _ => rfl
  | 7, _ => rfl
theorem byteAt_bd (l : List UInt8) (k : Nat) : 0 ≤ byteAt l k ∧ byteAt l k < 256 := by
  have := (l[k]?.getD 0).toNat_lt
  unfold byteAt; omega

theorem hash_step (l : List UInt8) (k : Nat) (hk : k < l.length) : hashL (l.take (k + 1)) = (31 * hashL (l.take k) + byteAt l k) % 256 := by
  rw [List.take_succ_eq_append_getElem hk, hashL_snoc]
  simp [byteAt, List.getElem?_eq_getElem hk]

set_option maxRecDepth 100000 in
set_option maxHeartbeats 400000 in
theorem hash_any (l : List UInt8) (w : World) (hl : l.length ≤ 8) (hz : ∀ b ∈ l, b.toNat ≠ 0) :
    Calls Try.prog 103 #[.agg (keyArr l)] w fun e w' => e = .returned (.int .i64 (hashL l)) ∧ Below w.heap.size w w' := by
  have hc : ∀ k, k < 8 → (w.alloc (.cells (keyArr l) 143)).cell? ⟨w.heap.size, k, none⟩ = some (.int .u8 (byteAt l k)) := by
    intro k hk
    rw [cell_of (heap_alloc_new w _), keyArr_get l k hk]
  have hb : Below w.heap.size w (w.alloc (.cells (keyArr l) 143)) := (Below.refl _ _).alloc (Nat.le_refl _) _
  have HZ : Hid (∀ k, k < l.length → byteAt l k ≠ 0) := by
    intro k hk h
    have := hz _ (List.getElem_mem hk)
    simp only [byteAt, List.getElem?_eq_getElem hk, Option.getD_some] at h
    omega
  have HO : Hid (∀ k, l.length ≤ k → byteAt l k = 0) := by
    intro k hk
    simp [byteAt, List.getElem?_eq_none hk]
  unfold keyArr at hc hb ⊢
  clear hz
  go_enter Try.func103, Try.ntmps103
  go_wp2
  generalize World.alloc w _ = W at *
  go_loop [3, 4] (fun n i => ∃ k : Nat, k ≤ l.length ∧ i = .int .i64 k ∧ n = .int .i64 (hashL (l.take k))) (fun _ i => l.length - (intOf i).toNat)
  case atStart => exact ⟨0, Nat.zero_le _, rfl, rfl⟩
  case round =>
    obtain ⟨k, hk, rfl, rfl⟩ := hrel
    obtain ⟨hd1, hd2⟩ := hashL_bd (l.take k)
    by_cases hlt : k < l.length
    · have HS := hide (hash_step l k hlt)
      obtain ⟨hb1, hb2⟩ := byteAt_bd l k
      have hck := hc k (by omega)
      have hk8 : k < 8 := by omega
      have hne : (byteAt l k != 0) = true := by rw [bne_iff_ne]; exact unhide HZ k hlt
      clear hc
      go_wp2
      go_round
      case rel => exact ⟨k + 1, by omega, by go_num, by rw [unhide HS]⟩
      case measure => simp [intOf]; omega
    · have hkl : k = l.length := by omega
      have HK := hide hkl
      clear hkl
      by_cases hk8 : k < 8
      · have hck := hc k hk8
        have hne : (byteAt l k != 0) = false := by rw [unhide HO k (by omega)]; rfl
        clear hc
        go_wp2
        go_ret
        exact ⟨ret_int (by rw [unhide HK, List.take_length]), hb⟩
      · go_wp2
        go_ret
        exact ⟨ret_int (by rw [unhide HK, List.take_length]), hb⟩

theorem keyArr_set (l : List UInt8) (c : UInt8) (hk : l.length < 8) : (keyArr l).setIfInBounds l.length (.int .u8 (c.toNat : Int)) = keyArr (l ++ [c]) := by
  match l, hk with
  | [], _ => rfl
  | [_], _ => rfl
  | [_, _], _ => rfl
  | [_, _, _], _ => rfl
  | [_, _, _, _], _ => rfl
  | [_, _, _, _, _], _ => rfl
  | [_, _, _, _, _, _], _ => rfl
  | [_, _, _, _, _, _, _], _ => rfl

theorem len_take (s : ByteArray) (k : Nat) (hk : k ≤ s.size) : (s.data.toList.take k).length = k := by
  rw [List.length_take]; have : s.data.toList.length = s.size := by simp
  omega

/-- A row of eight cells, all of them written. -/
def set8 (w : World) (b : Nat) (v0 v1 v2 v3 v4 v5 v6 v7 : Value) : World :=
  (((((((w.setCell ⟨b, 0, none⟩ v0).setCell ⟨b, 1, none⟩ v1).setCell ⟨b, 2, none⟩ v2).setCell ⟨b, 3, none⟩ v3).setCell ⟨b, 4, none⟩ v4).setCell ⟨b, 5, none⟩ v5).setCell ⟨b, 6, none⟩ v6).setCell ⟨b, 7, none⟩ v7
theorem set8_heap {w : World} {b : Nat} {l : List UInt8} {e : TypeId} (h : w.heap[b]? = some (.cells (keyArr l) e (0, 0))) (v0 v1 v2 v3 v4 v5 v6 v7 : Value) :
    (set8 w b v0 v1 v2 v3 v4 v5 v6 v7).heap[b]? = some (.cells #[v0, v1, v2, v3, v4, v5, v6, v7] e (0, 0)) := by
  unfold set8
  have h := heap_setCell_same (i := 0) h v0
  have h := heap_setCell_same (i := 1) h v1
  have h := heap_setCell_same (i := 2) h v2
  have h := heap_setCell_same (i := 3) h v3
  have h := heap_setCell_same (i := 4) h v4
  have h := heap_setCell_same (i := 5) h v5
  have h := heap_setCell_same (i := 6) h v6
  have h := heap_setCell_same (i := 7) h v7
  rw [h]
  simp [keyArr]
theorem set8_below {B : Nat} {a w : World} {b : Nat} (h : Below B a w) (hb : B ≤ b) (v0 v1 v2 v3 v4 v5 v6 v7 : Value) : Below B a (set8 w b v0 v1 v2 v3 v4 v5 v6 v7) :=
  (((((((h.setCell (p := ⟨b, 0, none⟩) hb _).setCell (p := ⟨b, 1, none⟩) hb _).setCell (p := ⟨b, 2, none⟩) hb _).setCell (p := ⟨b, 3, none⟩) hb _).setCell (p := ⟨b, 4, none⟩) hb _).setCell (p := ⟨b, 5, none⟩) hb _).setCell (p := ⟨b, 6, none⟩) hb _).setCell (p := ⟨b, 7, none⟩) hb _
theorem load8 {w : World} {b : Nat} {v0 v1 v2 v3 v4 v5 v6 v7 : Value} {e : TypeId} {f : Nat × Nat} (h : w.heap[b]? = some (.cells #[v0, v1, v2, v3, v4, v5, v6, v7] e f)) :
    w.cell? ⟨b, 0, none⟩ = some v0 ∧ w.cell? ⟨b, 1, none⟩ = some v1 ∧ w.cell? ⟨b, 2, none⟩ = some v2 ∧ w.cell? ⟨b, 3, none⟩ = some v3 ∧ w.cell? ⟨b, 4, none⟩ = some v4 ∧ w.cell? ⟨b, 5, none⟩ = some v5 ∧ w.cell? ⟨b, 6, none⟩ = some v6 ∧ w.cell? ⟨b, 7, none⟩ = some v7 :=
  ⟨cell_of h 0, cell_of h 1, cell_of h 2, cell_of h 3, cell_of h 4, cell_of h 5, cell_of h 6, cell_of h 7⟩

/-- What ParseKey answers. -/
def parsed (s : ByteArray) : Value := if keyB s then .tuple #[.agg (keyArr s.data.toList), .bool true] else .tuple #[.agg (keyArr []), .bool false]

theorem parsed_no {s : ByteArray} (h : keyB s = false) : parsed s = .tuple #[.agg (keyArr []), .bool false] := by simp [parsed, h]
theorem parsed_yes {s : ByteArray} (h : keyB s = true) : parsed s = .tuple #[.agg (keyArr s.data.toList), .bool true] := by simp [parsed, h]

set_option maxHeartbeats 1000000 in
theorem parse_any (s : ByteArray) (w : World) (hs : s.size ≤ maxLen) :
    Calls Try.prog 95 #[.string s] w fun e w' => e = .returned (parsed s) ∧ Below w.heap.size w w' := by
  unfold maxLen at hs
  by_cases h1 : s.size < 1
  · have HP := hide (parsed_no (s := s) (by simp [keyB]; omega))
    go_enter Try.func95, Try.ntmps95
    go_wp2
    refine bodyPost_ret (v := .tuple #[.agg (keyArr []), .bool false]) (by simp [results, Try.results95, go_sem]; rfl) rfl ⟨by rw [unhide HP], ?_⟩
    exact (Below.refl _ _).alloc (Nat.le_refl _) _
  · by_cases h2 : 8 < s.size
    · have HP := hide (parsed_no (s := s) (by simp [keyB]; omega))
      go_enter Try.func95, Try.ntmps95
      go_wp2
      refine bodyPost_ret (v := .tuple #[.agg (keyArr []), .bool false]) (by simp [results, Try.results95, go_sem]; rfl) rfl ⟨by rw [unhide HP], ?_⟩
      exact (Below.refl _ _).alloc (Nat.le_refl _) _
    · have d1 : decide ((s.size : Int) < 1) = false := by simp; omega
      have d2 : decide (8 < (s.size : Int)) = false := by simp; omega
      go_enter Try.func95, Try.ntmps95
      go_wp2
      go_loopw [5] (fun i wr => ∃ k : Nat, k ≤ s.size ∧ i = .int .i64 k ∧ (s.data.toList.take k).all letter = true ∧ wr.heap[w.heap.size + 1]? = some (.cells (keyArr (s.data.toList.take k)) 143 (0, 0)) ∧ wr.heap[w.heap.size]? = some (.cells (keyArr []) 143 (0, 0)) ∧ Below w.heap.size w wr) (fun i _ => s.size - (intOf i).toNat)
      case atStart =>
        refine ⟨0, Nat.zero_le _, rfl, by simp, ?_, ?_, ((Below.refl _ _).alloc (Nat.le_refl _) _).alloc (by simp) _⟩
        · have := heap_alloc_new (w.alloc (.cells (keyArr []) 143)) (.cells (keyArr []) 143)
          rw [show (w.alloc (.cells (keyArr []) 143)).heap.size = w.heap.size + 1 by simp] at this
          exact this
        · have := heap_alloc_new w (.cells (keyArr []) 143)
          rw [Below.heap_alloc _ _ _ (by simp)]
          exact this
      case round =>
        obtain ⟨k, hk, rfl, ha, hb1, hb0, hbel⟩ := hrel
        have HA := hide ha
        clear ha
        by_cases hlt : k < s.size
        · have HS := hide (all_take_succ s k hlt)
          have HF := hide (all_false s k hlt)
          by_cases h3 : s[k].toNat < 97
          · have hb : (s[k].toNat : Int) < 97 := by omega
            have HP := hide (parsed_no (s := s) (by have := unhide HF (by simp [letter]; omega); simp [keyB, this]))
            have f0 := fun i => frozen_of hb0 i
            obtain ⟨k0, k1, k2, k3, k4, k5, k6, k7⟩ := load8 hb0
            go_wp2
            have hN := set8_heap hb0 (.int .u8 0) (.int .u8 0) (.int .u8 0) (.int .u8 0) (.int .u8 0) (.int .u8 0) (.int .u8 0) (.int .u8 0)
            have hB := set8_below hbel (Nat.le_refl _) (.int .u8 0) (.int .u8 0) (.int .u8 0) (.int .u8 0) (.int .u8 0) (.int .u8 0) (.int .u8 0) (.int .u8 0)
            unfold set8 at hN hB
            generalize World.setCell _ _ _ = W8 at *
            obtain ⟨m0, m1, m2, m3, m4, m5, m6, m7⟩ := load8 hN
            refine bodyPost_ret (v := .tuple #[.agg (keyArr []), .bool false]) (by simp [results, Try.results95, go_sem, m0, m1, m2, m3, m4, m5, m6, m7]; rfl) rfl ⟨by rw [unhide HP], ?_⟩
            exact hB
          · by_cases h4 : s[k].toNat ≤ 122
            · have hb : ¬ (s[k].toNat : Int) < 97 := by omega
              have hb2 : ¬ (122 < (s[k].toNat : Int)) := by omega
              have hcell := cell_of hb1 k
              rw [keyArr_get _ _ (by omega)] at hcell
              have hfro := frozen_of hb1 k
              have hk8 : k < 8 := by omega
              have HB1 := hide hb1
              have HB0 := hide hb0
              have HBE := hide hbel
              clear hb1 hb0 hbel
              go_wp2
              go_roundw
              case rel =>
                refine ⟨k + 1, by omega, by go_num, by rw [unhide HS, unhide HA]; simp [letter]; omega, ?_, ?_, (unhide HBE).setCell (by simp) _⟩
                · rw [heap_setCell_same (unhide HB1), take_snoc s k hlt, ← keyArr_set _ _ (by rw [len_take s k hk]; omega), len_take s k hk]
                · rw [Below.heap_setCell _ _ _ _ (by simp)]; exact unhide HB0
              case measure => simp [intOf]; omega
            · have hb : ¬ (s[k].toNat : Int) < 97 := by omega
              have hb2 : (122 < (s[k].toNat : Int)) := by omega
              have HP := hide (parsed_no (s := s) (by have := unhide HF (by simp [letter]; omega); simp [keyB, this]))
              have f0 := fun i => frozen_of hb0 i
              obtain ⟨k0, k1, k2, k3, k4, k5, k6, k7⟩ := load8 hb0
              go_wp2
              have hN := set8_heap hb0 (.int .u8 0) (.int .u8 0) (.int .u8 0) (.int .u8 0) (.int .u8 0) (.int .u8 0) (.int .u8 0) (.int .u8 0)
              have hB := set8_below hbel (Nat.le_refl _) (.int .u8 0) (.int .u8 0) (.int .u8 0) (.int .u8 0) (.int .u8 0) (.int .u8 0) (.int .u8 0) (.int .u8 0)
              unfold set8 at hN hB
              generalize World.setCell _ _ _ = W8 at *
              obtain ⟨m0, m1, m2, m3, m4, m5, m6, m7⟩ := load8 hN
              refine bodyPost_ret (v := .tuple #[.agg (keyArr []), .bool false]) (by simp [results, Try.results95, go_sem, m0, m1, m2, m3, m4, m5, m6, m7]; rfl) rfl ⟨by rw [unhide HP], ?_⟩
              exact hB
        · have hkl : s.data.toList.take k = s.data.toList := List.take_of_length_le (by simp; omega)
          rw [hkl] at hb1
          have HP := hide (parsed_yes (s := s) (by have := unhide HA; rw [hkl] at this; simp [keyB, this]; omega))
          clear hkl
          have f0 := fun i => frozen_of hb0 i
          obtain ⟨k0, k1, k2, k3, k4, k5, k6, k7⟩ := load8 hb0
          obtain ⟨j0, j1, j2, j3, j4, j5, j6, j7⟩ := load8 hb1
          go_wp2
          have hN := set8_heap hb0 (.int .u8 (byteAt s.data.toList 0)) (.int .u8 (byteAt s.data.toList 1)) (.int .u8 (byteAt s.data.toList 2)) (.int .u8 (byteAt s.data.toList 3)) (.int .u8 (byteAt s.data.toList 4)) (.int .u8 (byteAt s.data.toList 5)) (.int .u8 (byteAt s.data.toList 6)) (.int .u8 (byteAt s.data.toList 7))
          have hB := set8_below hbel (Nat.le_refl _) (.int .u8 (byteAt s.data.toList 0)) (.int .u8 (byteAt s.data.toList 1)) (.int .u8 (byteAt s.data.toList 2)) (.int .u8 (byteAt s.data.toList 3)) (.int .u8 (byteAt s.data.toList 4)) (.int .u8 (byteAt s.data.toList 5)) (.int .u8 (byteAt s.data.toList 6)) (.int .u8 (byteAt s.data.toList 7))
          unfold set8 at hN hB
          generalize World.setCell _ _ _ = W8 at *
          obtain ⟨m0, m1, m2, m3, m4, m5, m6, m7⟩ := load8 hN
          refine bodyPost_ret (v := .tuple #[.agg (keyArr s.data.toList), .bool true]) (by simp [results, Try.results95, go_sem, m0, m1, m2, m3, m4, m5, m6, m7]; rfl) rfl ⟨by rw [unhide HP], ?_⟩
          exact hB

end Go.Proofs.Ytpnkmnmchdabkaa
