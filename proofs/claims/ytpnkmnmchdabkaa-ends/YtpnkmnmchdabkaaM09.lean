import Derived.Test.YtpnkmnmchdabkaaM08
import Derived.Test.YtpnkmnmchdabkaaM01
import Derived.Test.YtpnkmnmchdabkaaM00
import Derived.Deep.DeepMust
import Derived.Deep.MidRow
import Derived.Deep.WholeRow
import Derived.Laws.ResultCell
import Derived.Deep.DrawnRows
namespace Go.Proofs.Ytpnkmnmchdabkaa
open Go.RowKit
attribute [local go_sem ↓] Go.wp_at_zero Go.wp_at_succ

theorem info82 : (Try.prog.info? 65).map (fun i => (i.zero, i.size, i.bytes)) = some (some (.agg #[.int .i64 0, .int .i64 0, .bool false, .slice none 0 0, .int .i64 0]), 5, 56) := by kernel_rfl

/-- The cells of a list of shards that came out. -/
def outCells (x : Sh × Value) : List Value := [.int .i64 x.1.lo, .int .i64 x.1.hi, .bool x.1.op, x.2, .int .i64 x.1.cnt]
def listCells : List (Sh × Value) → List Value
  | [] => []
  | s :: r => outCells s ++ listCells r
theorem listCells_append (l k : List (Sh × Value)) : listCells (l ++ k) = listCells l ++ listCells k := by
  induction l with
  | nil => rfl
  | cons s r ih => simp [listCells, ih]
theorem listCells_get (l : List (Sh × Value)) (i j : Nat) (hj : j < 5) (s : Sh × Value) (h : l[i]? = some s) : (listCells l)[i * 5 + j]? = (outCells s)[j]? := by
  induction l generalizing i with
  | nil => simp at h
  | cons x r ih =>
    cases i with
    | zero =>
      simp at h; subst h
      simp only [listCells, Nat.zero_mul, Nat.zero_add]
      rw [List.getElem?_append_left (by simpa [outCells] using hj)]
    | succ i =>
      simp at h
      simp only [listCells]
      rw [List.getElem?_append_right (by simp only [outCells, List.length_cons, List.length_nil]; omega), ← ih i h]
      congr 1
      simp only [outCells, List.length_cons, List.length_nil]; omega

/-- A LIST THAT CAME OUT: its row, the rows of the parents in it, all of them apart, from block B on. -/
structure ListAt (w : World) (B : Nat) (v : Value) (l : List (Sh × Value)) : Prop where
  row : w.ownsRow B 65 5 v l.length (listCells l)
  blk : ∃ g, v.ownBlock = some g
  par : ∀ (i : Nat) (x : Sh × Value), l[i]? = some x → w.ownsRow B 3 1 x.2 x.1.par.length (x.1.par.map (Value.int .i64))
  parS : ∀ (i : Nat) (x : Sh × Value), l[i]? = some x → ∃ g, x.2.ownBlock = some g
  apart : ∀ (i j : Nat) (x y : Sh × Value), i < j → l[i]? = some x → l[j]? = some y → x.2.ownBlock ≠ y.2.ownBlock
  vapart : ∀ (i : Nat) (x : Sh × Value), l[i]? = some x → x.2.ownBlock ≠ v.ownBlock

/-- One more. -/
theorem ListAt.more {wr w2 w3 W : World} {B : Nat} {v : Value} {l : List (Sh × Value)} (h : ListAt wr B v l) (s : Sh) (g cap : Nat)
    (hp : w2.ownsRow wr.heap.size 3 1 (.slice (some ⟨g, 0, none⟩) s.par.length cap) s.par.length (s.par.map (Value.int .i64))) (hb : Below wr.heap.size wr w2) (hB : B ≤ wr.heap.size)
    (hW : Below w2.heap.size w2 W) (g3 cap3 : Nat) (hown : w3.ownsRow B 65 5 (.slice (some ⟨g3, 0, none⟩) (l.length + 1) cap3) (l.length + 1) (listCells l ++ outCells (s, .slice (some ⟨g, 0, none⟩) s.par.length cap)))
    (hgrow : W.grownBy w3 v.ownBlock) (hat : v.ownBlock = some g3 ∨ g3 = W.heap.size) :
    ListAt w3 B (.slice (some ⟨g3, 0, none⟩) (l.length + 1) cap3) (l ++ [(s, .slice (some ⟨g, 0, none⟩) s.par.length cap)]) := by
  have hgl := hp.lt g rfl
  have hv : ∀ q, v.ownBlock = some q → q < wr.heap.size := fun q hq => (h.row.lt q hq).2
  have hWs := hW.size
  have hbs := hb.size
  have g3ge : ∀ q, q < wr.heap.size → v.ownBlock ≠ some q → g3 ≠ q := by
    rintro q hq hne rfl
    rcases hat with e | e
    · exact hne e
    · omega
  have g3g : g3 ≠ g := by
    rintro rfl
    rcases hat with e | e
    · have := hv _ e; omega
    · omega
  have old : ∀ q, q < w2.heap.size → v.ownBlock ≠ some q → w3.heap[q]? = w2.heap[q]? := fun q hq hne => by
    rw [hgrow.block q (by omega) (fun e => hne e.symm), hW.block q hq]
  have lt : ∀ {i : Nat} {x : Sh × Value}, l[i]? = some x → i < l.length := fun hi => (List.getElem?_eq_some_iff.1 hi).1
  have at_ : ∀ {i : Nat} {x : Sh × Value}, (l ++ [(s, Value.slice (some ⟨g, 0, none⟩) s.par.length cap)])[i]? = some x → l[i]? = some x ∨ (i = l.length ∧ x = (s, Value.slice (some ⟨g, 0, none⟩) s.par.length cap)) := by
    intro i x hi
    by_cases hlt : i < l.length
    · rw [List.getElem?_append_left hlt] at hi; exact Or.inl hi
    · rw [List.getElem?_append_right (by omega)] at hi
      have hz : i - l.length = 0 := by
        have := (List.getElem?_eq_some_iff.1 hi).1
        simp at this; omega
      rw [hz] at hi
      simp at hi
      exact Or.inr ⟨by omega, hi.symm⟩
  refine ⟨?_, ⟨g3, rfl⟩, ?_, ?_, ?_, ?_⟩
  · rw [listCells_append]; simp only [listCells, List.append_nil, List.length_append, List.length_cons, List.length_nil]; exact hown
  · intro i x hi
    rcases at_ hi with hi | ⟨_, rfl⟩
    · refine ownsRow_of_block (h.par i x hi) fun q hq => ?_
      have hq2 := ((h.par i x hi).lt q hq).2
      rw [old q (by omega) (fun e => h.vapart i x hi (by rw [hq, e])), hb.block q hq2]
    · refine ownsRow_base (ownsRow_of_block hp fun q hq => ?_) hB
      simp [Value.ownBlock] at hq
      subst hq
      exact old _ hgl.2 (fun e => by have := hv _ e; omega)
  · intro i x hi
    rcases at_ hi with hi | ⟨_, rfl⟩
    · exact h.parS i x hi
    · exact ⟨g, rfl⟩
  · intro i j x y hij hi hj
    rcases at_ hj with hj | ⟨rfl, rfl⟩
    · rcases at_ hi with hi | ⟨rfl, rfl⟩
      · exact h.apart i j x y hij hi hj
      · have := lt hj; omega
    · rcases at_ hi with hi | ⟨rfl, rfl⟩
      · intro e
        have := ((h.par i x hi).lt g e).2
        omega
      · omega
  · intro i x hi
    rcases at_ hi with hi | ⟨_, rfl⟩
    · intro e
      have e' : x.2.ownBlock = Option.some g3 := e
      exact g3ge g3 ((h.par i x hi).lt g3 e').2 (fun e2 => h.vapart i x hi (by rw [e', e2])) rfl
    · intro e
      simp [Value.ownBlock] at e
      exact g3g e.symm

/-- What List leaves. -/
def ListPost (w : World) (l : List Sh) (e : Ending) (w' : World) : Prop :=
  ∃ v k, e = .returned v ∧ k.map (·.1) = l ∧ ListAt w' w.heap.size v k ∧ Below w.heap.size w w'

theorem take_last {m : List Cs} {k : Nat} {s : Cs} (h : m[k]? = some s) : (m.map (·.s)).take (k + 1) = (m.map (·.s)).take k ++ [s.s] := by
  have hk := (List.getElem?_eq_some_iff.1 h).1
  rw [List.take_succ_eq_append_getElem (by simpa using hk)]
  congr 1
  simp [(List.getElem?_eq_some_iff.1 h).2]

set_option maxRecDepth 100000 in
set_option maxHeartbeats 2000000 in
theorem list_any (w : World) (ρ : Nat → Nat) (gb : Nat) (C : Cfg) (now : Rest) (sv : Value) (m : List Cs) (h : GrpAt w ρ gb C now sv m) (hm0 : 0 < m.length) (hm : m.length ≤ 16) (hp : ∀ (i : Nat) (s : Cs), m[i]? = some s → s.s.par.length ≤ 2) :
    Calls Try.prog 63 #[.pointer (some ⟨gb, 7, none⟩)] w (ListPost w (m.map (·.s))) := by
  obtain ⟨c6, f6, _, _, hgb⟩ := h.cells
  obtain ⟨bs, cap, rfl, hbs, hbsl, hcap, hcm, ff, cc⟩ := h.log.shape hm0
  obtain ⟨i0, hi0, hz0, hz1, hz2⟩ := info_parts info82
  have HT : Hid (∀ (i : Nat) (s : Cs) (wr : World), m[i]? = some s → Below w.heap.size w wr → Calls Try.prog 92 #[.pointer (some ⟨bs, i * 5, none⟩)] wr (ToldPost wr s.s.lo s.s.hi s.s.op s.s.par s.s.cnt)) := by
    intro i s wr hi hb
    obtain ⟨a0, a1, a2, a3, a4⟩ := cc i s hi
    obtain ⟨pa, pcap, hpv⟩ := ownsRow_len (h.log.par i s hi)
    obtain ⟨xs, hx⟩ := h.log.rcs i s hi
    obtain ⟨ra, rcap, hrv⟩ := ownsRow_len hx
    have kk : ∀ j, wr.cell? ⟨bs, j, none⟩ = w.cell? ⟨bs, j, none⟩ := fun j => hb.cell (p := ⟨bs, j, none⟩) hbsl
    have hws := hb.size
    refine tell_any bs (i * 5) s.s.lo s.s.hi s.s.op s.s.par s.s.cnt rcap pcap pa ra wr (hp i s hi) (by omega) ((kk _).trans a0) ((kk _).trans a1) ((kk _).trans a2) ((kk _).trans (by rw [a3, hpv])) ((kk _).trans (by rw [a4, hrv])) ?_
    intro j hj
    obtain ⟨g, cap', cur, hv, _, hg, _⟩ := ownsRow_shape (h.log.par i s hi) (by omega)
    rw [hpv] at hv
    injection hv with e1 e2 e3
    refine ⟨g, e1, by have := lt_of_heap hg; omega, ?_⟩
    rw [hb.cell (p := ⟨g, j, none⟩) (lt_of_heap hg)]
    have hrow := h.log.par i s hi
    rw [hpv, e1] at hrow
    rw [World.ownsRow.cellAt hrow j (by omega)]
    simp [hj]
  have HM : Hid (∀ i, i < m.length → ∃ s, m[i]? = some s) := fun i hi => ⟨m[i], List.getElem?_eq_getElem hi⟩
  clear h cc ff hp
  go_enter Try.func63, Try.ntmps63
  go_wp2_with (at_make; refine wpList_make_own _ rfl _ _ 60 rfl w.heap.size 65 i0 _ 5 Try.underlying60 hi0 hz0 hz1 _ _ _ m.length rfl rfl rfl ?bytes ?maxLen ?base ?mk)
  case bytes => rw [hz2]; omega
  case maxLen => unfold maxLen; omega
  case base => exact Nat.le_refl _
  case mk =>
    intro w1 hown hgrow
    have hB : Below w.heap.size w w1 := (Below.refl _ w).grown hgrow (by simp) (fun k h => by cases h)
    have HB := hide hB
    have HO : Hid (ListAt w1 w.heap.size (.slice (some ⟨w.heap.size, 0, none⟩) 0 m.length) []) :=
      ⟨hown, ⟨_, rfl⟩, fun i x hi => by simp at hi, fun i x hi => by simp at hi, fun i j x y _ hi => by simp at hi, fun i x hi => by simp at hi⟩
    have k6 := (hB.cell (p := ⟨gb, 7, none⟩) hgb).trans c6
    clear hown hgrow hB
    go_wp2
    clear k6
    go_loopw [3, 4] (fun p i wr => ∃ (k cap : Nat) (a : Option Addr) (l : List (Sh × Value)), k ≤ m.length ∧ i = .int .i64 k ∧ p = .slice a k cap ∧ l.map (·.1) = (m.map (·.s)).take k ∧ l.length = k ∧ ListAt wr w.heap.size (.slice a k cap) l ∧ Below w.heap.size w wr) (fun _ i _ => m.length - (intOf i).toNat)
    case atStart => exact ⟨0, _, _, [], Nat.zero_le _, rfl, rfl, by simp, rfl, unhide HO, unhide HB⟩
    case round =>
      obtain ⟨k, cap', a, l, hk, rfl, rfl, hl, hlen, hat, hB⟩ := hrel
      have k6 := (hB.cell (p := ⟨gb, 7, none⟩) hgb).trans c6
      by_cases hlt : k < m.length
      · obtain ⟨s, hs⟩ := unhide HM k hlt
        have HT1 := hide (unhide HT k s wr hs hB)
        have HL := hide hl
        have HLe := hide hlen
        have HA := hide hat
        have HBw := hide hB
        have HS := hide hs
        clear hl hlen hat hB hs
        go_wp2_with fail
        refine (unhide HT1).mono ?_
        rintro e w2 ⟨g, pcap, rfl, hp2, hb2⟩
        have HP2 := hide hp2
        have HB2 := hide hb2
        have hgs := hp2.lt g rfl
        have HGS := hide hgs
        clear hp2 hb2 hgs
        go_wp2_with (at_builtin; go_must (refine wpList_append_lies _ rfl _ _ _ rfl w.heap.size 65 i0 _ 5 56 Try.underlying60 hi0 hz0 hz1 hz2 rfl (by omega) _ k (listCells l) rfl ?own ⟨w2.heap.size + 1, 0, none⟩ 1 1 (outCells (s.s, .slice (some ⟨g, 0, none⟩) s.s.par.length pcap)) rfl rfl ?news ?one (by omega) ?h63 ?bytes ?base (w2.heap.size + 2) ?hH ?next))
        case own =>
          have h1 := (unhide HA).row
          rw [unhide HLe] at h1
          exact ((ownsRow_of_block h1 fun q hq => (unhide HB2).block q (h1.lt q hq).2).alloc _).alloc _
        case news =>
          have h1 := heap_alloc_new (w2.alloc (.cells #[.int .i64 s.s.lo, .int .i64 s.s.hi, .bool s.s.op, .slice (some ⟨g, 0, none⟩) s.s.par.length pcap, .int .i64 s.s.cnt] 65)) (.cells #[.int .i64 s.s.lo, .int .i64 s.s.hi, .bool s.s.op, .slice (some ⟨g, 0, none⟩) s.s.par.length pcap, .int .i64 s.s.cnt] 65)
          rw [show (w2.alloc (.cells #[.int .i64 s.s.lo, .int .i64 s.s.hi, .bool s.s.op, .slice (some ⟨g, 0, none⟩) s.s.par.length pcap, .int .i64 s.s.cnt] 65)).heap.size = w2.heap.size + 1 by simp] at h1
          exact World.news_of_block h1
        case one =>
          intro u hu
          simp [outCells] at hu
          rcases hu with rfl | rfl | rfl | rfl | rfl <;> rfl
        case h63 => unfold maxLen; omega
        case bytes => omega
        case base => have := (unhide HB2).size; have := (unhide HBw).size; simp; omega
        case hH => simp
        case next =>
          intro g3 cap3 w3 hown3 hgrow3 hat3 hlt3
          have hW : Below w2.heap.size w2 ((w2.alloc (.cells #[.int .i64 s.s.lo, .int .i64 s.s.hi, .bool s.s.op, .slice (some ⟨g, 0, none⟩) s.s.par.length pcap, .int .i64 s.s.cnt] 65)).alloc (.cells #[.int .i64 s.s.lo, .int .i64 s.s.hi, .bool s.s.op, .slice (some ⟨g, 0, none⟩) s.s.par.length pcap, .int .i64 s.s.cnt] 65)) := ((Below.refl _ w2).alloc (Nat.le_refl _) _).alloc (by simp) _
          have HLL := unhide HLe
          subst HLL
          have HN : Hid (ListAt w3 w.heap.size (.slice (some ⟨g3, 0, none⟩) (l.length + 1) cap3) (l ++ [(s.s, .slice (some ⟨g, 0, none⟩) s.s.par.length pcap)])) :=
            (unhide HA).more s.s g pcap (unhide HP2) (unhide HB2) (unhide HBw).size hW g3 cap3 hown3 hgrow3 (by simpa using hat3)
          have HB3 : Hid (Below w.heap.size w w3) :=
            ((unhide HBw).trans ((unhide HB2).mono (unhide HBw).size)).trans ((hW.mono (by have := (unhide HB2).size; have := (unhide HBw).size; omega)).trans ((Below.refl w.heap.size _).grown hgrow3 (by have := (unhide HB2).size; have := (unhide HBw).size; simp; omega) (fun q hq => ((unhide HA).row.lt q hq).1)))
          clear hown3 hgrow3 hat3 hW
          go_wp2
          go_roundw
          case rel =>
            refine ⟨l.length + 1, cap3, _, _, by omega, by go_num, rfl, ?_, by simp, unhide HN, unhide HB3⟩
            rw [take_last (unhide HS), ← unhide HL]; simp
          case measure => simp [intOf]; omega
      · have hkl : k = m.length := by omega
        have HL := hide hl
        have HA := hide hat
        have HBw := hide hB
        clear hl hat hB
        go_wp2
        go_ret
        refine ⟨_, l, rfl, ?_, unhide HA, unhide HBw⟩
        rw [unhide HL, List.take_of_length_le (by simp; omega)]

end Go.Proofs.Ytpnkmnmchdabkaa
namespace Go.Proofs.Ytpnkmnmchdabkaa
open Go.RowKit

set_option maxHeartbeats 400000 in
theorem within_any (n a b : Int) (w : World) :
    Calls Try.prog 73 #[.int .i64 n, .int .i64 a, .int .i64 b] w fun e w' => e = .returned (.bool (withinB n a b)) ∧ w = w' := by
  by_cases h1 : a ≤ n
  · by_cases h2 : n ≤ b
    all_goals
      go_enter Try.func73, Try.ntmps73
      go_wp2
      go_ret
      exact ⟨by simp [withinB, h1, h2], rfl⟩
  · go_enter Try.func73, Try.ntmps73
    go_wp2
    go_ret
    exact ⟨by simp [withinB]; omega, rfl⟩

set_option maxHeartbeats 400000 in
theorem validWindows_any (n s : Int) (w : World) :
    Calls Try.prog 74 #[.int .i64 n, .int .i64 s] w fun e w' => e = .returned (.bool (winB n s)) ∧ w = w' := by
  cases h1 : withinB n 1 100
  · have H1 := hide h1
    clear h1
    go_enter Try.func74, Try.ntmps74
    go_wp2_with fail
    refine (within_any _ _ _ _).mono ?_; rintro e w' ⟨rfl, rfl⟩
    rw [unhide H1]
    go_wp2_with fail
    refine (within_any _ _ _ _).mono ?_; rintro e w' ⟨rfl, rfl⟩
    go_wp2
    go_ret
    exact ⟨ret_bool (by have := unhide H1; simp [winB, withinB] at *; omega), rfl⟩
  · cases h2 : withinB s 1 n
    · have H1 := hide h1
      have H2 := hide h2
      clear h1 h2
      go_enter Try.func74, Try.ntmps74
      go_wp2_with fail
      refine (within_any _ _ _ _).mono ?_; rintro e w' ⟨rfl, rfl⟩
      rw [unhide H1]
      go_wp2_with fail
      refine (within_any _ _ _ _).mono ?_; rintro e w' ⟨rfl, rfl⟩
      rw [unhide H2]
      go_wp2
      go_ret
      exact ⟨ret_bool (by have := unhide H1; have := unhide H2; simp [winB, withinB] at *; omega), rfl⟩
    · have H1 := hide h1
      have H2 := hide h2
      have b1 : 1 ≤ n ∧ n ≤ 100 := by simpa [withinB] using h1
      have b2 : 1 ≤ s ∧ s ≤ n := by simpa [withinB] using h2
      obtain ⟨b11, b12⟩ := b1
      obtain ⟨b21, b22⟩ := b2
      clear h1 h2
      go_enter Try.func74, Try.ntmps74
      go_wp2_with fail
      refine (within_any _ _ _ _).mono ?_; rintro e w' ⟨rfl, rfl⟩
      rw [unhide H1]
      go_wp2_with fail
      refine (within_any _ _ _ _).mono ?_; rintro e w' ⟨rfl, rfl⟩
      rw [unhide H2]
      go_wp2
      go_ret
      exact ⟨ret_bool (by rw [Bool.eq_iff_iff]; simp [winB]; omega), rfl⟩

set_option maxHeartbeats 1000000 in
theorem valid_any (a l b n s t : Int) (w : World) :
    Calls Try.prog 41 #[.agg #[.int .i64 a, .int .i64 l, .int .i64 b, .int .i64 n, .int .i64 s, .int .i64 t]] w fun e w' => e = .returned (.bool (validB a l b n s t)) ∧ Below w.heap.size w w' := by
  have hv : validB a l b n s t = (withinB a 1 4 && withinB l 1 10 && withinB b 1 8 && withinB t 0 100 && winB n s) := by
    rw [Bool.eq_iff_iff]; simp [validB, withinB, winB, and_assoc]
  rw [hv]; clear hv
  go_enter Try.func41, Try.ntmps41
  go_wp2_with fail
  refine (within_any _ _ _ _).mono ?_; rintro e w' ⟨rfl, rfl⟩
  generalize hq1 : withinB a 1 4 = q1
  have H1 := hide hq1
  clear hq1
  go_wp2_with fail
  refine (within_any _ _ _ _).mono ?_; rintro e w' ⟨rfl, rfl⟩
  generalize hq2 : withinB l 1 10 = q2
  have H2 := hide hq2
  clear hq2
  go_wp2_with fail
  refine (within_any _ _ _ _).mono ?_; rintro e w' ⟨rfl, rfl⟩
  generalize hq3 : withinB b 1 8 = q3
  have H3 := hide hq3
  clear hq3
  go_wp2_with fail
  refine (within_any _ _ _ _).mono ?_; rintro e w' ⟨rfl, rfl⟩
  generalize hq4 : withinB t 0 100 = q4
  have H4 := hide hq4
  clear hq4
  go_wp2_with fail
  refine (validWindows_any _ _ _).mono ?_; rintro e w' ⟨rfl, rfl⟩
  generalize hq5 : winB n s = q5
  have H5 := hide hq5
  clear hq5
  cases q1 <;> cases q2 <;> cases q3 <;> cases q4
  all_goals
    go_wp2
    go_ret
    exact ⟨ret_bool (by rw [unhide H1, unhide H2, unhide H3, unhide H4, unhide H5]; simp), (Below.refl _ _).alloc (Nat.le_refl _) _⟩

end Go.Proofs.Ytpnkmnmchdabkaa
namespace Go.Proofs.Ytpnkmnmchdabkaa
open Go.RowKit
attribute [local go_sem ↓] Go.wp_at_zero Go.wp_at_succ

theorem leCells_len (l : List Le) : (leCells l).length = l.length * 3 := by
  induction l with
  | nil => rfl
  | cons s r ih => simp only [leCells, List.length_cons, ih]; omega
theorem leCells_get (l : List Le) (i : Nat) (x : Le) (h : l[i]? = some x) : (leCells l)[i * 3]? = some (.int .i64 x.o) ∧ (leCells l)[i * 3 + 1]? = some (.int .i64 x.c) ∧ (leCells l)[i * 3 + 2]? = some (.int .i64 x.e) := by
  induction l generalizing i with
  | nil => simp at h
  | cons y r ih =>
    cases i with
    | zero => simp at h; subst h; exact ⟨rfl, rfl, rfl⟩
    | succ i =>
      simp at h
      obtain ⟨a, b, c⟩ := ih i h
      rw [show (i + 1) * 3 = i * 3 + 3 by omega]
      exact ⟨a, b, c⟩
theorem leCells_set0 (l : List Le) (i : Nat) (x : Le) (h : l[i]? = some x) (v : Int) : (leCells l).set (i * 3) (.int .i64 v) = leCells (l.set i { x with o := v }) := by
  induction l generalizing i with
  | nil => simp at h
  | cons y r ih =>
    cases i with
    | zero => simp at h; subst h; rfl
    | succ i =>
      simp at h
      rw [show (i + 1) * 3 = i * 3 + 3 by omega]
      simp only [leCells, List.set_cons_succ, ih i h]
theorem leCells_set1 (l : List Le) (i : Nat) (x : Le) (h : l[i]? = some x) (v : Int) : (leCells l).set (i * 3 + 1) (.int .i64 v) = leCells (l.set i { x with c := v }) := by
  induction l generalizing i with
  | nil => simp at h
  | cons y r ih =>
    cases i with
    | zero => simp at h; subst h; rfl
    | succ i =>
      simp at h
      rw [show (i + 1) * 3 + 1 = (i * 3 + 1) + 3 by omega]
      simp only [leCells, List.set_cons_succ, ih i h]
theorem leCells_set2 (l : List Le) (i : Nat) (x : Le) (h : l[i]? = some x) (v : Int) : (leCells l).set (i * 3 + 2) (.int .i64 v) = leCells (l.set i { x with e := v }) := by
  induction l generalizing i with
  | nil => simp at h
  | cons y r ih =>
    cases i with
    | zero => simp at h; subst h; rfl
    | succ i =>
      simp at h
      rw [show (i + 1) * 3 + 2 = (i * 3 + 2) + 3 by omega]
      simp only [leCells, List.set_cons_succ, ih i h]

/-- The leases at first; in the making. -/
def noneL (k : Nat) : List Le := List.replicate k ⟨-1, 0, 0⟩ ++ List.replicate (16 - k) ⟨0, 0, 0⟩
theorem noneL_set {k : Nat} (hk : k < 16) : (noneL k).set k ⟨-1, 0, 0⟩ = noneL (k + 1) := by
  unfold noneL
  rw [List.set_append_right _ _ (by simp), List.length_replicate, Nat.sub_self, show 16 - k = (16 - (k + 1)) + 1 by omega, List.replicate_succ, List.set_cons_zero, List.replicate_succ', List.append_assoc]
  rfl
theorem noneL_get {k : Nat} (hk : k < 16) : (noneL k)[k]? = some ⟨0, 0, 0⟩ := by
  unfold noneL
  rw [List.getElem?_append_right (by simp), List.length_replicate, Nat.sub_self, show 16 - k = (16 - (k + 1)) + 1 by omega, List.replicate_succ]
  rfl

/-- A table of leases, as a row of cells. -/
def leA (L : List Le) : Array Value := (leCells L).toArray
theorem leA_size {L : List Le} (h : L.length = 16) : (leA L).size = 48 := by unfold leA; simp [leCells_len, h]
theorem leCells_one (L : List Le) : ∀ v ∈ leCells L, v.oneCell' = true := by
  induction L with
  | nil => intro v hv; cases hv
  | cons x r ih =>
    intro v hv
    simp only [leCells, List.mem_cons] at hv
    rcases hv with rfl | rfl | rfl | hv
    · rfl
    · rfl
    · rfl
    · exact ih v hv
theorem noneL_len {k : Nat} (hk : k ≤ 16) : (noneL k).length = 16 := by unfold noneL; simp; omega

theorem infoTab : (Try.prog.info? 85).map (fun i => (i.zero, i.size)) = some (some (.agg (leA (noneL 0))), 48) := by kernel_rfl
theorem infoTabSize : (Try.prog.info? 85).map (·.size) = some 48 := by kernel_rfl
theorem zvTab (w : World) : (zeroValue 85).run Try.prog w = .ok (.agg (leA (noneL 0))) w := (zero_of_info infoTab).1 w
theorem ldTab {w : World} {b : Nat} {L : List Le} {t : TypeId} {f : Nat × Nat} (h : w.heap[b]? = some (.cells (leA L) t f)) (hL : L.length = 16) : (loadVar 85 ⟨b, 0, none⟩).run Try.prog w = .ok (.agg (leA L)) w :=
  run_loadVar_row w b t _ (leA L) f _ h Try.underlying85 rfl (by rw [leA_size hL]; exact infoTabSize)
theorem stTab {w : World} {b : Nat} {K L : List Le} {t : TypeId} (h : w.heap[b]? = some (.cells (leA K) t (0, 0))) (hK : K.length = 16) (hL : L.length = 16) : (storeVar 85 ⟨b, 0, none⟩ (.agg (leA L))).run Try.prog w = .ok () (w.setRow b (leA L)) :=
  run_storeVar_row w b t _ (leA K) (leA L) h (by rw [leA_size hL]; exact infoTabSize) (by rw [leA_size hK, leA_size hL]) (all_oneCell_toArray (leCells_one L))

theorem setRow_same {w : World} {b : Nat} {cs cs' : Array Value} {t : TypeId} {f : Nat × Nat} (h : w.heap[b]? = some (.cells cs t f)) : (w.setRow b cs').heap[b]? = some (.cells cs' t f) := by
  simp only [World.setRow, Array.getElem?_modify, if_true, h]
  rfl
theorem setRow_other {w : World} {b k : Nat} {cs' : Array Value} (hk : k ≠ b) : (w.setRow b cs').heap[k]? = w.heap[k]? := by
  simp only [World.setRow, Array.getElem?_modify]
  rw [if_neg (fun e => hk e.symm)]
theorem setRow_below {B : Nat} {a w : World} {b : Nat} (h : Below B a w) (hb : B ≤ b) (cs : Array Value) : Below B a (w.setRow b cs) :=
  h.trans ⟨rfl, rfl, rfl, by simp [World.setRow], fun k hk => setRow_other (by omega)⟩

/-- The load and the store of a whole table, kept shut for the walk. -/
def ldT (a : Addr) : Sem Value := loadVar 85 a
def stT (a : Addr) (v : Value) : Sem Unit := storeVar 85 a v
theorem ldT_shut (a : Addr) : loadVar 85 a = ldT a := rfl
theorem stT_shut (a : Addr) (v : Value) : storeVar 85 a v = stT a v := rfl
theorem ldT_is {w : World} {b : Nat} {L : List Le} {t : TypeId} {f : Nat × Nat} (h : w.heap[b]? = some (.cells (leA L) t f)) (hL : L.length = 16) : (ldT ⟨b, 0, none⟩).run Try.prog w = .ok (.agg (leA L)) w := ldTab h hL
theorem stT_is {w : World} {b : Nat} {K L : List Le} {t : TypeId} (h : w.heap[b]? = some (.cells (leA K) t (0, 0))) (hK : K.length = 16) (hL : L.length = 16) : (stT ⟨b, 0, none⟩ (.agg (leA L))).run Try.prog w = .ok () (w.setRow b (leA L)) := stTab h hK hL
theorem stT_new (w : World) (n : Nat) (K L : List Le) (hn : n = w.heap.size) (hK : K.length = 16) (hL : L.length = 16) : (stT ⟨n, 0, none⟩ (.agg (leA L))).run Try.prog (w.alloc (.cells (leA K) 85)) = .ok () (w.alloc (.cells (leA L) 85)) := by
  subst hn
  rw [stT_is (heap_alloc_new w _) hK hL, World.setRow_alloc_new]

attribute [local go_sem ↓] zvTab ldT_shut stT_shut
attribute [local go_sem] stT_new

set_option maxRecDepth 100000 in
set_option maxHeartbeats 4000000 in
theorem leasesNew_any (w : World) :
    Calls Try.prog 43 #[] w fun e w' => e = .returned (.agg (leA (noneL 16))) ∧ Below w.heap.size w w' := by
  have z0 := noneL_len (k := 0) (by omega)
  have s0 := leA_size z0
  go_enter Try.func43, Try.ntmps43
  go_wp2
  have h0 : Hid (((w.alloc (.cells (leA (noneL 0)) 85)).alloc (.cells (leA (noneL 0)) 85)).heap[w.heap.size]? = some (.cells (leA (noneL 0)) 85 (0, 0))) := by
    unfold Hid
    rw [Below.heap_alloc _ _ _ (by simp)]; exact heap_alloc_new w _
  have h1 : Hid (((w.alloc (.cells (leA (noneL 0)) 85)).alloc (.cells (leA (noneL 0)) 85)).heap[w.heap.size + 1]? = some (.cells (leA (noneL 0)) 85 (0, 0))) := by
    unfold Hid
    have := heap_alloc_new (w.alloc (.cells (leA (noneL 0)) 85)) (.cells (leA (noneL 0)) 85)
    simpa using this
  have hb : Hid (Below w.heap.size w ((w.alloc (.cells (leA (noneL 0)) 85)).alloc (.cells (leA (noneL 0)) 85))) := ((Below.refl _ w).alloc (Nat.le_refl _) _).alloc (by simp) _
  generalize (w.alloc (.cells (leA (noneL 0)) 85)).alloc (.cells (leA (noneL 0)) 85) = W at *
  go_loopw [2] (fun i wr => ∃ k : Nat, k ≤ 16 ∧ i = .int .i64 k ∧ wr.heap[w.heap.size]? = some (.cells (leA (noneL 0)) 85 (0, 0)) ∧ wr.heap[w.heap.size + 1]? = some (.cells (leA (noneL k)) 85 (0, 0)) ∧ Below w.heap.size w wr) (fun i _ => 16 - (intOf i).toNat)
  case atStart => exact ⟨0, by omega, rfl, unhide h0, unhide h1, unhide hb⟩
  case round =>
    obtain ⟨k, hk, rfl, q0, q1, qb⟩ := hrel
    by_cases hlt : k < 16
    · have fz := frozen_of q1 (k * 3)
      have cz : wr.cell? ⟨w.heap.size + 1, k * 3, none⟩ = some (.int .i64 0) := (cell_of q1 (k * 3)).trans (by have := (leCells_get _ k _ (noneL_get hlt)).1; simpa [leA] using this)
      have Q0 := hide q0
      have Q1 := hide q1
      have QB := hide qb
      clear q0 q1 qb
      go_wp2
      go_roundw
      case rel =>
        refine ⟨k + 1, by omega, by go_num, ?_, ?_, (unhide QB).setCell (p := ⟨w.heap.size + 1, k * 3, none⟩) (by simp) _⟩
        · rw [Below.heap_setCell _ _ _ _ (by simp)]; exact unhide Q0
        · rw [heap_setCell_same (unhide Q1)]
          unfold leA
          rw [List.setIfInBounds_toArray, leCells_set0 _ k _ (noneL_get hlt), noneL_set hlt]
      case measure => simp [intOf]; omega
    · have e : k = 16 := by omega
      subst e
      have z16 := noneL_len (k := 16) (by omega)
      have HL := ldT_is q1 z16
      have HS := stT_is q0 z0 z16
      have hs16 := leA_size z16
      have H2 := hide (setRow_same (cs' := leA (noneL 16)) q0)
      have QB := hide (setRow_below qb (Nat.le_refl _) (leA (noneL 16)))
      clear q0 q1 qb
      go_wp2
      refine bodyPost_ret (v := .agg (leA (noneL 16))) ?_ rfl ⟨rfl, unhide QB⟩
      exact results_cell_row rfl _ _ w.heap.size _ _ _ _ rfl (unhide H2) Try.underlying85 rfl (by rw [leA_size z16]; exact infoTabSize)
end Go.Proofs.Ytpnkmnmchdabkaa
