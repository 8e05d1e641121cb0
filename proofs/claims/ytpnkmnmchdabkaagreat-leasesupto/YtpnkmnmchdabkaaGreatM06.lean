import Derived.Test.YtpnkmnmchdabkaaGreatRefLeaf
import Derived.Test.YtpnkmnmchdabkaaGreatM03
import Derived.Test.YtpnkmnmchdabkaaGreatM00
namespace Go.Proofs.YtpnkmnmchdabkaaGreat
open Go.RowKit
attribute [local go_sem ↓] Go.wp_at_zero Go.wp_at_succ

/-- A shard of the document's own answer, in memory. -/
structure Rf where
  lo : Int
  hi : Int
  op : Bool
  par : List Int
  pv : Value
  own : Int
  ctr : Int
  lep : Int
  done : Int
  ep : Int
def rfCells (r : Rf) : List Value := [.int .i64 r.lo, .int .i64 r.hi, .bool r.op, r.pv, .int .i64 r.own, .int .i64 r.ctr, .int .i64 r.lep, .int .i64 r.done, .int .i64 r.ep]
def rowRf : List Rf → List Value
  | [] => []
  | s :: r => rfCells s ++ rowRf r
theorem rowRf_append (l k : List Rf) : rowRf (l ++ k) = rowRf l ++ rowRf k := by
  induction l with
  | nil => rfl
  | cons s r ih => simp [rowRf, ih]
theorem rowRf_get (l : List Rf) (i j : Nat) (hj : j < 9) (s : Rf) (h : l[i]? = some s) : (rowRf l)[i * 9 + j]? = (rfCells s)[j]? := by
  induction l generalizing i with
  | nil => simp at h
  | cons x r ih =>
    cases i with
    | zero =>
      simp at h; subst h
      simp only [rowRf, Nat.zero_mul, Nat.zero_add]
      rw [List.getElem?_append_left (by simpa [rfCells] using hj)]
    | succ i =>
      simp at h
      simp only [rowRf]
      rw [List.getElem?_append_right (by simp only [rfCells, List.length_cons, List.length_nil]; omega), ← ih i h]
      congr 1
      simp only [rfCells, List.length_cons, List.length_nil]; omega
theorem rowRf_set (l : List Rf) (i j : Nat) (hj : j < 9) (s s' : Rf) (h : l[i]? = some s) (v : Value) (hs : (rfCells s).set j v = rfCells s') :
    (rowRf l).set (i * 9 + j) v = rowRf (l.set i s') := by
  induction l generalizing i with
  | nil => simp at h
  | cons x r ih =>
    cases i with
    | zero =>
      simp at h; subst h
      simp only [rowRf, Nat.zero_mul, Nat.zero_add, List.set_cons_zero]
      rw [List.set_append_left _ _ (by simpa [rfCells] using hj), hs]
    | succ i =>
      simp at h
      simp only [rowRf, List.set_cons_succ]
      rw [List.set_append_right _ _ (by simp only [rfCells, List.length_cons, List.length_nil]; omega), ← ih i h]
      congr 2
      simp only [rfCells, List.length_cons, List.length_nil]; omega

/-- A record of the document's own log. -/
structure Pt where
  shard : Nat
  key : ByteArray
  value : Int
  time : Int
def ptCells (e : Pt) : List Value := [.int .i64 e.shard, .string e.key, .int .i64 e.value, .int .i64 e.time]
def rowPt : List Pt → List Value
  | [] => []
  | s :: r => ptCells s ++ rowPt r
theorem rowPt_append (l k : List Pt) : rowPt (l ++ k) = rowPt l ++ rowPt k := by
  induction l with
  | nil => rfl
  | cons s r ih => simp [rowPt, ih]
theorem rowPt_get (l : List Pt) (i j : Nat) (hj : j < 4) (s : Pt) (h : l[i]? = some s) : (rowPt l)[i * 4 + j]? = (ptCells s)[j]? := by
  induction l generalizing i with
  | nil => simp at h
  | cons x r ih =>
    cases i with
    | zero =>
      simp at h; subst h
      simp only [rowPt, Nat.zero_mul, Nat.zero_add]
      rw [List.getElem?_append_left (by simpa [ptCells] using hj)]
    | succ i =>
      simp at h
      simp only [rowPt]
      rw [List.getElem?_append_right (by simp only [ptCells, List.length_cons, List.length_nil]; omega), ← ih i h]
      congr 1
      simp only [ptCells, List.length_cons, List.length_nil]; omega

def refArr (C : Cfg) (time : Int) (sv wv lv fv : Value) : Array Value := #[.int .i64 C.a, .int .i64 C.l, .int .i64 C.b, .int .i64 C.n, .int .i64 C.s, .int .i64 C.t, .int .i64 time, sv, wv, lv, fv]

/-- A note, a worker of the document's; a record that was folded. -/
structure Nt where
  sh : Int
  c : Int
  s : Int
structure Wk where
  hs : List Hd
  hv : Value
  ns : List Nt
  nv : Value
structure Fo where
  sh : Int
  pl : Int
def ntCells (x : Nt) : List Value := [.int .i64 x.sh, .int .i64 x.c, .int .i64 x.s]
def rowNt : List Nt → List Value
  | [] => []
  | s :: r => ntCells s ++ rowNt r
def rowWks : List Wk → List Value
  | [] => []
  | s :: r => s.hv :: s.nv :: rowWks r
def rowFo : List Fo → List Value
  | [] => []
  | s :: r => .int .i64 s.sh :: .int .i64 s.pl :: rowFo r
/-- The document's workers and folds. -/
structure Wks where
  v : Value
  l : List Wk
  fo : List Fo
/-- The workers in memory: 204 their row, 205 + 2i and 206 + 2i the holds and the notes of worker i; 220 the folds. -/
structure WkAt (w : World) (ρ : Nat → Nat) (x : Wks) (fv : Value) : Prop where
  row : w.ownsRow 0 84 2 x.v x.l.length (rowWks x.l)
  rowT : ∀ k, x.v.ownBlock = some k → ρ k = 204
  hd : ∀ (i : Nat) (y : Wk), x.l[i]? = some y → w.ownsRow 0 102 4 y.hv y.hs.length (rowHd y.hs)
  hdT : ∀ (i : Nat) (y : Wk), x.l[i]? = some y → ∀ k, y.hv.ownBlock = some k → ρ k = 205 + 2 * i
  nt : ∀ (i : Nat) (y : Wk), x.l[i]? = some y → w.ownsRow 0 199 3 y.nv y.ns.length (rowNt y.ns)
  ntT : ∀ (i : Nat) (y : Wk), x.l[i]? = some y → ∀ k, y.nv.ownBlock = some k → ρ k = 206 + 2 * i
  fold : w.ownsRow 0 124 2 fv x.fo.length (rowFo x.fo)
  foldT : ∀ k, fv.ownBlock = some k → ρ k = 220
  four : x.l.length ≤ 4
theorem WkAt.same {w w' : World} {ρ ρ' : Nat → Nat} {x : Wks} {fv : Value} (h : WkAt w ρ x fv) (hs : ∀ k, k < w.heap.size → 204 ≤ ρ k → ρ k ≤ 220 → w'.heap[k]? = w.heap[k]? ∧ ρ' k = ρ k) : WkAt w' ρ' x fv := by
  have lt : ∀ {i : Nat} {y : Wk}, x.l[i]? = some y → i < 4 := fun hi => by have := (List.getElem?_eq_some_iff.1 hi).1; have := h.four; omega
  have ok : ∀ {e : TypeId} {size : Nat} {v : Value} {n : Nat} {xs : List Value} {t : Nat}, w.ownsRow 0 e size v n xs → (∀ k, v.ownBlock = some k → ρ k = t) → 204 ≤ t → t ≤ 220 → w'.ownsRow 0 e size v n xs ∧ ∀ k, v.ownBlock = some k → ρ' k = t := by
    intro e size v n xs t ho ht h1 h2
    refine ⟨ownsRow_of_block ho fun k hk => (hs k (ho.lt k hk).2 (by rw [ht k hk]; exact h1) (by rw [ht k hk]; exact h2)).1, fun k hk => ?_⟩
    rw [(hs k (ho.lt k hk).2 (by rw [ht k hk]; exact h1) (by rw [ht k hk]; exact h2)).2]; exact ht k hk
  exact ⟨(ok h.row h.rowT (by omega) (by omega)).1, (ok h.row h.rowT (by omega) (by omega)).2,
    fun i y hi => (ok (h.hd i y hi) (h.hdT i y hi) (by omega) (by have := lt hi; omega)).1, fun i y hi => (ok (h.hd i y hi) (h.hdT i y hi) (by omega) (by have := lt hi; omega)).2,
    fun i y hi => (ok (h.nt i y hi) (h.ntT i y hi) (by omega) (by have := lt hi; omega)).1, fun i y hi => (ok (h.nt i y hi) (h.ntT i y hi) (by omega) (by have := lt hi; omega)).2,
    (ok h.fold h.foldT (by omega) (by omega)).1, (ok h.fold h.foldT (by omega) (by omega)).2, h.four⟩

/-- THE DOCUMENT's GROUP IN MEMORY: 200 its block, 201 the row of its shards, 202 of its log, 203 the parents' rows. -/
structure RefAt (w : World) (ρ : Nat → Nat) (yb : Nat) (C : Cfg) (time : Int) (rs : List Rf) (P : List Pt) (wv : Wks) (fv sv lv : Value) : Prop where
  blk : w.heap[yb]? = some (.cells (refArr C time sv wv.v lv fv) 80 (0, 0))
  tag : ρ yb = 200
  row : w.ownsRow 0 73 9 sv rs.length (rowRf rs)
  rowT : ∀ k, sv.ownBlock = some k → ρ k = 201
  log : w.ownsRow 0 144 4 lv P.length (rowPt P)
  logT : ∀ k, lv.ownBlock = some k → ρ k = 202
  par : ∀ (i : Nat) (r : Rf), rs[i]? = some r → w.ownsRow 0 3 1 r.pv r.par.length (r.par.map (Value.int .i64))
  parT : ∀ (i : Nat) (r : Rf), rs[i]? = some r → ∀ k, r.pv.ownBlock = some k → ρ k = 203
  wk : WkAt w ρ wv fv

/-- Tags from 200 to 299 are the document's. -/
def theirs (ρ : Nat → Nat) (k : Nat) : Prop := 200 ≤ ρ k ∧ ρ k < 300

theorem RefAt.keeps {S : Nat → Prop} {w w' : World} {ρ ρ' : Nat → Nat} {yb : Nat} {C : Cfg} {time : Int} {rs : List Rf} {P : List Pt} {wv : Wks} {fv sv lv : Value} (h : RefAt w ρ yb C time rs P wv fv sv lv) (hk : Keeps S w w') (hS : ∀ k, S k → ¬ theirs ρ k ∨ w.heap.size ≤ k) (he : ∀ k, k < w.heap.size → ρ' k = ρ k) : RefAt w' ρ' yb C time rs P wv fv sv lv := by
  have hlt := lt_of_heap h.blk
  have ok : ∀ {e : TypeId} {size : Nat} {v : Value} {n : Nat} {xs : List Value} {t : Nat}, w.ownsRow 0 e size v n xs → (∀ k, v.ownBlock = some k → ρ k = t) → 200 ≤ t → t < 300 → w'.ownsRow 0 e size v n xs := by
    intro e size v n xs t ho ht h1 h2
    refine ownsRow_keeps ho hk fun k hkk hs => ?_
    have := ht k hkk; have := (ho.lt k hkk).2
    rcases hS k hs with h3 | h3
    · exact h3 ⟨by omega, by omega⟩
    · omega
  refine ⟨?_, ?_, ok h.row h.rowT (by omega) (by omega), ?_, ok h.log h.logT (by omega) (by omega), ?_, fun i r hi => ok (h.par i r hi) (h.parT i r hi) (by omega) (by omega), ?_, h.wk.same fun k h1 h2 h3 => ⟨hk.block k h1 (fun hs => by have := hS k hs; unfold theirs at this; omega), he k h1⟩⟩
  · rw [hk.block yb hlt fun hs => ?_]
    · exact h.blk
    · rcases hS yb hs with h1 | h1
      · exact h1 (by unfold theirs; rw [h.tag]; omega)
      · omega
  · rw [he yb hlt]; exact h.tag
  · intro k hkk; rw [he k (h.row.lt k hkk).2]; exact h.rowT k hkk
  · intro k hkk; rw [he k (h.log.lt k hkk).2]; exact h.logT k hkk
  · intro i r hi k hkk; rw [he k ((h.par i r hi).lt k hkk).2]; exact h.parT i r hi k hkk

/-- What a walk wants: the cells of the shards. -/
theorem RefAt.shards {w : World} {ρ : Nat → Nat} {yb : Nat} {C : Cfg} {time : Int} {rs : List Rf} {P : List Pt} {wv : Wks} {fv sv lv : Value} (h : RefAt w ρ yb C time rs P wv fv sv lv) (hpos : 0 < rs.length) :
    ∃ sb cap, sv = .slice (some ⟨sb, 0, none⟩) rs.length cap ∧ sb < w.heap.size ∧ ρ sb = 201 ∧ (∀ j, w.frozen? ⟨sb, j, none⟩ = false) ∧ ∀ (i : Nat) (r : Rf), rs[i]? = some r → ∀ j, j < 9 → w.cell? ⟨sb, i * 9 + j, none⟩ = (rfCells r)[j]? := by
  obtain ⟨g, cap, cur, hv, _, hg, _⟩ := ownsRow_shape h.row hpos
  subst hv
  refine ⟨g, cap, rfl, lt_of_heap hg, h.rowT g rfl, fun j => frozen_of hg j, fun i r hi j hj => ?_⟩
  have hlt := (List.getElem?_eq_some_iff.1 hi).1
  rw [World.ownsRow.cellAt h.row (i * 9 + j) (by omega), rowRf_get rs i j hj r hi]
theorem RefAt.logs {w : World} {ρ : Nat → Nat} {yb : Nat} {C : Cfg} {time : Int} {rs : List Rf} {P : List Pt} {wv : Wks} {fv sv lv : Value} (h : RefAt w ρ yb C time rs P wv fv sv lv) :
    ∃ la lcap, lv = .slice la P.length lcap ∧ (0 < P.length → ∃ pb, la = some ⟨pb, 0, none⟩ ∧ pb < w.heap.size ∧ ∀ (i : Nat) (e : Pt), P[i]? = some e → ∀ j, j < 4 → w.cell? ⟨pb, i * 4 + j, none⟩ = (ptCells e)[j]?) := by
  obtain ⟨la, lcap, hl⟩ := ownsRow_len h.log
  refine ⟨la, lcap, hl, fun hpos => ?_⟩
  obtain ⟨g, cap, cur, hv, _, hg, _⟩ := ownsRow_shape h.log hpos
  rw [hl] at hv
  injection hv with e1 e2 e3
  refine ⟨g, e1, lt_of_heap hg, fun i e hi j hj => ?_⟩
  have hrow := h.log
  rw [hl, e1] at hrow
  have hlt := (List.getElem?_eq_some_iff.1 hi).1
  rw [World.ownsRow.cellAt hrow (i * 4 + j) (by omega), rowPt_get P i j hj e hi]

/-- The records of shard k. -/
def ofShard (P : List Pt) (k : Nat) : List Pt := P.filter (fun e => e.shard == k)
theorem ofShard_take (P : List Pt) (k i : Nat) (e : Pt) (h : P[i]? = some e) : ofShard (P.take (i + 1)) k = ofShard (P.take i) k ++ if e.shard = k then [e] else [] := by
  have hi := (List.getElem?_eq_some_iff.1 h).1
  have he : P[i] = e := (List.getElem?_eq_some_iff.1 h).2
  unfold ofShard
  rw [List.take_succ_eq_append_getElem hi, List.filter_append, he]
  by_cases hk : e.shard = k <;> simp [hk]
theorem ofShard_le (P : List Pt) (k : Nat) : (ofShard P k).length ≤ P.length := List.length_filter_le _ _

theorem info144 : (Tryz.prog.info? 144).map (fun i => (i.zero, i.size, i.bytes)) = some (some (.agg #[.int .i64 0, .string ByteArray.empty, .int .i64 0, .int .i64 0]), 4, 40) := by kernel_rfl

set_option maxRecDepth 100000 in
set_option maxHeartbeats 1000000 in
theorem records_any {w : World} {ρ : Nat → Nat} {yb : Nat} {C : Cfg} {time : Int} {rs : List Rf} {P : List Pt} {wv : Wks} {fv sv lv : Value} (h : RefAt w ρ yb C time rs P wv fv sv lv) (hP : P.length ≤ 1000000) (k : Nat) :
    Calls Tryz.prog 43 #[.pointer (some ⟨yb, 0, none⟩), .int .i64 k] w fun e w' => ∃ a cap, e = .returned (.slice a (ofShard P k).length cap) ∧ w'.ownsRow w.heap.size 144 4 (.slice a (ofShard P k).length cap) (ofShard P k).length (rowPt (ofShard P k)) ∧ Below w.heap.size w w' := by
  obtain ⟨la, lcap, rfl, hcell⟩ := h.logs
  have c9 : w.cell? ⟨yb, 9, none⟩ = some (.slice la P.length lcap) := cell_of h.blk 9
  have hyb := lt_of_heap h.blk
  obtain ⟨i0, hi0, hz0, hz1, hz2⟩ := info_parts info144
  have HC := hide hcell
  clear h hcell
  go_enter Tryz.func43, Tryz.ntmps43
  go_wp2
  go_loopw [5, 6] (fun p i wr => ∃ (j cap : Nat) (a : Option Addr), j ≤ P.length ∧ i = .int .i64 j ∧ p = .slice a (ofShard (P.take j) k).length cap ∧ wr.ownsRow w.heap.size 144 4 (.slice a (ofShard (P.take j) k).length cap) (ofShard (P.take j) k).length (rowPt (ofShard (P.take j) k)) ∧ Below w.heap.size w wr) (fun _ i _ => P.length - (intOf i).toNat)
  case atStart => exact ⟨0, 0, none, Nat.zero_le _, rfl, rfl, World.ownsRow_nil _ _ _ _, Below.refl _ _⟩
  case round =>
    obtain ⟨j, cap, a, hj, rfl, rfl, hown, hB⟩ := hrel
    have d9 := (hB.cell (p := ⟨yb, 9, none⟩) hyb).trans c9
    by_cases hlt : j < P.length
    · obtain ⟨pb, hla, hpb, hcc⟩ := unhide HC (by omega)
      subst hla
      obtain ⟨e, he⟩ : ∃ e, P[j]? = some e := ⟨P[j], List.getElem?_eq_getElem hlt⟩
      have hc : ∀ i, i < 4 → wr.cell? ⟨pb, j * 4 + i, none⟩ = (ptCells e)[i]? := fun i hi => (hB.cell (p := ⟨pb, j * 4 + i, none⟩) hpb).trans (hcc j e he i hi)
      have b0 : wr.cell? ⟨pb, j * 4, none⟩ = some (.int .i64 e.shard) := hc 0 (by omega)
      have b1 : wr.cell? ⟨pb, j * 4 + 1, none⟩ = some (.string e.key) := hc 1 (by omega)
      have b2 : wr.cell? ⟨pb, j * 4 + 2, none⟩ = some (.int .i64 e.value) := hc 2 (by omega)
      have b3 : wr.cell? ⟨pb, j * 4 + 3, none⟩ = some (.int .i64 e.time) := hc 3 (by omega)
      have HS := hide (ofShard_take P k j e he)
      have hle : (ofShard (P.take j) k).length ≤ 1000000 := by have := ofShard_le (P.take j) k; rw [List.length_take] at this; omega
      have HO := hide hown
      have HB := hide hB
      have hws := hB.size
      have HGL := hide (fun q hq => hown.lt q hq)
      clear hcc hc he hown hB
      by_cases hk : e.shard = k
      · have dk : ((e.shard : Int) == (k : Int)) = true := by simp [hk]
        have HK := hide hk
        clear hk
        generalize hFF : ofShard (P.take j) k = F at *
        have HFF := hide hFF
        clear hFF
        go_wp2_with (at_builtin; go_must (refine wpList_append_lies _ rfl _ _ _ rfl w.heap.size 144 i0 _ 4 40 Tryz.underlying77 hi0 hz0 hz1 hz2 rfl (by omega) _ F.length (rowPt F) rfl ?own ⟨wr.heap.size, 0, none⟩ 1 1 (ptCells e) rfl rfl ?news ?one (by omega) ?h63 ?bytes ?base (wr.heap.size + 1) ?hH ?next))
        case own => exact (unhide HO).alloc _
        case news => exact World.news_of_block (cs := #[.int .i64 e.shard, .string e.key, .int .i64 e.value, .int .i64 e.time]) (heap_alloc_new wr _)
        case one =>
          intro u hu
          simp [ptCells] at hu
          rcases hu with rfl | rfl | rfl | rfl <;> rfl
        case h63 => unfold maxLen; omega
        case bytes => omega
        case base => simp; omega
        case hH => simp
        case next =>
          intro g2 cap2 w2 hown2 hgrow2 hat hlt2
          have hB2 : Hid (Below w.heap.size w w2) := ((unhide HB).alloc hws _).grown hgrow2 (by simp; omega) (fun q hq => (unhide HGL q hq).1)
          have HN := hide hown2
          clear hown2 hgrow2 hat
          go_wp2
          go_roundw
          case rel =>
            refine ⟨j + 1, cap2, some ⟨g2, 0, none⟩, by omega, by go_num, ?_, ?_, unhide hB2⟩
            · rw [unhide HS, if_pos (unhide HK), List.length_append]; rfl
            · rw [unhide HS, if_pos (unhide HK), List.length_append, rowPt_append]
              simp only [rowPt, List.append_nil, List.length_cons, List.length_nil]
              exact unhide HN
          case measure => simp [intOf]; omega
      · have dk : ((e.shard : Int) == (k : Int)) = false := by rw [beq_eq_false_iff_ne]; omega
        have HK := hide hk
        clear hk
        go_wp2
        go_roundw
        case rel =>
          refine ⟨j + 1, cap, a, by omega, by go_num, ?_, ?_, unhide HB⟩
          · rw [unhide HS, if_neg (unhide HK), List.append_nil]
          · rw [unhide HS, if_neg (unhide HK), List.append_nil]; exact unhide HO
        case measure => simp [intOf]; omega
    · have hjj : P.take j = P := List.take_of_length_le (by omega)
      rw [hjj] at hown ⊢
      have HO := hide hown
      have HB := hide hB
      clear hown hB
      go_wp2
      go_ret
      exact ⟨a, cap, rfl, unhide HO, unhide HB⟩

end Go.Proofs.YtpnkmnmchdabkaaGreat
namespace Go.Proofs.YtpnkmnmchdabkaaGreat
open Go.RowKit

set_option maxHeartbeats 400000 in
theorem accepts_any (b off : Nat) (lo hi h : Int) (o : Bool) (w : World)
    (c0 : w.cell? ⟨b, off, none⟩ = some (.int .i64 lo)) (c1 : w.cell? ⟨b, off + 1, none⟩ = some (.int .i64 hi)) (c2 : w.cell? ⟨b, off + 2, none⟩ = some (.bool o)) :
    Calls Tryz.prog 135 #[.pointer (some ⟨b, off, none⟩), .int .i64 h] w fun e w' => e = .returned (.bool (accB o lo hi h)) ∧ w = w' := by
  cases o
  · go_enter Tryz.func135, Tryz.ntmps135
    go_wp2
    go_ret
    exact ⟨by simp [accB], rfl⟩
  · by_cases h1 : lo ≤ h
    · by_cases h2 : h < hi
      all_goals
        go_enter Tryz.func135, Tryz.ntmps135
        go_wp2
        go_ret
        exact ⟨by simp [accB, h1, h2], rfl⟩
    · go_enter Tryz.func135, Tryz.ntmps135
      go_wp2
      go_ret
      exact ⟨by simp [accB]; omega, rfl⟩

set_option maxHeartbeats 400000 in
theorem has_any (b off n cap : Nat) (sa : Option Addr) (k : Int) (w : World)
    (c0 : w.cell? ⟨b, off, none⟩ = some (.slice sa n cap)) :
    Calls Tryz.prog 47 #[.pointer (some ⟨b, off, none⟩), .int .i64 k] w fun e w' => e = .returned (.bool (decide (0 ≤ k ∧ k < n))) ∧ w = w' := by
  by_cases h1 : 0 ≤ k
  · by_cases h2 : k < n
    all_goals
      go_enter Tryz.func47, Tryz.ntmps47
      go_wp2
      go_ret
      exact ⟨by simp [h1, h2], rfl⟩
  · go_enter Tryz.func47, Tryz.ntmps47
    go_wp2
    go_ret
    exact ⟨by simp; omega, rfl⟩

set_option maxHeartbeats 400000 in
theorem hasRoom_any (b off n cap : Nat) (sa : Option Addr) (k : Int) (w : World) (hn : n ≤ 100) (hk : 0 ≤ k) (hk2 : k ≤ 100)
    (c0 : w.cell? ⟨b, off, none⟩ = some (.slice sa n cap)) :
    Calls Tryz.prog 134 #[.pointer (some ⟨b, off, none⟩), .int .i64 k] w fun e w' => e = .returned (.bool (decide ((n : Int) + k ≤ 16))) ∧ w = w' := by
  go_enter Tryz.func134, Tryz.ntmps134
  go_wp2
  go_ret
  exact ⟨by simp, rfl⟩

end Go.Proofs.YtpnkmnmchdabkaaGreat
