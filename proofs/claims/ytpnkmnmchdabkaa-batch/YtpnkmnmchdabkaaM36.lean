import Derived.Test.YtpnkmnmchdabkaaGRead
import Derived.Deep.WholeRow
import Derived.Test.YtpnkmnmchdabkaaM31
import Derived.Test.YtpnkmnmchdabkaaCrew
namespace Go.Proofs.Ytpnkmnmchdabkaa
open Go.RowKit

/-- What the law has added up, T, beside what the program has, x, behind j records. -/
structure SumI (j : Nat) (x : Su) (T : Int) : Prop where
  s0 : x.o = false → x.s = T
  s1 : x.o = true → x.s = 0
  z : x.c = 0 → x = su0 ∧ T = 0
  c : 0 ≤ x.c ∧ x.c ≤ j
  lt : 0 ≤ x.lt ∧ x.lt ≤ j
  t : -(1000000 * (j : Int)) ≤ T ∧ T ≤ 1000000 * (j : Int)
theorem SumI.zero : SumI 0 su0 0 := ⟨fun _ => rfl, fun h => (by cases h), fun _ => ⟨rfl, rfl⟩, by simp [su0], by simp [su0], by simp⟩
theorem SumI.same {j : Nat} {x : Su} {T : Int} (h : SumI j x T) : SumI (j + 1) x T := by
  obtain ⟨a, b, c, d, e, f⟩ := h
  exact ⟨a, b, c, by omega, by omega, by omega⟩
theorem pls_is {a b : Int} (h : -1000000000000 ≤ a ∧ a ≤ 1000000000000) (h' : -1000000000000 ≤ b ∧ b ≤ 1000000000000) : pls a b = a + b := by unfold pls; rw [IntKind.wrap_i64]; omega
def ovr (x : Su) (T : Int) : Bool := x.o || decide (1000000 < T) || decide (T < -1000000)
theorem SumI.add {j : Nat} {x : Su} {T : Int} (h : SumI j x T) (hj : j ≤ 1000) (v : Int) (late : Bool) (hv : -1000000 ≤ v ∧ v ≤ 1000000) :
    ∃ s, addS x v late = ⟨x.c + 1, s, if x.c = 0 ∨ v < x.mn then v else x.mn, if x.c = 0 ∨ x.mx < v then v else x.mx, if x.c = 0 then v else x.f, v, if late = true then x.lt + 1 else x.lt, ovr x (T + v)⟩ ∧ SumI (j + 1) (addS x v late) (T + v) := by
  obtain ⟨a, b, c, d, e, f⟩ := h
  have hc : pls x.c 1 = x.c + 1 := pls_is (by omega) (by omega)
  have hl : pls x.lt 1 = x.lt + 1 := pls_is (by omega) (by omega)
  unfold addS addV
  rw [hc, hl]
  cases ho : x.o
  · have hT := a ho
    have hs : pls x.s v = T + v := by rw [hT]; exact pls_is (by omega) (by omega)
    simp only [Bool.false_eq_true, if_false]
    rw [hs]
    by_cases h1 : 1000000 < T + v
    · rw [if_pos (by simp [h1])]
      have hov : ovr x (T + v) = true := by unfold ovr; simp [h1]
      refine ⟨0, by rw [hov], ⟨fun h => (by cases h), fun _ => rfl, fun h => ?_, ?_, ?_, ?_⟩⟩
      · exact absurd h (by show x.c + 1 ≠ 0; omega)
      · show 0 ≤ x.c + 1 ∧ x.c + 1 ≤ ((j + 1 : Nat) : Int); omega
      · show 0 ≤ (if late = true then x.lt + 1 else x.lt) ∧ (if late = true then x.lt + 1 else x.lt) ≤ ((j + 1 : Nat) : Int); split <;> omega
      · omega
    · by_cases h2 : T + v < -1000000
      · rw [if_pos (by simp [h2])]
        have hov : ovr x (T + v) = true := by unfold ovr; simp [h2]
        refine ⟨0, by rw [hov], ⟨fun h => (by cases h), fun _ => rfl, fun h => ?_, ?_, ?_, ?_⟩⟩
        · exact absurd h (by show x.c + 1 ≠ 0; omega)
        · show 0 ≤ x.c + 1 ∧ x.c + 1 ≤ ((j + 1 : Nat) : Int); omega
        · show 0 ≤ (if late = true then x.lt + 1 else x.lt) ∧ (if late = true then x.lt + 1 else x.lt) ≤ ((j + 1 : Nat) : Int); split <;> omega
        · omega
      · rw [if_neg (by simp [h1, h2])]
        have hov : ovr x (T + v) = false := by unfold ovr; simp [h1, h2, ho]
        refine ⟨T + v, by rw [hov], ⟨fun _ => rfl, fun h => (by cases h), fun h => ?_, ?_, ?_, ?_⟩⟩
        · exact absurd h (by show x.c + 1 ≠ 0; omega)
        · show 0 ≤ x.c + 1 ∧ x.c + 1 ≤ ((j + 1 : Nat) : Int); omega
        · show 0 ≤ (if late = true then x.lt + 1 else x.lt) ∧ (if late = true then x.lt + 1 else x.lt) ≤ ((j + 1 : Nat) : Int); split <;> omega
        · omega
  · have hs := b ho
    have hov : ovr x (T + v) = true := by unfold ovr; simp [ho]
    simp only [if_true]
    refine ⟨x.s, by rw [hov], ⟨fun h => (by cases h), fun _ => hs, fun h => ?_, ?_, ?_, ?_⟩⟩
    · exact absurd h (by show x.c + 1 ≠ 0; omega)
    · show 0 ≤ x.c + 1 ∧ x.c + 1 ≤ ((j + 1 : Nat) : Int); omega
    · show 0 ≤ (if late = true then x.lt + 1 else x.lt) ∧ (if late = true then x.lt + 1 else x.lt) ≤ ((j + 1 : Nat) : Int); split <;> omega
    · omega
/-- The sum as the law tells it. -/
theorem SumI.end {j : Nat} {x : Su} {T : Int} (h : SumI j x T) : x.s = if x.o = true then 0 else T := by
  cases ho : x.o
  · rw [h.s0 ho]; simp
  · rw [h.s1 ho]; simp

end Go.Proofs.Ytpnkmnmchdabkaa
namespace Go.Proofs.Ytpnkmnmchdabkaa
open Go.RowKit

/-- The cells of what a window holds. -/
def suA (x : Su) : Array Value := #[.int .i64 x.c, .int .i64 x.s, .int .i64 x.mn, .int .i64 x.mx, .int .i64 x.f, .int .i64 x.l, .int .i64 x.lt, .bool x.o]
theorem suV_A (x : Su) : suV x = .agg (suA x) := rfl
theorem suA_size (x : Su) : (suA x).size = 8 := rfl
theorem suA_one (x : Su) : (suA x).all (·.oneCell') = true := by simp [suA, Value.oneCell']
theorem infoSum : (Try.prog.info? 132).map (fun i => (i.zero, i.size)) = some (some (.agg (suA su0)), 8) := by kernel_rfl
theorem infoSumSize : (Try.prog.info? 132).map (·.size) = some 8 := by kernel_rfl
theorem zvSum (w : World) : (zeroValue 132).run Try.prog w = .ok (.agg (suA su0)) w := (zero_of_info infoSum).1 w
/-- The load and the store of it, kept shut for the walk. -/
def ldU (a : Addr) : Sem Value := loadVar 132 a
def stU (a : Addr) (v : Value) : Sem Unit := storeVar 132 a v
theorem ldU_shut (a : Addr) : loadVar 132 a = ldU a := rfl
theorem stU_shut (a : Addr) (v : Value) : storeVar 132 a v = stU a v := rfl
theorem ldU_is {w : World} {b : Nat} {x : Su} {t : TypeId} {f : Nat × Nat} (h : w.heap[b]? = some (.cells (suA x) t f)) : (ldU ⟨b, 0, none⟩).run Try.prog w = .ok (.agg (suA x)) w :=
  run_loadVar_row w b t _ (suA x) f _ h Try.underlying132 rfl infoSumSize
theorem stU_is {w : World} {b : Nat} {x y : Su} {t : TypeId} (h : w.heap[b]? = some (.cells (suA x) t (0, 0))) : (stU ⟨b, 0, none⟩ (.agg (suA y))).run Try.prog w = .ok () (w.setRow b (suA y)) :=
  run_storeVar_row w b t _ (suA x) (suA y) h infoSumSize rfl (suA_one y)
theorem stU_new (w : World) (n : Nat) (x y : Su) (hn : n = w.heap.size) : (stU ⟨n, 0, none⟩ (.agg (suA y))).run Try.prog (w.alloc (.cells (suA x) 132)) = .ok () (w.alloc (.cells (suA y) 132)) := by
  subst hn
  rw [stU_is (heap_alloc_new w _), World.setRow_alloc_new]

end Go.Proofs.Ytpnkmnmchdabkaa
namespace Go.Proofs.Ytpnkmnmchdabkaa
open Go.RowKit
attribute [local go_sem ↓] Go.wp_at_zero Go.wp_at_succ

/-- A mark. -/
structure Mk where
  d : Int
  e : Int
  w : Int
def mkCells (x : Mk) : List Value := [.int .i64 x.d, .int .i64 x.e, .int .i64 x.w]
def mkRow : List Mk → List Value
  | [] => []
  | x :: r => mkCells x ++ mkRow r
theorem mkRow_append (l k : List Mk) : mkRow (l ++ k) = mkRow l ++ mkRow k := by
  induction l with
  | nil => rfl
  | cons s r ih => simp [mkRow, ih]
theorem mkRow_get (l : List Mk) (i j : Nat) (hj : j < 3) (s : Mk) (h : l[i]? = some s) : (mkRow l)[i * 3 + j]? = (mkCells s)[j]? := by
  induction l generalizing i with
  | nil => simp at h
  | cons x r ih =>
    cases i with
    | zero =>
      simp at h; subst h
      simp only [mkRow, Nat.zero_mul, Nat.zero_add]
      rw [List.getElem?_append_left (by simpa [mkCells] using hj)]
    | succ i =>
      simp at h
      simp only [mkRow]
      rw [List.getElem?_append_right (by simp only [mkCells, List.length_cons, List.length_nil]; omega), ← ih i h]
      congr 1
      simp only [mkCells, List.length_cons, List.length_nil]; omega
/-- The mark of shard k; of the first n. -/
def mkOf (l : List Sh) (dn : List Int) (k : Nat) : Mk := ⟨dnP dn k, epP dn k, ((wmUp l (dnN dn) l.length)[k]?).getD 0⟩
def mkUp (l : List Sh) (dn : List Int) : Nat → List Mk
  | 0 => []
  | n + 1 => mkUp l dn n ++ [mkOf l dn n]
theorem mkUp_len (l : List Sh) (dn : List Int) : ∀ n, (mkUp l dn n).length = n
  | 0 => rfl
  | n + 1 => by rw [mkUp, List.length_append, mkUp_len l dn n]; rfl
theorem mkUp_get (l : List Sh) (dn : List Int) : ∀ n k, k < n → (mkUp l dn n)[k]? = some (mkOf l dn k)
  | 0, k, h => by omega
  | n + 1, k, h => by
    rw [mkUp]
    by_cases e : k < n
    · rw [List.getElem?_append_left (by rw [mkUp_len]; exact e)]; exact mkUp_get l dn n k e
    · have e : k = n := by omega
      subst e
      rw [List.getElem?_append_right (by rw [mkUp_len]; omega), mkUp_len, Nat.sub_self]
      rfl

theorem infoMark : (Try.prog.info? 45).map (fun i => (i.zero, i.size, i.bytes)) = some (some (.agg #[.int .i64 0, .int .i64 0, .int .i64 0]), 3, 24) := by kernel_rfl

theorem kMark {t : Bool} {B : Bd} {w : World} {ρ : Nat → Nat} {gb : Nat} {C : Cfg} {now : Rest} {l : List Sh} (h : Grp w ρ gb C now l) (hf : Fits w ρ) (hI : Inv l) (hw : Wok t B C l now) (k : Nat) (hk : k < l.length) :
    Calls Try.prog 40 #[.pointer (some ⟨gb, 0, none⟩), .int .i64 k] w fun e w' => e = .returned (.tuple #[.agg #[.int .i64 (mkOf l now.dn k).d, .int .i64 (mkOf l now.dn k).e, .int .i64 (mkOf l now.dn k).w], .int .i64 0]) ∧ Below w.heap.size w w' := by
  obtain ⟨sv, m, g, cap, P, rfl, h1, h2, _⟩ := h.gs hf hI hw
  have h16 : m.length ≤ 16 := GrpL.le h1
  have hlen : (m.map (·.s)).length = m.length := by simp
  have e1 : ∀ k, k < 16 → dnP now.dn k = (dnN now.dn k : Int) := fun k hk => by
    have := (h2.mr k hk).1
    unfold dnN
    omega
  have := gMark_any h1 hI (dnN now.dn) (fun k => by
    by_cases hk : k < 16
    · have a := (h2.mr k hk).2.1
      have b := cn_le hI k
      unfold dnN; omega
    · unfold dnN dnP
      rw [List.getElem?_eq_none (by rw [h2.dnL]; omega)]
      exact Nat.zero_le _) e1 (fun k s hs => by
    have hk := (List.getElem?_eq_some_iff.1 hs).1
    have a := (h2.mr k (by omega)).2.1
    have b : cn (m.map (·.s)) k = s.s.rl.length := cn_is (by rw [List.getElem?_map, hs]; rfl)
    have c := e1 k (by omega)
    omega) k (by omega)
  refine this.mono fun e w' q => ⟨?_, q.2⟩
  rw [q.1]
  unfold mkOf
  rw [hlen, e1 k (by omega)]

set_option maxRecDepth 100000 in
set_option maxHeartbeats 4000000 in
theorem marks_any {t : Bool} {B : Bd} {N : Nat} {w : World} {ρ : Nat → Nat} {cb gb : Nat} {C : Cfg} {now : Rest} {l : List Sh} {E : List En} (h : Crew t B N w ρ cb gb C now l E l.length) :
    Calls Try.prog 17 #[.pointer (some ⟨cb, 0, none⟩)] w fun e w' => ∃ v, e = .returned (.tuple #[v, .bool true]) ∧ w'.ownsRow w.heap.size 45 3 v (mkUp l now.dn l.length).length (mkRow (mkUp l now.dn l.length)) ∧ Below w.heap.size w w' := by
  obtain ⟨i0, hi0, hz0, hz1, hz2⟩ := info_parts infoMark
  have h16 := h.inv.len
  have HM : Hid (∀ W, Below w.heap.size w W → ∀ k, k < l.length → Calls Try.prog 40 #[.pointer (some ⟨gb, 0, none⟩), .int .i64 k] W fun e w' => e = .returned (.tuple #[.agg #[.int .i64 (mkOf l now.dn k).d, .int .i64 (mkOf l now.dn k).e, .int .i64 (mkOf l now.dn k).w], .int .i64 0]) ∧ Below W.heap.size W w') := fun W hb k hk => by
    have hW := h.below hb
    exact kMark hW.grp hW.fits hW.inv hW.wok k hk
  have HC : Hid (∀ W, Below w.heap.size w W → (W.cell? ⟨cb, 6, none⟩ = some (.pointer (some ⟨gb, 0, none⟩)) ∧ W.cell? ⟨cb, 8, none⟩ = some (.int .i64 l.length)) ∧ ∀ k : Nat, Calls Try.prog 18 #[.pointer (some ⟨cb, 0, none⟩), .int .i64 k] W fun e w' => e = .returned (.int .i64 (held E k)) ∧ W = w') := fun W hb => by
    have hW := h.below hb
    obtain ⟨ea, ecap, _, c6, c7, c8, _, _, hE⟩ := crew_cells hW.ent2
    exact ⟨⟨c6, c8⟩, fun k => count_raw hW.short c7 hE k⟩
  have HK : Hid (∀ k, k < l.length → 0 ≤ (mkOf l now.dn k).d ∧ (mkOf l now.dn k).d ≤ (held E k : Int)) := fun k hk => by
    obtain ⟨_, _, _, _, g, cap, P, _, _, _, o, _⟩ := h.wok
    have a := o.mr k (by omega)
    have b := h.cnt k _ (List.getElem?_eq_getElem hk)
    have c := cn_is (List.getElem?_eq_getElem hk)
    exact ⟨a.1, by show dnP now.dn k ≤ _; omega⟩
  have HG : Hid (∀ n, mkUp l now.dn (n + 1) = mkUp l now.dn n ++ [mkOf l now.dn n]) := fun n => rfl
  have HL : Hid (∀ n, (mkUp l now.dn n).length = n) := mkUp_len l now.dn
  have H0 : Hid (mkUp l now.dn 0 = []) := rfl
  generalize mkOf l now.dn = mk at *
  generalize mkUp l now.dn = U at *
  clear h
  go_enter Try.func17, Try.ntmps17
  go_wp2
  go_loopw [4, 5] (fun p q wr => ∃ (j cp : Nat) (a : Option Addr), j ≤ l.length ∧ q = .int .i64 j ∧ p = .slice a (U j).length cp ∧ wr.ownsRow w.heap.size 45 3 (.slice a (U j).length cp) (U j).length (mkRow (U j)) ∧ Below w.heap.size w wr) (fun _ q _ => l.length - (intOf q).toNat)
  case atStart => exact ⟨0, 0, none, Nat.zero_le _, rfl, by rw [unhide H0]; rfl, by rw [unhide H0]; exact World.ownsRow_nil _ _ _ _, Below.refl _ w⟩
  case round =>
    obtain ⟨j, cp, a, hj, rfl, rfl, hown, hB⟩ := hrel
    obtain ⟨⟨c6, c8⟩, _⟩ := unhide HC wr hB
    have hUl := hide (unhide HL j)
    by_cases hlt : j < l.length
    · have HS := hide (unhide HG j)
      have hk := unhide HK j hlt
      have C1 := hide (unhide HM wr hB j hlt)
      have HO := hide hown
      have HB := hide hB
      have hws := hB.size
      have HGL := hide (fun q hq => hown.lt q hq)
      generalize mk j = x at *
      generalize hFF : U j = F at *
      have HFF := hide hFF
      clear hown hB hFF
      go_wp2_with fail
      refine (unhide C1).mono ?_
      rintro e w1 ⟨rfl, hb1⟩
      have hF16 : F.length ≤ 16 := by have := unhide hUl; omega
      have N1 := heap_alloc_new w1 (.cells #[.int .i64 x.d, .int .i64 x.e, .int .i64 x.w] 45)
      have B1 : Hid (Below w.heap.size w (w1.alloc (.cells #[.int .i64 x.d, .int .i64 x.e, .int .i64 x.w] 45))) := ((unhide HB).trans (hb1.mono hws)).alloc (by have := hb1.size; omega) _
      have hz1' : w.heap.size ≤ w1.heap.size := by have := hb1.size; omega
      have HO1 : Hid ((w1.alloc (.cells #[.int .i64 x.d, .int .i64 x.e, .int .i64 x.w] 45)).ownsRow w.heap.size 45 3 (.slice a F.length cp) F.length (mkRow F)) := (ownsRow_of_block (unhide HO) fun q hq => hb1.block q (unhide HGL q hq).2).alloc _
      have sz1 : (w1.alloc (.cells #[.int .i64 x.d, .int .i64 x.e, .int .i64 x.w] 45)).heap.size = w1.heap.size + 1 := by simp
      clear hb1 HB HO
      go_wp2_with fail
      generalize w1.alloc (.cells #[.int .i64 x.d, .int .i64 x.e, .int .i64 x.w] 45) = W at *
      generalize hmb : w1.heap.size = mb at *
      have y0 := cell_of N1 0
      have y1 := cell_of N1 1
      have y2 := cell_of N1 2
      simp at y0 y1 y2
      have hx0 : ¬ x.d < 0 := by omega
      have hx1 : ¬ (held E j : Int) < x.d := by omega
      have CN := hide ((unhide HC _ (unhide B1).drew).2 j)
      go_region_held3 (fun w' => w'.cell? ⟨mb, 0, none⟩ = some (.int .i64 x.d)) (first | go_keep | trivial) ((go_at_call 18; refine (unhide CN).mono ?_; rintro e w2 ⟨rfl, rfl⟩))
      have D0 : W.drew.cell? ⟨mb, 0, none⟩ = some (.int .i64 x.d) := y0
      have D1 : W.drew.cell? ⟨mb, 1, none⟩ = some (.int .i64 x.e) := y1
      have D2 : W.drew.cell? ⟨mb, 2, none⟩ = some (.int .i64 x.w) := y2
      have BD := hide (unhide B1).drew
      have OD : Hid (W.drew.ownsRow w.heap.size 45 3 (.slice a F.length cp) F.length (mkRow F)) := ownsRow_of_block (unhide HO1) fun q hq => rfl
      have szD : Hid (W.drew.heap.size = mb + 1) := sz1
      have hGD := hide (fun q hq => (unhide OD).lt q hq)
      clear y0 y1 y2 B1 HO1 sz1 N1 CN c6 c8
      generalize W.drew = V at *
      go_wp2_with (at_builtin; go_must (refine wpList_append_lies _ rfl _ _ _ rfl w.heap.size 45 i0 _ 3 24 Try.underlying39 hi0 hz0 hz1 hz2 rfl (by omega) _ F.length (mkRow F) rfl ?own ⟨V.heap.size, 0, none⟩ 1 1 (mkCells x) rfl rfl ?news ?one (by omega) ?h63 ?bytes ?base (V.heap.size + 1) ?hH ?next))
      case own => exact (unhide OD).alloc _
      case news => exact World.news_of_block (heap_alloc_new V _)
      case one =>
        intro u hu
        simp [mkCells] at hu
        rcases hu with rfl | rfl | rfl <;> rfl
      case h63 => unfold maxLen; omega
      case bytes => omega
      case base => have := unhide szD; simp; omega
      case hH => simp
      case next =>
        intro g2 cap2 w2 hown2 hgrow2 hat hlt2
        have hB2 : Hid (Below w.heap.size w w2) := ((unhide BD).alloc (by have := unhide szD; omega) _).grown hgrow2 (by have := unhide szD; simp; omega) (fun q hq => (unhide hGD q hq).1)
        have HN := hide hown2
        clear hown2 hgrow2 hat
        go_wp2
        go_roundw
        case rel =>
          refine ⟨j + 1, cap2, some ⟨g2, 0, none⟩, by omega, by go_num, ?_, ?_, unhide hB2⟩
          · rw [unhide HS]; simp
          · rw [unhide HS, mkRow_append]
            simpa [mkRow] using unhide HN
        case measure => simp [intOf]; omega
    · have e : j = l.length := by omega
      subst e
      have HO := hide hown
      have HB := hide hB
      clear hown hB
      go_wp2
      refine bodyPost_ret (v := .tuple #[.slice a (U l.length).length cp, .bool true]) ?_ rfl ⟨_, rfl, unhide HO, unhide HB⟩
      simp [results, Try.results17, go_sem]

end Go.Proofs.Ytpnkmnmchdabkaa
namespace Go.Proofs.Ytpnkmnmchdabkaa
open Go.RowKit

theorem lat_mono {a b a' b' : Int} (h : a ≤ a') (h' : b ≤ b') : lat a b ≤ lat a' b' := by unfold lat; split <;> split <;> omega
theorem lat_left (a b : Int) : a ≤ lat a b := by unfold lat; split <;> omega
theorem ahUp_more (a : Int) (rl : List Rc) (p : Nat) : ∀ q, ahUp a rl p ≤ ahUp a rl (p + q)
  | 0 => Int.le_refl _
  | q + 1 => by
    refine Int.le_trans (ahUp_more a rl p q) ?_
    show _ ≤ ahUp a rl (p + q + 1)
    have e : ahUp a rl (p + q + 1) = match rl[p + q]? with
      | some r => lat (ahUp a rl (p + q)) r.t
      | none => ahUp a rl (p + q) := rfl
    rw [e]
    cases rl[p + q]? with
    | none => exact Int.le_refl _
    | some r => exact lat_left _ _
theorem ahUp_same {a a' : Int} (h : a ≤ a') {rl rl' : List Rc} (hp : rl <+: rl') : ∀ p, p ≤ rl.length → ahUp a rl p ≤ ahUp a' rl' p
  | 0, _ => h
  | p + 1, hl => by
    have ih := ahUp_same h hp p (by omega)
    obtain ⟨r, hr⟩ : ∃ r, rl[p]? = some r := ⟨rl[p], List.getElem?_eq_getElem (by omega)⟩
    have hr' : rl'[p]? = some r := by
      obtain ⟨t, rfl⟩ := hp
      rw [List.getElem?_append_left (by omega)]; exact hr
    unfold ahUp
    rw [hr, hr']
    exact lat_mono ih (Int.le_refl _)
theorem ahUp_mono {a a' : Int} (h : a ≤ a') {rl rl' : List Rc} (hp : rl <+: rl') {p p' : Nat} (hl : p ≤ rl.length) (hpp : p ≤ p') : ahUp a rl p ≤ ahUp a' rl' p' := by
  obtain ⟨q, rfl⟩ := Nat.exists_eq_add_of_le hpp
  exact Int.le_trans (ahUp_same h hp p hl) (ahUp_more a' rl' p q)

theorem wmUp_stay (l : List Sh) (d : Nat → Nat) {k n : Nat} (h : k < n) : ∀ m, (wmUp l d (n + m))[k]? = (wmUp l d n)[k]?
  | 0 => rfl
  | m + 1 => by
    rw [← wmUp_stay l d h m]
    show (wmUp l d (n + m + 1))[k]? = _
    rw [wmUp]
    cases l[n + m]? with
    | none => rfl
    | some s => exact List.getElem?_set_ne (by omega)
theorem wmUp_at {l : List Sh} {d : Nat → Nat} {k n : Nat} {s : Sh} (hk : l[k]? = some s) (h16 : k < 16) (h : k < n) : (wmUp l d n)[k]? = some (ahUp (topOf (wmUp l d k) s.par) s.rl (d k)) := by
  obtain ⟨m, rfl⟩ := Nat.exists_eq_add_of_le (show k + 1 ≤ n by omega)
  rw [wmUp_stay l d (Nat.lt_succ_self k) m, wmUp, hk]
  exact List.getElem?_set_self (by rw [wmUp_len]; exact h16)
theorem fold_mono {wm wm' : List Int} : ∀ (par : List Int) (a a' : Int), a ≤ a' → (∀ p ∈ par, (wm[p.toNat]?).getD 0 ≤ (wm'[p.toNat]?).getD 0) → par.foldl (fun a p => lat a ((wm[p.toNat]?).getD 0)) a ≤ par.foldl (fun a p => lat a ((wm'[p.toNat]?).getD 0)) a'
  | [], _, _, h, _ => h
  | p :: r, a, a', h, hp => by
    rw [List.foldl_cons, List.foldl_cons]
    exact fold_mono r _ _ (lat_mono h (hp p (by simp))) (fun q hq => hp q (by simp [hq]))
/-- The watermarks only grow. -/
theorem wm_grows {l l' : List Sh} {d d' : Nat → Nat} (hI : Inv l) (ha : Adv l l') (hd : ∀ (k : Nat) (s : Sh), l[k]? = some s → d k ≤ s.rl.length) (hdd : ∀ k, d k ≤ d' k) : ∀ (k : Nat) (n n' : Nat), k < l.length → k < n → k < n' → ((wmUp l d n)[k]?).getD 0 ≤ ((wmUp l' d' n')[k]?).getD 0 := by
  intro k
  induction k using Nat.strongRecOn with
  | ind k ih =>
    intro n n' hk hn hn'
    have hs : l[k]? = some l[k] := List.getElem?_eq_getElem hk
    generalize l[k] = s at hs
    obtain ⟨s', hs', e1, e2, _⟩ := ha k s hs
    have h16 := hI.len
    rw [wmUp_at hs (by omega) hn, wmUp_at hs' (by omega) hn']
    show ahUp _ _ _ ≤ ahUp _ _ _
    refine ahUp_mono ?_ e2 (hd k s hs) (hdd k)
    rw [e1]
    unfold topOf
    refine fold_mono s.par _ _ (Int.le_refl _) (fun p hp => ?_)
    obtain ⟨q, t, rfl, hq, _⟩ := hI.parR k s hs p hp
    rw [show ((q : Int)).toNat = q by omega]
    exact ih q hq k k (by omega) hq hq

/-- Marks only grow. -/
theorem mk_grows {l l' : List Sh} {dn dn' : List Int} (hI : Inv l) (hg : Gro dn l dn' l') (h0 : ∀ k, k < 16 → 0 ≤ dnP dn k ∧ dnP dn k ≤ cn l k) (k : Nat) (hk : k < l.length) : (mkOf l dn k).d ≤ (mkOf l' dn' k).d ∧ (mkOf l dn k).e ≤ (mkOf l' dn' k).e ∧ (mkOf l dn k).w ≤ (mkOf l' dn' k).w := by
  have h16 := hI.len
  have hl := hg.1.len
  refine ⟨(hg.2 k).1, (hg.2 k).2, ?_⟩
  refine wm_grows hI hg.1 (fun k s hs => ?_) (fun k => ?_) k _ _ hk hk (by omega)
  · have hkl := (List.getElem?_eq_some_iff.1 hs).1
    have := (h0 k (by omega)).2
    rw [cn_is hs] at this
    unfold dnN
    have e : (s.cnt : Nat) = s.rl.length := rfl
    omega
  · have := (hg.2 k).1
    unfold dnN
    omega

end Go.Proofs.Ytpnkmnmchdabkaa
