import Derived.Test.YtpnkmnmchdabkaaM01
import Derived.Deep.DeepMust
namespace Go.Proofs.Ytpnkmnmchdabkaa
open Go.RowKit

theorem info138 : (Try.prog.info? 141).map (fun i => (i.zero, i.size, i.bytes)) = some (some (.agg #[.int .i64 0, .int .i64 0, .bool false, .slice none 0 0, .slice none 0 0]), 5, 72) := by kernel_rfl

/-- P5. -/
def aSplit (l : List Sh) (n at_ : Int) : List Sh × Int × Int :=
  if 0 ≤ n ∧ n < l.length then
    match l[n.toNat]? with
    | none => (l, 0, 5)
    | some s =>
      if s.op = false then (l, 0, 6)
      else if at_ ≤ s.lo ∨ s.hi ≤ at_ then (l, 0, 7)
      else if 14 < l.length then (l, 0, 8)
      else (l.set n.toNat { s with op := false } ++ [⟨s.lo, at_, true, [n], []⟩, ⟨at_, s.hi, true, [n], []⟩], l.length, 0)
  else (l, 0, 5)

theorem GrpPost.same {w w' : World} {ρ : Nat → Nat} {gb : Nat} {C : Cfg} {now : Rest} {sv : Value} {m : List Cs} (h : GrpAt w ρ gb C now sv m) (hf : Fits w ρ) (hm : m.length ≤ 16) (hk : Keeps (fun _ => False) w w') (hz : w'.heap.size = w.heap.size) :
    GrpPost w ρ gb C now (m.map (·.s)) w' :=
  ⟨ρ, sv, m, rfl, h.keeps hk (fun _ h => h.elim) (fun _ _ => rfl) hm, hk.mono (fun _ _ h => h.elim), Ext.refl hf, fun k hk => hf k (by omega)⟩

theorem Keeps.drewN {S : Nat → Prop} (w : World) (n : Nat) : Keeps S w (w.drewN n) := ⟨rfl, rfl, rfl, Nat.le_refl _, fun _ _ _ => rfl⟩

/-- A shard is appended to the shards' row: the walk goes on to the store. -/
theorem wpList_append_shard {ops : Array Oper} {rest : List Oper} {o : Oper} {a : Act} {Q : Exit → Act → World → Prop} (W : World) {ρ : Nat → Nat} {gb : Nat} {C : Cfg} {now : Rest} {sv : Value} {m : List Cs} (n : Nat) (hn : m.length = n)
    (h : GrpAt W ρ gb C now sv m) (hf : Fits W ρ) (hm : n ≤ 15) (lo hi : Int) (ps : List Int) (N p : Nat) (hN : W.heap.size = N) (hp : ps.length = p) (hp2 : p ≤ 2) (arr : Array Value) (harr : arr = (ps.map (Value.int .i64)).toArray)
    (hgd : o.guard = none) (s x : Operand) (ho : o.op = .call { callee := .builtin .append, args := #[s, x], argTypes := #[79, 79] })
    (hs : a.eval s = sv) (hx : a.eval x = .slice (some ⟨N + 1, 0, none⟩) 1 1)
    (H : ∀ g cap w2, w2.cell? ⟨gb, 7, none⟩ = some sv → w2.frozen? ⟨gb, 7, none⟩ = false →
      GrpPostV W ρ gb C now (.slice (some ⟨g, 0, none⟩) (n + 1) cap) (m.map (·.s) ++ [⟨lo, hi, true, ps, []⟩]) (w2.setCell ⟨gb, 7, none⟩ (.slice (some ⟨g, 0, none⟩) (n + 1) cap)) →
      wpList Try.prog ops Q rest (a.put o.dst (.slice (some ⟨g, 0, none⟩) (n + 1) cap)) w2) :
    wpList Try.prog ops Q (o :: rest) a ((W.alloc (.cells arr 3)).alloc (.cells #[.int .i64 lo, .int .i64 hi, .bool true, .slice (some ⟨N, 0, none⟩) p p, .slice none 0 0] 141)) := by
  subst hn hp harr hN
  obtain ⟨i0, hi0, hz0, hz1, hz2⟩ := info_parts info138
  have hsz1 : (W.alloc (.cells (ps.map (Value.int .i64)).toArray 3)).heap.size = W.heap.size + 1 := by simp
  refine wpList_append_lies _ hgd s x 79 ho 0 141 i0 _ 5 72 Try.underlying79 hi0 hz0 hz1 hz2 rfl (by omega) sv m.length (logCells m) hs ((h.log.row.alloc _).alloc _) ⟨W.heap.size + 1, 0, none⟩ 1 1
    [.int .i64 lo, .int .i64 hi, .bool true, .slice (some ⟨W.heap.size, 0, none⟩) ps.length ps.length, .slice none 0 0] hx rfl ?_ ?_ (by omega) (by unfold maxLen; omega) (by omega) (Nat.zero_le _) (W.heap.size + 2) (by simp) ?_
  · have := heap_alloc_new (W.alloc (.cells (ps.map (Value.int .i64)).toArray 3)) (.cells #[.int .i64 lo, .int .i64 hi, .bool true, .slice (some ⟨W.heap.size, 0, none⟩) ps.length ps.length, .slice none 0 0] 141)
    rw [hsz1] at this
    exact World.news_of_block this
  · intro u hu
    simp at hu
    rcases hu with rfl | rfl | rfl | rfl | rfl <;> rfl
  · intro g cap w2 hown hgrow hat _
    have hgb := lt_of_heap h.blk
    have hne : some gb ≠ sv.ownBlock := fun e => by have := h.log.rowT gb e.symm; rw [h.tag] at this; omega
    have e1 : ((W.alloc (.cells (ps.map (Value.int .i64)).toArray 3)).alloc (.cells #[.int .i64 lo, .int .i64 hi, .bool true, .slice (some ⟨W.heap.size, 0, none⟩) ps.length ps.length, .slice none 0 0] 141)).heap[gb]? = W.heap[gb]? := by
      rw [Below.heap_alloc _ _ _ (by simp; omega), Below.heap_alloc _ _ _ hgb]
    have hb : w2.heap[gb]? = some (.cells (grpArr C sv now) 94 (0, 0)) := by
      rw [hgrow.block gb (by simp; omega) hne, e1, h.blk]
    refine H g cap w2 (cell_of hb 7) (frozen_of hb 7) ?_
    refine h.grow hf hm lo hi ps hp2 g cap W.heap.size rfl hown _ ?_ (((Keeps.refl _ W).alloc _).alloc _) (by simp; omega) hgrow (by simpa using hat)
    rw [Below.heap_alloc _ _ _ (by simp)]
    exact heap_alloc_new W _

theorem aSplit_at {l : List Sh} {k : Nat} {s : Sh} (hs : l[k]? = some s) (a : Int) :
    aSplit l k a = if s.op = false then (l, 0, 6) else if a ≤ s.lo ∨ s.hi ≤ a then (l, 0, 7) else if 14 < l.length then (l, 0, 8)
      else (l.set k { s with op := false } ++ [⟨s.lo, a, true, [(k : Int)], []⟩, ⟨a, s.hi, true, [(k : Int)], []⟩], (l.length : Int), 0) := by
  have := (List.getElem?_eq_some_iff.1 hs).1
  unfold aSplit
  rw [if_pos (by omega)]
  simp only [Int.toNat_natCast, hs]

theorem map_get {m : List Cs} {k : Nat} {s : Cs} (h : m[k]? = some s) : (m.map (·.s))[k]? = some s.s := by simp [h]

set_option maxRecDepth 100000 in
set_option maxHeartbeats 1000000 in
theorem split_any (w : World) (ρ : Nat → Nat) (gb : Nat) (C : Cfg) (now : Rest) (sv : Value) (m : List Cs) (n a : Int) (h : GrpAt w ρ gb C now sv m) (hf : Fits w ρ) (hm0 : 0 < m.length) (hm : m.length ≤ 16) :
    Calls Try.prog 77 #[.pointer (some ⟨gb, 7, none⟩), .int .i64 n, .int .i64 a] w fun e w' =>
      e = .returned (.tuple #[.int .i64 (aSplit (m.map (·.s)) n a).2.1, .int .i64 (aSplit (m.map (·.s)) n a).2.2]) ∧ GrpPost w ρ gb C now (aSplit (m.map (·.s)) n a).1 w' := by
  obtain ⟨c6, f6, _, _, hgb⟩ := h.cells
  obtain ⟨bs, cap, rfl, hbs, hbsl, hcap, hcm, ff, cc⟩ := h.log.shape hm0
  by_cases hn : 0 ≤ n ∧ n < m.length
  · obtain ⟨k, rfl⟩ := Int.eq_ofNat_of_zero_le hn.1
    have hk : k < m.length := by omega
    obtain ⟨s, hs⟩ : ∃ s, m[k]? = some s := ⟨m[k], List.getElem?_eq_getElem hk⟩
    obtain ⟨c0, c1, c2, _, _⟩ := cc k s hs
    have HH := hide (has_any gb 7 m.length cap (some ⟨bs, 0, none⟩) k w c6)
    have d : decide (0 ≤ (k : Int) ∧ (k : Int) < m.length) = true := by simp; omega
    rw [d] at HH
    have HA := hide (aSplit_at (map_get hs) a)
    have HP := fun n => hide (GrpPost.same h hf hm (Keeps.drewN w n) rfl)
    cases hop : s.s.op
    · rw [hop] at c2 HA
      clear hop h hf hs cc d
      go_enter Try.func77, Try.ntmps77
      go_wp2_with (go_at_call 54; refine (unhide HH).mono ?_; rintro e w' ⟨rfl, rfl⟩)
      go_quiet (fail)
      go_wp2
      go_ret2
      rw [unhide HA]
      exact ⟨rfl, unhide (HP _)⟩
    · rw [hop] at c2 HA
      by_cases ha : a ≤ s.s.lo
      · have HB : Hid (aSplit (m.map (·.s)) k a = (m.map (·.s), 0, 7)) := by
          refine hide ?_; rw [unhide HA, if_neg (by simp), if_pos (Or.inl ha)]
        clear hop h hf hs cc d HA
        go_enter Try.func77, Try.ntmps77
        go_wp2_with (go_at_call 54; refine (unhide HH).mono ?_; rintro e w' ⟨rfl, rfl⟩)
        go_quiet (fail)
        go_wp2
        go_ret2
        rw [unhide HB]
        exact ⟨rfl, unhide (HP _)⟩
      · by_cases ha2 : s.s.hi ≤ a
        · have HB : Hid (aSplit (m.map (·.s)) k a = (m.map (·.s), 0, 7)) := by
            refine hide ?_; rw [unhide HA, if_neg (by simp), if_pos (Or.inr ha2)]
          clear hop h hf hs cc d HA
          go_enter Try.func77, Try.ntmps77
          go_wp2_with (go_at_call 54; refine (unhide HH).mono ?_; rintro e w' ⟨rfl, rfl⟩)
          go_quiet (fail)
          go_wp2
          go_ret2
          rw [unhide HB]
          exact ⟨rfl, unhide (HP _)⟩
        · have HR := fun (q : Nat) => hide (hasRoom_any gb 7 m.length cap (some ⟨bs, 0, none⟩) 2 (w.drewN q) (by omega) (by omega) (by omega) c6)
          by_cases hl : 14 < m.length
          · have HB : Hid (aSplit (m.map (·.s)) k a = (m.map (·.s), 0, 8)) := by
              refine hide ?_; rw [unhide HA, if_neg (by simp), if_neg (by omega), if_pos (by simpa using hl)]
            have d2 : decide ((m.length : Int) + 2 ≤ 16) = false := by simp; omega
            rw [d2] at HR
            clear hop h hf hs cc d HA d2
            go_enter Try.func77, Try.ntmps77
            go_wp2_with (go_at_call 54; refine (unhide HH).mono ?_; rintro e w' ⟨rfl, rfl⟩)
            go_quiet (fail)
            go_wp2_with (go_at_call 105; refine (unhide (HR _)).mono ?_; rintro e w' ⟨rfl, rfl⟩)
            go_ret2
            rw [unhide HB]
            exact ⟨rfl, unhide (HP _)⟩
          · have HB : Hid (aSplit (m.map (·.s)) k a = ((m.map (·.s)).set k { s.s with op := false } ++ [⟨s.s.lo, a, true, [(k : Int)], []⟩, ⟨a, s.s.hi, true, [(k : Int)], []⟩], ((m.map (·.s)).length : Int), 0)) := by
              refine hide ?_; rw [unhide HA, if_neg (by simp), if_neg (by omega), if_neg (by simpa using hl)]
            have d2 : decide ((m.length : Int) + 2 ≤ 16) = true := by simp; omega
            rw [d2] at HR
            have f2 := ff (k * 5 + 2)
            have hne : bs ≠ gb := by rintro rfl; have := h.tag; omega
            have H1 := fun q : Nat => hide ((h.keeps (Keeps.drewN w q) (fun _ (h : False) => h.elim) (fun _ _ => rfl) hm).close k s hs)
            have HF := hide hf
            have HM : Hid ((m.set k { s with s := { s.s with op := false } }).map (·.s) = (m.map (·.s)).set k { s.s with op := false }) := by
              refine hide ?_; rw [List.map_set]
            have HL : Hid ((m.set k { s with s := { s.s with op := false } }).length = m.length) := by refine hide ?_; simp
            generalize m.set k { s with s := { s.s with op := false } } = m1 at *
            have HB2 : Hid (aSplit (m.map (·.s)) k a = (m1.map (·.s) ++ [⟨s.s.lo, a, true, [(k : Int)], []⟩] ++ [⟨a, s.s.hi, true, [(k : Int)], []⟩], (m.length : Int), 0)) := by
              refine hide ?_; rw [unhide HB, unhide HM]; simp
            have hf1 : Hid (∀ q : Nat, Fits ((w.drewN q).setCell ⟨bs, k * 5 + 2, none⟩ (.bool false)) ρ) := fun q j hj => hf j (by simpa [World.setCell] using hj)
            have hK1 : Hid (∀ q : Nat, Keeps (mine ρ) w ((w.drewN q).setCell ⟨bs, k * 5 + 2, none⟩ (.bool false))) := fun q => (Keeps.drewN w q).setCell (Or.inl (show mine ρ bs by unfold mine; omega)) _
            have hE1 : Hid (Ext w.heap.size ρ ρ) := Ext.refl hf
            clear hop h hf hs cc d HA d2 HP ff HB HM
            go_enter Try.func77, Try.ntmps77
            go_wp2_with (go_at_call 54; refine (unhide HH).mono ?_; rintro e w' ⟨rfl, rfl⟩)
            go_quiet (fail)
            have HH1 := H1 nq
            rw [unhide HL] at HH1
            go_wp2_with (first | (go_at_call 105; refine (unhide (HR _)).mono ?_; rintro e w' ⟨rfl, rfl⟩) | (at_builtin; refine wpList_append_shard _ m.length (unhide HL) (unhide HH1) (unhide hf1 nq) (by omega) s.s.lo a [(k : Int)] w.heap.size 1 (by simp) rfl (by omega) _ rfl rfl _ _ rfl rfl rfl ?next))
            intro g2 cap2 w2 k6 e6 hpost
            have K1 := hide (unhide hK1 nq)
            generalize World.setCell (World.drewN w nq) _ _ = W1 at hpost K1
            obtain ⟨ρ3, m3, hm3, G3, K3, E3, F3⟩ := hpost
            have hl3 : m3.length = m.length + 1 := by
              have := congrArg List.length hm3
              simpa [unhide HL] using this
            have EE := hide ((unhide hE1).trans E3 (unhide K1).size)
            have KK := hide ((unhide K1).mineTrans K3 (unhide hE1))
            have HL3 := hide hl3
            have HM3 := hide hm3
            have HG3 := hide G3
            have HF3 := hide F3
            have hs3 : (w2.setCell ⟨gb, 7, none⟩ (.slice (some ⟨g2, 0, none⟩) (m.length + 1) cap2)).heap.size = w2.heap.size := by simp [World.setCell]
            have HS3 := hide hs3
            clear hm3 G3 K3 E3 F3 hl3 hs3 HH1 K1
            go_wp2_with (at_builtin; go_must (refine wpList_append_shard _ (m.length + 1) (unhide HL3) (unhide HG3) (unhide HF3) (by omega) a s.s.hi [(k : Int)] w2.heap.size 1 (unhide HS3) rfl (by omega) _ rfl rfl _ _ rfl rfl rfl ?next2))
            intro g4 cap4 w4 k7 e7 hpost4
            have HP4 := hide hpost4
            clear hpost4
            go_wp2
            go_ret2
            rw [unhide HB2]
            refine ⟨rfl, GrpPost.trans (unhide KK) (unhide EE) ?_⟩
            have := (unhide HP4).post
            rw [unhide HM3] at this
            exact this
  · have HH := hide (has_any gb 7 m.length cap (some ⟨bs, 0, none⟩) n w c6)
    have d : decide (0 ≤ n ∧ n < m.length) = false := by simp; omega
    rw [d] at HH
    have HA : Hid (aSplit (m.map (·.s)) n a = (m.map (·.s), 0, 5)) := by
      unfold aSplit; rw [if_neg (by simpa using hn)]; trivial
    have HG := hide (GrpPost.same h hf hm (Keeps.refl _ w) rfl)
    clear cc h d hn
    go_enter Try.func77, Try.ntmps77
    go_wp2_with (go_at_call 54; refine (unhide HH).mono ?_; rintro e w' ⟨rfl, rfl⟩)
    go_ret2
    rw [unhide HA]
    exact ⟨rfl, unhide HG⟩

end Go.Proofs.Ytpnkmnmchdabkaa
