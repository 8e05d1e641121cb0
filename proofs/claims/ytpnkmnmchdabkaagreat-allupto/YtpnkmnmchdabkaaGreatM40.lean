import Derived.Test.YtpnkmnmchdabkaaGreatM38
import Derived.Test.YtpnkmnmchdabkaaGreatWin
namespace Go.Proofs.YtpnkmnmchdabkaaGreat
open Go.RowKit
attribute [local go_sem ↓] Go.wp_at_zero Go.wp_at_succ
theorem SetAt.below {B sb b:Nat} {L:List Int} {w w':World} (h:SetAt B sb b L w) (hb:Below w.heap.size w w'):SetAt B sb b L w':=by
 obtain ⟨v,h1,h2,h3,h4,h5,h6⟩:=h
 exact ⟨v,(hb.block sb (lt_of_heap h1)).trans h1,ownsRow_of_block h2 fun q hq=>hb.block q (h2.lt q hq).2,h3,h4,h5,h6⟩
theorem SetAt.apart {B sb b:Nat} {L:List Int} {w:World} (h:SetAt B sb b L w) {c:Nat} (hc:w.heap.size≤c):SetAt B sb c L w:=by
 obtain ⟨v,h1,h2,h3,h4,h5,h6⟩:=h
 have:=lt_of_heap h1
 exact ⟨v,h1,h2,h3,h4,fun e=>by have:=(h2.lt c e).2;omega,by omega⟩
theorem keep7 {n b tb j:Nat} {C:Cfg} {t:Int} {w w':World} (hB:Below n w w') (h1:b<n) (h2:tb<n) (k0:w.cell? ⟨b,0,none⟩=some (.int .i64 C.a)) (k1:w.cell? ⟨b,1,none⟩=some (.int .i64 C.l)) (k2:w.cell? ⟨b,2,none⟩=some (.int .i64 C.b)) (k3:w.cell? ⟨b,3,none⟩=some (.int .i64 C.n)) (k4:w.cell? ⟨b,4,none⟩=some (.int .i64 C.s)) (k5:w.cell? ⟨b,5,none⟩=some (.int .i64 C.t)) (k6:w.cell? ⟨tb,j,none⟩=some (.int .i64 t)) :
 w'.cell? ⟨b,0,none⟩=some (.int .i64 C.a)∧w'.cell? ⟨b,1,none⟩=some (.int .i64 C.l)∧w'.cell? ⟨b,2,none⟩=some (.int .i64 C.b)∧w'.cell? ⟨b,3,none⟩=some (.int .i64 C.n)∧w'.cell? ⟨b,4,none⟩=some (.int .i64 C.s)∧w'.cell? ⟨b,5,none⟩=some (.int .i64 C.t)∧w'.cell? ⟨tb,j,none⟩=some (.int .i64 t) :=
 ⟨(hB.cell (p:=⟨b,0,none⟩) h1).trans k0,(hB.cell (p:=⟨b,1,none⟩) h1).trans k1,(hB.cell (p:=⟨b,2,none⟩) h1).trans k2,(hB.cell (p:=⟨b,3,none⟩) h1).trans k3,(hB.cell (p:=⟨b,4,none⟩) h1).trans k4,(hB.cell (p:=⟨b,5,none⟩) h1).trans k5,(hB.cell (p:=⟨tb,j,none⟩) h2).trans k6⟩
theorem addO_go {wd sl t:Int} {f:Nat} {s:Int} {L:List Int} (h:hldW wd s t=true):addO wd sl t (f+1) s L=addO wd sl t f (s - sl) (ins s L):=by
 rw [addO,if_pos h]
set_option maxRecDepth 100000 in
set_option maxHeartbeats 2000000 in
theorem addOf_any (B sb b:Nat) (L:List Int) (C:Cfg) (t:Int) (w:World) (hs:1≤C.s) (hs2:C.s≤100) (ht:0≤t∧t≤1000000) (hL:Sts L) (h:SetAt B sb b L w) :
 Calls Tryz.prog 114 #[.pointer (some ⟨sb,0,none⟩),.agg C.arr,.int .i64 t] w fun e w'=>e=.returned (.tuple #[])∧SetAt B sb (w.heap.size) (addT C.n C.s t L) w'∧Below B w w':=by
 have HH:Hid (∀s W,Calls Tryz.prog 54 #[.agg C.arr,.int .i64 s,.int .i64 t] W fun e w'=>e=.returned (.bool (holdsW C.n s t))∧Below W.heap.size W w'):=fun s W=>wHolds_any C s t W (by omega)
 have HA:Hid (∀s W M b,Sts M→b<W.heap.size→SetAt B sb b M W→Calls Tryz.prog 129 #[.pointer (some ⟨sb,0,none⟩),.int .i64 s] W fun e w'=>e=.returned (.tuple #[])∧SetAt B sb b (ins s M) w'∧Below B W w'∧w'.heap[b]?=W.heap[b]?):=fun s W M b h1 h2 h3=>setAdd_any B sb b M s W h1 h2 h3
 have HSA:=hide h
 have HST:=hide hL
 have hBw:B≤w.heap.size:=by
  obtain ⟨v,h1,_,_,h4,_⟩:=h
  have:=lt_of_heap h1
  omega
 have hm0:0≤t % C.s:=Int.emod_nonneg _ (by omega)
 have hm1:t % C.s≤t:=by
  have:=Int.emod_lt_of_pos t (show 0<C.s by omega)
  rw [Int.emod_def] at *
  have:=Int.ediv_nonneg ht.1 (show 0≤C.s by omega)
  have:=Int.mul_nonneg (show 0≤C.s by omega) this
  omega
 have htm:Int.tmod t C.s=t % C.s:=Int.tmod_eq_emod_of_nonneg ht.1
 have HM:Hid (addT C.n C.s t L=addO C.n C.s t (t.toNat+1) (t - t % C.s) L):=rfl
 rw [uh HM]
 generalize hr:t % C.s=r at *
 have hn0:¬C.s=0:=by omega
 have hn1:¬C.s<1:=by omega
 have HB0:Hid (SetAt B sb w.heap.size L (w.alloc (.cells C.arr 23))∧(w.alloc (.cells C.arr 23)).heap[w.heap.size]?=some (.cells C.arr 23 (0,0))∧Below B w (w.alloc (.cells C.arr 23))):=⟨(h.apart (Nat.le_refl _)).below ((Below.refl _ _).alloc (Nat.le_refl _) _),heap_alloc_new w _,(Below.refl _ _).alloc hBw _⟩
 clear h hL hr HM
 unfold Cfg.arr at HH HB0 ⊢
 go_enter Tryz.func114,Tryz.ntmps114
 go_wp2_with fail
 go_loopw [7] (fun u wr=>∃(f:Nat) (s:Int) (M:List Int),u=.int .i64 s∧s≤t∧-1000≤s∧s<f∧Sts M∧SetAt B sb w.heap.size M wr∧wr.heap[w.heap.size]?=some (.cells #[.int .i64 C.a,.int .i64 C.l,.int .i64 C.b,.int .i64 C.n,.int .i64 C.s,.int .i64 C.t] 23 (0,0))∧Below B w wr∧addO C.n C.s t f s M=addO C.n C.s t (t.toNat+1) (t - r) L) (fun u _=>(intOf u+1).toNat)
 case atStart=>exact ⟨t.toNat+1,t - r,L,rfl,by omega,by omega,by omega,uh HST,(uh HB0).1,(uh HB0).2.1,(uh HB0).2.2,rfl⟩
 case round =>
  obtain ⟨f,s,M,rfl,hst,hs0,hsf,hM,hSA,hC,hB,hE⟩:=hrel
  have k0:=cell_of hC 0
  have k1:=cell_of hC 1
  have k2:=cell_of hC 2
  have k3:=cell_of hC 3
  have k4:=cell_of hC 4
  have k5:=cell_of hC 5
  simp only [List.getElem?_toArray,List.getElem?_cons_zero,List.getElem?_cons_succ] at k0 k1 k2 k3 k4 k5
  have HSA2:=hide hSA
  have HC2:=hide hC
  have HB2:=hide hB
  have HE2:=hide hE
  have HM2:=hide hM
  have hlt:=lt_of_heap hC
  clear hSA hC hB hE hM
  go_wp2_with fail
  refine (uh HH _ _).mono ?_
  rintro e w1 ⟨rfl,hb1⟩
  have HS3:=hide ((uh HSA2).below hb1)
  have HC3:=hide ((hb1.block _ hlt).trans (uh HC2))
  have HB3:=hide ((uh HB2).trans (hb1.mono (by have:=(uh HB2).size;omega)))
  have hlt1:w.heap.size<w1.heap.size:=by have:=hb1.size;omega
  clear hb1 k0 k1 k2 k3 k4 k5
  cases hh:holdsW C.n s t
  ·have HF:=hide hh
   clear hh
   go_wp2
   go_end0
   refine ⟨rfl,?_,uh HB3⟩
   rw [←uh HE2,addO_end (uh HF)]
   exact uh HS3
  ·have hs3:0≤s:=by unfold holdsW at hh;simp only [decide_eq_true_eq] at hh;exact hh.1
   have HF:=hide hh
   clear hh
   go_wp2_with fail
   refine (uh HA s _ M _ (uh HM2) hlt1 (uh HS3)).mono ?_
   rintro e w2 ⟨rfl,hS4,hB4,hC4⟩
   have HS4:=hide hS4
   have HB4:=hide ((uh HB3).trans hB4)
   have HC4:=hide (hC4.trans (uh HC3))
   have k4:=cell_of (uh HC4) 4
   simp only [List.getElem?_toArray,List.getElem?_cons_zero,List.getElem?_cons_succ] at k4
   clear hS4 hB4 hC4
   go_wp2
   go_roundw
   case rel =>
    obtain ⟨f',rfl⟩:∃f',f=f'+1:=⟨f - 1,by omega⟩
    refine ⟨f',s - C.s,ins s M,rfl,by omega,by omega,by omega,(uh HM2).ins ⟨hs3,by omega⟩,uh HS4,uh HC4,uh HB4,?_⟩
    exact (addO_go (uh HF)).symm.trans (uh HE2)
   case measure=>simp [intOf];omega
set_option maxRecDepth 100000 in
set_option maxHeartbeats 2000000 in
theorem starts_any (C:Cfg) (ts:List Int) (ta:Option Addr) (tc:Nat) (w:World) (hs:1≤C.s) (hs2:C.s≤100) (ht:∀t ∈ ts,0≤t∧t≤1000000) (hl:ts.length≤1000) (hrow:w.ownsRow 0 3 1 (.slice ta ts.length tc) ts.length (ts.map (Value.int .i64))) :
 Calls Tryz.prog 85 #[.agg C.arr,.slice ta ts.length tc] w fun e w'=>∃v,e=.returned v∧w'.ownsRow w.heap.size 3 1 v (stsOf C.n C.s ts).length ((stsOf C.n C.s ts).map (Value.int .i64))∧Below w.heap.size w w':=by
 have HA:Hid (∀sb b L t W,0≤t∧t≤1000000→Sts L→SetAt (w.heap.size+1) sb b L W→Calls Tryz.prog 114 #[.pointer (some ⟨sb,0,none⟩),.agg C.arr,.int .i64 t] W fun e w'=>e=.returned (.tuple #[])∧SetAt (w.heap.size+1) sb W.heap.size (addT C.n C.s t L) w'∧Below (w.heap.size+1) W w'):=fun sb b L t W h1 h2 h3=>addOf_any (w.heap.size+1) sb b L C t W hs hs2 h1 h2 h3
 have HS:Hid (∀j,j≤ts.length→Sts (stsOf C.n C.s (ts.take j))):=fun j hj=>sts_of (fun t h=>(ht t h).2) j hj
 have HT:Hid (∀(j:Nat) (t:Int),ts[j]?=some t→stsOf C.n C.s (ts.take (j+1))=addT C.n C.s t (stsOf C.n C.s (ts.take j))∧(0≤t∧t≤1000000)∧∃tb,ta=some ⟨tb,0,none⟩∧tb<w.heap.size∧w.cell? ⟨tb,j,none⟩=some (.int .i64 t)):=fun j t hj=>by
  have h1:=(List.getElem?_eq_some_iff.1 hj).1
  obtain ⟨g2,c2,cur,e,_,hg,_⟩:=ownsRow_shape hrow (by omega)
  injection e with e
  subst e
  refine ⟨stsOf_take hj,ht t (List.mem_of_getElem? hj),g2,rfl,lt_of_heap hg,?_⟩
  rw [World.ownsRow.cellAt hrow j (by omega)]
  simp [hj]
 have HB0:Hid (∀o,SetAt (w.heap.size+1) (w.heap.size+1) w.heap.size [] ((w.alloc o).alloc (.cells #[.slice none 0 0] 192))∧((w.alloc o).alloc (.cells #[.slice none 0 0] 192)).heap[w.heap.size]?=some o∧Below w.heap.size w ((w.alloc o).alloc (.cells #[.slice none 0 0] 192))):=fun o =>
  ⟨⟨.slice none 0 0,new_two w _ _,World.ownsRow_nil _ _ _ _,by simp [Value.ownBlock],Nat.le_refl _,by simp [Value.ownBlock],by omega⟩,by rw [Below.heap_alloc _ _ _ (by simp)];exact heap_alloc_new w o,((Below.refl _ w).alloc (Nat.le_refl _) _).alloc (by simp) _⟩
 have HE:Hid (stsOf C.n C.s (ts.take 0)=[]):=rfl
 have HF:Hid (stsOf C.n C.s (ts.take ts.length)=stsOf C.n C.s ts):=by unfold Hid;rw [List.take_length]
 rw [←uh HF]
 generalize hU:(fun j=>stsOf C.n C.s (ts.take j))=U at *
 have HU:Hid (∀j,stsOf C.n C.s (ts.take j)=U j):=fun j=>congrFun hU j
 rw [uh HU ts.length]
 clear hU ht hrow HF
 unfold Cfg.arr at HA ⊢
 go_enter Tryz.func85,Tryz.ntmps85
 go_wp2_with fail
 go_loopw [6] (fun i wr=>∃(j b:Nat),i=.int .i64 j∧j≤ts.length∧SetAt (w.heap.size+1) (w.heap.size+1) b (U j) wr∧wr.heap[w.heap.size]?=some (.cells #[.int .i64 C.a,.int .i64 C.l,.int .i64 C.b,.int .i64 C.n,.int .i64 C.s,.int .i64 C.t] 23 (0,0))∧Below w.heap.size w wr) (fun i _=>ts.length - (intOf i).toNat)
 case atStart =>
  obtain ⟨a1,a2,a3⟩:=uh HB0 (.cells #[.int .i64 C.a,.int .i64 C.l,.int .i64 C.b,.int .i64 C.n,.int .i64 C.s,.int .i64 C.t] 23)
  exact ⟨0,w.heap.size,rfl,Nat.zero_le _,by rw [←uh HU 0,uh HE];exact a1,a2,a3⟩
 case round =>
  obtain ⟨j,b,rfl,hj,hS,hC,hB⟩:=hrel
  by_cases hlt:j<ts.length
  ·obtain ⟨t,htj⟩:∃t,ts[j]?=some t:=⟨ts[j],List.getElem?_eq_getElem hlt⟩
   obtain ⟨e1,e2,tb,rfl,htb,ct⟩:=uh HT j t htj
   have k0:=cell_of hC 0
   have k1:=cell_of hC 1
   have k2:=cell_of hC 2
   have k3:=cell_of hC 3
   have k4:=cell_of hC 4
   have k5:=cell_of hC 5
   simp only [List.getElem?_toArray,List.getElem?_cons_zero,List.getElem?_cons_succ] at k0 k1 k2 k3 k4 k5
   have ct':=(hB.cell (p:=⟨tb,j,none⟩) htb).trans ct
   have HSS:=hide hS
   have HCC:=hide hC
   have HBB:=hide hB
   have HE1:=hide e1
   have hSt:Hid (Sts (U j)):=by have:=uh HS j (by omega);rw [uh HU j] at this;exact this
   have HRS:Hid (∀n,SetAt (w.heap.size+1) (w.heap.size+1) b (U j) (wr.drewN n)):=fun n=>hS
   have hlw:=lt_of_heap hC
   clear hS hC hB ct htj e1
   have htb9:tb<wr.heap.size:=by have:=(uh HBB).size;omega
   have HRS9:Hid (SetAt (w.heap.size+1) (w.heap.size+1) b (U j) wr.drew):=uh HRS 1
   go_wp2_with fail
   go_region_held3 (fun w'=>w'.cell? ⟨w.heap.size,0,none⟩=some (.int .i64 C.a)∧w'.cell? ⟨w.heap.size,1,none⟩=some (.int .i64 C.l)∧w'.cell? ⟨w.heap.size,2,none⟩=some (.int .i64 C.b)∧w'.cell? ⟨w.heap.size,3,none⟩=some (.int .i64 C.n)∧w'.cell? ⟨w.heap.size,4,none⟩=some (.int .i64 C.s)∧w'.cell? ⟨w.heap.size,5,none⟩=some (.int .i64 C.t)∧w'.cell? ⟨tb,j,none⟩=some (.int .i64 t))
    (go_keep)
    ((go_at_call 114;refine (uh HA _ b (U j) t _ e2 (uh hSt) (uh HRS9)).mono ?_;rintro e w1 ⟨rfl,hS1,hB1⟩;obtain ⟨d0,d1,d2,d3,d4,d5,d6⟩:=keep7 (C:=C) hB1 (by simp) (show tb<w.heap.size+1 by omega) k0 k1 k2 k3 k4 k5 ct'))
   have HS8:=hide hS1
   have HB8:=hide hB1
   clear hS1 hB1 d0 d1 d2 d3 d4 d5 d6 k0 k1 k2 k3 k4 k5 ct'
   go_wp2
   go_roundw
   case rel =>
    have hb8:Below w.heap.size w w1:=(uh HBB).drew.trans ((uh HB8).mono (by omega))
    refine ⟨j+1,wr.drew.heap.size,by go_num,by omega,?_,((uh HB8).block w.heap.size (by omega)).trans (uh HCC),hb8⟩
    rw [←uh HU (j+1),uh HE1,uh HU j]
    exact uh HS8
   case measure=>simp [intOf];omega
  ·have e:j=ts.length:=by omega
   subst e
   obtain ⟨v,h1,h2,h3,h4,h5,h6⟩:=hS
   have c0:=cell_of h1 0
   simp only [List.getElem?_toArray,List.getElem?_cons_zero] at c0
   have H2:=hide h2
   have HBB:=hide hB
   clear h1 h2 h3 h4 h5 h6 hC hB
   go_wp2
   go_ret
   exact ⟨_,rfl,ownsRow_base (uh H2) (by omega),uh HBB⟩
theorem GS.conf {w:World} {ρ:Nat→Nat} {gb:Nat} {C:Cfg} {now:Rest} {sv:Value} {m:List Cs} {g cap:Nat} {ls:List Le} {P:List Pl} (h:GS w ρ gb C now sv m g cap ls P) :
 (w.cell? ⟨gb,0,none⟩=some (.int .i64 C.a)∧w.cell? ⟨gb,1,none⟩=some (.int .i64 C.l)∧w.cell? ⟨gb,2,none⟩=some (.int .i64 C.b)∧w.cell? ⟨gb,3,none⟩=some (.int .i64 C.n)∧w.cell? ⟨gb,4,none⟩=some (.int .i64 C.s)∧w.cell? ⟨gb,5,none⟩=some (.int .i64 C.t))∧gb<w.heap.size:=by
 have hb:=(GrpL.G h).blk
 refine ⟨⟨?_,?_,?_,?_,?_,?_⟩,lt_of_heap hb⟩
 all_goals
  rw [cell_of hb]
  simp [grpArr]
theorem fdTimes_take {F:List (Rc × Int)} {j:Nat} {x:Rc × Int} (h:F[j]?=some x):(F.take (j+1)).map (·.1.t)=(F.take j).map (·.1.t) ++ [x.1.t]:=by
 obtain ⟨h1,rfl⟩:=List.getElem?_eq_some_iff.1 h
 rw [List.take_succ_eq_append_getElem h1,List.map_append]
 rfl
set_option maxRecDepth 100000 in
set_option maxHeartbeats 400000 in
theorem gWindows_no {w:World} (gb:Nat) (s:ByteArray) (hs:s.size≤maxLen) (hk:keyB s=false) :
 Calls Tryz.prog 57 #[.pointer (some ⟨gb,0,none⟩),.string s] w fun e w'=>e=.returned (.tuple #[.slice none 0 0,.int .i64 2])∧Below w.heap.size w w':=by
 have HP:=hide (parse_any s w hs)
 rw [parsed_no hk] at HP
 unfold keyArr at HP
 go_enter Tryz.func57,Tryz.ntmps57
 go_wp2_with fail
 refine (uh HP).mono ?_
 rintro e w1 ⟨rfl,hb1⟩
 have HB:=hide hb1
 have hz:=hb1.size
 clear hb1
 go_wp2
 go_ret2
 exact ⟨rfl,(uh HB).alloc hz _⟩
set_option maxRecDepth 100000 in
set_option maxHeartbeats 400000 in
theorem gWindows_any {w:World} {ρ:Nat→Nat} {gb:Nat} {C:Cfg} {now:Rest} {sv:Value} {m:List Cs} {g cap:Nat} {ls:List Le} {P:List Pl} (h:GS w ρ gb C now sv m g cap ls P) (hI:Inv (m.map (·.s))) (d:Nat→Nat) (hd:∀k,d k≤32) (hdn:∀k,k<16→dnP now.dn k=(d k:Int)) (hdc:∀(k:Nat) (s:Cs),m[k]?=some s→d k≤s.s.rl.length) (s:ByteArray) (hs:s.size≤maxLen) (hk:keyB s=true) (hC:1≤C.s∧C.s≤100) (F:List (Rc × Int)) (hF:F=fdKey s.data.toList (fdUp (m.map (·.s)) d m.length) (fdUp (m.map (·.s)) d m.length).length) (hT:∀y ∈ F,0≤y.1.t∧y.1.t≤1000000) :
 Calls Tryz.prog 57 #[.pointer (some ⟨gb,0,none⟩),.string s] w fun e w'=>∃v,e=.returned (.tuple #[v,.int .i64 0])∧w'.ownsRow w.heap.size 3 1 v (stsOf C.n C.s (F.map (·.1.t))).length ((stsOf C.n C.s (F.map (·.1.t))).map (Value.int .i64))∧Below w.heap.size w w':=by
 obtain ⟨i0,hi0,hz0,hz1,hz2⟩:=info_parts info3
 have hFl:F.length≤512:=by
  have h1:=fdUp_le (l:=m.map (·.s)) hd m.length
  have h2:=GrpL.le h
  have h3:=fdKey_le s.data.toList (fdUp (m.map (·.s)) d m.length) (fdUp (m.map (·.s)) d m.length).length
  rw [hF];omega
 have HP:=hide (parse_any s w hs)
 rw [parsed_yes hk] at HP
 have HFo:Hid (∀W,Below w.heap.size w W→Calls Tryz.prog 53 #[.pointer (some ⟨gb,8,none⟩),.pointer (some ⟨gb,7,none⟩),.agg (keyArr s.data.toList)] W fun e w'=>∃v,e=.returned v∧w'.ownsRow W.heap.size 139 11 v F.length (fdRow F)∧Below W.heap.size W w'):=fun W hb=>by
  have:=foldedOf_any (h.below hb).1 hI d hd hdn hdc s.data.toList
  rw [←hF] at this
  unfold keyArr
  exact this
 have HCf:Hid (∀W,Below w.heap.size w W→(W.cell? ⟨gb,0,none⟩=some (.int .i64 C.a)∧W.cell? ⟨gb,1,none⟩=some (.int .i64 C.l)∧W.cell? ⟨gb,2,none⟩=some (.int .i64 C.b)∧W.cell? ⟨gb,3,none⟩=some (.int .i64 C.n)∧W.cell? ⟨gb,4,none⟩=some (.int .i64 C.s)∧W.cell? ⟨gb,5,none⟩=some (.int .i64 C.t))∧gb<W.heap.size):=fun W hb=>(h.below hb).1.conf
 have hTm:∀t ∈ F.map (·.1.t),0≤t∧t≤1000000:=fun t ht=>by
  obtain ⟨y,hy,rfl⟩:=List.mem_map.1 ht
  exact hT y hy
 have hTl:(F.map (·.1.t)).length=F.length:=List.length_map _
 have hTl2:(F.map (·.1.t)).length≤1000:=by omega
 have HTt:Hid (∀(j:Nat) (x:Rc × Int),F[j]?=some x→(F.take (j+1)).map (·.1.t)=(F.take j).map (·.1.t) ++ [x.1.t]):=fun j x hx=>fdTimes_take hx
 have HSt:Hid (∀(W:World) (ta:Option Addr) (tc:Nat),W.ownsRow 0 3 1 (.slice ta (F.map (·.1.t)).length tc) (F.map (·.1.t)).length ((F.map (·.1.t)).map (Value.int .i64))→Calls Tryz.prog 85 #[.agg C.arr,.slice ta (F.map (·.1.t)).length tc] W fun e w'=>∃v,e=.returned v∧w'.ownsRow W.heap.size 3 1 v (stsOf C.n C.s (F.map (·.1.t))).length ((stsOf C.n C.s (F.map (·.1.t))).map (Value.int .i64))∧Below W.heap.size W w'):=by
  intro W ta tc hr
  have:=starts_any C (F.map (·.1.t)) ta tc W hC.1 hC.2 hTm hTl2 hr
  exact this
 generalize stsOf C.n C.s (F.map (·.1.t))=R at *
 clear hT hF h hI hd hdn hdc hk hs
 unfold keyArr at HP HFo
 unfold Cfg.arr at HSt
 go_enter Tryz.func57,Tryz.ntmps57
 go_wp2_with fail
 refine (uh HP).mono ?_
 rintro e w1 ⟨rfl,hb1⟩
 have hz1':=hb1.size
 have HB1:Hid (∀o,Below w.heap.size w (w1.alloc o)):=fun o=>hb1.alloc hz1' o
 clear hb1
 go_wp2_with fail
 have K0:=heap_alloc_new w1 (.cells #[.int .u8 (byteAt s.data.toList 0),.int .u8 (byteAt s.data.toList 1),.int .u8 (byteAt s.data.toList 2),.int .u8 (byteAt s.data.toList 3),.int .u8 (byteAt s.data.toList 4),.int .u8 (byteAt s.data.toList 5),.int .u8 (byteAt s.data.toList 6),.int .u8 (byteAt s.data.toList 7)] 130)
 have BW:=uh HB1 (.cells #[.int .u8 (byteAt s.data.toList 0),.int .u8 (byteAt s.data.toList 1),.int .u8 (byteAt s.data.toList 2),.int .u8 (byteAt s.data.toList 3),.int .u8 (byteAt s.data.toList 4),.int .u8 (byteAt s.data.toList 5),.int .u8 (byteAt s.data.toList 6),.int .u8 (byteAt s.data.toList 7)] 130)
 have hW1:w1.heap.size<(w1.alloc (.cells #[.int .u8 (byteAt s.data.toList 0),.int .u8 (byteAt s.data.toList 1),.int .u8 (byteAt s.data.toList 2),.int .u8 (byteAt s.data.toList 3),.int .u8 (byteAt s.data.toList 4),.int .u8 (byteAt s.data.toList 5),.int .u8 (byteAt s.data.toList 6),.int .u8 (byteAt s.data.toList 7)] 130)).heap.size:=by simp
 generalize (w1.alloc (.cells #[.int .u8 (byteAt s.data.toList 0),.int .u8 (byteAt s.data.toList 1),.int .u8 (byteAt s.data.toList 2),.int .u8 (byteAt s.data.toList 3),.int .u8 (byteAt s.data.toList 4),.int .u8 (byteAt s.data.toList 5),.int .u8 (byteAt s.data.toList 6),.int .u8 (byteAt s.data.toList 7)] 130))=W at *
 obtain ⟨k0,k1,k2,k3,k4,k5,k6,k7⟩:=load8 K0
 have HK0:Hid (W.drew.heap[w1.heap.size]?=some (.cells #[.int .u8 (byteAt s.data.toList 0),.int .u8 (byteAt s.data.toList 1),.int .u8 (byteAt s.data.toList 2),.int .u8 (byteAt s.data.toList 3),.int .u8 (byteAt s.data.toList 4),.int .u8 (byteAt s.data.toList 5),.int .u8 (byteAt s.data.toList 6),.int .u8 (byteAt s.data.toList 7)] 130 (0,0))):=K0
 have HBW:=hide BW.drew
 have hWd:w1.heap.size<W.drew.heap.size:=hW1
 clear K0 BW HB1
 go_region_held3 (fun w'=>w'.cell? ⟨w1.heap.size,0,none⟩=some (.int .u8 (byteAt s.data.toList 0))∧w'.cell? ⟨w1.heap.size,1,none⟩=some (.int .u8 (byteAt s.data.toList 1))∧w'.cell? ⟨w1.heap.size,2,none⟩=some (.int .u8 (byteAt s.data.toList 2))∧w'.cell? ⟨w1.heap.size,3,none⟩=some (.int .u8 (byteAt s.data.toList 3))∧w'.cell? ⟨w1.heap.size,4,none⟩=some (.int .u8 (byteAt s.data.toList 4))∧w'.cell? ⟨w1.heap.size,5,none⟩=some (.int .u8 (byteAt s.data.toList 5))∧w'.cell? ⟨w1.heap.size,6,none⟩=some (.int .u8 (byteAt s.data.toList 6))∧w'.cell? ⟨w1.heap.size,7,none⟩=some (.int .u8 (byteAt s.data.toList 7)))
  (go_keep)
  ((go_at_call 53;refine (uh HFo _ (uh HBW)).mono ?_;rintro e w2 ⟨v,rfl,hv,hb2⟩;obtain ⟨d0,d1,d2,d3,d4,d5,d6,d7⟩:=load8 ((hb2.block _ hWd).trans (uh HK0))))
 obtain ⟨va,vc,rfl⟩:=ownsRow_len hv
 have HV:=hide hv
 have HB2:=hide ((uh HBW).trans (hb2.mono (by have:=(uh HBW).size;omega)))
 clear hv hb2 k0 k1 k2 k3 k4 k5 k6 k7 d0 d1 d2 d3 d4 d5 d6 d7 HK0 HFo
 go_wp2
 have HI0:Hid ((w2.alloc (.cells #[] 3)).ownsRow w2.heap.size 3 1 (.slice (some ⟨w2.heap.size,0,none⟩) 0 0) 0 []):=⟨rfl,.inr ⟨w2.heap.size,0,#[],rfl,Nat.le_refl _,heap_alloc_new w2 _,Nat.le_refl _,by unfold maxLen;omega,rfl,rfl⟩⟩
 obtain ⟨TR,hTR⟩:∃TR:Nat→List Value,∀j,TR j=((F.take j).map (·.1.t)).map (Value.int .i64):=⟨_,fun _=>rfl⟩
 have HTR:=hide hTR
 have HTR0:Hid (TR 0=[]):=hTR 0
 clear hTR
 go_loopw [9,10] (fun p q wr=>∃(j cp:Nat) (a:Option Addr),j≤F.length∧q=.int .i64 j∧p=.slice a j cp∧wr.ownsRow w2.heap.size 3 1 (.slice a j cp) j (TR j)∧Below w2.heap.size w2 wr) (fun _ q _=>F.length - (intOf q).toNat)
 case atStart=>exact ⟨0,0,some ⟨w2.heap.size,0,none⟩,Nat.zero_le _,rfl,rfl,by rw [uh HTR0];exact uh HI0,(Below.refl _ _).alloc (Nat.le_refl _) _⟩
 case round =>
  obtain ⟨j,cp,a,hj,rfl,rfl,hown,hB⟩:=hrel
  by_cases hlt:j<F.length
  ·obtain ⟨x,hx⟩:∃x,F[j]?=some x:=⟨F[j],List.getElem?_eq_getElem hlt⟩
   have hc:∃fb,va=some ⟨fb,0,none⟩∧wr.cell? ⟨fb,j*11+9,none⟩=some (.int .i64 x.1.t):=by
    obtain ⟨fb,cap',cur,hv2,_,hfg,_⟩:=ownsRow_shape (uh HV) (by omega)
    injection hv2 with e1
    subst e1
    refine ⟨fb,rfl,?_⟩
    rw [hB.cell (p:=⟨fb,j*11+9,none⟩) (lt_of_heap hfg),World.ownsRow.cellAt (uh HV) (j*11+9) (by omega),fdRow_get F j 9 (by omega) x hx]
    rfl
   obtain ⟨fb,rfl,y9⟩:=hc
   have HTx:Hid (TR (j+1)=TR j ++ [.int .i64 x.1.t]):=by unfold Hid;rw [uh HTR,uh HTR,uh HTt j x hx,List.map_append];rfl
   have HO:=hide hown
   have HBr:=hide hB
   have hzr:=hB.size
   clear hown hB hx
   go_wp2_with (at_builtin;go_must (refine wpList_append_lies _ rfl _ _ _ rfl w2.heap.size 3 i0 _ 1 8 Tryz.underlying34 hi0 hz0 hz1 hz2 rfl (by omega) _ j (TR j) rfl ?own ⟨wr.heap.size,0,none⟩ 1 1 [.int .i64 x.1.t] rfl rfl ?news ?one (by omega) ?h63 ?bytes ?base (wr.heap.size+1) ?hH ?next))
   case own=>exact (uh HO).alloc _
   case news=>exact World.news_of_block (cs:=#[.int .i64 x.1.t]) (heap_alloc_new wr _)
   case one=>simp [Value.oneCell']
   case h63=>unfold maxLen;omega
   case bytes=>omega
   case base=>simp;omega
   case hH=>simp
   case next =>
    intro g2 cap2 w6 hown6 hgrow6 hat hlt6
    have hB6:Hid (Below w2.heap.size w2 w6):=((uh HBr).alloc hzr _).grown hgrow6 (by simp;omega) (fun q hq=>((uh HO).lt q hq).1)
    have HN:Hid (w6.ownsRow w2.heap.size 3 1 (.slice (some ⟨g2,0,none⟩) (j+1) cap2) (j+1) (TR (j+1))):=by
     unfold Hid
     rw [uh HTx]
     exact hown6
    clear hown6 hgrow6 hat
    go_wp2
    go_roundw
    case rel=>exact ⟨j+1,cap2,some ⟨g2,0,none⟩,by omega,by go_num,rfl,uh HN,uh hB6⟩
    case measure=>simp [intOf];omega
  ·have e:j=F.length:=by omega
   subst e
   have HO:Hid (wr.ownsRow 0 3 1 (.slice a (F.map (·.1.t)).length cp) (F.map (·.1.t)).length ((F.map (·.1.t)).map (Value.int .i64))):=by
    rw [uh HTR,List.take_length] at hown
    unfold Hid
    rw [hTl]
    exact ownsRow_base hown (Nat.zero_le _)
   have HBr:=hide ((uh HB2).trans (hB.mono (uh HB2).size))
   obtain ⟨⟨g0,g1,g2,g3,g4,g5⟩,hgb⟩:=uh HCf wr (uh HBr)
   have HS:=hide (uh HSt wr a cp (uh HO))
   rw [hTl] at HS
   clear hown hB HSt HCf
   go_wp2_with fail
   refine (uh HS).mono ?_
   rintro e w7 ⟨v7,rfl,hv7,hb7⟩
   have HV7:=hide (ownsRow_base hv7 (uh HBr).size)
   have HB7:=hide ((uh HBr).trans (hb7.mono (uh HBr).size))
   clear hv7 hb7
   go_wp2
   go_ret2
   exact ⟨v7,rfl,uh HV7,uh HB7⟩
end Go.Proofs.YtpnkmnmchdabkaaGreat
