import Derived.Test.YtpnkmnmchdabkaaGreatM23
namespace Go.Proofs.YtpnkmnmchdabkaaGreat
open Go.RowKit
attribute [local go_sem ↓] Go.wp_at_zero Go.wp_at_succ
theorem GSP.transN {w w1 w2:World} {ρ:Nat→Nat} {gb:Nat} {C:Cfg} {now now':Rest} {sv:Value} {m:List Cs} {g cap:Nat} {ls ls':List Le} {P P':List Pl} (h:GSP w ρ gb C now sv m g cap ls P w1) (h':GSP w1 ρ gb C now' sv m g cap ls' P' w2):GSP w ρ gb C now' sv m g cap ls' P' w2:=⟨h'.1,h.2.trans h'.2⟩
theorem gCount_any {w:World} {ρ:Nat→Nat} {gb:Nat} {C:Cfg} {now:Rest} {sv:Value} {m:List Cs} {g cap:Nat} {ls:List Le} {P:List Pl} (h:GS w ρ gb C now sv m g cap ls P) (k:Nat) (s:Cs) (hs:m[k]?=some s) :
 Calls Tryz.prog 40 #[.pointer (some ⟨gb,7,none⟩),.int .i64 k] w fun e w'=>e=.returned (.int .i64 s.s.cnt)∧w=w':=by
 have hG:GrpL w ρ gb C (now.up ls P) sv m g cap P:=h
 have hk':=(List.getElem?_eq_some_iff.1 hs).1
 obtain ⟨bs,cp,rfl,hbs,hbsl,hcap,hcm,ff,cc⟩:=hG.G.log.shape (by omega)
 obtain ⟨a0,a1,a2,a3,a4⟩:=cc k s hs
 obtain ⟨xs,hx⟩:=hG.G.log.rcs k s hs
 obtain ⟨ra,rcap,hrv⟩:=ownsRow_len hx
 exact logCount_any gb 7 m.length cp bs k s.s.cnt rcap ra w hk' hG.tcell.2.1 (by rw [a4,hrv])
def bufV (cnt:Nat) (at_ b:Int):Int:=if b<dif cnt at_ then b else dif cnt at_
set_option maxRecDepth 100000 in
set_option maxHeartbeats 2000000 in
theorem gFetch_no {w:World} {ρ:Nat→Nat} {gb:Nat} {C:Cfg} {now:Rest} {sv:Value} {m:List Cs} {g cap:Nat} {ls:List Le} {P:List Pl} (h:GS w ρ gb C now sv m g cap ls P) (i:Nat) (hi:i<now.n) (k:Nat) (hk:k<m.length) (p:Pl) (hp:P[i*16+k]?=some p) (hh:p.held=false) :
 Calls Tryz.prog 20 #[.pointer (some ⟨gb,0,none⟩),.int .i64 i,.int .i64 k] w fun e w'=>e=.returned (.tuple #[.int .i64 0,.int .i64 13])∧GSP w ρ gb C now sv m g cap ls P w':=by
 have H1:=hide (findHold_any h i hi k hk p hp)
 rw [hh] at H1
 simp only [Bool.false_eq_true,if_false] at H1
 clear h
 go_enter Tryz.func20,Tryz.ntmps20
 go_wp2_with fail
 refine (uh H1).mono ?_
 rintro e w1 ⟨rfl,q1⟩
 have Q1:=hide (q1.alloc (w1:=w1) (.cells #[.int .i64 0,.int .i64 0,.int .i64 0,.int .i64 0] 102))
 clear q1
 go_wp2
 go_ret2
 exact ⟨rfl,uh Q1⟩
set_option maxRecDepth 100000 in
set_option maxHeartbeats 2000000 in
theorem gFetch_yes {w:World} {ρ:Nat→Nat} {gb:Nat} {C:Cfg} {now:Rest} {sv:Value} {m:List Cs} {g cap:Nat} {ls:List Le} {P:List Pl} (h:GS w ρ gb C now sv m g cap ls P) (i:Nat) (hi:i<now.n) (k:Nat) (hk:k<m.length) (p:Pl) (hp:P[i*16+k]?=some p) (hh:p.held=true) (hsh:p.h.sh=k) (s:Cs) (hs:m[k]?=some s) :
 Calls Tryz.prog 20 #[.pointer (some ⟨gb,0,none⟩),.int .i64 i,.int .i64 k] w fun e w'=>e=.returned (.tuple #[.int .i64 (bufV s.s.cnt p.h.at_ C.b),.int .i64 0])∧GSP w ρ gb C now sv m g cap ls (P.set (i*16+k) { p with held:=true,h:=⟨k,p.h.ep,p.h.at_,bufV s.s.cnt p.h.at_ C.b⟩ }) w':=by
 have h16:m.length≤16:=GrpL.le h
 have k16:k<16:=by omega
 have H1:=hide (findHold_any h i hi k hk p hp)
 rw [hh,hsh] at H1
 simp only [if_true] at H1
 have H2:Hid (∀W,GS W ρ gb C now sv m g cap ls P→Calls Tryz.prog 40 #[.pointer (some ⟨gb,7,none⟩),.int .i64 k] W fun e w'=>e=.returned (.int .i64 s.s.cnt)∧W=w'):=fun W hW=>gCount_any hW k s hs
 have H3:Hid (∀W,GS W ρ gb C now sv m g cap ls P→∀bf:Int,Calls Tryz.prog 41 #[.pointer (some ⟨g,i*128,none⟩),.agg #[.int .i64 k,.int .i64 p.h.ep,.int .i64 p.h.at_,.int .i64 bf]] W fun e w'=>e=.returned (.tuple #[])∧GSP W ρ gb C now sv m g cap ls (P.set (i*16+k) { p with held:=true,h:=⟨k,p.h.ep,p.h.at_,bf⟩ }) w'):=fun W hW bf=>gKeep_any (now:=now.up ls P) hW i k k16 p hp p.h.ep p.h.at_ bf
 have H4:Hid (∀W,GS W ρ gb C now sv m g cap ls P→W.cell? ⟨gb,2,none⟩=some (.int .i64 C.b)):=fun W hW=>(GrpL.tcell hW).2.2.2
 have HFit:=hide h.fits
 have wd:IntKind.i64.wrap ((s.s.cnt:Int) - p.h.at_)=dif s.s.cnt p.h.at_:=rfl
 clear h hp hs
 go_enter Tryz.func20,Tryz.ntmps20
 go_wp2_with fail
 refine (uh H1).mono ?_
 rintro e w1 ⟨rfl,q1⟩
 have Q1:=hide (q1.alloc (w1:=w1) (.cells #[.int .i64 k,.int .i64 p.h.ep,.int .i64 p.h.at_,.int .i64 p.h.bf] 102))
 have hsz:=q1.2.size
 clear q1
 go_wp2_with fail
 obtain ⟨t0,t1,t2,t3,f0,f1,f2,f3⟩:=four_cells (heap_alloc_new w1 (.cells #[.int .i64 k,.int .i64 p.h.ep,.int .i64 p.h.at_,.int .i64 p.h.bf] 102))
 have HN:=hide (heap_alloc_new w1 (.cells #[.int .i64 k,.int .i64 p.h.ep,.int .i64 p.h.at_,.int .i64 p.h.bf] 102))
 generalize w1.alloc (.cells #[.int .i64 k,.int .i64 p.h.ep,.int .i64 p.h.at_,.int .i64 p.h.bf] 102)=V at *
 have QD:=hide ((uh Q1).trans ((uh Q1).1.below (Below.refl _ _).drew))
 have HC:=hide (uh H2 _ (uh QD).1)
 have hoff:∀u,(V.setCell ⟨w1.heap.size,3,none⟩ u).drew.cell? ⟨w1.heap.size,2,none⟩=some (.int .i64 p.h.at_):=fun u=>cell_of (heap_setCell_same (i:=3) (uh HN) u) 2
 go_region_held3 (fun w'=>w'.cell? ⟨w1.heap.size,2,none⟩=some (.int .i64 p.h.at_)) (first | go_keep | exact hoff _ | (simp only [hoff])) ((go_at_call 40;refine (uh HC).mono ?_;rintro e w2 ⟨rfl,rfl⟩))
 have N1:=heap_setCell_same (i:=3) (uh HN) (.int .i64 (dif (s.s.cnt:Int) p.h.at_))
 have Q2:=hide ((uh Q1).setNew (uh HFit) (b:=w1.heap.size) (i:=3) hsz (.int .i64 (dif (s.s.cnt:Int) p.h.at_)))
 have Q3:=hide ((uh Q2).trans ((uh Q2).1.below (Below.refl _ _).drew))
 have N2:(V.setCell ⟨w1.heap.size,3,none⟩ (.int .i64 (dif (s.s.cnt:Int) p.h.at_))).drew.heap[w1.heap.size]?=some (.cells #[.int .i64 k,.int .i64 p.h.ep,.int .i64 p.h.at_,.int .i64 (dif (s.s.cnt:Int) p.h.at_)] 102 (0,0)):=N1
 have HU:Hid (bufV s.s.cnt p.h.at_ C.b=if C.b<dif (s.s.cnt:Int) p.h.at_ then C.b else dif (s.s.cnt:Int) p.h.at_):=rfl
 clear N1 Q2 HN t0 t1 t2 t3 f0 f1 f2 f3 hoff HC QD
 generalize dif (s.s.cnt:Int) p.h.at_=d at *
 generalize (V.setCell ⟨w1.heap.size,3,none⟩ (.int .i64 d)).drew=U at *
 obtain ⟨t0,t1,t2,t3,f0,f1,f2,f3⟩:=four_cells N2
 have c2:=uh H4 _ (uh Q3).1
 have HN:=hide N2
 clear N2 wd
 by_cases hbd:C.b<d
 ·have hbe:Hid (bufV s.s.cnt p.h.at_ C.b=C.b):=by unfold Hid;rw [uh HU,if_pos hbd]
  go_wp2_with fail
  go_region_held3 (fun w'=>w'.cell? ⟨w1.heap.size,3,none⟩=some (.int .i64 d)∧w'.cell? ⟨gb,2,none⟩=some (.int .i64 C.b)) (first | go_keep | trivial) (fail)
  have NE:U.drew.heap[w1.heap.size]?=some (.cells #[.int .i64 k,.int .i64 p.h.ep,.int .i64 p.h.at_,.int .i64 d] 102 (0,0)):=uh HN
  have QE:=hide ((uh Q3).trans ((uh Q3).1.below (Below.refl _ _).drew))
  clear t0 t1 t2 t3 f0 f1 f2 f3 c2 HN Q3
  generalize U.drew=U1 at *
  obtain ⟨t0,t1,t2,t3,f0,f1,f2,f3⟩:=four_cells NE
  have c2:=uh H4 _ (uh QE).1
  have HNE:=hide NE
  clear NE
  go_wp2_with fail
  have NK:(U1.setCell ⟨w1.heap.size,3,none⟩ (.int .i64 C.b)).heap[w1.heap.size]?=some (.cells #[.int .i64 k,.int .i64 p.h.ep,.int .i64 p.h.at_,.int .i64 C.b] 102 (0,0)):=heap_setCell_same (i:=3) (uh HNE) (.int .i64 C.b)
  have QK:=hide ((uh QE).setNew (uh HFit) (b:=w1.heap.size) (i:=3) hsz (.int .i64 C.b))
  generalize U1.setCell ⟨w1.heap.size,3,none⟩ (.int .i64 C.b)=U2 at *
  clear t0 t1 t2 t3 f0 f1 f2 f3
  have hz:¬mine ρ w1.heap.size:=by unfold mine;rw [uh HFit _ hsz];omega
  have HC:=hide (uh H3 _ (uh QK).1 C.b)
  have hltk:=lt_of_heap NK
  refine (uh HC).mono ?_
  rintro e w3 ⟨rfl,q3⟩
  have c3:w3.cell? ⟨w1.heap.size,3,none⟩=some (.int .i64 C.b):=(q3.2.cell (p:=⟨w1.heap.size,3,none⟩) hltk hz).trans (cell_of NK 3)
  have QF:=hide ((uh QK).trans q3)
  clear q3
  go_wp2
  go_ret2
  rw [uh hbe]
  exact ⟨rfl,uh QF⟩
 ·have hbe:Hid (bufV s.s.cnt p.h.at_ C.b=d):=by unfold Hid;rw [uh HU,if_neg hbd]
  go_wp2_with fail
  go_region_held3 (fun w'=>w'.cell? ⟨w1.heap.size,3,none⟩=some (.int .i64 d)∧w'.cell? ⟨gb,2,none⟩=some (.int .i64 C.b)) (first | go_keep | trivial) (fail)
  have NE:U.drew.heap[w1.heap.size]?=some (.cells #[.int .i64 k,.int .i64 p.h.ep,.int .i64 p.h.at_,.int .i64 d] 102 (0,0)):=uh HN
  have QE:=hide ((uh Q3).trans ((uh Q3).1.below (Below.refl _ _).drew))
  clear t0 t1 t2 t3 f0 f1 f2 f3 c2 HN Q3
  generalize U.drew=U1 at *
  obtain ⟨t0,t1,t2,t3,f0,f1,f2,f3⟩:=four_cells NE
  have c2:=uh H4 _ (uh QE).1
  have HNE:=hide NE
  clear NE
  go_wp2_with fail
  have NK:=uh HNE
  have QK:=QE
  clear t0 t1 t2 t3 f0 f1 f2 f3
  have hz:¬mine ρ w1.heap.size:=by unfold mine;rw [uh HFit _ hsz];omega
  have HC:=hide (uh H3 _ (uh QK).1 d)
  have hltk:=lt_of_heap NK
  refine (uh HC).mono ?_
  rintro e w3 ⟨rfl,q3⟩
  have c3:w3.cell? ⟨w1.heap.size,3,none⟩=some (.int .i64 d):=(q3.2.cell (p:=⟨w1.heap.size,3,none⟩) hltk hz).trans (cell_of NK 3)
  have QF:=hide ((uh QK).trans q3)
  clear q3
  go_wp2
  go_ret2
  rw [uh hbe]
  exact ⟨rfl,uh QF⟩
set_option maxRecDepth 100000 in
set_option maxHeartbeats 2000000 in
theorem hear_no {w:World} {ρ:Nat→Nat} {gb:Nat} {C:Cfg} {now:Rest} {sv:Value} {m:List Cs} {g cap:Nat} {ls:List Le} {P:List Pl} (h:GS w ρ gb C now sv m g cap ls P) (i k:Nat) (k16:k<16) (p:Pl) (hp:P[i*16+k]?=some p) (ep at_ bf:Int) :
 Calls Tryz.prog 45 #[.pointer (some ⟨g,i*128,none⟩),.agg #[.int .i64 k,.int .i64 ep,.int .i64 at_,.int .i64 bf],.bool false] w fun e w'=>e=.returned (.tuple #[])∧GSP w ρ gb C now sv m g cap ls (P.set (i*16+k) (dropped p)) w':=by
 have H3:Hid (∀W,GS W ρ gb C now sv m g cap ls P→Calls Tryz.prog 82 #[.pointer (some ⟨g,i*128,none⟩),.int .i64 k] W fun e w'=>e=.returned (.tuple #[])∧GSP W ρ gb C now sv m g cap ls (P.set (i*16+k) (dropped p)) w'):=fun W hW=>gDrop_any (now:=now.up ls P) hW i k k16 p hp
 have Q1:=hide (h.alloc (.cells #[.int .i64 k,.int .i64 ep,.int .i64 at_,.int .i64 bf] 102))
 clear h hp
 go_enter Tryz.func45,Tryz.ntmps45
 go_wp2_with fail
 refine (uh H3 _ (uh Q1).1).mono ?_
 rintro e w3 ⟨rfl,q3⟩
 have QF:=hide ((uh Q1).trans q3)
 clear q3
 go_wp2
 refine bodyPost_ret (v:=.tuple #[]) ?_ rfl ⟨rfl,uh QF⟩
 simp [results,Tryz.results45,go_sem]
set_option maxRecDepth 100000 in
set_option maxHeartbeats 2000000 in
theorem hear_yes {w:World} {ρ:Nat→Nat} {gb:Nat} {C:Cfg} {now:Rest} {sv:Value} {m:List Cs} {g cap:Nat} {ls:List Le} {P:List Pl} (h:GS w ρ gb C now sv m g cap ls P) (i k:Nat) (k16:k<16) (p:Pl) (hp:P[i*16+k]?=some p) (ep at_ bf:Int) :
 Calls Tryz.prog 45 #[.pointer (some ⟨g,i*128,none⟩),.agg #[.int .i64 k,.int .i64 ep,.int .i64 at_,.int .i64 bf],.bool true] w fun e w'=>e=.returned (.tuple #[])∧GSP w ρ gb C now sv m g cap ls (P.set (i*16+k) { p with held:=true,h:=⟨k,ep,plus at_ bf,0⟩ }) w':=by
 have H3:Hid (∀W,GS W ρ gb C now sv m g cap ls P→∀a:Int,Calls Tryz.prog 41 #[.pointer (some ⟨g,i*128,none⟩),.agg #[.int .i64 k,.int .i64 ep,.int .i64 a,.int .i64 0]] W fun e w'=>e=.returned (.tuple #[])∧GSP W ρ gb C now sv m g cap ls (P.set (i*16+k) { p with held:=true,h:=⟨k,ep,a,0⟩ }) w'):=fun W hW a=>gKeep_any (now:=now.up ls P) hW i k k16 p hp ep a 0
 have Q1:=hide (h.alloc (.cells #[.int .i64 k,.int .i64 ep,.int .i64 (plus at_ bf),.int .i64 0] 102))
 have HFit:=hide h.fits
 have wp:IntKind.i64.wrap (at_+bf)=plus at_ bf:=rfl
 clear h hp
 go_enter Tryz.func45,Tryz.ntmps45
 go_wp2_with fail
 refine (uh H3 _ (uh Q1).1 _).mono ?_
 rintro e w3 ⟨rfl,q3⟩
 have QF:=hide ((uh Q1).trans q3)
 clear q3
 go_wp2
 go_end0
 exact ⟨rfl,uh QF⟩
set_option maxRecDepth 100000 in
set_option maxHeartbeats 2000000 in
theorem gCommit_no {w:World} {ρ:Nat→Nat} {gb:Nat} {C:Cfg} {now:Rest} {sv:Value} {m:List Cs} {g cap:Nat} {ls:List Le} {P:List Pl} (h:GS w ρ gb C now sv m g cap ls P) (i:Nat) (hi:i<now.n) (k:Nat) (hk:k<m.length) (p:Pl) (hp:P[i*16+k]?=some p) (hh:p.held=false) (lost:Bool) :
 Calls Tryz.prog 22 #[.pointer (some ⟨gb,0,none⟩),.int .i64 i,.int .i64 k,.bool lost] w fun e w'=>e=.returned (.int .i64 13)∧GSP w ρ gb C now sv m g cap ls P w':=by
 have H1:=hide (findHold_any h i hi k hk p hp)
 rw [hh] at H1
 simp only [Bool.false_eq_true,if_false] at H1
 clear h
 go_enter Tryz.func22,Tryz.ntmps22
 go_wp2_with fail
 refine (uh H1).mono ?_
 rintro e w1 ⟨rfl,q1⟩
 have Q1:=hide (q1.alloc (w1:=w1) (.cells #[.int .i64 0,.int .i64 0,.int .i64 0,.int .i64 0] 102))
 clear q1
 go_wp2
 go_ret
 exact ⟨rfl,uh Q1⟩
set_option maxRecDepth 100000 in
set_option maxHeartbeats 2000000 in
theorem gCommit_empty {w:World} {ρ:Nat→Nat} {gb:Nat} {C:Cfg} {now:Rest} {sv:Value} {m:List Cs} {g cap:Nat} {ls:List Le} {P:List Pl} (h:GS w ρ gb C now sv m g cap ls P) (i:Nat) (hi:i<now.n) (k:Nat) (hk:k<m.length) (p:Pl) (hp:P[i*16+k]?=some p) (hh:p.held=true) (hbf:p.h.bf=0) (lost:Bool) :
 Calls Tryz.prog 22 #[.pointer (some ⟨gb,0,none⟩),.int .i64 i,.int .i64 k,.bool lost] w fun e w'=>e=.returned (.int .i64 14)∧GSP w ρ gb C now sv m g cap ls P w':=by
 have H1:=hide (findHold_any h i hi k hk p hp)
 rw [hh,hbf] at H1
 simp only [if_true] at H1
 clear h
 go_enter Tryz.func22,Tryz.ntmps22
 go_wp2_with fail
 refine (uh H1).mono ?_
 rintro e w1 ⟨rfl,q1⟩
 have Q1:=hide (q1.alloc (w1:=w1) (.cells #[.int .i64 p.h.sh,.int .i64 p.h.ep,.int .i64 p.h.at_,.int .i64 0] 102))
 clear q1
 go_wp2
 go_ret
 exact ⟨rfl,uh Q1⟩
def heardP (f:Bool) (i k:Nat) (p:Pl) (P:List Pl):List Pl:=if f=true then P.set (i*16+k) { p with held:=true,h:=⟨k,p.h.ep,plus p.h.at_ p.h.bf,0⟩ } else P.set (i*16+k) (dropped p)
def commitV (f:Bool):Int:=if f=true then 0 else 15
theorem hear_any {w:World} {ρ:Nat→Nat} {gb:Nat} {C:Cfg} {now:Rest} {sv:Value} {m:List Cs} {g cap:Nat} {ls:List Le} {P:List Pl} (h:GS w ρ gb C now sv m g cap ls P) (i k:Nat) (k16:k<16) (p:Pl) (hp:P[i*16+k]?=some p) (f:Bool) :
 Calls Tryz.prog 45 #[.pointer (some ⟨g,i*128,none⟩),.agg #[.int .i64 k,.int .i64 p.h.ep,.int .i64 p.h.at_,.int .i64 p.h.bf],.bool f] w fun e w'=>e=.returned (.tuple #[])∧GSP w ρ gb C now sv m g cap ls (heardP f i k p P) w':=by
 cases f
 ·exact hear_no h i k k16 p hp _ _ _
 ·exact hear_yes h i k k16 p hp _ _ _
set_option maxRecDepth 100000 in
set_option maxHeartbeats 2000000 in
theorem gCommit_any {w:World} {ρ:Nat→Nat} {gb:Nat} {C:Cfg} {now:Rest} {sv:Value} {m:List Cs} {g cap:Nat} {ls:List Le} {P:List Pl} (h:GS w ρ gb C now sv m g cap ls P) (i:Nat) (hi:i<now.n) (k:Nat) (hk:k<m.length) (p:Pl) (hp:P[i*16+k]?=some p) (hh:p.held=true) (hsh:p.h.sh=k) (hbf:¬p.h.bf=0) (lost:Bool) :
 Calls Tryz.prog 22 #[.pointer (some ⟨gb,0,none⟩),.int .i64 i,.int .i64 k,.bool lost] w fun e w'=>e=.returned (.int .i64 (commitV (folds now.dn k p.h.ep p.h.at_)))∧GSP w ρ gb C (now.fold k p.h.ep p.h.at_ p.h.bf) sv m g cap ls (if lost=true then P else heardP (folds now.dn k p.h.ep p.h.at_) i k p P) w':=by
 have h16:m.length≤16:=GrpL.le h
 have k16:k<16:=by omega
 have H1:=hide (findHold_any h i hi k hk p hp)
 rw [hh,hsh] at H1
 simp only [if_true] at H1
 have H2:Hid (∀W,GS W ρ gb C now sv m g cap ls P→Calls Tryz.prog 44 #[.pointer (some ⟨gb,8,none⟩),.agg #[.int .i64 k,.int .i64 p.h.ep,.int .i64 p.h.at_,.int .i64 p.h.bf]] W fun r w'=>r=.returned (.bool (folds now.dn k p.h.ep p.h.at_))∧GSP W ρ gb C (now.fold k p.h.ep p.h.at_ p.h.bf) sv m g cap ls P w'):=fun W hW=>gsCommit_any hW k k16 _ _ _
 have H3:Hid (∀W now' f,GS W ρ gb C now' sv m g cap ls P→Calls Tryz.prog 45 #[.pointer (some ⟨g,i*128,none⟩),.agg #[.int .i64 k,.int .i64 p.h.ep,.int .i64 p.h.at_,.int .i64 p.h.bf],.bool f] W fun e w'=>e=.returned (.tuple #[])∧GSP W ρ gb C now' sv m g cap ls (heardP f i k p P) w'):=fun W now' f hW=>hear_any hW i k k16 p hp f
 have HFit:=hide h.fits
 generalize folds now.dn k p.h.ep p.h.at_=fo at *
 generalize now.fold k p.h.ep p.h.at_ p.h.bf=now2 at *
 clear h hp
 go_enter Tryz.func22,Tryz.ntmps22
 go_wp2_with fail
 refine (uh H1).mono ?_
 rintro e w1 ⟨rfl,q1⟩
 have hsz:=q1.2.size
 have hN:=heap_alloc_new w1 (.cells #[.int .i64 k,.int .i64 p.h.ep,.int .i64 p.h.at_,.int .i64 p.h.bf] 102)
 have Q1:=hide (q1.alloc (w1:=w1) (.cells #[.int .i64 k,.int .i64 p.h.ep,.int .i64 p.h.at_,.int .i64 p.h.bf] 102))
 clear q1
 go_wp2_with fail
 obtain ⟨t0,t1,t2,t3,f0,f1,f2,f3⟩:=four_cells hN
 have hz:Hid (¬mine ρ w1.heap.size):=by unfold Hid mine;rw [uh HFit _ hsz];omega
 have hlt:=hide (lt_of_heap hN)
 have HN:=hide hN
 generalize w1.alloc (.cells #[.int .i64 k,.int .i64 p.h.ep,.int .i64 p.h.at_,.int .i64 p.h.bf] 102)=V at *
 have QD:=hide ((uh Q1).trans ((uh Q1).1.below (Below.refl _ _).drew))
 have HC:=hide (uh H2 _ (uh QD).1)
 clear hN
 go_region_held3 (fun w'=>w'.cell? ⟨w1.heap.size,0,none⟩=some (.int .i64 k)∧w'.cell? ⟨w1.heap.size,1,none⟩=some (.int .i64 p.h.ep)∧w'.cell? ⟨w1.heap.size,2,none⟩=some (.int .i64 p.h.at_)∧w'.cell? ⟨w1.heap.size,3,none⟩=some (.int .i64 p.h.bf)) (first | go_keep | trivial) ((go_at_call 44;refine (uh HC).mono ?_;rintro e w2 ⟨rfl,q2⟩;have n2:=(q2.2.block _ (uh hlt) (uh hz)).trans (uh HN);obtain ⟨u0,u1,u2,u3,_⟩:=four_cells n2))
 have Q2:=hide ((uh QD).transN q2)
 clear q2 n2
 cases lost
 ·go_wp2_with fail
  refine (uh H3 _ _ _ (uh Q2).1).mono ?_
  rintro e w3 ⟨rfl,q3⟩
  have Q3:=hide ((uh Q2).trans q3)
  clear q3
  cases fo
  ·go_wp2
   go_ret
   exact ⟨rfl,uh Q3⟩
  ·go_wp2
   go_ret
   exact ⟨rfl,uh Q3⟩
 ·cases fo
  ·go_wp2
   go_ret
   exact ⟨rfl,uh Q2⟩
  ·go_wp2
   go_ret
   exact ⟨rfl,uh Q2⟩
end Go.Proofs.YtpnkmnmchdabkaaGreat
namespace Go.Proofs.YtpnkmnmchdabkaaGreat
open Go.RowKit
def cn (l:List Sh) (k:Nat):Nat:=match l[k]? with
 | some s=>s.cnt
 | none=>0
theorem cn_is {l:List Sh} {k:Nat} {s:Sh} (h:l[k]?=some s):cn l k=s.cnt:=by unfold cn;rw [h]
theorem cn_le {l:List Sh} (hI:Inv l) (k:Nat):cn l k≤32:=by
 unfold cn
 split
 ·rename_i s h;exact hI.cnt k s h
 ·omega
def hol (P:List Pl) (j k:Nat):Bool:=match P[j*16+k]? with
 | some p=>p.held
 | none=>false
def hc (P:List Pl) (k:Nat):Nat→Nat
 | 0=>0
 | n+1=>hc P k n+(if hol P n k=true then 1 else 0)
theorem hc_le (P:List Pl) (k n:Nat):hc P k n≤n:=by
 induction n with
 | zero=>exact Nat.le_refl _
 | succ n ih=>unfold hc;split <;> omega
theorem hc_same {P Q:List Pl} {k n:Nat} (h:∀j,j<n→hol P j k=hol Q j k):hc P k n=hc Q k n:=by
 induction n with
 | zero=>rfl
 | succ n ih =>
   unfold hc
   rw [ih (fun j hj=>h j (by omega)),h n (by omega)]
theorem hc_give {P Q:List Pl} {k n i:Nat} (hi:i<n) (h:∀j,j<n→j≠i→hol P j k=hol Q j k) (h0:hol P i k=false) (h1:hol Q i k=true):hc Q k n=hc P k n+1:=by
 induction n with
 | zero=>omega
 | succ n ih =>
   unfold hc
   by_cases e:i=n
   ·subst e
    rw [hc_same (P:=P) (Q:=Q) (fun j hj=>h j (by omega) (by omega)),h0,h1]
    simp
   ·rw [ih (by omega) (fun j hj=>h j (by omega)),h n (by omega) (fun x=>e x.symm)]
    omega
def Adv (l l':List Sh):Prop:=∀(k:Nat) (s:Sh),l[k]?=some s→∃s',l'[k]?=some s'∧s'.par=s.par∧s.rl <+: s'.rl∧(s.op=false→s'.op=false∧s'.rl=s.rl)
theorem Adv.refl (l:List Sh):Adv l l:=fun _ s h=>⟨s,h,rfl,List.prefix_rfl,fun e=>⟨e,rfl⟩⟩
theorem Adv.trans {l l' l2:List Sh} (h:Adv l l') (h':Adv l' l2):Adv l l2:=fun k s hs=>by
 obtain ⟨s',a,b,c,d⟩:=h k s hs
 obtain ⟨s2,a',b',c',d'⟩:=h' k s' a
 refine ⟨s2,a',b'.trans b,c.trans c',fun e=>?_⟩
 obtain ⟨e1,e2⟩:=d e
 obtain ⟨e3,e4⟩:=d' e1
 exact ⟨e3,e4.trans e2⟩
theorem Adv.len {l l':List Sh} (h:Adv l l'):l.length≤l'.length:=by
 by_cases h0:l.length=0
 ·omega
 ·obtain ⟨s',a,_⟩:=h (l.length - 1) _ (List.getElem?_eq_getElem (by omega))
  have:=(List.getElem?_eq_some_iff.1 a).1
  omega
theorem Adv.cn {l l':List Sh} (h:Adv l l') (k:Nat):cn l k≤cn l' k:=by
 cases hk:l[k]? with
 | none=>unfold Go.Proofs.YtpnkmnmchdabkaaGreat.cn;rw [hk];exact Nat.zero_le _
 | some s =>
   obtain ⟨s',a,_,b,_⟩:=h k s hk
   rw [cn_is hk,cn_is a];exact b.length_le
theorem fin_adv {l l':List Sh} {dn dn':Nat→Int} (hI:Inv l) (hI':Inv l') (ha:Adv l l') (hd:∀(k:Nat) (s:Sh),l[k]?=some s→dn k=s.cnt→dn' k=dn k):∀k,fin l dn k=true→fin l' dn' k=true:=by
 intro k
 induction k using Nat.strongRecOn with
 | ind k ih =>
   intro hf
   cases hk:l[k]? with
   | none=>unfold fin at hf;simp [finB,hk] at hf
   | some s =>
     rw [fin_is hI dn hk] at hf
     simp only [Bool.and_eq_true,Bool.not_eq_true',decide_eq_true_eq] at hf
     obtain ⟨hr,ho,hc⟩:=hf
     obtain ⟨s',h1,h2,h3,h4⟩:=ha k s hk
     obtain ⟨h5,h6⟩:=h4 ho
     rw [fin_is hI' dn' h1]
     simp only [Bool.and_eq_true,Bool.not_eq_true',decide_eq_true_eq]
     refine ⟨?_,h5,by rw [hd k s hk hc,hc];unfold Sh.cnt;rw [h6]⟩
     rw [rdy_is dn' h1,h2]
     rw [rdy_is dn hk] at hr
     rw [List.all_eq_true] at hr ⊢
     intro p hp
     obtain ⟨q,t,rfl,hq,_⟩:=hI.parR k s hk p hp
     have:=hr _ hp
     rw [show ((q:Int)).toNat=q by omega] at this ⊢
     exact ih q hq this
theorem rdy_adv {l l':List Sh} {dn dn':Nat→Int} (hI:Inv l) (hI':Inv l') (ha:Adv l l') (hd:∀(k:Nat) (s:Sh),l[k]?=some s→dn k=s.cnt→dn' k=dn k) {k:Nat} (hk:k<l.length) (hr:rdy l dn k=true):rdy l' dn' k=true:=by
 have hs:l[k]?=some l[k]:=List.getElem?_eq_getElem hk
 obtain ⟨s',h1,h2,_⟩:=ha k _ hs
 rw [rdy_is dn hs,List.all_eq_true] at hr
 rw [rdy_is dn' h1,h2,List.all_eq_true]
 exact fun p hp=>fin_adv hI hI' ha hd _ (hr p hp)
def Gro (dn0:List Int) (l0:List Sh) (dn:List Int) (l:List Sh):Prop:=Adv l0 l∧∀k,dnP dn0 k≤dnP dn k∧epP dn0 k≤epP dn k
theorem Gro.refl (dn:List Int) (l:List Sh):Gro dn l dn l:=⟨Adv.refl l,fun _=>⟨Int.le_refl _,Int.le_refl _⟩⟩
theorem Gro.log {dn0 dn:List Int} {l0 l l':List Sh} (h:Gro dn0 l0 dn l) (ha:Adv l l'):Gro dn0 l0 dn l':=⟨h.1.trans ha,h.2⟩
structure HdOk (Cb:Int) (l:List Sh) (dn:List Int) (i k:Nat) (p:Pl) (x:Le):Prop where
 sh:p.h.sh=k
 lt:k<l.length
 e1:1≤p.h.ep
 e2:p.h.ep≤x.e
 own:p.h.ep=x.e→x.o=i
 a0:0≤p.h.at_
 a1:p.h.at_≤dnP dn k
 b0:0≤p.h.bf
 b1:p.h.bf≤Cb
 ab:p.h.at_+p.h.bf≤cn l k
 rd:rdy l (dnP dn) k=true
structure Ow (B n:Nat) (Cb:Int) (l:List Sh) (dn:List Int) (ls:List Le) (P:List Pl):Prop where
 dnL:dn.length=32
 lsL:ls.length=16
 pL:P.length=n*16
 mr:∀k,k<16→0≤dnP dn k∧dnP dn k≤cn l k∧0≤epP dn k∧(0<dnP dn k ↔ 0<epP dn k)∧(0<dnP dn k→rdy l (dnP dn) k=true)
 le:∀(k:Nat) (x:Le),ls[k]?=some x→0≤x.e∧x.e≤B∧epP dn k≤x.e∧-1≤x.o∧x.o<n∧(l.length≤k→x.e=0)∧(x.o=-1→0<x.e→fin l (dnP dn) k=true)
 hd:∀(i k:Nat) (p:Pl) (x:Le),i<n→k<16→P[i*16+k]?=some p→p.held=true→ls[k]?=some x→HdOk Cb l dn i k p x
 df:∀(i j k:Nat) (p q:Pl),i<n→j<n→k<16→P[i*16+k]?=some p→P[j*16+k]?=some q→p.held=true→q.held=true→i≠j→p.h.ep≠q.h.ep
def Tight (B n:Nat) (ls:List Le) (P:List Pl):Prop:=∀(k:Nat) (x:Le),ls[k]?=some x→x.e=B→hc P k n=B
theorem Ow.up {B n:Nat} {Cb:Int} {l:List Sh} {dn:List Int} {ls:List Le} {P:List Pl} (h:Ow B n Cb l dn ls P):Ow (B+1) n Cb l dn ls P∧Tight (B+1) n ls P :=
 ⟨⟨h.dnL,h.lsL,h.pL,h.mr,fun k x hx=>by obtain ⟨a,b,c⟩:=h.le k x hx;exact ⟨a,by omega,c⟩,h.hd,h.df⟩,fun k x hx e=>by obtain ⟨a,b,c⟩:=h.le k x hx;omega⟩
theorem Ow.log {B n:Nat} {Cb:Int} {l l':List Sh} {dn:List Int} {ls:List Le} {P:List Pl} (h:Ow B n Cb l dn ls P) (hI:Inv l) (hI':Inv l') (ha:Adv l l'):Ow B n Cb l' dn ls P:=by
 have hc:=ha.cn
 have hl:=ha.len
 have hr:∀k,k<l.length→rdy l (dnP dn) k=true→rdy l' (dnP dn) k=true:=fun k hk=>rdy_adv hI hI' ha (fun _ _ _ _=>rfl) hk
 refine ⟨h.dnL,h.lsL,h.pL,fun k hk=>?_,fun k x hx=>?_,fun i k p x hi hk hp hh hx=>?_,h.df⟩
 ·obtain ⟨a,b,c,d,e⟩:=h.mr k hk
  refine ⟨a,by have:=hc k;omega,c,d,fun h0=>hr k ?_ (e h0)⟩
  by_cases hlt:k<l.length
  ·exact hlt
  ·have:cn l k=0:=by unfold cn;rw [List.getElem?_eq_none (by omega)]
   omega
 ·obtain ⟨a,b,c,d,e,f,g⟩:=h.le k x hx
  exact ⟨a,b,c,d,e,fun hk=>f (by omega),fun h1 h2=>fin_adv hI hI' ha (fun _ _ _ _=>rfl) k (g h1 h2)⟩
 ·obtain ⟨a,b,c,d,e,f,g,o,q,r,t⟩:=h.hd i k p x hi hk hp hh hx
  exact ⟨a,by omega,c,d,e,f,g,o,q,by have:=hc k;omega,hr k b t⟩
theorem Ow.upd {B n:Nat} {Cb:Int} {l:List Sh} {dn:List Int} {ls ls':List Le} {P P':List Pl} (h:Ow B n Cb l dn ls P) (hL:ls'.length=16) (hpL:P'.length=n*16)
 (hP:∀(i k:Nat) (p':Pl),i<n→k<16→P'[i*16+k]?=some p'→p'.held=true→∃p,P[i*16+k]?=some p∧p.held=true∧p'.h=p.h)
 (hl:∀(k:Nat) (x':Le),ls'[k]?=some x'→∃x,ls[k]?=some x∧x'.e=x.e∧(x'.o=x.o∨(x'.o=-1∧fin l (dnP dn) k=true∧∀(i:Nat) (p:Pl),i<n→k<16→P'[i*16+k]?=some p→p.held=true→p.h.ep≠x.e))):Ow B n Cb l dn ls' P':=by
 refine ⟨h.dnL,hL,hpL,h.mr,fun k x' hx'=>?_,fun i k p' x' hi hk hp' hh' hx'=>?_,fun i j k p' q' hi hj hk hp' hq' hh hh' hne=>?_⟩
 ·obtain ⟨x,hx,e1,ho⟩:=hl k x' hx'
  obtain ⟨a,b,c,d,e,f,g⟩:=h.le k x hx
  rw [e1]
  rcases ho with ho | ⟨ho,hf,_⟩
  ·rw [ho];exact ⟨a,b,c,d,e,f,g⟩
  ·rw [ho];exact ⟨a,b,c,by omega,by omega,f,fun _ _=>hf⟩
 ·obtain ⟨x,hx,e1,ho⟩:=hl k x' hx'
  obtain ⟨p,hp,hh,e2⟩:=hP i k p' hi hk hp' hh'
  obtain ⟨a,b,c,d,e,f,g,o,q,r,t⟩:=h.hd i k p x hi hk hp hh hx
  refine ⟨by rw [e2];exact a,b,by rw [e2];exact c,by rw [e2,e1];exact d,fun e3=>?_,by rw [e2];exact f,by rw [e2];exact g,by rw [e2];exact o,by rw [e2];exact q,by rw [e2];exact r,t⟩
  rcases ho with ho | ⟨_,_,ho⟩
  ·rw [ho];exact e (by rw [←e2,←e1];exact e3)
  ·exact absurd (by rw [←e1];exact e3) (ho i p' hi hk hp' hh')
 ·obtain ⟨p,hp,h1,e1⟩:=hP i k p' hi hk hp' hh
  obtain ⟨q,hq,h2,e2⟩:=hP j k q' hj hk hq' hh'
  rw [e1,e2]
  exact h.df i j k p q hi hj hk hp hq h1 h2 hne
theorem plAt_set {P:List Pl} {i k j m:Nat} {p q:Pl} (hk:k<16) (hm:m<16) (h:(P.set (i*16+k) p)[j*16+m]?=some q):(j=i∧m=k∧q=p)∨((¬(j=i∧m=k))∧P[j*16+m]?=some q):=by
 by_cases e:j=i∧m=k
 ·obtain ⟨rfl,rfl⟩:=e
  refine Or.inl ⟨rfl,rfl,?_⟩
  rw [List.getElem?_set] at h
  simp only [if_true] at h
  split at h
  ·injection h with h;exact h.symm
  ·cases h
 ·refine Or.inr ⟨e,?_⟩
  rw [List.getElem?_set_ne (fun x=>e (by omega))] at h
  exact h
theorem Ow.drop {B n:Nat} {Cb:Int} {l:List Sh} {dn:List Int} {ls:List Le} {P:List Pl} (h:Ow B n Cb l dn ls P) (i k:Nat) (hk:k<16) (p':Pl) (hh:p'.held=false):Ow B n Cb l dn ls (P.set (i*16+k) p'):=by
 refine h.upd h.lsL (by rw [List.length_set];exact h.pL) (fun j m q hj hm hq hqh=>?_) (fun m x hx=>⟨x,hx,rfl,Or.inl rfl⟩)
 rcases plAt_set hk hm hq with ⟨_,_,rfl⟩ | ⟨_,h2⟩
 ·rw [hh] at hqh;cases hqh
 ·exact ⟨q,h2,hqh,rfl⟩
theorem Ow.forget {B n:Nat} {Cb:Int} {l:List Sh} {dn:List Int} {ls:List Le} {P:List Pl} (h:Ow B n Cb l dn ls P) (i:Nat):∀k,k≤16→Ow B n Cb l dn ls (forgetP P i k)
 | 0,_=>h
 | k+1,hk=>(Ow.forget h i k (by omega)).drop i k (by omega) pl0 rfl
theorem Ow.notes {B n:Nat} {Cb:Int} {l:List Sh} {dn:List Int} {ls:List Le} {P:List Pl} (h:Ow B n Cb l dn ls P) (t:Int) (i:Nat):∀k,k≤16→Ow B n Cb l dn ls (notesP ls t i k P)∧∀j m,m<16→hol (notesP ls t i k P) j m=hol P j m
 | 0,_=>⟨h,fun _ _ _=>rfl⟩
 | k+1,hk=>by
   obtain ⟨ih,ih2⟩:=Ow.notes h t i k (by omega)
   unfold notesP
   split
   ·rename_i x p hx hp
    have e2:(noted p x.c t).held=p.held∧(noted p x.c t).h=p.h:=by unfold noted;split <;> exact ⟨rfl,rfl⟩
    refine ⟨ih.upd ih.lsL (by rw [List.length_set];exact ih.pL) (fun j m q hj hm hq hqh=>?_) (fun m x hx=>⟨x,hx,rfl,Or.inl rfl⟩),fun j m hm=>?_⟩
    ·rcases plAt_set (show k<16 by omega) hm hq with ⟨rfl,rfl,rfl⟩ | ⟨_,h2⟩
     ·exact ⟨p,hp,by rw [←e2.1];exact hqh,e2.2⟩
     ·exact ⟨q,h2,hqh,rfl⟩
    ·rw [←ih2 j m hm]
     unfold hol
     by_cases e:i*16+k=j*16+m
     ·rw [e] at hp ⊢
      rw [List.getElem?_set_self (List.getElem?_eq_some_iff.1 hp).1,hp]
      exact e2.1
     ·rw [List.getElem?_set_ne e]
   ·exact ⟨ih,ih2⟩
theorem Ow.rh {B n:Nat} {Cb:Int} {l:List Sh} {dn:List Int} {ls:List Le} {P:List Pl} (h:Ow B n Cb l dn ls P) (i k:Nat) (hi:i<n) (hk:k<16) (f:Bool) (hf:f=true→fin l (dnP dn) k=true):Ow B n Cb l dn (rhLs i k f ls P) (rhP i k f ls P):=by
 unfold rhLs rhP
 cases hx:ls[k]? with
 | none=>exact h
 | some x =>
   cases hp:P[i*16+k]? with
   | none=>exact h
   | some p =>
     simp only
     have hkl:k<ls.length:=(List.getElem?_eq_some_iff.1 hx).1
     have ls_at:∀{y:Le} {m:Nat} {x':Le},(ls.set k y)[m]?=some x'→(m=k∧x'=y)∨ls[m]?=some x':=by
      intro y m x' hm
      by_cases e:k=m
      ·subst e;rw [List.getElem?_set_self hkl] at hm;injection hm with hm;exact Or.inl ⟨rfl,hm.symm⟩
      ·rw [List.getElem?_set_ne e] at hm;exact Or.inr hm
     by_cases c1:p.held=true∧x.o=i∧x.e=p.h.ep
     ·rw [if_pos c1]
      cases f with
      | false =>
        rw [if_neg (by simp),if_neg (by rintro ⟨_,h2⟩;exact h2 ⟨c1.2.1,c1.2.2,rfl⟩)]
        refine h.upd (by rw [List.length_set];exact h.lsL) h.pL (fun j m q hj hm hq hqh=>⟨q,hq,hqh,rfl⟩) (fun m x' hm=>?_)
        rcases ls_at hm with ⟨rfl,rfl⟩ | hm
        ·exact ⟨x,hx,rfl,Or.inl rfl⟩
        ·exact ⟨x',hm,rfl,Or.inl rfl⟩
      | true =>
        rw [if_pos rfl,if_pos ⟨c1.1,by simp⟩]
        refine h.upd (by rw [List.length_set];exact h.lsL) (by rw [List.length_set];exact h.pL) (fun j m q hj hm hq hqh=>?_) (fun m x' hm=>?_)
        ·rcases plAt_set hk hm hq with ⟨_,_,rfl⟩ | ⟨_,h2⟩
         ·simp [dropped] at hqh
         ·exact ⟨q,h2,hqh,rfl⟩
        ·rcases ls_at hm with ⟨rfl,rfl⟩ | hm
         ·refine ⟨x,hx,rfl,Or.inr ⟨rfl,hf rfl,fun j q hj hm hq hqh=>?_⟩⟩
          rcases plAt_set hk hk hq with ⟨_,_,rfl⟩ | ⟨hne,h2⟩
          ·simp [dropped] at hqh
          ·rw [c1.2.2]
           exact h.df j i m q p hj hi hk h2 hp hqh c1.1 (fun e=>hne ⟨e,rfl⟩)
         ·exact ⟨x',hm,rfl,Or.inl rfl⟩
     ·rw [if_neg c1]
      by_cases c2:p.held=true∧¬(x.o=i∧x.e=p.h.ep∧f=false)
      ·rw [if_pos c2];exact h.drop i k hk _ rfl
      ·rw [if_neg c2];exact h
theorem Ow.rn {B n:Nat} {Cb:Int} {l:List Sh} {dn:List Int} {ls:List Le} {P:List Pl} (h:Ow B n Cb l dn ls P) (i:Nat) (hi:i<n) (st:List Int) (hf:∀k,k<16→st[k]?=some 2→fin l (dnP dn) k=true):∀k,k≤16→Ow B n Cb l dn (rnUp i st k (ls,P)).1 (rnUp i st k (ls,P)).2
 | 0,_=>h
 | k+1,hk=>(Ow.rn h i hi st hf k (by omega)).rh i k hi (by omega) _ (fun e=>hf k (by omega) (by simpa [finS] using e))
theorem Ow.rehold {B n:Nat} {Cb:Int} {l:List Sh} {dn:List Int} {ls:List Le} {P:List Pl} (h:Ow B n Cb l dn ls P) (i k:Nat) (hi:i<n) (hk:k<16) (p:Pl) (hp:P[i*16+k]?=some p) (hh:p.held=true) (p':Pl)
 (e0:p'.h.sh=k) (e1:p'.h.ep=p.h.ep) (a0:0≤p'.h.at_) (a1:p'.h.at_≤dnP dn k) (b0:0≤p'.h.bf) (b1:p'.h.bf≤Cb) (ab:p'.h.at_+p'.h.bf≤cn l k):Ow B n Cb l dn ls (P.set (i*16+k) p'):=by
 refine ⟨h.dnL,h.lsL,by rw [List.length_set];exact h.pL,h.mr,h.le,fun j m q x hj hm hq hqh hx=>?_,fun i' j m q r hi' hj hm hq hr hqh hrh hne=>?_⟩
 ·rcases plAt_set hk hm hq with ⟨rfl,rfl,rfl⟩ | ⟨_,h2⟩
  ·obtain ⟨a,b,c,d,e,_,_,_,_,_,t⟩:=h.hd j m p x hi hk hp hh hx
   exact ⟨e0,b,by rw [e1];exact c,by rw [e1];exact d,by rw [e1];exact e,a0,a1,b0,b1,ab,t⟩
  ·exact h.hd j m q x hj hm h2 hqh hx
 ·rcases plAt_set hk hm hq with ⟨rfl,rfl,rfl⟩ | ⟨_,h2⟩
  ·rcases plAt_set hk hm hr with ⟨rfl,_,_⟩ | ⟨_,h3⟩
   ·exact absurd rfl hne
   ·rw [e1];exact h.df i' j m p r hi' hj hm hp h3 hh hrh hne
  ·rcases plAt_set hk hm hr with ⟨rfl,rfl,rfl⟩ | ⟨_,h3⟩
   ·rw [e1];exact h.df i' j m q p hi' hj hm h2 hp hqh hh hne
   ·exact h.df i' j m q r hi' hj hm h2 h3 hqh hrh hne
theorem dif_small {a b:Int} (ha:0≤a∧a≤1000) (hb:0≤b∧b≤1000):dif a b=a - b:=dif_is ⟨ha.1,by omega⟩ ⟨hb.1,by omega⟩
theorem plus_small {a b:Int} (ha:0≤a∧a≤1000) (hb:0≤b∧b≤1000):plus a b=a+b:=by unfold plus;rw [IntKind.wrap_i64];omega
theorem Ow.fetch {B n:Nat} {Cb:Int} {l:List Sh} {dn:List Int} {ls:List Le} {P:List Pl} (h:Ow B n Cb l dn ls P) (hI:Inv l) (hC:0≤Cb) (i k:Nat) (hi:i<n) (hk:k<16) (p:Pl) (hp:P[i*16+k]?=some p) (hh:p.held=true) :
 Ow B n Cb l dn ls (P.set (i*16+k) { p with held:=true,h:=⟨k,p.h.ep,p.h.at_,bufV (cn l k) p.h.at_ Cb⟩ }):=by
 obtain ⟨x0,hx⟩:∃x,ls[k]?=some x:=⟨ls[k]'(by rw [h.lsL];exact hk),List.getElem?_eq_getElem _⟩
 have H:=h.hd i k p _ hi hk hp hh hx
 have h32:=cn_le hI k
 have h1:=H.a0
 have h2:=H.ab
 have h3:=H.b0
 have e:dif (cn l k) p.h.at_=(cn l k:Int) - p.h.at_:=dif_small (by omega) (by omega)
 refine h.rehold i k hi hk p hp hh _ rfl rfl H.a0 H.a1 ?_ ?_ ?_
 ·show 0≤bufV (cn l k) p.h.at_ Cb
  unfold bufV;rw [e];split <;> omega
 ·show bufV (cn l k) p.h.at_ Cb≤Cb
  unfold bufV;rw [e];split <;> omega
 ·show p.h.at_+bufV (cn l k) p.h.at_ Cb≤cn l k
  unfold bufV;rw [e];split <;> omega
theorem dnP_set {dn:List Int} (hl:dn.length=32) {k m:Nat} (hk:k<16) (d e:Int):dnP (dnSet dn k d e) m=if m=k then d else dnP dn m:=by
 unfold dnP dnSet
 rw [List.getElem?_set_ne (by omega)]
 by_cases h:m=k
 ·subst h;rw [List.getElem?_set_self (by omega),if_pos rfl];rfl
 ·rw [List.getElem?_set_ne (by omega),if_neg h]
theorem epP_set {dn:List Int} (hl:dn.length=32) {k m:Nat} (hk:k<16) (d e:Int):epP (dnSet dn k d e) m=if m=k then e else epP dn m:=by
 unfold epP dnSet
 by_cases h:m=k
 ·subst h;rw [List.getElem?_set_self (by rw [List.length_set];omega),if_pos rfl];rfl
 ·rw [List.getElem?_set_ne (by omega),List.getElem?_set_ne (by omega),if_neg h]
theorem dnSet_len (dn:List Int) (k:Nat) (d e:Int):(dnSet dn k d e).length=dn.length:=by unfold dnSet;simp
theorem Ow.fold {B n:Nat} {Cb:Int} {l:List Sh} {dn:List Int} {ls:List Le} {P:List Pl} (h:Ow B n Cb l dn ls P) (hI:Inv l) (i k:Nat) (hi:i<n) (hk:k<16) (p:Pl) (hp:P[i*16+k]?=some p) (hh:p.held=true) (hb:¬p.h.bf=0) (ha:p.h.at_=dnP dn k) (he:epP dn k≤p.h.ep) :
 Ow B n Cb l (dnSet dn k (plus (dnP dn k) p.h.bf) p.h.ep) ls P∧plus (dnP dn k) p.h.bf=dnP dn k+p.h.bf:=by
 obtain ⟨x0,hx⟩:∃x,ls[k]?=some x:=⟨ls[k]'(by rw [h.lsL];exact hk),List.getElem?_eq_getElem _⟩
 have H:=h.hd i k p _ hi hk hp hh hx
 have h32:=cn_le hI k
 have h1:=H.a0
 have h2:=H.ab
 have h3:=H.b0
 have hE:=H.e1
 have e:plus (dnP dn k) p.h.bf=dnP dn k+p.h.bf:=plus_small (by omega) (by omega)
 rw [e]
 refine ⟨?_,rfl⟩
 generalize hdd:dnSet dn k (dnP dn k+p.h.bf) p.h.ep=dd
 have D:∀m,dnP dd m=if m=k then dnP dn k+p.h.bf else dnP dn m:=fun m=>by rw [←hdd];exact dnP_set h.dnL hk _ _
 have E:∀m,epP dd m=if m=k then p.h.ep else epP dn m:=fun m=>by rw [←hdd];exact epP_set h.dnL hk _ _
 have hfix:∀(m:Nat) (s:Sh),l[m]?=some s→dnP dn m=s.cnt→dnP dd m=dnP dn m:=by
  intro m s hm hc
  rw [D]
  split
  ·rename_i e9
   subst e9
   have:=cn_is hm
   omega
  ·rfl
 have hge:∀m,dnP dn m≤dnP dd m:=by
  intro m
  rw [D]
  split
  ·rename_i e9;subst e9;omega
  ·omega
 have hrd:∀m,m<l.length→rdy l (dnP dn) m=true→rdy l (dnP dd) m=true:=fun m hm=>rdy_adv hI hI (Adv.refl l) hfix hm
 refine ⟨by rw [←hdd,dnSet_len];exact h.dnL,h.lsL,h.pL,fun m hm=>?_,fun m x hx1=>?_,fun j m q x hj hm hq hqh hx=>?_,h.df⟩
 ·obtain ⟨a,b,c,d,f⟩:=h.mr m hm
  by_cases e9:m=k
  ·subst e9
   rw [D,E,if_pos rfl,if_pos rfl]
   exact ⟨by omega,by omega,by omega,by omega,fun _=>hrd m H.lt H.rd⟩
  ·rw [D,E,if_neg e9,if_neg e9]
   refine ⟨a,b,c,d,fun h0=>hrd m ?_ (f h0)⟩
   by_cases hlt:m<l.length
   ·exact hlt
   ·have:cn l m=0:=by unfold cn;rw [List.getElem?_eq_none (by omega)]
    omega
 ·obtain ⟨a,b,c,d,f,g,o⟩:=h.le m x hx1
  refine ⟨a,b,?_,d,f,g,fun h1 h2=>fin_adv hI hI (Adv.refl l) hfix m (o h1 h2)⟩
  rw [E]
  split
  ·rename_i e9
   subst e9
   exact (h.hd i m p x hi hk hp hh hx1).e2
  ·exact c
 ·obtain ⟨a,b,c,d,f,g,o,q1,q2,r,t⟩:=h.hd j m q x hj hm hq hqh hx
  exact ⟨a,b,c,d,f,g,by have:=hge m;omega,q1,q2,r,hrd m b t⟩
theorem Gro.fold {dn0 dn:List Int} {l0 l:List Sh} {B n:Nat} {Cb:Int} {ls:List Le} {P:List Pl} (hg:Gro dn0 l0 dn l) (h:Ow B n Cb l dn ls P) (hI:Inv l) (i k:Nat) (hi:i<n) (hk:k<16) (p:Pl) (hp:P[i*16+k]?=some p) (hh:p.held=true) (hb:¬p.h.bf=0) (ha:p.h.at_=dnP dn k) (he:epP dn k≤p.h.ep) :
 Gro dn0 l0 (dnSet dn k (plus (dnP dn k) p.h.bf) p.h.ep) l:=by
 obtain ⟨x0,hx⟩:∃x,ls[k]?=some x:=⟨ls[k]'(by rw [h.lsL];exact hk),List.getElem?_eq_getElem _⟩
 have H:=h.hd i k p _ hi hk hp hh hx
 have h3:=H.b0
 rw [(h.fold hI i k hi hk p hp hh hb ha he).2]
 refine ⟨hg.1,fun m=>?_⟩
 obtain ⟨a,b⟩:=hg.2 m
 rw [dnP_set h.dnL hk,epP_set h.dnL hk]
 by_cases e:m=k
 ·subst e;rw [if_pos rfl,if_pos rfl];omega
 ·rw [if_neg e,if_neg e];exact ⟨a,b⟩
theorem Ow.commit {B n:Nat} {Cb:Int} {l:List Sh} {now:Rest} {ls:List Le} {P:List Pl} (h:Ow B n Cb l now.dn ls P) (hI:Inv l) (hC:0≤Cb) (i k:Nat) (hi:i<n) (hk:k<16) (p:Pl) (hp:P[i*16+k]?=some p) (hh:p.held=true) (hb:¬p.h.bf=0) (lost:Bool) :
 Ow B n Cb l (now.fold k p.h.ep p.h.at_ p.h.bf).dn ls (if lost=true then P else heardP (folds now.dn k p.h.ep p.h.at_) i k p P):=by
 obtain ⟨x0,hx⟩:∃x,ls[k]?=some x:=⟨ls[k]'(by rw [h.lsL];exact hk),List.getElem?_eq_getElem _⟩
 have H:=h.hd i k p _ hi hk hp hh hx
 have h32:=cn_le hI k
 have h1:=H.a0
 have h2:=H.ab
 have h3:=H.b0
 unfold Rest.fold heardP
 by_cases hf:folds now.dn k p.h.ep p.h.at_=true
 ·have hf':=hf
  unfold folds at hf'
  simp only [decide_eq_true_eq] at hf'
  obtain ⟨f1,f2⟩:=hf'
  obtain ⟨q,e⟩:=h.fold hI i k hi hk p hp hh hb f2 f1
  rw [if_pos hf,if_pos hf]
  cases lost with
  | true=>rw [if_pos rfl];exact q
  | false =>
    rw [if_neg (by simp)]
    have e2:plus p.h.at_ p.h.bf=p.h.at_+p.h.bf:=plus_small (by omega) (by omega)
    refine q.rehold i k hi hk p hp hh _ rfl rfl ?_ ?_ (Int.le_refl _) hC ?_
    ·show 0≤plus p.h.at_ p.h.bf
     omega
    ·show plus p.h.at_ p.h.bf≤_
     rw [dnP_set h.dnL hk,if_pos rfl,f2]
     exact Int.le_refl _
    ·show plus p.h.at_ p.h.bf+0≤_
     omega
 ·rw [if_neg hf,if_neg hf]
  cases lost with
  | true=>rw [if_pos rfl];exact h
  | false=>rw [if_neg (by simp)];exact h.drop i k hk _ rfl
theorem Gro.commit {dn0:List Int} {l0 l:List Sh} {now:Rest} {B n:Nat} {Cb:Int} {ls:List Le} {P:List Pl} (hg:Gro dn0 l0 now.dn l) (h:Ow B n Cb l now.dn ls P) (hI:Inv l) (i k:Nat) (hi:i<n) (hk:k<16) (p:Pl) (hp:P[i*16+k]?=some p) (hh:p.held=true) (hb:¬p.h.bf=0) :
 Gro dn0 l0 (now.fold k p.h.ep p.h.at_ p.h.bf).dn l:=by
 unfold Rest.fold
 by_cases hf:folds now.dn k p.h.ep p.h.at_=true
 ·rw [if_pos hf]
  unfold folds at hf
  simp only [decide_eq_true_eq] at hf
  exact hg.fold h hI i k hi hk p hp hh hb hf.2 hf.1
 ·rw [if_neg hf];exact hg
theorem inc_big {x:Int} (h:0≤x∧x<9223372036854775807):inc x=x+1:=by unfold inc;rw [IntKind.wrap_i64];omega
theorem Ow.give {B n:Nat} {Cb:Int} {l:List Sh} {dn:List Int} {ls:List Le} {P:List Pl} (h:Ow B n Cb l dn ls P) (ht:Tight B n ls P) (hn:n≤4) (hB:B≤9223372036854775807) (hC:0≤Cb) (i k:Nat) (hi:i<n) (hk:k<l.length) (hk16:k<16) (p:Pl) (hp:P[i*16+k]?=some p) (hh:p.held=false) (hr:rdy l (dnP dn) k=true) :
 Ow (B+1) n Cb l dn (giveLs i k ls) (giveP (dnP dn k) i k ls P)∧Tight (B+1) n (giveLs i k ls) (giveP (dnP dn k) i k ls P)∧∃x,ls[k]?=some x∧inc x.e=x.e+1:=by
 have hkl:k<ls.length:=by rw [h.lsL];exact hk16
 obtain ⟨x,hx⟩:∃x,ls[k]?=some x:=⟨ls[k],List.getElem?_eq_getElem hkl⟩
 obtain ⟨a,b,c,d,f,g,o⟩:=h.le k x hx
 have hcl:=hc_le P k n
 have ein:inc x.e=x.e+1:=by
  refine inc_big ⟨a,?_⟩
  by_cases e:x.e=B
  ·have:=ht k x hx e;omega
  ·omega
 have el:giveLs i k ls=ls.set k ⟨i,inc x.c,x.e+1⟩:=by unfold giveLs;rw [hx];simp only [ein]
 have ep:giveP (dnP dn k) i k ls P=P.set (i*16+k) { p with held:=true,h:=⟨k,x.e+1,dnP dn k,0⟩ }:=by unfold giveP;rw [hx,hp];simp only [ein]
 rw [el,ep]
 have ls_at:∀{y:Le} {m:Nat} {x':Le},(ls.set k y)[m]?=some x'→(m=k∧x'=y)∨(m≠k∧ls[m]?=some x'):=by
  intro y m x' hm
  by_cases e:k=m
  ·subst e;rw [List.getElem?_set_self hkl] at hm;injection hm with hm;exact Or.inl ⟨rfl,hm.symm⟩
  ·rw [List.getElem?_set_ne e] at hm;exact Or.inr ⟨fun e9=>e e9.symm,hm⟩
 obtain ⟨m1,m2,m3,m4,m5⟩:=h.mr k hk16
 refine ⟨⟨h.dnL,by rw [List.length_set];exact h.lsL,by rw [List.length_set];exact h.pL,h.mr,fun m x' hm=>?_,fun j m q x' hj hm hq hqh hx'=>?_,fun i' j m q r hi' hj hm hq hr' hqh hrh hne=>?_⟩,fun m x' hm e=>?_,x,hx,ein⟩
 ·rcases ls_at hm with ⟨rfl,rfl⟩ | ⟨_,hm⟩
  ·exact ⟨by show 0≤x.e+1;omega,by show x.e+1≤_;omega,by show _≤x.e+1;omega,by show -1≤(i:Int);omega,by show (i:Int)<n;omega,fun h9=>by omega,fun h9=>by exfalso;have:(i:Int)=-1:=h9;omega⟩
  ·obtain ⟨a,b,c⟩:=h.le m x' hm
   exact ⟨a,by omega,c⟩
 ·rcases plAt_set hk16 hm hq with ⟨rfl,rfl,rfl⟩ | ⟨hne,h2⟩
  ·rcases ls_at hx' with ⟨_,rfl⟩ | ⟨h9,_⟩
   ·exact ⟨rfl,hk,by show 1≤x.e+1;omega,Int.le_refl _,fun _=>rfl,m1,Int.le_refl _,Int.le_refl _,hC,by show dnP dn m+0≤_;omega,hr⟩
   ·exact absurd rfl h9
  ·rcases ls_at hx' with ⟨rfl,rfl⟩ | ⟨_,h9⟩
   ·obtain ⟨a,b,c,d,f,g,o,q1,q2,r,t⟩:=h.hd j m q x hj hm h2 hqh hx
    exact ⟨a,b,c,by show q.h.ep≤x.e+1;omega,fun e9=>by have:q.h.ep=x.e+1:=e9;omega,g,o,q1,q2,r,t⟩
   ·exact h.hd j m q x' hj hm h2 hqh h9
 ·have bound:∀j q,j<n→P[j*16+k]?=some q→q.held=true→q.h.ep≤x.e:=fun j q hj hq hqh=>(h.hd j k q x hj hk16 hq hqh hx).e2
  rcases plAt_set hk16 hm hq with ⟨rfl,rfl,rfl⟩ | ⟨_,h2⟩
  ·rcases plAt_set hk16 hm hr' with ⟨rfl,_,_⟩ | ⟨_,h3⟩
   ·exact absurd rfl hne
   ·have:=bound j r hj h3 hrh
    show x.e+1≠r.h.ep
    omega
  ·rcases plAt_set hk16 hm hr' with ⟨rfl,rfl,rfl⟩ | ⟨_,h3⟩
   ·have:=bound i' q hi' h2 hqh
    show q.h.ep≠x.e+1
    omega
   ·exact h.df i' j m q r hi' hj hm h2 h3 hqh hrh hne
 ·rcases ls_at hm with ⟨rfl,rfl⟩ | ⟨_,hm⟩
  ·have e':x.e+1=(B:Int)+1:=by simpa using e
   have hb:=ht m x hx (by omega)
   have hlt:i*16+m<P.length:=(List.getElem?_eq_some_iff.1 hp).1
   have:=hc_give (P:=P) (Q:=P.set (i*16+m) { p with held:=true,h:=⟨m,x.e+1,dnP dn m,0⟩ }) (k:=m) (n:=n) (i:=i) hi (fun j hj hne=>by
    unfold hol
    rw [List.getElem?_set_ne (by omega)]) (by unfold hol;rw [hp];exact hh) (by unfold hol;rw [List.getElem?_set_self hlt])
   rw [this,hb]
  ·obtain ⟨a,b,c⟩:=h.le m x' hm
   exfalso
   have e':x'.e=(B:Int)+1:=by simpa using e
   omega
end Go.Proofs.YtpnkmnmchdabkaaGreat
namespace Go.Proofs.YtpnkmnmchdabkaaGreat
theorem noneL_at {k:Nat} {x:Le} (h:(noneL 16)[k]?=some x):x.o=-1∧x.e=0:=by
 have hx:x ∈ noneL 16:=List.mem_of_getElem? h
 have e:noneL 16=List.replicate 16 ⟨-1,0,0⟩:=by unfold noneL;simp
 rw [e] at hx
 have:=List.eq_of_mem_replicate hx
 subst this
 exact ⟨rfl,rfl⟩
theorem ow_new (n:Nat) (Cb:Int) (hn:n≤4):Ow 0 n Cb [⟨0,256,true,[],[]⟩] (List.replicate 32 0) (noneL 16) (List.replicate (n*16) pl0):=by
 have z1:∀k,dnP (List.replicate 32 0) k=0:=by
  intro k
  unfold dnP
  rw [List.getElem?_replicate]
  split <;> rfl
 have z2:∀k,epP (List.replicate 32 0) k=0:=by
  intro k
  unfold epP
  rw [List.getElem?_replicate]
  split <;> rfl
 have no:∀{q:Nat} {p:Pl},(List.replicate (n*16) pl0)[q]?=some p→p.held=true→False:=by
  intro q p hp hh
  have:=List.eq_of_mem_replicate (List.mem_of_getElem? hp)
  subst this
  simp [pl0] at hh
 refine ⟨by simp,by simp [noneL],by simp,fun k hk=>?_,fun k x hx=>?_,fun i k p x _ _ hp hh _=>(no hp hh).elim,fun i j k p q _ _ _ hp _ hh _ _=>(no hp hh).elim⟩
 ·rw [z1,z2]
  exact ⟨by omega,by omega,by omega,by omega,fun h=>by omega⟩
 ·obtain ⟨a,b⟩:=noneL_at hx
  rw [a,b,z2]
  exact ⟨by omega,by omega,by omega,by omega,by omega,fun _=>rfl,fun _ h=>by omega⟩
theorem hc_zero {P:List Pl} {k:Nat} (h:∀j,hol P j k=false):∀n,hc P k n=0
 | 0=>rfl
 | n+1=>by unfold hc;rw [hc_zero h n,h n];rfl
theorem Ow.stg {B n:Nat} {Cb:Int} {l:List Sh} {dn:List Int} {ls:List Le} {P:List Pl} (h:Ow B n Cb l dn ls P) (hI:Inv l):(∀k,k<l.length→(stgUp l (dnP dn) l.length)[k]?=some (Go.Proofs.YtpnkmnmchdabkaaGreat.stg l (dnP dn) k))∧(∀k,l.length≤k→k<16→(stgUp l (dnP dn) l.length)[k]?=some 0) :=
 stgUp_is hI (dnP dn) (fun k s hk=>by have:=(h.mr k (by have:=(List.getElem?_eq_some_iff.1 hk).1;have:=hI.len;omega)).2.1;rw [cn_is hk] at this;exact this) _ (Nat.le_refl _)
theorem Ow.two {B n:Nat} {Cb:Int} {l:List Sh} {dn:List Int} {ls:List Le} {P:List Pl} (h:Ow B n Cb l dn ls P) (hI:Inv l) (k:Nat) (hk:k<16) (e:(stgUp l (dnP dn) l.length)[k]?=some 2):fin l (dnP dn) k=true:=by
 obtain ⟨h1,h2⟩:=h.stg hI
 by_cases hlt:k<l.length
 ·rw [h1 k hlt] at e
  injection e with e
  exact (stg_two hI (List.getElem?_eq_getElem hlt)).1 e
 ·rw [h2 k (by omega) hk] at e
  injection e with e
  omega
theorem Ow.one {B n:Nat} {Cb:Int} {l:List Sh} {dn:List Int} {ls:List Le} {P:List Pl} (h:Ow B n Cb l dn ls P) (hI:Inv l) (k:Nat) (hk:k<16) (e:(stgUp l (dnP dn) l.length)[k]?=some 1):k<l.length∧rdy l (dnP dn) k=true∧fin l (dnP dn) k=false:=by
 obtain ⟨h1,h2⟩:=h.stg hI
 by_cases hlt:k<l.length
 ·rw [h1 k hlt] at e
  injection e with e
  unfold Go.Proofs.YtpnkmnmchdabkaaGreat.stg at e
  by_cases hr:rdy l (dnP dn) k=true
  ·rw [if_pos hr] at e
   by_cases hf:fin l (dnP dn) k=true
   ·rw [if_pos hf] at e;omega
   ·exact ⟨hlt,hr,by simpa using hf⟩
  ·rw [if_neg hr] at e;omega
 ·rw [h2 k (by omega) hk] at e
  injection e with e
  omega
theorem may_is {st:List Int} {ls:List Le} {P:List Pl} {t L:Int} {i n:Nat} (h:mayP st ls P t L i n=true):∃p,P[i*16+n]?=some p∧p.held=false∧st[n]?=some 1:=by
 unfold mayP at h
 split at h
 ·rename_i p hp
  simp only [Bool.and_eq_true,Bool.not_eq_true',decide_eq_true_eq] at h
  exact ⟨p,hp,h.1.2,h.1.1⟩
 ·cases h
end Go.Proofs.YtpnkmnmchdabkaaGreat
