import Derived.Test.YtpnkmnmchdabkaaGreatM36
import Derived.Test.YtpnkmnmchdabkaaGreatM15
import Derived.Test.YtpnkmnmchdabkaaGreatM24
import Derived.Test.YtpnkmnmchdabkaaGreatM30
import Derived.Test.YtpnkmnmchdabkaaGreatLawFa
import Derived.Test.YtpnkmnmchdabkaaGreatLawFb
import Derived.Test.YtpnkmnmchdabkaaGreatM35
import Derived.Test.YtpnkmnmchdabkaaGreatM44
import Derived.Test.YtpnkmnmchdabkaaGreatRefComY
import Derived.Test.YtpnkmnmchdabkaaGreatM28
namespace Go.Proofs.YtpnkmnmchdabkaaGreat
open Go.RowKit
attribute [local go_sem ↓] Go.wp_at_zero Go.wp_at_succ
theorem refMark_no {w:World} {ρ:Nat→Nat} {yb:Nat} {C:Cfg} {time:Int} {rs:List Rf} {P:List Pt} {wv:Wks} {fv sv lv:Value} (h:RefAt w ρ yb C time rs P wv fv sv lv) (hpos:0<rs.length) (n:Int) (hn:¬(0≤n∧n<rs.length)) :
 Calls Tryz.prog 25 #[.pointer (some ⟨yb,0,none⟩),.int .i64 n] w fun e w'=>e=.returned (.tuple #[.agg #[.int .i64 0,.int .i64 0,.int .i64 0],.int .i64 5])∧Below w.heap.size w w':=by
 obtain ⟨sb,cap,rfl,hsb,_,_,hcell⟩:=h.shards hpos
 have c7:w.cell? ⟨yb,7,none⟩=some (.slice (some ⟨sb,0,none⟩) rs.length cap):=cell_of h.blk 7
 have hyb:=lt_of_heap h.blk
 have HT:Hid (∀W,W.cell? ⟨yb,7,none⟩=some (.slice (some ⟨sb,0,none⟩) rs.length cap)→Calls Tryz.prog 49 #[.pointer (some ⟨yb,0,none⟩),.int .i64 n] W fun e w'=>e=.returned (.bool (decide (0≤n∧n<(rs.length:Int))))∧W=w'):=fun W hc=>refThere_any yb rs.length cap (some ⟨sb,0,none⟩) n W hc
 have hd:decide (0≤n∧n<(rs.length:Int))=false:=by simpa using hn
 rw [hd] at HT
 clear h hcell hd hn
 go_enter Tryz.func25,Tryz.ntmps25
 go_wp2_with (go_at_call 49;refine (uh HT _ ((World.cell?_of_block (w:=w) (Below.heap_alloc _ _ _ hyb)).trans c7)).mono ?_;rintro e w1 ⟨rfl,rfl⟩)
 refine bodyPost_ret (v:=.tuple #[.agg #[.int .i64 0,.int .i64 0,.int .i64 0],.int .i64 5]) ?_ rfl ⟨rfl,(Below.refl _ w).alloc (Nat.le_refl _) _⟩
 simp [results,Tryz.results25,go_sem]
set_option maxRecDepth 100000 in
set_option maxHeartbeats 2000000 in
theorem refMark_any {w:World} {ρ:Nat→Nat} {yb:Nat} {C:Cfg} {time:Int} {rs:List Rf} {P:List Pt} {wv:Wks} {fv sv lv:Value} {d:Nat→Nat} (h:RefAt w ρ yb C time rs P wv fv sv lv) (hI:Inv (absR rs P)) (hP:P.length≤1000000) (hd:∀(k:Nat) (r:Rf),rs[k]?=some r→r.done=(d k:Int)) (hd32:∀k,d k≤32) (k:Nat) (r:Rf) (hr:rs[k]?=some r) :
 Calls Tryz.prog 25 #[.pointer (some ⟨yb,0,none⟩),.int .i64 k] w fun e w'=>e=.returned (.tuple #[.agg #[.int .i64 (d k),.int .i64 r.ep,.int .i64 (ahd (absR rs P) d k (d k))],.int .i64 0])∧Below w.heap.size w w':=by
 have hk:=(List.getElem?_eq_some_iff.1 hr).1
 have hdk:=hd k r hr
 have HB:Hid (∀W,Below w.heap.size w W→Calls Tryz.prog 50 #[.pointer (some ⟨yb,0,none⟩),.int .i64 k,.int .i64 (d k)] W fun e w'=>e=.returned (.int .i64 (ahd (absR rs P) d k (d k)))∧Below W.heap.size W w'):=fun W hW =>
  refBefore_any hI hP hd hd32 k hk (d k) W (by have:=hd32 k;omega) (h.keeps (Keeps.of_below hW) (fun _ hk=>Or.inr hk) (ρ':=ρ) (fun _ _=>rfl))
 obtain ⟨sb,cap,rfl,hsb,_,_,hcell⟩:=h.shards (by omega)
 have c7:w.cell? ⟨yb,7,none⟩=some (.slice (some ⟨sb,0,none⟩) rs.length cap):=cell_of h.blk 7
 have hyb:=lt_of_heap h.blk
 have HT:Hid (∀W,W.cell? ⟨yb,7,none⟩=some (.slice (some ⟨sb,0,none⟩) rs.length cap)→Calls Tryz.prog 49 #[.pointer (some ⟨yb,0,none⟩),.int .i64 k] W fun e w'=>e=.returned (.bool (decide (0≤(k:Int)∧(k:Int)<(rs.length:Int))))∧W=w'):=fun W hc=>refThere_any yb rs.length cap (some ⟨sb,0,none⟩) k W hc
 have hdd:decide (0≤(k:Int)∧(k:Int)<(rs.length:Int))=true:=by simp;omega
 rw [hdd] at HT
 have e0:w.cell? ⟨sb,k*9,none⟩=some (.int .i64 r.lo):=hcell k r hr 0 (by omega)
 have e1:w.cell? ⟨sb,k*9+1,none⟩=some (.int .i64 r.hi):=hcell k r hr 1 (by omega)
 have e2:w.cell? ⟨sb,k*9+2,none⟩=some (.bool r.op):=hcell k r hr 2 (by omega)
 have e3:w.cell? ⟨sb,k*9+3,none⟩=some r.pv:=hcell k r hr 3 (by omega)
 have e4:w.cell? ⟨sb,k*9+4,none⟩=some (.int .i64 r.own):=hcell k r hr 4 (by omega)
 have e5:w.cell? ⟨sb,k*9+5,none⟩=some (.int .i64 r.ctr):=hcell k r hr 5 (by omega)
 have e6:w.cell? ⟨sb,k*9+6,none⟩=some (.int .i64 r.lep):=hcell k r hr 6 (by omega)
 have e7:w.cell? ⟨sb,k*9+7,none⟩=some (.int .i64 (d k)):=by rw [←hdk];exact hcell k r hr 7 (by omega)
 have e8:w.cell? ⟨sb,k*9+8,none⟩=some (.int .i64 r.ep):=hcell k r hr 8 (by omega)
 obtain ⟨pa,pc,hpv⟩:=ownsRow_len (h.par k r hr)
 rw [hpv] at e3
 generalize ahd (absR rs P) d k (d k)=u at *
 have hdk2:=hd32 k
 generalize d k=dk at *
 clear h hcell hdd hI hd hd32 hr hdk hpv
 go_enter Tryz.func25,Tryz.ntmps25
 go_wp2_with fail
 refine (uh HT _ ((World.cell?_of_block (w:=w) (Below.heap_alloc _ _ _ hyb)).trans c7)).mono ?_
 rintro e w1 ⟨rfl,rfl⟩
 go_wp2_with fail
 have A1:=(Below.refl w.heap.size w).alloc (Nat.le_refl _) (.cells #[.int .i64 0,.int .i64 0,.int .i64 0] 89)
 have N0:=heap_alloc_new w (.cells #[.int .i64 0,.int .i64 0,.int .i64 0] 89)
 have z0:(w.alloc (.cells #[.int .i64 0,.int .i64 0,.int .i64 0] 89)).heap.size=w.heap.size+1:=by simp
 generalize w.alloc (.cells #[.int .i64 0,.int .i64 0,.int .i64 0] 89)=W at *
 have A2:=A1.alloc (by omega) (.cells #[.int .i64 r.lo,.int .i64 r.hi,.bool r.op,.slice pa r.par.length pc,.int .i64 r.own,.int .i64 r.ctr,.int .i64 r.lep,.int .i64 dk,.int .i64 r.ep] 73)
 have N1:=heap_alloc_new W (.cells #[.int .i64 r.lo,.int .i64 r.hi,.bool r.op,.slice pa r.par.length pc,.int .i64 r.own,.int .i64 r.ctr,.int .i64 r.lep,.int .i64 dk,.int .i64 r.ep] 73)
 have N2:=(Below.heap_alloc W (.cells #[.int .i64 r.lo,.int .i64 r.hi,.bool r.op,.slice pa r.par.length pc,.int .i64 r.own,.int .i64 r.ctr,.int .i64 r.lep,.int .i64 dk,.int .i64 r.ep] 73) w.heap.size (by omega)).trans N0
 generalize W.alloc (.cells #[.int .i64 r.lo,.int .i64 r.hi,.bool r.op,.slice pa r.par.length pc,.int .i64 r.own,.int .i64 r.ctr,.int .i64 r.lep,.int .i64 dk,.int .i64 r.ep] 73)=U at *
 refine (uh HB U A2).mono ?_
 rintro e w2 ⟨rfl,hb2⟩
 have M0:=(hb2.block _ (lt_of_heap N2)).trans N2
 have M1:=(hb2.block _ (lt_of_heap N1)).trans N1
 rw [z0] at M1
 have q7:w2.cell? ⟨w.heap.size+1,7,none⟩=some (.int .i64 dk):=cell_of M1 7
 have q8:w2.cell? ⟨w.heap.size+1,8,none⟩=some (.int .i64 r.ep):=cell_of M1 8
 have k0:w2.cell? ⟨w.heap.size,0,none⟩=some (.int .i64 0):=cell_of M0 0
 have k1:w2.cell? ⟨w.heap.size,1,none⟩=some (.int .i64 0):=cell_of M0 1
 have k2:w2.cell? ⟨w.heap.size,2,none⟩=some (.int .i64 0):=cell_of M0 2
 have f0:=frozen_of M0 0
 have f1:=frozen_of M0 1
 have f2:=frozen_of M0 2
 have B2:=A2.trans (hb2.mono A2.size)
 have L1:=heap_setCell_same (i:=0) M0 (.int .i64 dk)
 have L2:=heap_setCell_same (i:=1) L1 (.int .i64 r.ep)
 have L3:=heap_setCell_same (i:=2) L2 (.int .i64 u)
 have B3:Hid (Below w.heap.size w (((w2.setCell ⟨w.heap.size,0,none⟩ (.int .i64 dk)).setCell ⟨w.heap.size,1,none⟩ (.int .i64 r.ep)).setCell ⟨w.heap.size,2,none⟩ (.int .i64 u))):=((B2.setCell (p:=⟨w.heap.size,0,none⟩) (Nat.le_refl _) _).setCell (p:=⟨w.heap.size,1,none⟩) (Nat.le_refl _) _).setCell (p:=⟨w.heap.size,2,none⟩) (Nat.le_refl _) _
 have r0:=cell_of L3 0
 have r1:=cell_of L3 1
 have r2:=cell_of L3 2
 simp at r0 r1 r2
 clear L1 L2 L3 M0 M1 hb2 N0 N1 N2 A1 A2 B2 e0 e1 e2 e3 e4 e5 e6 e7 e8 c7 HT HB
 go_wp2
 refine bodyPost_ret (v:=.tuple #[.agg #[.int .i64 dk,.int .i64 r.ep,.int .i64 u],.int .i64 0]) ?_ rfl ⟨rfl,uh B3⟩
 simp [results,Tryz.results25,go_sem,r0,r1,r2]
set_option maxRecDepth 100000 in
set_option maxHeartbeats 2000000 in
theorem findHold_noW {w:World} {ρ:Nat→Nat} {gb:Nat} {C:Cfg} {now:Rest} {sv:Value} {m:List Cs} {g cap:Nat} {ls:List Le} {P:List Pl} (h:GS w ρ gb C now sv m g cap ls P) (i k:Int) (hi:¬(0≤i∧i<now.n)) :
 Calls Tryz.prog 39 #[.pointer (some ⟨gb,0,none⟩),.int .i64 i,.int .i64 k] w fun e w'=>e=.returned (.tuple #[.pointer none,.agg #[.int .i64 0,.int .i64 0,.int .i64 0,.int .i64 0],.int .i64 9])∧Below w.heap.size w w':=by
 have hA:=h.alloc (.cells #[.int .i64 0,.int .i64 0,.int .i64 0,.int .i64 0] 102)
 have HK:=hide (hasWorker_any hA.1 i)
 rw [decide_eq_false hi] at HK
 have HB:Hid (Below w.heap.size w (w.alloc (.cells #[.int .i64 0,.int .i64 0,.int .i64 0,.int .i64 0] 102))):=(Below.refl _ w).alloc (Nat.le_refl _) _
 have N1:=heap_alloc_new w (.cells #[.int .i64 0,.int .i64 0,.int .i64 0,.int .i64 0] 102)
 obtain ⟨r0,r1,r2,r3,f0,f1,f2,f3⟩:=four_cells N1
 clear h hA N1
 go_enter Tryz.func39,Tryz.ntmps39
 go_wp2_with ((go_at_call 76;refine (uh HK).mono ?_;rintro e w1 ⟨rfl,rfl⟩))
 refine bodyPost_ret (v:=.tuple #[.pointer none,.agg #[.int .i64 0,.int .i64 0,.int .i64 0,.int .i64 0],.int .i64 9]) ?_ rfl ⟨rfl,uh HB⟩
 simp [results,Tryz.results39,go_sem,r0,r1,r2,r3]
set_option maxRecDepth 100000 in
set_option maxHeartbeats 2000000 in
theorem findHold_noS {w:World} {ρ:Nat→Nat} {gb:Nat} {C:Cfg} {now:Rest} {sv:Value} {m:List Cs} {g cap:Nat} {ls:List Le} {P:List Pl} (h:GS w ρ gb C now sv m g cap ls P) (h0:0<m.length) (i:Nat) (hi:i<now.n) (k:Int) (hk:¬(0≤k∧k<m.length)) :
 Calls Tryz.prog 39 #[.pointer (some ⟨gb,0,none⟩),.int .i64 i,.int .i64 k] w fun e w'=>e=.returned (.tuple #[.pointer none,.agg #[.int .i64 0,.int .i64 0,.int .i64 0,.int .i64 0],.int .i64 5])∧Below w.heap.size w w':=by
 have hA:=h.alloc (.cells #[.int .i64 0,.int .i64 0,.int .i64 0,.int .i64 0] 102)
 have HK:=hide (hasWorker_any hA.1 i)
 rw [show decide (0≤(i:Int)∧(i:Int)<now.n)=true by simp;omega] at HK
 have HL:=hide (gHas_any hA.1 h0 k)
 rw [decide_eq_false hk] at HL
 have HB:Hid (Below w.heap.size w (w.alloc (.cells #[.int .i64 0,.int .i64 0,.int .i64 0,.int .i64 0] 102))):=(Below.refl _ w).alloc (Nat.le_refl _) _
 have N1:=heap_alloc_new w (.cells #[.int .i64 0,.int .i64 0,.int .i64 0,.int .i64 0] 102)
 obtain ⟨r0,r1,r2,r3,f0,f1,f2,f3⟩:=four_cells N1
 clear h hA N1
 go_enter Tryz.func39,Tryz.ntmps39
 go_wp2_with (first | (go_at_call 76;refine (uh HK).mono ?_;rintro e w1 ⟨rfl,rfl⟩) | (go_at_call 47;refine (uh HL).mono ?_;rintro e w1 ⟨rfl,rfl⟩))
 refine bodyPost_ret (v:=.tuple #[.pointer none,.agg #[.int .i64 0,.int .i64 0,.int .i64 0,.int .i64 0],.int .i64 5]) ?_ rfl ⟨rfl,uh HB⟩
 simp [results,Tryz.results39,go_sem,r0,r1,r2,r3]
set_option maxRecDepth 100000 in
theorem gFetch_err {w:World} (gb:Nat) (a b c:Int) (hc:(c != 0)=true) (H:Calls Tryz.prog 39 #[.pointer (some ⟨gb,0,none⟩),.int .i64 a,.int .i64 b] w fun e w'=>e=.returned (.tuple #[.pointer none,.agg #[.int .i64 0,.int .i64 0,.int .i64 0,.int .i64 0],.int .i64 c])∧Below w.heap.size w w') :
 Calls Tryz.prog 20 #[.pointer (some ⟨gb,0,none⟩),.int .i64 a,.int .i64 b] w fun e w'=>e=.returned (.tuple #[.int .i64 0,.int .i64 c])∧Below w.heap.size w w':=by
 have H:=hide H
 go_enter Tryz.func20,Tryz.ntmps20
 go_wp2_with fail
 refine (uh H).mono ?_
 rintro e w1 ⟨rfl,q1⟩
 have Q1:=hide (q1.alloc q1.size (.cells #[.int .i64 0,.int .i64 0,.int .i64 0,.int .i64 0] 102))
 clear q1
 go_wp2
 go_ret2
 exact ⟨rfl,uh Q1⟩
set_option maxRecDepth 100000 in
theorem gCommit_err {w:World} (gb:Nat) (a b c:Int) (l:Bool) (hc:(c != 0)=true) (H:Calls Tryz.prog 39 #[.pointer (some ⟨gb,0,none⟩),.int .i64 a,.int .i64 b] w fun e w'=>e=.returned (.tuple #[.pointer none,.agg #[.int .i64 0,.int .i64 0,.int .i64 0,.int .i64 0],.int .i64 c])∧Below w.heap.size w w') :
 Calls Tryz.prog 22 #[.pointer (some ⟨gb,0,none⟩),.int .i64 a,.int .i64 b,.bool l] w fun e w'=>e=.returned (.int .i64 c)∧Below w.heap.size w w':=by
 have H:=hide H
 go_enter Tryz.func22,Tryz.ntmps22
 go_wp2_with fail
 refine (uh H).mono ?_
 rintro e w1 ⟨rfl,q1⟩
 have Q1:=hide (q1.alloc q1.size (.cells #[.int .i64 0,.int .i64 0,.int .i64 0,.int .i64 0] 102))
 clear q1
 go_wp2
 go_ret
 exact ⟨rfl,uh Q1⟩
set_option maxRecDepth 100000 in
theorem gMark_no {w:World} {ρ:Nat→Nat} {gb:Nat} {C:Cfg} {now:Rest} {sv:Value} {m:List Cs} {g cap:Nat} {ls:List Le} {P:List Pl} (h:GS w ρ gb C now sv m g cap ls P) (h0:0<m.length) (k:Int) (hk:¬(0≤k∧k<m.length)) :
 Calls Tryz.prog 24 #[.pointer (some ⟨gb,0,none⟩),.int .i64 k] w fun e w'=>e=.returned (.tuple #[.agg #[.int .i64 0,.int .i64 0,.int .i64 0],.int .i64 5])∧Below w.heap.size w w':=by
 have hA:=h.alloc (.cells #[.int .i64 0,.int .i64 0,.int .i64 0] 89)
 have HL:=hide (gHas_any hA.1 h0 k)
 rw [decide_eq_false hk] at HL
 have HB:Hid (Below w.heap.size w (w.alloc (.cells #[.int .i64 0,.int .i64 0,.int .i64 0] 89))):=(Below.refl _ w).alloc (Nat.le_refl _) _
 have N1:=heap_alloc_new w (.cells #[.int .i64 0,.int .i64 0,.int .i64 0] 89)
 have r0:=cell_of N1 0
 have r1:=cell_of N1 1
 have r2:=cell_of N1 2
 have f0:=frozen_of N1 0
 have f1:=frozen_of N1 1
 have f2:=frozen_of N1 2
 simp only [List.getElem?_toArray,List.getElem?_cons_zero,List.getElem?_cons_succ] at r0 r1 r2
 clear h hA N1 hk
 go_enter Tryz.func24,Tryz.ntmps24
 go_wp2_with (go_at_call 47;refine (uh HL).mono ?_;rintro e w1 ⟨rfl,rfl⟩)
 refine bodyPost_ret (v:=.tuple #[.agg #[.int .i64 0,.int .i64 0,.int .i64 0],.int .i64 5]) ?_ rfl ⟨rfl,uh HB⟩
 simp [results,Tryz.results24,go_sem,r0,r1,r2]
end Go.Proofs.YtpnkmnmchdabkaaGreat
namespace Go.Proofs.YtpnkmnmchdabkaaGreat
open Go.RowKit
theorem up_same {now:Rest} {Q:List Pl} (h:now.mem=plsCells Q):now.up now.ls Q=now:=by unfold Rest.up;rw [←h]
theorem cnt_is {rs:List Rf} {P:List Pt} {l:List Sh} (hs:absR rs P=l) {k:Nat} (hk:k<rs.length):cn l k=(ofShard P k).length:=by
 rw [←hs,cn_is (absR_get (List.getElem?_eq_getElem hk))]
 exact Sh.cnt_rcs _ _ _ _ _ _
theorem absR_marks {rs:List Rf} {P:List Pt} {k:Nat} {r:Rf} (hr:rs[k]?=some r) (d e:Int):absR (rs.set k { r with done:=d,ep:=e }) P=absR rs P:=by
 apply List.ext_getElem?
 intro j
 unfold absR
 rw [List.getElem?_mapIdx,List.getElem?_mapIdx,List.getElem?_set]
 split
 ·rename_i h
  subst h
  rw [hr]
  split <;> simp_all
 ·rfl
theorem step_12 {w0 w:World} {K:Nat→Prop} {wb sb gb yb:Nat} {C:Cfg} {sdv:Value} {N:Nat} (h:St w0 K wb sb gb yb C sdv N w) (hN:N≤600000) (o:Opn) (ho:o.k=12) :
 Calls Tryz.prog 10 #[.pointer (some ⟨wb,0,none⟩),.pointer (some ⟨sb,0,none⟩),.agg o.arr] w fun e w'=>e=.returned (.bool true)∧St w0 K wb sb gb yb C sdv (N+1) w':=by
 obtain ⟨ρ,now,time,l,rs,P,wv,fv,last,sv,iv,hv,m1,m2,m3,Ls,Li,Lh,hL,hS,hf,hB0,hBb,hBs,hn1,hn2,hn3,hn4,hn5,hn6,hn7⟩:=h
 obtain ⟨gv,m,g,cap,Q,he,hGS,hw,hlen,hW,hmQ,hO⟩:=hn6.gs hS.grp hf hS.inv
 have hI:=hS.inv
 have hnl:=hn6.nl
 have hrl:l.length=rs.length:=by rw [←hS.same,absR_len]
 have hml:m.length=l.length:=by rw [←he];simp
 have h16:=hI.len
 have hup:=up_same hmQ
 have hpos:=hI.pos
 have herr:∀(c:Int),(c != 0)=true→(∀W,Below w.heap.size w W→Calls Tryz.prog 20 #[.pointer (some ⟨gb,0,none⟩),.int .i64 o.a,.int .i64 o.b] W fun e w'=>e=.returned (.tuple #[.int .i64 0,.int .i64 c])∧GrpPost W ρ gb C now l w')→(∀W ρ2,(∃sv lv,RefAt W ρ2 yb C time rs P wv fv sv lv)→Calls Tryz.prog 42 #[.pointer (some ⟨yb,0,none⟩),.int .i64 o.a,.int .i64 o.b] W fun e w'=>e=.returned (.tuple #[.int .i64 (-1),.int .i64 c])∧W=w') →
  Calls Tryz.prog 10 #[.pointer (some ⟨wb,0,none⟩),.pointer (some ⟨sb,0,none⟩),.agg o.arr] w fun e w'=>e=.returned (.bool true)∧St w0 K wb sb gb yb C sdv (N+1) w':=by
  intro c hc hP hR
  refine step_fetch hL hS hf hB0 hBb hBs hn1 hn2 hn3 hn4 hn5 (hpin:=hS.pin) (hn7:=hn7) (l':=l) (now':=now) hI o ho 0 c hP (fun W ρ2 hex hf2=>?_)
  obtain ⟨sv2,lv2,R2⟩:=hex
  exact (refFetch_err yb o.a o.b c hc (hR W ρ2 ⟨sv2,lv2,R2⟩)).mono fun e w' q=>⟨q.1,rs,wv,fv,by rw [←q.2];exact RefPost.below R2 hf2 (Below.refl _ _),hS.same,rfl,hn6.mono (by omega)⟩
 have hgp:∀W w',Below w.heap.size w W→Below W.heap.size W w'→GrpPost W ρ gb C now l w':=fun W w' hb hb'=>by
  have hz:=hb.size
  have hk:Keeps (fun k=>w.heap.size≤k) w w':=⟨hb'.os.trans hb.os,hb'.tape.trans hb.tape,hb'.output.trans hb.output,Nat.le_trans hb.size hb'.size,fun k hk _=>(hb'.block k (by omega)).trans (hb.block k hk)⟩
  obtain ⟨gv2,m2',e2,G2⟩:=(hS.keeps hk (fun k hk=>Or.inr (Or.inr hk)) (fun _ _=>rfl)).grp
  exact ⟨ρ,gv2,m2',e2,G2,(Keeps.of_below hb').mono (fun k hk hs=>by omega),Ext.refl (hf.below hb.size),hf.below (Nat.le_trans hb.size hb'.size)⟩
 by_cases hi:0≤o.a∧o.a<now.n
 ·obtain ⟨i,hia⟩:∃i:Nat,o.a=(i:Int):=⟨o.a.toNat,by omega⟩
  have hin:i<now.n:=by omega
  have hy:wv.l[i]?=some (wv.l[i]'(by omega)):=List.getElem?_eq_getElem _
  generalize wv.l[i]'(by omega)=y at hy
  have hWi:=hW i y hy
  have hyl:y.hs.length≤1000:=by have:=hWi.hs.le;omega
  by_cases hkk:0≤o.b∧o.b<l.length
  ·obtain ⟨k,hkb⟩:∃k:Nat,o.b=(k:Int):=⟨o.b.toNat,by omega⟩
   have hkr:k<rs.length:=by omega
   obtain ⟨p,hp,_⟩:=hWi.rel k (by omega)
   cases hh:p.held
   ·refine herr 13 rfl (fun W hb=>?_) (fun W ρ2 hex=>?_)
    ·rw [hia,hkb]
     refine (gFetch_no (hGS.below hb).1 i hin k (by omega) p hp hh).mono ?_
     rintro e w' ⟨h1,h2⟩
     have:=h2.grpPost he (hf.below hb.size)
     rw [hup] at this
     exact ⟨h1,this⟩
    ·obtain ⟨sv2,lv2,R2⟩:=hex
     have:=refHeld_any R2 i y hy hyl k hkr
     unfold heldV at this
     rw [(hn6.hold hS.same hI hW hO hy hkr hp).1 hh,if_pos (by omega)] at this
     rw [hia,hkb]
     exact this
   ·obtain ⟨j,hj,hix,hsh,a0,a1,b0,b1,ab,c32⟩:=(hn6.hold hS.same hI hW hO hy hkr hp).2 hh
    have R:=hn6.fetch hS.same hI hw hlen hW hO hy hkr hp hh hj hix hsh
    have hcf:=hn6.conf
    obtain ⟨s,hs⟩:∃s,m[k]?=some s:=⟨m[k]'(by omega),List.getElem?_eq_getElem _⟩
    have hsl:l[k]?=some s.s:=by rw [←he,List.getElem?_map,hs];rfl
    have hcn:=cn_is hsl
    have hbv:bufV (cn l k) p.h.at_ C.b=if C.b<(cn l k:Int) - p.h.at_ then C.b else (cn l k:Int) - p.h.at_:=by
     unfold bufV
     rw [dif_small (by omega) (by omega)]
    obtain ⟨n,hn⟩:∃n:Nat,(n:Int)=bufV (cn l k) p.h.at_ C.b:=⟨(bufV (cn l k) p.h.at_ C.b).toNat,by rw [hbv];split <;> omega⟩
    refine step_fetch hL hS hf hB0 hBb hBs hn1 hn2 hn3 hn4 hn5 (hpin:=hS.pin) (hn7:=hn7) (l':=l) (now':=now.up now.ls (Q.set (i*16+k) { p with held:=true,h:=⟨k,p.h.ep,p.h.at_,bufV (cn l k) p.h.at_ C.b⟩ })) hI o ho (bufV (cn l k) p.h.at_ C.b) 0 (fun W hb=>?_) (fun W ρ2 ⟨sv2,lv2,R2⟩ hf2=>?_)
    ·rw [hia,hkb]
     have hc:=gFetch_yes (hGS.below hb).1 i hin k (by omega) p hp hh hsh s hs
     rw [show s.s.cnt=cn l k from hcn.symm] at hc
     exact hc.mono fun e w' q=>⟨q.1,q.2.grpPost he (hf.below hb.size)⟩
    ·rw [hia,hkb]
     have hco:=cnt_is hS.same hkr
     have hc:=refFetch_any R2 hf2 (by omega) i y hy hyl k hkr j p.h hj hix n (by rw [hn,hbv,hco]) (by rw [←hco];omega) hcf.2.2.1
     rw [hn] at hc
     refine hc.mono ?_
     rintro e w' ⟨h1,h2⟩
     exact ⟨h1,_,_,_,h2,hS.same,rfl,R⟩
  ·refine herr 5 rfl (fun W hb=>?_) (fun W ρ2 hex=>?_)
   ·rw [hia]
    exact (gFetch_err gb i o.b 5 rfl (findHold_noS (hGS.below hb).1 (by omega) i hin o.b (by rw [hml];exact hkk))).mono fun e w' q=>⟨q.1,hgp W w' hb q.2⟩
   ·obtain ⟨sv2,lv2,R2⟩:=hex
    obtain ⟨vb,vc,hv,_⟩:=R2.wk.shape hy
    have c8:W.cell? ⟨yb,8,none⟩=some wv.v:=cell_of R2.blk 8
    rw [hv] at c8
    obtain ⟨sb2,cap2,rfl,_⟩:=R2.shards (by omega)
    rw [hia]
    exact refHeld_noS yb wv.l.length vc rs.length cap2 _ _ i o.b c8 (cell_of R2.blk 7) (by omega) (by rw [←hrl];exact hkk)
 ·refine herr 9 rfl (fun W hb=>?_) (fun W ρ2 hex=>?_)
  ·exact (gFetch_err gb o.a o.b 9 rfl (findHold_noW (hGS.below hb).1 o.a o.b hi)).mono fun e w' q=>⟨q.1,hgp W w' hb q.2⟩
  ·obtain ⟨sv2,lv2,R2⟩:=hex
   have hn1':=hn6.n1
   have hy:wv.l[0]?=some (wv.l[0]'(by omega)):=List.getElem?_eq_getElem _
   obtain ⟨vb,vc,hv,_⟩:=R2.wk.shape hy
   have c8:W.cell? ⟨yb,8,none⟩=some wv.v:=cell_of R2.blk 8
   rw [hv] at c8
   exact refHeld_noW yb wv.l.length vc _ o.a o.b c8 (by rw [←hnl];exact hi)
theorem step_13 {w0 w:World} {K:Nat→Prop} {wb sb gb yb:Nat} {C:Cfg} {sdv:Value} {N:Nat} (h:St w0 K wb sb gb yb C sdv N w) (_hN:N≤600000) (o:Opn) (ho:o.k=13) :
 Calls Tryz.prog 10 #[.pointer (some ⟨wb,0,none⟩),.pointer (some ⟨sb,0,none⟩),.agg o.arr] w fun e w'=>e=.returned (.bool true)∧St w0 K wb sb gb yb C sdv (N+1) w':=by
 obtain ⟨ρ,now,time,l,rs,P,wv,fv,last,sv,iv,hv,m1,m2,m3,Ls,Li,Lh,hL,hS,hf,hB0,hBb,hBs,hn1,hn2,hn3,hn4,hn5,hn6,hn7⟩:=h
 obtain ⟨gv,m,g,cap,Q,he,hGS,hw,hlen,hW,hmQ,hO⟩:=hn6.gs hS.grp hf hS.inv
 have hI:=hS.inv
 have hnl:=hn6.nl
 have hrl:l.length=rs.length:=by rw [←hS.same,absR_len]
 have hml:m.length=l.length:=by rw [←he];simp
 have h16:=hI.len
 have hup:=up_same hmQ
 have hpos:=hI.pos
 have herr:∀(c:Int),(c != 0)=true→(∀W,Below w.heap.size w W→Calls Tryz.prog 22 #[.pointer (some ⟨gb,0,none⟩),.int .i64 o.a,.int .i64 o.b,.bool o.lost] W fun e w'=>e=.returned (.int .i64 c)∧GrpPost W ρ gb C now l w')→(∀W ρ2,(∃sv lv,RefAt W ρ2 yb C time rs P wv fv sv lv)→Calls Tryz.prog 42 #[.pointer (some ⟨yb,0,none⟩),.int .i64 o.a,.int .i64 o.b] W fun e w'=>e=.returned (.tuple #[.int .i64 (-1),.int .i64 c])∧W=w') →
  Calls Tryz.prog 10 #[.pointer (some ⟨wb,0,none⟩),.pointer (some ⟨sb,0,none⟩),.agg o.arr] w fun e w'=>e=.returned (.bool true)∧St w0 K wb sb gb yb C sdv (N+1) w':=by
  intro c hc hP hR
  refine step_commit hL hS hf hB0 hBb hBs hn1 hn2 hn3 hn4 hn5 (hpin:=hS.pin) (hn7:=hn7) (l':=l) (now':=now) hI o ho c hP (fun W ρ2 hex hf2=>?_)
  obtain ⟨sv2,lv2,R2⟩:=hex
  exact (refCommit_err yb o.a o.b c o.lost hc (hR W ρ2 ⟨sv2,lv2,R2⟩)).mono fun e w' q=>⟨q.1,rs,wv,fv,by rw [←q.2];exact RefPost.below R2 hf2 (Below.refl _ _),hS.same,rfl,hn6.mono (by omega)⟩
 have hgp:∀W w',Below w.heap.size w W→Below W.heap.size W w'→GrpPost W ρ gb C now l w':=fun W w' hb hb'=>by
  have hz:=hb.size
  have hk:Keeps (fun k=>w.heap.size≤k) w w':=⟨hb'.os.trans hb.os,hb'.tape.trans hb.tape,hb'.output.trans hb.output,Nat.le_trans hb.size hb'.size,fun k hk _=>(hb'.block k (by omega)).trans (hb.block k hk)⟩
  obtain ⟨gv2,m2',e2,G2⟩:=(hS.keeps hk (fun k hk=>Or.inr (Or.inr hk)) (fun _ _=>rfl)).grp
  exact ⟨ρ,gv2,m2',e2,G2,(Keeps.of_below hb').mono (fun k hk hs=>by omega),Ext.refl (hf.below hb.size),hf.below (Nat.le_trans hb.size hb'.size)⟩
 by_cases hi:0≤o.a∧o.a<now.n
 ·obtain ⟨i,hia⟩:∃i:Nat,o.a=(i:Int):=⟨o.a.toNat,by omega⟩
  have hin:i<now.n:=by omega
  have hy:wv.l[i]?=some (wv.l[i]'(by omega)):=List.getElem?_eq_getElem _
  generalize wv.l[i]'(by omega)=y at hy
  have hWi:=hW i y hy
  have hyl:y.hs.length≤1000:=by have:=hWi.hs.le;omega
  by_cases hkk:0≤o.b∧o.b<l.length
  ·obtain ⟨k,hkb⟩:∃k:Nat,o.b=(k:Int):=⟨o.b.toNat,by omega⟩
   have hkr:k<rs.length:=by omega
   obtain ⟨p,hp,_⟩:=hWi.rel k (by omega)
   cases hh:p.held
   ·refine herr 13 rfl (fun W hb=>?_) (fun W ρ2 hex=>?_)
    ·rw [hia,hkb]
     refine (gCommit_no (hGS.below hb).1 i hin k (by omega) p hp hh o.lost).mono ?_
     rintro e w' ⟨h1,h2⟩
     have:=h2.grpPost he (hf.below hb.size)
     rw [hup] at this
     exact ⟨h1,this⟩
    ·obtain ⟨sv2,lv2,R2⟩:=hex
     have:=refHeld_any R2 i y hy hyl k hkr
     unfold heldV at this
     rw [(hn6.hold hS.same hI hW hO hy hkr hp).1 hh,if_pos (by omega)] at this
     rw [hia,hkb]
     exact this
   ·obtain ⟨j,hj,hix,hsh,a0,a1,b0,b1,ab,c32⟩:=(hn6.hold hS.same hI hW hO hy hkr hp).2 hh
    have hcf:=hn6.conf
    obtain ⟨r,hr⟩:∃r,rs[k]?=some r:=⟨rs[k],List.getElem?_eq_getElem hkr⟩
    obtain ⟨d1,d2,d3,d4⟩:=hn6.marks hI
    obtain ⟨hdk,hek⟩:=d4 k r hr
    by_cases hbf:p.h.bf=0
    ·refine step_commit hL hS hf hB0 hBb hBs hn1 hn2 hn3 hn4 hn5 (hpin:=hS.pin) (hn7:=hn7) (l':=l) (now':=now) hI o ho 14 (fun W hb=>?_) (fun W ρ2 ⟨sv2,lv2,R2⟩ hf2=>?_)
     ·rw [hia,hkb]
      refine (gCommit_empty (hGS.below hb).1 i hin k (by omega) p hp hh hbf o.lost).mono ?_
      rintro e w' ⟨h1,h2⟩
      have:=h2.grpPost he (hf.below hb.size)
      rw [hup] at this
      exact ⟨h1,this⟩
     ·rw [hia,hkb]
      exact (refCommit_empty R2 hf2 i y hy hyl k r hr j p.h hj hix hbf o.lost).mono fun e w' q=>⟨q.1,rs,wv,fv,q.2,hS.same,rfl,hn6.mono (by omega)⟩
    ·cases hfo:folds now.dn k p.h.ep p.h.at_
     ·have hfe:p.h.ep<r.ep∨p.h.at_≠r.done:=by
       unfold folds at hfo
       rw [decide_eq_false_iff_not,hek,d2 k,←hdk] at hfo
       omega
      have enow:now.fold k p.h.ep p.h.at_ p.h.bf=now:=by unfold Rest.fold;rw [hfo];rfl
      refine step_commit hL hS hf hB0 hBb hBs hn1 hn2 hn3 hn4 hn5 (hpin:=hS.pin) (hn7:=hn7) (l':=l) (now':=now.up now.ls (if o.lost=true then Q else Q.set (i*16+k) (dropped p))) hI o ho 15 (fun W hb=>?_) (fun W ρ2 ⟨sv2,lv2,R2⟩ hf2=>?_)
      ·rw [hia,hkb]
       have hc:=gCommit_any (hGS.below hb).1 i hin k (by omega) p hp hh hsh hbf o.lost
       rw [hfo,enow] at hc
       refine hc.mono ?_
       rintro e w' ⟨h1,h2⟩
       exact ⟨h1,h2.grpPost he (hf.below hb.size)⟩
      ·rw [hia,hkb]
       refine (refCommit_fenced R2 hf2 i y hy hyl k r hr j p.h hj hix hbf hfe o.lost).mono ?_
       rintro e w' ⟨h1,hv',h2⟩
       refine ⟨h1,rs,_,fv,h2,hS.same,rfl,?_⟩
       cases o.lost
       ·exact hn6.fenced hS.same hI hw hlen hW hO hy hkr hp hv'
       ·show Rel C (now.up now.ls Q) time l P rs wv _
        rw [hup]
        exact hn6.mono (by omega)
     ·have hfe:p.h.at_=r.done∧¬p.h.ep<r.ep:=by
       unfold folds at hfo
       rw [decide_eq_true_eq,hek,d2 k,←hdk] at hfo
       exact ⟨hfo.2,by omega⟩
      obtain ⟨n,hn⟩:∃n:Nat,p.h.bf=(n:Int):=⟨p.h.bf.toNat,by omega⟩
      have R:=hn6.folded hS.same hI hw hlen hW hO hy hr hp hh hj hix hsh hbf n hn hfo o.lost
      obtain ⟨E,F,_,_,f3,f4,_⟩:=hn6.folds hS.same hI
      have hfl:wv.fo.length≤1000000:=by rw [←f3,List.length_map];omega
      refine step_commit hL hS hf hB0 hBb hBs hn1 hn2 hn3 hn4 hn5 (hpin:=hS.pin) (hn7:=hn7) (l':=l) (now':=(now.fold k p.h.ep p.h.at_ p.h.bf).up now.ls (if o.lost=true then Q else heardP true i k p Q)) hI o ho 0 (fun W hb=>?_) (fun W ρ2 ⟨sv2,lv2,R2⟩ hf2=>?_)
      ·rw [hia,hkb]
       have hc:=gCommit_any (hGS.below hb).1 i hin k (by omega) p hp hh hsh hbf o.lost
       rw [hfo] at hc
       refine hc.mono ?_
       rintro e w' ⟨h1,h2⟩
       exact ⟨h1,h2.grpPost he (hf.below hb.size)⟩
      ·rw [hia,hkb]
       refine (refCommit_yes R2 hf2 i y hy hyl k r hr j p.h hj hix n hn (by omega) (by omega) hfl hfe.2 hfe.1 o.lost).mono ?_
       rintro e w' ⟨h1,fv',h2⟩
       refine ⟨h1,_,_,fv',h2,?_,by simp,R⟩
       rw [←hS.same]
       exact absR_marks hr _ _
  ·refine herr 5 rfl (fun W hb=>?_) (fun W ρ2 hex=>?_)
   ·rw [hia]
    exact (gCommit_err gb i o.b 5 o.lost rfl (findHold_noS (hGS.below hb).1 (by omega) i hin o.b (by rw [hml];exact hkk))).mono fun e w' q=>⟨q.1,hgp W w' hb q.2⟩
   ·obtain ⟨sv2,lv2,R2⟩:=hex
    obtain ⟨vb,vc,hv,_⟩:=R2.wk.shape hy
    have c8:W.cell? ⟨yb,8,none⟩=some wv.v:=cell_of R2.blk 8
    rw [hv] at c8
    obtain ⟨sb2,cap2,rfl,_⟩:=R2.shards (by omega)
    rw [hia]
    exact refHeld_noS yb wv.l.length vc rs.length cap2 _ _ i o.b c8 (cell_of R2.blk 7) (by omega) (by rw [←hrl];exact hkk)
 ·refine herr 9 rfl (fun W hb=>?_) (fun W ρ2 hex=>?_)
  ·exact (gCommit_err gb o.a o.b 9 o.lost rfl (findHold_noW (hGS.below hb).1 o.a o.b hi)).mono fun e w' q=>⟨q.1,hgp W w' hb q.2⟩
  ·obtain ⟨sv2,lv2,R2⟩:=hex
   have hn1':=hn6.n1
   have hy:wv.l[0]?=some (wv.l[0]'(by omega)):=List.getElem?_eq_getElem _
   obtain ⟨vb,vc,hv,_⟩:=R2.wk.shape hy
   have c8:W.cell? ⟨yb,8,none⟩=some wv.v:=cell_of R2.blk 8
   rw [hv] at c8
   exact refHeld_noW yb wv.l.length vc _ o.a o.b c8 (by rw [←hnl];exact hi)
end Go.Proofs.YtpnkmnmchdabkaaGreat
namespace Go.Proofs.YtpnkmnmchdabkaaGreat
open Go.RowKit
attribute [local go_sem ↓] Go.wp_at_zero Go.wp_at_succ
theorem mark_ask {w0 w:World} {K:Nat→Prop} {wb sb gb yb:Nat} {C:Cfg} {sdv:Value} {N:Nat} (h:St w0 K wb sb gb yb C sdv N w) (hN:N≤600000) (o:Opn) (ho:o.k=14) :
 Calls Tryz.prog 10 #[.pointer (some ⟨wb,0,none⟩),.pointer (some ⟨sb,0,none⟩),.agg o.arr] w fun e w'=>e=.returned (.bool true)∧Below w.heap.size w w':=by
 obtain ⟨now,time,l,rs,P,wv,fv,hX⟩:=h.x
 obtain ⟨s0,s1,hsl,_⟩:=hX.cells
 obtain ⟨ρ,last,sv,iv,hv,m1,m2,m3,Ls,Li,Lh,hL,hS,hf,hB0,hBb,hBs,hn1,hn2,hn3,hn4,hn5,hn6,hn7⟩:=hX
 obtain ⟨gv,m,g,cap,Q,he,hGS,hw,hlen,hW,hmQ,hO⟩:=hn6.gs hS.grp hf hS.inv
 have hI:=hS.inv
 have hml:m.length=l.length:=by rw [←he];simp
 have hrl:rs.length=l.length:=by rw [←hS.same,absR_len]
 have h0:0<m.length:=by have:=hI.pos;omega
 have hr16:=hI.len
 obtain ⟨d1,d2,d3,d4⟩:=hn6.marks hI
 have href:∀W,Below w.heap.size w W→∃sv lv,RefAt W ρ yb C time rs P wv fv sv lv:=fun W hb=>(hS.keeps (Keeps.of_below hb) (fun k hk=>Or.inr (Or.inr hk)) (fun _ _=>rfl)).ref
 by_cases hk:0≤o.a∧o.a<m.length
 ·obtain ⟨k,hka⟩:∃k:Nat,o.a=(k:Int):=⟨o.a.toNat,by omega⟩
  have hkm:k<m.length:=by omega
  have hx:rs[k]?=some (rs[k]'(by omega)):=List.getElem?_eq_getElem _
  generalize rs[k]'(by omega)=x at hx
  obtain ⟨s,hs⟩:∃s,l[k]?=some s:=⟨l[k]'(by omega),List.getElem?_eq_getElem _⟩
  refine step_mark o ho (dR rs k) x.ep (ahd l (dR rs) k (dR rs k)) 0 s0 s1 hsl (fun W hb=>?_) (fun W hb=>?_)
  ·rw [hka]
   have hc:=gMark_any (hGS.below hb).1 (by rw [he];exact hI) (dR rs) d1 (fun k _=>d2 k) (fun k s hs=>d3 k s.s (by rw [←he,List.getElem?_map,hs];rfl)) k hkm
   rw [he,hml,(d4 k x hx).2,wmUp_at hs (by omega) (by omega)] at hc
   rw [ahd_is (dR rs) (dR rs k) hs]
   exact hc
  ·obtain ⟨sv2,lv2,R⟩:=href W hb
   rw [hka]
   have hc:=refMark_any R (by rw [hS.same];exact hI) (by omega) (fun k r hr=>(d4 k r hr).1) d1 k x hx
   rw [hS.same] at hc
   exact hc
 ·refine step_mark o ho 0 0 0 5 s0 s1 hsl (fun W hb=>?_) (fun W hb=>?_)
  ·exact gMark_no (hGS.below hb).1 h0 o.a hk
  ·obtain ⟨sv2,lv2,R⟩:=href W hb
   exact refMark_no R (by omega) o.a (by rw [hrl,←hml];exact hk)
theorem read_ask {w0 w:World} {K:Nat→Prop} {wb sb gb yb:Nat} {C:Cfg} {sdv:Value} {N:Nat} (h:St w0 K wb sb gb yb C sdv N w) (hN:N≤600000) (o:Opn) (ho:o.k=15) (hs:o.s.size≤maxLen) :
 Calls Tryz.prog 10 #[.pointer (some ⟨wb,0,none⟩),.pointer (some ⟨sb,0,none⟩),.agg o.arr] w fun e w'=>e=.returned (.bool true)∧Below w.heap.size w w':=by
 obtain ⟨now,time,l,rs,P,wv,fv,hX⟩:=h.x
 obtain ⟨s0,s1,hsl,_⟩:=hX.cells
 obtain ⟨ρ,last,sv,iv,hv,m1,m2,m3,Ls,Li,Lh,hL,hS,hf,hB0,hBb,hBs,hn1,hn2,hn3,hn4,hn5,hn6,hn7⟩:=hX
 obtain ⟨gv,m,g,cap,Q,he,hGS,hw,hlen,hW,hmQ,hO⟩:=hn6.gs hS.grp hf hS.inv
 have hI:=hS.inv
 have hml:m.length=l.length:=by rw [←he];simp
 have hcf:=hn6.conf
 obtain ⟨d1,d2,d3,d4⟩:=hn6.marks hI
 obtain ⟨E,F,f1,f2,f3,f4,f5⟩:=hn6.folds hS.same hI
 have href:∀W,Below w.heap.size w W→∃sv lv,RefAt W ρ yb C time rs P wv fv sv lv:=fun W hb=>(hS.keeps (Keeps.of_below hb) (fun k hk=>Or.inr (Or.inr hk)) (fun _ _=>rfl)).ref
 cases hk:keyB o.s
 ·refine step_read o ho 0 0 0 0 0 0 0 2 false s0 s1 hsl (fun W hb=>?_) (fun W hb=>?_)
  ·exact gRead_no gb o.s o.a hs hk
  ·exact refRead_no yb o.s o.a hs hk
 by_cases hb9:0≤o.a∧o.a % C.s=0
 ·have hbw:beginsW C.s o.a=true:=by unfold beginsW;simpa using hb9
  have hfk:=fdKey_is hI f1 (dR rs) (key:=o.s) hk
  have hfo:rQ C o.a l (dR rs) F o.s F.length=rdOf C o.a ((fol E (dR rs) o.s).map (enFd l (dR rs))):=by
   unfold rQ
   rw [List.take_length,f2.key hI f1 o.s]
  refine step_read o ho (rQ C o.a l (dR rs) F o.s F.length).c (rQ C o.a l (dR rs) F o.s F.length).s (rQ C o.a l (dR rs) F o.s F.length).mn (rQ C o.a l (dR rs) F o.s F.length).mx (rQ C o.a l (dR rs) F o.s F.length).f (rQ C o.a l (dR rs) F o.s F.length).l (rQ C o.a l (dR rs) F o.s F.length).lt 0 (rQ C o.a l (dR rs) F o.s F.length).o s0 s1 hsl (fun W hb=>?_) (fun W hb=>?_)
  ·have hc:=gRead_any (hGS.below hb).1 (by rw [he];exact hI) (dR rs) d1 (fun k _=>d2 k) (fun k s hs=>d3 k s.s (by rw [←he,List.getElem?_map,hs];rfl)) o.s o.a hs hk (by omega) hcf.2.2.2.2.2.1 hbw _ rfl (fun y hy=>by
    rw [he,hml,hfk] at hy
    obtain ⟨e,he',rfl⟩:=List.mem_map.1 hy
    have:=(f1.key e ((List.mem_filter.1 he').1)).2.2.2
    exact this)
   rw [he,hml,hfk,←hfo] at hc
   exact hc
  ·obtain ⟨sv2,lv2,R⟩:=href W hb
   exact refRead_any R (by omega) hS.same hI (fun k r hr=>(d4 k r hr).1) d1 F f3 (by omega) f5 o.s hs hk o.a hb9 (by omega)
 ·have hbw:beginsW C.s o.a=false:=by unfold beginsW;simpa using hb9
  refine step_read o ho 0 0 0 0 0 0 0 16 false s0 s1 hsl (fun W hb=>?_) (fun W hb=>?_)
  ·exact gRead_win (hGS.below hb).1 o.s o.a hs hk (by omega) hbw
  ·obtain ⟨sv2,lv2,R⟩:=href W hb
   exact refRead_win R o.s o.a hs hk (by omega) hb9
def WinOut (W:World) (xs:List Int) (er:Int) (e:Ending) (w':World):Prop :=
 ∃v,e=.returned (.tuple #[v,.int .i64 er])∧w'.ownsRow W.heap.size 3 1 v xs.length (xs.map (Value.int .i64))∧Below W.heap.size W w'
def AskPostI (w:World) (ρ:Nat→Nat) (wb:Nat) (sdv:Value) (last:Int) (sv hv m2 m3:Value) (Ls Li Lh:List Ke) (e:Ending) (w':World):Prop :=
 e=.returned (.bool true)∧∃ρ' iv' m1' Li',LawAt w' ρ' wb sdv (last - 1) sv iv' hv m1' m2 m3 Ls Li' Lh∧Fits w' ρ'∧Li'.length=Li.length+4∧(∀k,k<w.heap.size→ρ' k=ρ k)∧Keeps (fun q=>laws ρ q∨w.heap.size≤q) w w'
theorem AskPostI.of {w w4 w':World} {ρ:Nat→Nat} {wb:Nat} {sdv:Value} {last:Int} {sv hv m2 m3:Value} {Ls Li Lh:List Ke} {v:Value} {n:Nat} {xs:List Value} (hb:Below w.heap.size w w4) (hl:w4.ownsRow w.heap.size 3 1 v n xs) {e:Ending}
 (hp:KeepPost w4 ρ wb sdv (last - 1) sv hv m2 m3 Ls Li Lh v e w'):AskPostI w ρ wb sdv last sv hv m2 m3 Ls Li Lh (.returned (.bool true)) w':=by
 obtain ⟨_,ρ',hv',m3',Ln,hL,h4,t1,t2,hf,hk,_⟩:=hp
 have hz:=hb.size
 refine ⟨rfl,ρ',hv',m3',Li ++ Ln,hL,hf,by rw [List.length_append,h4],fun q hq=>t1 q (by omega) (fun e=>by have:=(hl.lt q e).1;omega),⟨hk.os.trans hb.os,hk.tape.trans hb.tape,hk.output.trans hb.output,Nat.le_trans hz hk.size,fun q hq hs=>?_⟩⟩
 rw [hk.block q (by omega) (fun h=>hs (h.elim Or.inl (fun h=>Or.inr (hl.lt q h).1)))]
 exact hb.block q hq
set_option maxRecDepth 100000 in
set_option maxHeartbeats 8000000 in
theorem windowsAre_any {w:World} {ρ:Nat→Nat} {wb:Nat} {sdv:Value} {last:Int} {sv iv hv m1 m2 m3:Value} {Ls Li Lh:List Ke} {sb gb yb:Nat} (hL:LawAt w ρ wb sdv last sv iv hv m1 m2 m3 Ls Li Lh) (hf:Fits w ρ)
 (hblk:w.heap[sb]?=some (.cells #[.pointer (some ⟨gb,0,none⟩),.pointer (some ⟨yb,0,none⟩)] 46 (0,0)))
 (h1:-7000000000000000000≤last) (h2:last≤0) (hlenI:Li.length≤40000000) (key:ByteArray) (xs:List Int) (er:Int) (hxl:xs.length≤2000000)
 (HX:∀W,Below w.heap.size w W→Calls Tryz.prog 57 #[.pointer (some ⟨gb,0,none⟩),.string key] W (WinOut W xs er))
 (HY:∀W,Below w.heap.size w W→Calls Tryz.prog 36 #[.pointer (some ⟨yb,0,none⟩),.string key] W (WinOut W xs er)) :
 Calls Tryz.prog 29 #[.pointer (some ⟨wb,0,none⟩),.pointer (some ⟨sb,0,none⟩),.string key] w (AskPostI w ρ wb sdv last sv hv m2 m3 Ls Li Lh):=by
 have hsbl:=lt_of_heap hblk
 have s0:w.cell? ⟨sb,0,none⟩=some (.pointer (some ⟨gb,0,none⟩)):=cell_of hblk 0
 have s1:w.cell? ⟨sb,1,none⟩=some (.pointer (some ⟨yb,0,none⟩)):=cell_of hblk 1
 have HL:=hide hL
 have HF:=hide hf
 have HX:=hide HX
 have HY:=hide HY
 clear hL hf hblk
 go_enter Tryz.func29,Tryz.ntmps29
 go_wp2_with fail
 refine (uh HX _ (Below.refl _ _)).mono ?_
 rintro e w1 ⟨v,rfl,hown,hb1⟩
 have s2:=(hb1.cell (p:=⟨sb,1,none⟩) hsbl).trans s1
 have HO1:=hide hown
 have HB1:=hide hb1
 obtain ⟨va,vc,rfl⟩:=ownsRow_len hown
 clear hown hb1
 go_wp2_with fail
 refine (uh HY _ (uh HB1)).mono ?_
 rintro e w2 ⟨yv,rfl,hown2,hb2⟩
 obtain ⟨ya,yc,rfl⟩:=ownsRow_len hown2
 have hw1:=(uh HB1).size
 have hw2:=hb2.size
 have HB12:Hid (Below w.heap.size w w2):=(uh HB1).trans (hb2.mono hw1)
 have HO1':Hid (w2.ownsRow w.heap.size 3 1 (.slice va xs.length vc) xs.length (xs.map (Value.int .i64))):=ownsRow_of_block (uh HO1) fun q hq=>hb2.block q ((uh HO1).lt q hq).2
 have HSm:=hide (sameInts_any w2 _ _ xs xs (ownsRow_base (uh HO1') (Nat.zero_le _)) (ownsRow_base hown2 (Nat.zero_le _)) hxl)
 rw [decide_eq_true rfl] at HSm
 clear hown2 hb2 s0 s1 s2 HO1
 go_wp2_with fail
 refine (uh HSm).mono ?_
 rintro e wr ⟨rfl,hbr⟩
 have HB3:Hid (Below w.heap.size w wr):=(uh HB12).trans (hbr.mono (by omega))
 have HO3:Hid (wr.ownsRow w.heap.size 3 1 (.slice va xs.length vc) xs.length (xs.map (Value.int .i64))):=ownsRow_of_block (uh HO1') fun q hq=>hbr.block q ((uh HO1').lt q hq).2
 have HK:=hide (((uh HL).below (uh HB3)).kept)
 have HKS:Hid (∀W,Below wr.heap.size wr W→Calls Tryz.prog 58 #[.pointer (some ⟨wb,0,none⟩),.slice va xs.length vc] W (KeepPost W ρ wb sdv (last - 1) sv hv m2 m3 Ls Li Lh (.slice va xs.length vc))):=fun W hW=>by
  have hBW:Below w.heap.size w W:=(uh HB3).trans (hW.mono (by have:=(uh HB3).size;omega))
  exact keepInts_any ((uh HL).below hBW) ((uh HF).below hBW.size) (by omega) h2 _ xs.length _ (ownsRow_base (ownsRow_of_block (uh HO3) fun q hq=>hW.block q ((uh HO3).lt q hq).2) (Nat.zero_le _)) hxl hlenI (fun q hq=>uh HF q ((uh HO3).lt q hq).1)
 clear hbr HSm HO1' HB12
 go_wp2_with (go_at_call 11;refine (uh HK).mono ?_;rintro e w6 ⟨rfl,hb6⟩;have HB6:=hide hb6;clear hb6)
 refine (uh HKS _ (uh HB6)).mono ?_
 rintro e w7 hp
 have HPP:=hide (AskPostI.of ((uh HB3).trans ((uh HB6).mono (uh HB3).size)) (ownsRow_of_block (uh HO3) fun q hq=>(uh HB6).block q ((uh HO3).lt q hq).2) hp)
 obtain ⟨rfl,-⟩:=hp
 go_wp2
 go_ret
 exact uh HPP
theorem win_both {C:Cfg} {now:Rest} {time:Int} {l:List Sh} {rs:List Rf} {P:List Pt} {wv:Wks} {B:Int} (hn6:Rel C now time l P rs wv B) (hsame:absR rs P=l) (hI:Inv l) (hP:P.length≤1000000) (key:ByteArray) (hs:key.size≤maxLen) :
 ∃xs er,xs.length≤2000000∧(∀(W:World) (ρ:Nat→Nat) (yb:Nat) (fv sv lv:Value),RefAt W ρ yb C time rs P wv fv sv lv→Calls Tryz.prog 36 #[.pointer (some ⟨yb,0,none⟩),.string key] W (WinOut W xs er)) ∧
  ∀(W:World) (ρ:Nat→Nat) (gb:Nat) (gv:Value) (m:List Cs) (g cap:Nat) (Q:List Pl),m.map (·.s)=l→GS W ρ gb C now gv m g cap now.ls Q→Calls Tryz.prog 57 #[.pointer (some ⟨gb,0,none⟩),.string key] W (WinOut W xs er):=by
 have hcf:=hn6.conf
 obtain ⟨d1,d2,d3,d4⟩:=hn6.marks hI
 obtain ⟨E,F,f1,f2,f3,f4,f5⟩:=hn6.folds hsame hI
 cases hk:keyB key
 ·refine ⟨[],2,by simp,fun W ρ yb fv sv lv _=>?_,fun W ρ gb gv m g cap Q _ _=>?_⟩
  ·exact (refWindows_no yb key hs hk).mono fun e w' q=>⟨.slice none 0 0,q.1,World.ownsRow_nil _ _ _ _,by rw [←q.2];exact Below.refl _ _⟩
  ·exact (gWindows_no gb key hs hk).mono fun e w' q=>⟨.slice none 0 0,q.1,World.ownsRow_nil _ _ _ _,q.2⟩
 ·have hst:Sts (wS C F key F.length):=wS_sts (fun e he=>(f5 e he).2.1) F.length (Nat.le_refl _)
  have hfk:=fdKey_is hI f1 (dR rs) (key:=key) hk
  have hfo:wS C F key F.length=stsOf C.n C.s (((fol E (dR rs) key).map (enFd l (dR rs))).map (·.1.t)):=by
   unfold wS
   rw [List.take_length,f2.key hI f1 key,List.map_map]
   rfl
  refine ⟨wS C F key F.length,0,by have:=hst.len;omega,fun W ρ yb fv sv lv R=>?_,fun W ρ gb gv m g cap Q he hGS=>?_⟩
  ·exact refWindows_any R hP F f3 (by omega) (fun e he=>⟨(f5 e he).1,(f5 e he).2.1⟩) key hs hk (by omega)
  ·have hml:m.length=l.length:=by rw [←he];simp
   have hc:=gWindows_any hGS (by rw [he];exact hI) (dR rs) d1 (fun k _=>d2 k) (fun k s hs=>d3 k s.s (by rw [←he,List.getElem?_map,hs];rfl)) key hs hk (by omega) _ rfl (fun y hy=>by
    rw [he,hml,hfk] at hy
    obtain ⟨e,he',rfl⟩:=List.mem_map.1 hy
    have:=(f1.key e ((List.mem_filter.1 he').1)).2.2.2
    exact this)
   rw [he,hml,hfk,←hfo] at hc
   exact hc
theorem St.windows {w0 w:World} {K:Nat→Prop} {wb sb gb yb:Nat} {C:Cfg} {sdv:Value} {N:Nat} (h:St w0 K wb sb gb yb C sdv N w) (hN:N≤600000) (key:ByteArray) (hs:key.size≤maxLen) :
 Calls Tryz.prog 29 #[.pointer (some ⟨wb,0,none⟩),.pointer (some ⟨sb,0,none⟩),.string key] w fun e w'=>e=.returned (.bool true)∧St w0 K wb sb gb yb C sdv (N+1) w':=by
 obtain ⟨ρ,now,time,l,rs,P,wv,fv,last,sv,iv,hv,m1,m2,m3,Ls,Li,Lh,hL,hS,hf,hB0,hBb,hBs,hn1,hn2,hn3,hn4,hn5,hn6,hn7⟩:=h
 obtain ⟨gv,m,g,cap,Q,he,hGS,hw,hlen,hW,hmQ,hO⟩:=hn6.gs hS.grp hf hS.inv
 have hI:=hS.inv
 have href:∀W,Below w.heap.size w W→∃sv lv,RefAt W ρ yb C time rs P wv fv sv lv:=fun W hb=>(hS.keeps (Keeps.of_below hb) (fun k hk=>Or.inr (Or.inr hk)) (fun _ _=>rfl)).ref
 have fin:∀e w',AskPostI w ρ wb sdv last sv hv m2 m3 Ls Li Lh e w'→e=.returned (.bool true)∧St w0 K wb sb gb yb C sdv (N+1) w':=by
  rintro e w' ⟨rfl,ρ',iv',m1',Li',a1,a2,a3,a4,a5⟩
  have hF:Frame w ρ w' ρ':=⟨a5.mono (fun q hq hs=>by rcases hs with hs | hs;unfold laws at hs;omega;omega),fun k hk h0=>by rw [a4 k hk];exact h0⟩
  obtain ⟨b1,b2,b3⟩:=below_frame hBb hB0 hBs hF
  exact ⟨rfl,ρ',now,time,l,rs,P,wv,fv,_,sv,iv',hv,m1',m2,m3,Ls,Li',Lh,a1,hS.keeps a5 (fun q hq=>by rcases hq with hq | hq;exact Or.inr (Or.inl hq);exact Or.inr (Or.inr hq)) a4,a2,b2,b1,b3,by omega,by omega,by omega,by omega,by omega,hn6.mono (by omega),by omega⟩
 obtain ⟨xs,er,hxl,hR,hG⟩:=win_both hn6 hS.same hI (by omega) key hs
 refine (windowsAre_any hL hf hS.blk (by omega) hn5 (by omega) key xs er hxl (fun W hb=>hG W ρ gb gv m g cap Q he (hGS.below hb).1) (fun W hb=>?_)).mono fin
 obtain ⟨sv2,lv2,R⟩:=href W hb
 exact hR W ρ yb fv sv2 lv2 R
set_option maxRecDepth 100000 in
set_option maxHeartbeats 4000000 in
theorem step_16 {w0 w:World} {K:Nat→Prop} {wb sb gb yb:Nat} {C:Cfg} {sdv:Value} {N:Nat} (h:St w0 K wb sb gb yb C sdv N w) (hN:N≤600000) (o:Opn) (ho:o.k=16) (hs:o.s.size≤maxLen) :
 Calls Tryz.prog 10 #[.pointer (some ⟨wb,0,none⟩),.pointer (some ⟨sb,0,none⟩),.agg o.arr] w fun e w'=>e=.returned (.bool true)∧St w0 K wb sb gb yb C sdv (N+1) w':=by
 have HA:Hid (∀W,Below w.heap.size w W→Calls Tryz.prog 29 #[.pointer (some ⟨wb,0,none⟩),.pointer (some ⟨sb,0,none⟩),.string o.s] W fun e w'=>e=.returned (.bool true)∧St w0 K wb sb gb yb C sdv (N+1) w'):=fun W hb=>(h.below hb).windows hN o.s hs
 clear h
 obtain ⟨kk,oa,ob,os,olost,owh⟩:=o
 simp only at ho
 subst ho
 unfold Opn.arr
 simp only at HA ⊢
 go_enter Tryz.func10,Tryz.ntmps10
 go_wp2_with (go_at_call 29;refine (uh HA _ ((Below.refl _ w).alloc (Nat.le_refl _) _)).mono ?_;rintro e w' ⟨rfl,hp⟩;have HP:=hide hp;clear hp)
 go_ret
 exact ⟨rfl,uh HP⟩
end Go.Proofs.YtpnkmnmchdabkaaGreat
