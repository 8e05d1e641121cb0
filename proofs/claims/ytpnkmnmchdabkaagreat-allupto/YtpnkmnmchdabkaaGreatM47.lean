import Derived.Test.YtpnkmnmchdabkaaGreatM37
import Derived.Test.YtpnkmnmchdabkaaGreatM16
import Derived.Test.YtpnkmnmchdabkaaGreatM25
import Derived.Test.YtpnkmnmchdabkaaGreatM31
import Derived.Test.YtpnkmnmchdabkaaGreatLawFa
import Derived.Test.YtpnkmnmchdabkaaGreatLawFb
import Derived.Test.YtpnkmnmchdabkaaGreatM36
import Derived.Test.YtpnkmnmchdabkaaGreatM45
import Derived.Test.YtpnkmnmchdabkaaGreatRefComY
import Derived.Test.YtpnkmnmchdabkaaGreatM12
import Derived.Test.YtpnkmnmchdabkaaGreatM20
import Derived.Test.YtpnkmnmchdabkaaGreatLawO
namespace Go.Proofs.YtpnkmnmchdabkaaGreat
open Go.RowKit
attribute [local go_sem ↓] Go.wp_at_zero Go.wp_at_succ
theorem refMark_no {w:World} {ρ:Nat→Nat} {yb:Nat} {C:Cfg} {time:Int} {rs:List Rf} {P:List Pt} {wv:Wks} {fv sv lv:Value} (h:RefAt w ρ yb C time rs P wv fv sv lv) (hpos:0<rs.length) (n:Int) (hn:¬(0≤n∧n<rs.length)) :
 Calls Tryz.prog 25 #[.pointer (some ⟨yb,0,none⟩),.int .i64 n] w fun e w'=>e=.returned (.tuple #[.agg #[.int .i64 0,.int .i64 0,.int .i64 0],.int .i64 5])∧Below w.heap.size w w':=by
 obtain ⟨sb,cap,rfl,hsb,_,_,hcell⟩:=h.shards hpos
 have c7:w.cell? ⟨yb,7,none⟩=some (.slice (some ⟨sb,0,none⟩) rs.length cap):=cell_of h.blk 7
 have hyb:=lt_of_heap h.blk
 have HT:Hid (∀W,W.cell? ⟨yb,7,none⟩=some (.slice (some ⟨sb,0,none⟩) rs.length cap)→Calls Tryz.prog 49 #[.pointer (some ⟨yb,0,none⟩),.int .i64 n] W fun e w'=>e=.returned (.bool (decide (0≤n∧n<(rs.length:Int))))∧W=w'):=fun W hc=>refThere_any yb rs.length cap (some ⟨sb,0,none⟩) n W hc
 have hd:decide (0≤n∧n<(rs.length:Int))=false:=by simpa using hn
 rw [hd] at HT
 clear h hcell hd hn
 go_enter Tryz.func25,Tryz.ntmps25
 go_wp2_with (go_at_call 49;refine (uh HT _ ((World.cell?_of_block (w:=w) (Below.heap_alloc _ _ _ hyb)).trans c7)).mono ?_;rintro e w1 ⟨rfl,rfl⟩)
 refine bodyPost_ret (v:=.tuple #[.agg #[.int .i64 0,.int .i64 0,.int .i64 0],.int .i64 5]) ?_ rfl ⟨rfl,(Below.refl _ w).alloc (Nat.le_refl _) _⟩
 simp [results,Tryz.results25,go_sem]
set_option maxRecDepth 100000 in
set_option maxHeartbeats 2000000 in
theorem refMark_any {w:World} {ρ:Nat→Nat} {yb:Nat} {C:Cfg} {time:Int} {rs:List Rf} {P:List Pt} {wv:Wks} {fv sv lv:Value} {d:Nat→Nat} (h:RefAt w ρ yb C time rs P wv fv sv lv) (hI:Inv (absR rs P)) (hP:P.length≤1000000) (hd:∀(k:Nat) (r:Rf),rs[k]?=some r→r.done=(d k:Int)) (hd32:∀k,d k≤32) (k:Nat) (r:Rf) (hr:rs[k]?=some r) :
 Calls Tryz.prog 25 #[.pointer (some ⟨yb,0,none⟩),.int .i64 k] w fun e w'=>e=.returned (.tuple #[.agg #[.int .i64 (d k),.int .i64 r.ep,.int .i64 (ahd (absR rs P) d k (d k))],.int .i64 0])∧Below w.heap.size w w':=by
 have hk:=(List.getElem?_eq_some_iff.1 hr).1
 have hdk:=hd k r hr
 have HB:Hid (∀W,Below w.heap.size w W→Calls Tryz.prog 50 #[.pointer (some ⟨yb,0,none⟩),.int .i64 k,.int .i64 (d k)] W fun e w'=>e=.returned (.int .i64 (ahd (absR rs P) d k (d k)))∧Below W.heap.size W w'):=fun W hW =>
  refBefore_any hI hP hd hd32 k hk (d k) W (by have:=hd32 k;omega) (h.keeps (Keeps.of_below hW) (fun _ hk=>Or.inr hk) (ρ':=ρ) (fun _ _=>rfl))
 obtain ⟨sb,cap,rfl,hsb,_,_,hcell⟩:=h.shards (by omega)
 have c7:w.cell? ⟨yb,7,none⟩=some (.slice (some ⟨sb,0,none⟩) rs.length cap):=cell_of h.blk 7
 have hyb:=lt_of_heap h.blk
 have HT:Hid (∀W,W.cell? ⟨yb,7,none⟩=some (.slice (some ⟨sb,0,none⟩) rs.length cap)→Calls Tryz.prog 49 #[.pointer (some ⟨yb,0,none⟩),.int .i64 k] W fun e w'=>e=.returned (.bool (decide (0≤(k:Int)∧(k:Int)<(rs.length:Int))))∧W=w'):=fun W hc=>refThere_any yb rs.length cap (some ⟨sb,0,none⟩) k W hc
 have hdd:decide (0≤(k:Int)∧(k:Int)<(rs.length:Int))=true:=by simp;omega
 rw [hdd] at HT
 have e0:w.cell? ⟨sb,k*9,none⟩=some (.int .i64 r.lo):=hcell k r hr 0 (by omega)
 have e1:w.cell? ⟨sb,k*9+1,none⟩=some (.int .i64 r.hi):=hcell k r hr 1 (by omega)
 have e2:w.cell? ⟨sb,k*9+2,none⟩=some (.bool r.op):=hcell k r hr 2 (by omega)
 have e3:w.cell? ⟨sb,k*9+3,none⟩=some r.pv:=hcell k r hr 3 (by omega)
 have e4:w.cell? ⟨sb,k*9+4,none⟩=some (.int .i64 r.own):=hcell k r hr 4 (by omega)
 have e5:w.cell? ⟨sb,k*9+5,none⟩=some (.int .i64 r.ctr):=hcell k r hr 5 (by omega)
 have e6:w.cell? ⟨sb,k*9+6,none⟩=some (.int .i64 r.lep):=hcell k r hr 6 (by omega)
 have e7:w.cell? ⟨sb,k*9+7,none⟩=some (.int .i64 (d k)):=by rw [←hdk];exact hcell k r hr 7 (by omega)
 have e8:w.cell? ⟨sb,k*9+8,none⟩=some (.int .i64 r.ep):=hcell k r hr 8 (by omega)
 obtain ⟨pa,pc,hpv⟩:=ownsRow_len (h.par k r hr)
 rw [hpv] at e3
 generalize ahd (absR rs P) d k (d k)=u at *
 have hdk2:=hd32 k
 generalize d k=dk at *
 clear h hcell hdd hI hd hd32 hr hdk hpv
 go_enter Tryz.func25,Tryz.ntmps25
 go_wp2_with fail
 refine (uh HT _ ((World.cell?_of_block (w:=w) (Below.heap_alloc _ _ _ hyb)).trans c7)).mono ?_
 rintro e w1 ⟨rfl,rfl⟩
 go_wp2_with fail
 have A1:=(Below.refl w.heap.size w).alloc (Nat.le_refl _) (.cells #[.int .i64 0,.int .i64 0,.int .i64 0] 89)
 have N0:=heap_alloc_new w (.cells #[.int .i64 0,.int .i64 0,.int .i64 0] 89)
 have z0:(w.alloc (.cells #[.int .i64 0,.int .i64 0,.int .i64 0] 89)).heap.size=w.heap.size+1:=by simp
 generalize w.alloc (.cells #[.int .i64 0,.int .i64 0,.int .i64 0] 89)=W at *
 have A2:=A1.alloc (by omega) (.cells #[.int .i64 r.lo,.int .i64 r.hi,.bool r.op,.slice pa r.par.length pc,.int .i64 r.own,.int .i64 r.ctr,.int .i64 r.lep,.int .i64 dk,.int .i64 r.ep] 73)
 have N1:=heap_alloc_new W (.cells #[.int .i64 r.lo,.int .i64 r.hi,.bool r.op,.slice pa r.par.length pc,.int .i64 r.own,.int .i64 r.ctr,.int .i64 r.lep,.int .i64 dk,.int .i64 r.ep] 73)
 have N2:=(Below.heap_alloc W (.cells #[.int .i64 r.lo,.int .i64 r.hi,.bool r.op,.slice pa r.par.length pc,.int .i64 r.own,.int .i64 r.ctr,.int .i64 r.lep,.int .i64 dk,.int .i64 r.ep] 73) w.heap.size (by omega)).trans N0
 generalize W.alloc (.cells #[.int .i64 r.lo,.int .i64 r.hi,.bool r.op,.slice pa r.par.length pc,.int .i64 r.own,.int .i64 r.ctr,.int .i64 r.lep,.int .i64 dk,.int .i64 r.ep] 73)=U at *
 refine (uh HB U A2).mono ?_
 rintro e w2 ⟨rfl,hb2⟩
 have M0:=(hb2.block _ (lt_of_heap N2)).trans N2
 have M1:=(hb2.block _ (lt_of_heap N1)).trans N1
 rw [z0] at M1
 have q7:w2.cell? ⟨w.heap.size+1,7,none⟩=some (.int .i64 dk):=cell_of M1 7
 have q8:w2.cell? ⟨w.heap.size+1,8,none⟩=some (.int .i64 r.ep):=cell_of M1 8
 have k0:w2.cell? ⟨w.heap.size,0,none⟩=some (.int .i64 0):=cell_of M0 0
 have k1:w2.cell? ⟨w.heap.size,1,none⟩=some (.int .i64 0):=cell_of M0 1
 have k2:w2.cell? ⟨w.heap.size,2,none⟩=some (.int .i64 0):=cell_of M0 2
 have f0:=frozen_of M0 0
 have f1:=frozen_of M0 1
 have f2:=frozen_of M0 2
 have B2:=A2.trans (hb2.mono A2.size)
 have L1:=heap_setCell_same (i:=0) M0 (.int .i64 dk)
 have L2:=heap_setCell_same (i:=1) L1 (.int .i64 r.ep)
 have L3:=heap_setCell_same (i:=2) L2 (.int .i64 u)
 have B3:Hid (Below w.heap.size w (((w2.setCell ⟨w.heap.size,0,none⟩ (.int .i64 dk)).setCell ⟨w.heap.size,1,none⟩ (.int .i64 r.ep)).setCell ⟨w.heap.size,2,none⟩ (.int .i64 u))):=((B2.setCell (p:=⟨w.heap.size,0,none⟩) (Nat.le_refl _) _).setCell (p:=⟨w.heap.size,1,none⟩) (Nat.le_refl _) _).setCell (p:=⟨w.heap.size,2,none⟩) (Nat.le_refl _) _
 have r0:=cell_of L3 0
 have r1:=cell_of L3 1
 have r2:=cell_of L3 2
 simp at r0 r1 r2
 clear L1 L2 L3 M0 M1 hb2 N0 N1 N2 A1 A2 B2 e0 e1 e2 e3 e4 e5 e6 e7 e8 c7 HT HB
 go_wp2
 refine bodyPost_ret (v:=.tuple #[.agg #[.int .i64 dk,.int .i64 r.ep,.int .i64 u],.int .i64 0]) ?_ rfl ⟨rfl,uh B3⟩
 simp [results,Tryz.results25,go_sem,r0,r1,r2]
set_option maxRecDepth 100000 in
set_option maxHeartbeats 2000000 in
theorem findHold_noW {w:World} {ρ:Nat→Nat} {gb:Nat} {C:Cfg} {now:Rest} {sv:Value} {m:List Cs} {g cap:Nat} {ls:List Le} {P:List Pl} (h:GS w ρ gb C now sv m g cap ls P) (i k:Int) (hi:¬(0≤i∧i<now.n)) :
 Calls Tryz.prog 39 #[.pointer (some ⟨gb,0,none⟩),.int .i64 i,.int .i64 k] w fun e w'=>e=.returned (.tuple #[.pointer none,.agg #[.int .i64 0,.int .i64 0,.int .i64 0,.int .i64 0],.int .i64 9])∧Below w.heap.size w w':=by
 have hA:=h.alloc (.cells #[.int .i64 0,.int .i64 0,.int .i64 0,.int .i64 0] 102)
 have HK:=hide (hasWorker_any hA.1 i)
 rw [decide_eq_false hi] at HK
 have HB:Hid (Below w.heap.size w (w.alloc (.cells #[.int .i64 0,.int .i64 0,.int .i64 0,.int .i64 0] 102))):=(Below.refl _ w).alloc (Nat.le_refl _) _
 have N1:=heap_alloc_new w (.cells #[.int .i64 0,.int .i64 0,.int .i64 0,.int .i64 0] 102)
 obtain ⟨r0,r1,r2,r3,f0,f1,f2,f3⟩:=four_cells N1
 clear h hA N1
 go_enter Tryz.func39,Tryz.ntmps39
 go_wp2_with ((go_at_call 76;refine (uh HK).mono ?_;rintro e w1 ⟨rfl,rfl⟩))
 refine bodyPost_ret (v:=.tuple #[.pointer none,.agg #[.int .i64 0,.int .i64 0,.int .i64 0,.int .i64 0],.int .i64 9]) ?_ rfl ⟨rfl,uh HB⟩
 simp [results,Tryz.results39,go_sem,r0,r1,r2,r3]
set_option maxRecDepth 100000 in
set_option maxHeartbeats 2000000 in
theorem findHold_noS {w:World} {ρ:Nat→Nat} {gb:Nat} {C:Cfg} {now:Rest} {sv:Value} {m:List Cs} {g cap:Nat} {ls:List Le} {P:List Pl} (h:GS w ρ gb C now sv m g cap ls P) (h0:0<m.length) (i:Nat) (hi:i<now.n) (k:Int) (hk:¬(0≤k∧k<m.length)) :
 Calls Tryz.prog 39 #[.pointer (some ⟨gb,0,none⟩),.int .i64 i,.int .i64 k] w fun e w'=>e=.returned (.tuple #[.pointer none,.agg #[.int .i64 0,.int .i64 0,.int .i64 0,.int .i64 0],.int .i64 5])∧Below w.heap.size w w':=by
 have hA:=h.alloc (.cells #[.int .i64 0,.int .i64 0,.int .i64 0,.int .i64 0] 102)
 have HK:=hide (hasWorker_any hA.1 i)
 rw [show decide (0≤(i:Int)∧(i:Int)<now.n)=true by simp;omega] at HK
 have HL:=hide (gHas_any hA.1 h0 k)
 rw [decide_eq_false hk] at HL
 have HB:Hid (Below w.heap.size w (w.alloc (.cells #[.int .i64 0,.int .i64 0,.int .i64 0,.int .i64 0] 102))):=(Below.refl _ w).alloc (Nat.le_refl _) _
 have N1:=heap_alloc_new w (.cells #[.int .i64 0,.int .i64 0,.int .i64 0,.int .i64 0] 102)
 obtain ⟨r0,r1,r2,r3,f0,f1,f2,f3⟩:=four_cells N1
 clear h hA N1
 go_enter Tryz.func39,Tryz.ntmps39
 go_wp2_with (first | (go_at_call 76;refine (uh HK).mono ?_;rintro e w1 ⟨rfl,rfl⟩) | (go_at_call 47;refine (uh HL).mono ?_;rintro e w1 ⟨rfl,rfl⟩))
 refine bodyPost_ret (v:=.tuple #[.pointer none,.agg #[.int .i64 0,.int .i64 0,.int .i64 0,.int .i64 0],.int .i64 5]) ?_ rfl ⟨rfl,uh HB⟩
 simp [results,Tryz.results39,go_sem,r0,r1,r2,r3]
set_option maxRecDepth 100000 in
theorem gFetch_err {w:World} (gb:Nat) (a b c:Int) (hc:(c != 0)=true) (H:Calls Tryz.prog 39 #[.pointer (some ⟨gb,0,none⟩),.int .i64 a,.int .i64 b] w fun e w'=>e=.returned (.tuple #[.pointer none,.agg #[.int .i64 0,.int .i64 0,.int .i64 0,.int .i64 0],.int .i64 c])∧Below w.heap.size w w') :
 Calls Tryz.prog 20 #[.pointer (some ⟨gb,0,none⟩),.int .i64 a,.int .i64 b] w fun e w'=>e=.returned (.tuple #[.int .i64 0,.int .i64 c])∧Below w.heap.size w w':=by
 have H:=hide H
 go_enter Tryz.func20,Tryz.ntmps20
 go_wp2_with fail
 refine (uh H).mono ?_
 rintro e w1 ⟨rfl,q1⟩
 have Q1:=hide (q1.alloc q1.size (.cells #[.int .i64 0,.int .i64 0,.int .i64 0,.int .i64 0] 102))
 clear q1
 go_wp2
 go_ret2
 exact ⟨rfl,uh Q1⟩
set_option maxRecDepth 100000 in
theorem gCommit_err {w:World} (gb:Nat) (a b c:Int) (l:Bool) (hc:(c != 0)=true) (H:Calls Tryz.prog 39 #[.pointer (some ⟨gb,0,none⟩),.int .i64 a,.int .i64 b] w fun e w'=>e=.returned (.tuple #[.pointer none,.agg #[.int .i64 0,.int .i64 0,.int .i64 0,.int .i64 0],.int .i64 c])∧Below w.heap.size w w') :
 Calls Tryz.prog 22 #[.pointer (some ⟨gb,0,none⟩),.int .i64 a,.int .i64 b,.bool l] w fun e w'=>e=.returned (.int .i64 c)∧Below w.heap.size w w':=by
 have H:=hide H
 go_enter Tryz.func22,Tryz.ntmps22
 go_wp2_with fail
 refine (uh H).mono ?_
 rintro e w1 ⟨rfl,q1⟩
 have Q1:=hide (q1.alloc q1.size (.cells #[.int .i64 0,.int .i64 0,.int .i64 0,.int .i64 0] 102))
 clear q1
 go_wp2
 go_ret
 exact ⟨rfl,uh Q1⟩
set_option maxRecDepth 100000 in
theorem gMark_no {w:World} {ρ:Nat→Nat} {gb:Nat} {C:Cfg} {now:Rest} {sv:Value} {m:List Cs} {g cap:Nat} {ls:List Le} {P:List Pl} (h:GS w ρ gb C now sv m g cap ls P) (h0:0<m.length) (k:Int) (hk:¬(0≤k∧k<m.length)) :
 Calls Tryz.prog 24 #[.pointer (some ⟨gb,0,none⟩),.int .i64 k] w fun e w'=>e=.returned (.tuple #[.agg #[.int .i64 0,.int .i64 0,.int .i64 0],.int .i64 5])∧Below w.heap.size w w':=by
 have hA:=h.alloc (.cells #[.int .i64 0,.int .i64 0,.int .i64 0] 89)
 have HL:=hide (gHas_any hA.1 h0 k)
 rw [decide_eq_false hk] at HL
 have HB:Hid (Below w.heap.size w (w.alloc (.cells #[.int .i64 0,.int .i64 0,.int .i64 0] 89))):=(Below.refl _ w).alloc (Nat.le_refl _) _
 have N1:=heap_alloc_new w (.cells #[.int .i64 0,.int .i64 0,.int .i64 0] 89)
 have r0:=cell_of N1 0
 have r1:=cell_of N1 1
 have r2:=cell_of N1 2
 have f0:=frozen_of N1 0
 have f1:=frozen_of N1 1
 have f2:=frozen_of N1 2
 simp only [List.getElem?_toArray,List.getElem?_cons_zero,List.getElem?_cons_succ] at r0 r1 r2
 clear h hA N1 hk
 go_enter Tryz.func24,Tryz.ntmps24
 go_wp2_with (go_at_call 47;refine (uh HL).mono ?_;rintro e w1 ⟨rfl,rfl⟩)
 refine bodyPost_ret (v:=.tuple #[.agg #[.int .i64 0,.int .i64 0,.int .i64 0],.int .i64 5]) ?_ rfl ⟨rfl,uh HB⟩
 simp [results,Tryz.results24,go_sem,r0,r1,r2]
end Go.Proofs.YtpnkmnmchdabkaaGreat
namespace Go.Proofs.YtpnkmnmchdabkaaGreat
open Go.RowKit
theorem up_same {now:Rest} {Q:List Pl} (h:now.mem=plsCells Q):now.up now.ls Q=now:=by unfold Rest.up;rw [←h]
theorem cnt_is {rs:List Rf} {P:List Pt} {l:List Sh} (hs:absR rs P=l) {k:Nat} (hk:k<rs.length):cn l k=(ofShard P k).length:=by
 rw [←hs,cn_is (absR_get (List.getElem?_eq_getElem hk))]
 exact Sh.cnt_rcs _ _ _ _ _ _
theorem absR_marks {rs:List Rf} {P:List Pt} {k:Nat} {r:Rf} (hr:rs[k]?=some r) (d e:Int):absR (rs.set k { r with done:=d,ep:=e }) P=absR rs P:=by
 apply List.ext_getElem?
 intro j
 unfold absR
 rw [List.getElem?_mapIdx,List.getElem?_mapIdx,List.getElem?_set]
 split
 ·rename_i h
  subst h
  rw [hr]
  split <;> simp_all
 ·rfl
theorem step_12 {w0 w:World} {K:Nat→Prop} {wb sb gb yb:Nat} {C:Cfg} {sdv:Value} {N:Nat} (h:St w0 K wb sb gb yb C sdv N w) (hN:N≤600000) (o:Opn) (ho:o.k=12) :
 Calls Tryz.prog 10 #[.pointer (some ⟨wb,0,none⟩),.pointer (some ⟨sb,0,none⟩),.agg o.arr] w fun e w'=>e=.returned (.bool true)∧St w0 K wb sb gb yb C sdv (N+1) w':=by
 obtain ⟨ρ,now,time,l,rs,P,wv,fv,last,sv,iv,hv,m1,m2,m3,Ls,Li,Lh,hL,hS,hf,hB0,hBb,hBs,hn1,hn2,hn3,hn4,hn5,hn6,hn7⟩:=h
 obtain ⟨gv,m,g,cap,Q,he,hGS,hw,hlen,hW,hmQ,hO⟩:=hn6.gs hS.grp hf hS.inv
 have hI:=hS.inv
 have hnl:=hn6.nl
 have hrl:l.length=rs.length:=by rw [←hS.same,absR_len]
 have hml:m.length=l.length:=by rw [←he];simp
 have h16:=hI.len
 have hup:=up_same hmQ
 have hpos:=hI.pos
 have herr:∀(c:Int),(c != 0)=true→(∀W,Below w.heap.size w W→Calls Tryz.prog 20 #[.pointer (some ⟨gb,0,none⟩),.int .i64 o.a,.int .i64 o.b] W fun e w'=>e=.returned (.tuple #[.int .i64 0,.int .i64 c])∧GrpPost W ρ gb C now l w')→(∀W ρ2,(∃sv lv,RefAt W ρ2 yb C time rs P wv fv sv lv)→Calls Tryz.prog 42 #[.pointer (some ⟨yb,0,none⟩),.int .i64 o.a,.int .i64 o.b] W fun e w'=>e=.returned (.tuple #[.int .i64 (-1),.int .i64 c])∧W=w') →
  Calls Tryz.prog 10 #[.pointer (some ⟨wb,0,none⟩),.pointer (some ⟨sb,0,none⟩),.agg o.arr] w fun e w'=>e=.returned (.bool true)∧St w0 K wb sb gb yb C sdv (N+1) w':=by
  intro c hc hP hR
  refine step_fetch hL hS hf hB0 hBb hBs hn1 hn2 hn3 hn4 hn5 (hpin:=hS.pin) (hn7:=hn7) (l':=l) (now':=now) hI o ho 0 c hP (fun W ρ2 hex hf2=>?_)
  obtain ⟨sv2,lv2,R2⟩:=hex
  exact (refFetch_err yb o.a o.b c hc (hR W ρ2 ⟨sv2,lv2,R2⟩)).mono fun e w' q=>⟨q.1,rs,wv,fv,by rw [←q.2];exact RefPost.below R2 hf2 (Below.refl _ _),hS.same,rfl,hn6.mono (by omega)⟩
 have hgp:∀W w',Below w.heap.size w W→Below W.heap.size W w'→GrpPost W ρ gb C now l w':=fun W w' hb hb'=>by
  have hz:=hb.size
  have hk:Keeps (fun k=>w.heap.size≤k) w w':=⟨hb'.os.trans hb.os,hb'.tape.trans hb.tape,hb'.output.trans hb.output,Nat.le_trans hb.size hb'.size,fun k hk _=>(hb'.block k (by omega)).trans (hb.block k hk)⟩
  obtain ⟨gv2,m2',e2,G2⟩:=(hS.keeps hk (fun k hk=>Or.inr (Or.inr hk)) (fun _ _=>rfl)).grp
  exact ⟨ρ,gv2,m2',e2,G2,(Keeps.of_below hb').mono (fun k hk hs=>by omega),Ext.refl (hf.below hb.size),hf.below (Nat.le_trans hb.size hb'.size)⟩
 by_cases hi:0≤o.a∧o.a<now.n
 ·obtain ⟨i,hia⟩:∃i:Nat,o.a=(i:Int):=⟨o.a.toNat,by omega⟩
  have hin:i<now.n:=by omega
  have hy:wv.l[i]?=some (wv.l[i]'(by omega)):=List.getElem?_eq_getElem _
  generalize wv.l[i]'(by omega)=y at hy
  have hWi:=hW i y hy
  have hyl:y.hs.length≤1000:=by have:=hWi.hs.le;omega
  by_cases hkk:0≤o.b∧o.b<l.length
  ·obtain ⟨k,hkb⟩:∃k:Nat,o.b=(k:Int):=⟨o.b.toNat,by omega⟩
   have hkr:k<rs.length:=by omega
   obtain ⟨p,hp,_⟩:=hWi.rel k (by omega)
   cases hh:p.held
   ·refine herr 13 rfl (fun W hb=>?_) (fun W ρ2 hex=>?_)
    ·rw [hia,hkb]
     refine (gFetch_no (hGS.below hb).1 i hin k (by omega) p hp hh).mono ?_
     rintro e w' ⟨h1,h2⟩
     have:=h2.grpPost he (hf.below hb.size)
     rw [hup] at this
     exact ⟨h1,this⟩
    ·obtain ⟨sv2,lv2,R2⟩:=hex
     have:=refHeld_any R2 i y hy hyl k hkr
     unfold heldV at this
     rw [(hn6.hold hS.same hI hW hO hy hkr hp).1 hh,if_pos (by omega)] at this
     rw [hia,hkb]
     exact this
   ·obtain ⟨j,hj,hix,hsh,a0,a1,b0,b1,ab,c32⟩:=(hn6.hold hS.same hI hW hO hy hkr hp).2 hh
    have R:=hn6.fetch hS.same hI hw hlen hW hO hy hkr hp hh hj hix hsh
    have hcf:=hn6.conf
    obtain ⟨s,hs⟩:∃s,m[k]?=some s:=⟨m[k]'(by omega),List.getElem?_eq_getElem _⟩
    have hsl:l[k]?=some s.s:=by rw [←he,List.getElem?_map,hs];rfl
    have hcn:=cn_is hsl
    have hbv:bufV (cn l k) p.h.at_ C.b=if C.b<(cn l k:Int) - p.h.at_ then C.b else (cn l k:Int) - p.h.at_:=by
     unfold bufV
     rw [dif_small (by omega) (by omega)]
    obtain ⟨n,hn⟩:∃n:Nat,(n:Int)=bufV (cn l k) p.h.at_ C.b:=⟨(bufV (cn l k) p.h.at_ C.b).toNat,by rw [hbv];split <;> omega⟩
    refine step_fetch hL hS hf hB0 hBb hBs hn1 hn2 hn3 hn4 hn5 (hpin:=hS.pin) (hn7:=hn7) (l':=l) (now':=now.up now.ls (Q.set (i*16+k) { p with held:=true,h:=⟨k,p.h.ep,p.h.at_,bufV (cn l k) p.h.at_ C.b⟩ })) hI o ho (bufV (cn l k) p.h.at_ C.b) 0 (fun W hb=>?_) (fun W ρ2 ⟨sv2,lv2,R2⟩ hf2=>?_)
    ·rw [hia,hkb]
     have hc:=gFetch_yes (hGS.below hb).1 i hin k (by omega) p hp hh hsh s hs
     rw [show s.s.cnt=cn l k from hcn.symm] at hc
     exact hc.mono fun e w' q=>⟨q.1,q.2.grpPost he (hf.below hb.size)⟩
    ·rw [hia,hkb]
     have hco:=cnt_is hS.same hkr
     have hc:=refFetch_any R2 hf2 (by omega) i y hy hyl k hkr j p.h hj hix n (by rw [hn,hbv,hco]) (by rw [←hco];omega) hcf.2.2.1
     rw [hn] at hc
     refine hc.mono ?_
     rintro e w' ⟨h1,h2⟩
     exact ⟨h1,_,_,_,h2,hS.same,rfl,R⟩
  ·refine herr 5 rfl (fun W hb=>?_) (fun W ρ2 hex=>?_)
   ·rw [hia]
    exact (gFetch_err gb i o.b 5 rfl (findHold_noS (hGS.below hb).1 (by omega) i hin o.b (by rw [hml];exact hkk))).mono fun e w' q=>⟨q.1,hgp W w' hb q.2⟩
   ·obtain ⟨sv2,lv2,R2⟩:=hex
    obtain ⟨vb,vc,hv,_⟩:=R2.wk.shape hy
    have c8:W.cell? ⟨yb,8,none⟩=some wv.v:=cell_of R2.blk 8
    rw [hv] at c8
    obtain ⟨sb2,cap2,rfl,_⟩:=R2.shards (by omega)
    rw [hia]
    exact refHeld_noS yb wv.l.length vc rs.length cap2 _ _ i o.b c8 (cell_of R2.blk 7) (by omega) (by rw [←hrl];exact hkk)
 ·refine herr 9 rfl (fun W hb=>?_) (fun W ρ2 hex=>?_)
  ·exact (gFetch_err gb o.a o.b 9 rfl (findHold_noW (hGS.below hb).1 o.a o.b hi)).mono fun e w' q=>⟨q.1,hgp W w' hb q.2⟩
  ·obtain ⟨sv2,lv2,R2⟩:=hex
   have hn1':=hn6.n1
   have hy:wv.l[0]?=some (wv.l[0]'(by omega)):=List.getElem?_eq_getElem _
   obtain ⟨vb,vc,hv,_⟩:=R2.wk.shape hy
   have c8:W.cell? ⟨yb,8,none⟩=some wv.v:=cell_of R2.blk 8
   rw [hv] at c8
   exact refHeld_noW yb wv.l.length vc _ o.a o.b c8 (by rw [←hnl];exact hi)
theorem step_13 {w0 w:World} {K:Nat→Prop} {wb sb gb yb:Nat} {C:Cfg} {sdv:Value} {N:Nat} (h:St w0 K wb sb gb yb C sdv N w) (_hN:N≤600000) (o:Opn) (ho:o.k=13) :
 Calls Tryz.prog 10 #[.pointer (some ⟨wb,0,none⟩),.pointer (some ⟨sb,0,none⟩),.agg o.arr] w fun e w'=>e=.returned (.bool true)∧St w0 K wb sb gb yb C sdv (N+1) w':=by
 obtain ⟨ρ,now,time,l,rs,P,wv,fv,last,sv,iv,hv,m1,m2,m3,Ls,Li,Lh,hL,hS,hf,hB0,hBb,hBs,hn1,hn2,hn3,hn4,hn5,hn6,hn7⟩:=h
 obtain ⟨gv,m,g,cap,Q,he,hGS,hw,hlen,hW,hmQ,hO⟩:=hn6.gs hS.grp hf hS.inv
 have hI:=hS.inv
 have hnl:=hn6.nl
 have hrl:l.length=rs.length:=by rw [←hS.same,absR_len]
 have hml:m.length=l.length:=by rw [←he];simp
 have h16:=hI.len
 have hup:=up_same hmQ
 have hpos:=hI.pos
 have herr:∀(c:Int),(c != 0)=true→(∀W,Below w.heap.size w W→Calls Tryz.prog 22 #[.pointer (some ⟨gb,0,none⟩),.int .i64 o.a,.int .i64 o.b,.bool o.lost] W fun e w'=>e=.returned (.int .i64 c)∧GrpPost W ρ gb C now l w')→(∀W ρ2,(∃sv lv,RefAt W ρ2 yb C time rs P wv fv sv lv)→Calls Tryz.prog 42 #[.pointer (some ⟨yb,0,none⟩),.int .i64 o.a,.int .i64 o.b] W fun e w'=>e=.returned (.tuple #[.int .i64 (-1),.int .i64 c])∧W=w') →
  Calls Tryz.prog 10 #[.pointer (some ⟨wb,0,none⟩),.pointer (some ⟨sb,0,none⟩),.agg o.arr] w fun e w'=>e=.returned (.bool true)∧St w0 K wb sb gb yb C sdv (N+1) w':=by
  intro c hc hP hR
  refine step_commit hL hS hf hB0 hBb hBs hn1 hn2 hn3 hn4 hn5 (hpin:=hS.pin) (hn7:=hn7) (l':=l) (now':=now) hI o ho c hP (fun W ρ2 hex hf2=>?_)
  obtain ⟨sv2,lv2,R2⟩:=hex
  exact (refCommit_err yb o.a o.b c o.lost hc (hR W ρ2 ⟨sv2,lv2,R2⟩)).mono fun e w' q=>⟨q.1,rs,wv,fv,by rw [←q.2];exact RefPost.below R2 hf2 (Below.refl _ _),hS.same,rfl,hn6.mono (by omega)⟩
 have hgp:∀W w',Below w.heap.size w W→Below W.heap.size W w'→GrpPost W ρ gb C now l w':=fun W w' hb hb'=>by
  have hz:=hb.size
  have hk:Keeps (fun k=>w.heap.size≤k) w w':=⟨hb'.os.trans hb.os,hb'.tape.trans hb.tape,hb'.output.trans hb.output,Nat.le_trans hb.size hb'.size,fun k hk _=>(hb'.block k (by omega)).trans (hb.block k hk)⟩
  obtain ⟨gv2,m2',e2,G2⟩:=(hS.keeps hk (fun k hk=>Or.inr (Or.inr hk)) (fun _ _=>rfl)).grp
  exact ⟨ρ,gv2,m2',e2,G2,(Keeps.of_below hb').mono (fun k hk hs=>by omega),Ext.refl (hf.below hb.size),hf.below (Nat.le_trans hb.size hb'.size)⟩
 by_cases hi:0≤o.a∧o.a<now.n
 ·obtain ⟨i,hia⟩:∃i:Nat,o.a=(i:Int):=⟨o.a.toNat,by omega⟩
  have hin:i<now.n:=by omega
  have hy:wv.l[i]?=some (wv.l[i]'(by omega)):=List.getElem?_eq_getElem _
  generalize wv.l[i]'(by omega)=y at hy
  have hWi:=hW i y hy
  have hyl:y.hs.length≤1000:=by have:=hWi.hs.le;omega
  by_cases hkk:0≤o.b∧o.b<l.length
  ·obtain ⟨k,hkb⟩:∃k:Nat,o.b=(k:Int):=⟨o.b.toNat,by omega⟩
   have hkr:k<rs.length:=by omega
   obtain ⟨p,hp,_⟩:=hWi.rel k (by omega)
   cases hh:p.held
   ·refine herr 13 rfl (fun W hb=>?_) (fun W ρ2 hex=>?_)
    ·rw [hia,hkb]
     refine (gCommit_no (hGS.below hb).1 i hin k (by omega) p hp hh o.lost).mono ?_
     rintro e w' ⟨h1,h2⟩
     have:=h2.grpPost he (hf.below hb.size)
     rw [hup] at this
     exact ⟨h1,this⟩
    ·obtain ⟨sv2,lv2,R2⟩:=hex
     have:=refHeld_any R2 i y hy hyl k hkr
     unfold heldV at this
     rw [(hn6.hold hS.same hI hW hO hy hkr hp).1 hh,if_pos (by omega)] at this
     rw [hia,hkb]
     exact this
   ·obtain ⟨j,hj,hix,hsh,a0,a1,b0,b1,ab,c32⟩:=(hn6.hold hS.same hI hW hO hy hkr hp).2 hh
    have hcf:=hn6.conf
    obtain ⟨r,hr⟩:∃r,rs[k]?=some r:=⟨rs[k],List.getElem?_eq_getElem hkr⟩
    obtain ⟨d1,d2,d3,d4⟩:=hn6.marks hI
    obtain ⟨hdk,hek⟩:=d4 k r hr
    by_cases hbf:p.h.bf=0
    ·refine step_commit hL hS hf hB0 hBb hBs hn1 hn2 hn3 hn4 hn5 (hpin:=hS.pin) (hn7:=hn7) (l':=l) (now':=now) hI o ho 14 (fun W hb=>?_) (fun W ρ2 ⟨sv2,lv2,R2⟩ hf2=>?_)
     ·rw [hia,hkb]
      refine (gCommit_empty (hGS.below hb).1 i hin k (by omega) p hp hh hbf o.lost).mono ?_
      rintro e w' ⟨h1,h2⟩
      have:=h2.grpPost he (hf.below hb.size)
      rw [hup] at this
      exact ⟨h1,this⟩
     ·rw [hia,hkb]
      exact (refCommit_empty R2 hf2 i y hy hyl k r hr j p.h hj hix hbf o.lost).mono fun e w' q=>⟨q.1,rs,wv,fv,q.2,hS.same,rfl,hn6.mono (by omega)⟩
    ·cases hfo:folds now.dn k p.h.ep p.h.at_
     ·have hfe:p.h.ep<r.ep∨p.h.at_≠r.done:=by
       unfold folds at hfo
       rw [decide_eq_false_iff_not,hek,d2 k,←hdk] at hfo
       omega
      have enow:now.fold k p.h.ep p.h.at_ p.h.bf=now:=by unfold Rest.fold;rw [hfo];rfl
      refine step_commit hL hS hf hB0 hBb hBs hn1 hn2 hn3 hn4 hn5 (hpin:=hS.pin) (hn7:=hn7) (l':=l) (now':=now.up now.ls (if o.lost=true then Q else Q.set (i*16+k) (dropped p))) hI o ho 15 (fun W hb=>?_) (fun W ρ2 ⟨sv2,lv2,R2⟩ hf2=>?_)
      ·rw [hia,hkb]
       have hc:=gCommit_any (hGS.below hb).1 i hin k (by omega) p hp hh hsh hbf o.lost
       rw [hfo,enow] at hc
       refine hc.mono ?_
       rintro e w' ⟨h1,h2⟩
       exact ⟨h1,h2.grpPost he (hf.below hb.size)⟩
      ·rw [hia,hkb]
       refine (refCommit_fenced R2 hf2 i y hy hyl k r hr j p.h hj hix hbf hfe o.lost).mono ?_
       rintro e w' ⟨h1,hv',h2⟩
       refine ⟨h1,rs,_,fv,h2,hS.same,rfl,?_⟩
       cases o.lost
       ·exact hn6.fenced hS.same hI hw hlen hW hO hy hkr hp hv'
       ·show Rel C (now.up now.ls Q) time l P rs wv _
        rw [hup]
        exact hn6.mono (by omega)
     ·have hfe:p.h.at_=r.done∧¬p.h.ep<r.ep:=by
       unfold folds at hfo
       rw [decide_eq_true_eq,hek,d2 k,←hdk] at hfo
       exact ⟨hfo.2,by omega⟩
      obtain ⟨n,hn⟩:∃n:Nat,p.h.bf=(n:Int):=⟨p.h.bf.toNat,by omega⟩
      have R:=hn6.folded hS.same hI hw hlen hW hO hy hr hp hh hj hix hsh hbf n hn hfo o.lost
      obtain ⟨E,F,_,_,f3,f4,_⟩:=hn6.folds hS.same hI
      have hfl:wv.fo.length≤1000000:=by rw [←f3,List.length_map];omega
      refine step_commit hL hS hf hB0 hBb hBs hn1 hn2 hn3 hn4 hn5 (hpin:=hS.pin) (hn7:=hn7) (l':=l) (now':=(now.fold k p.h.ep p.h.at_ p.h.bf).up now.ls (if o.lost=true then Q else heardP true i k p Q)) hI o ho 0 (fun W hb=>?_) (fun W ρ2 ⟨sv2,lv2,R2⟩ hf2=>?_)
      ·rw [hia,hkb]
       have hc:=gCommit_any (hGS.below hb).1 i hin k (by omega) p hp hh hsh hbf o.lost
       rw [hfo] at hc
       refine hc.mono ?_
       rintro e w' ⟨h1,h2⟩
       exact ⟨h1,h2.grpPost he (hf.below hb.size)⟩
      ·rw [hia,hkb]
       refine (refCommit_yes R2 hf2 i y hy hyl k r hr j p.h hj hix n hn (by omega) (by omega) hfl hfe.2 hfe.1 o.lost).mono ?_
       rintro e w' ⟨h1,fv',h2⟩
       refine ⟨h1,_,_,fv',h2,?_,by simp,R⟩
       rw [←hS.same]
       exact absR_marks hr _ _
  ·refine herr 5 rfl (fun W hb=>?_) (fun W ρ2 hex=>?_)
   ·rw [hia]
    exact (gCommit_err gb i o.b 5 o.lost rfl (findHold_noS (hGS.below hb).1 (by omega) i hin o.b (by rw [hml];exact hkk))).mono fun e w' q=>⟨q.1,hgp W w' hb q.2⟩
   ·obtain ⟨sv2,lv2,R2⟩:=hex
    obtain ⟨vb,vc,hv,_⟩:=R2.wk.shape hy
    have c8:W.cell? ⟨yb,8,none⟩=some wv.v:=cell_of R2.blk 8
    rw [hv] at c8
    obtain ⟨sb2,cap2,rfl,_⟩:=R2.shards (by omega)
    rw [hia]
    exact refHeld_noS yb wv.l.length vc rs.length cap2 _ _ i o.b c8 (cell_of R2.blk 7) (by omega) (by rw [←hrl];exact hkk)
 ·refine herr 9 rfl (fun W hb=>?_) (fun W ρ2 hex=>?_)
  ·exact (gCommit_err gb o.a o.b 9 o.lost rfl (findHold_noW (hGS.below hb).1 o.a o.b hi)).mono fun e w' q=>⟨q.1,hgp W w' hb q.2⟩
  ·obtain ⟨sv2,lv2,R2⟩:=hex
   have hn1':=hn6.n1
   have hy:wv.l[0]?=some (wv.l[0]'(by omega)):=List.getElem?_eq_getElem _
   obtain ⟨vb,vc,hv,_⟩:=R2.wk.shape hy
   have c8:W.cell? ⟨yb,8,none⟩=some wv.v:=cell_of R2.blk 8
   rw [hv] at c8
   exact refHeld_noW yb wv.l.length vc _ o.a o.b c8 (by rw [←hnl];exact hi)
theorem mem_0:memN 0=plsCells (List.replicate (0*16) pl0):=by kernel_rfl
theorem mem_1:memN 1=plsCells (List.replicate (1*16) pl0):=by kernel_rfl
theorem mem_2:memN 2=plsCells (List.replicate (2*16) pl0):=by kernel_rfl
theorem mem_3:memN 3=plsCells (List.replicate (3*16) pl0):=by kernel_rfl
theorem mem_4:memN 4=plsCells (List.replicate (4*16) pl0):=by kernel_rfl
theorem plsCells_rep (n:Nat) (hn:n≤4):memN n=plsCells (List.replicate (n*16) pl0):=by
 match n,hn with
 | 0,_=>exact mem_0
 | 1,_=>exact mem_1
 | 2,_=>exact mem_2
 | 3,_=>exact mem_3
 | 4,_=>exact mem_4
def tags0 (wb gb g mb yb g2 vb sb:Nat) (k:Nat):Nat :=
 if k=wb then 300 else if k=gb then 1 else if k=g then 2 else if k=mb then 40 else if k=yb then 200 else if k=g2 then 201 else if k=vb then 204 else if k=sb then 150 else 0
theorem krows0 (w:World) (te:TypeId) (size:Nat) (pat:Int→List Value):KRows w te size pat (.slice none 0 0) (.slice none 0 0) [] :=
 ⟨World.ownsRow_nil _ _ _ _,World.ownsRow_nil _ _ _ _,fun x hx=>(by cases hx),Nat.zero_le _⟩
theorem rowWks_new (n:Nat):rowWks (List.replicate n ⟨[],.slice none 0 0,[],.slice none 0 0⟩)=rowWk n:=by
 have app:∀l k:List Wk,rowWks (l ++ k)=rowWks l ++ rowWks k:=by
  intro l k
  induction l with
  | nil=>rfl
  | cons s r ih=>simp [rowWks,ih]
 induction n with
 | zero=>rfl
 | succ n ih=>rw [List.replicate_succ',app,ih];rfl
theorem rel_new (C:Cfg) (mb kn vb vc yn:Nat) (hkn:(kn:Int)=C.a) (hyk:yn=kn) (hkn1:1≤kn) (hk4:yn≤4) (hCl:validB C.a C.l C.b C.n C.s C.t=true):Rel C (rest0 (.slice (some ⟨mb,0,none⟩) kn kn) kn (memN kn)) 0 [first] [] [rfirst] ⟨.slice (some ⟨vb,0,none⟩) yn vc,List.replicate yn ⟨[],.slice none 0 0,[],.slice none 0 0⟩,[]⟩ ((0:Nat):Int):=by
 subst hyk
 have one:∀(k:Nat) r,[rfirst][k]?=some r→r=rfirst:=by
  intro k r hr
  match k,hr with
  | 0,hr=>simp at hr;exact hr.symm
  | k+1,hr=>simp at hr
 refine ⟨rfl,by omega,hkn,by simp [rest0],hkn1,fun k=>?_,⟨by simp [rest0,noneL],fun k hk=>?_⟩,fun k r hr=>by rw [one k r hr];simp [rfirst],hCl,⟨mb,yn,List.replicate (yn*16) pl0,rfl,plsCells_rep yn hk4,by simp [rest0],fun i y hy=>?_,?_⟩,[],[],entOk_nil,rfl,foOk_nil _,rfl⟩
 ·have z:dnP (List.replicate 32 0) k=0∧epP (List.replicate 32 0) k=0:=by
   unfold dnP epP
   rw [List.getElem?_replicate,List.getElem?_replicate]
   constructor <;> split <;> rfl
  show dnP (List.replicate 32 0) k=_∧epP (List.replicate 32 0) k=_
  rw [z.1,z.2]
  unfold dnR epR
  match k with
  | 0=>exact ⟨rfl,rfl⟩
  | k+1=>exact ⟨rfl,rfl⟩
 ·have e:leOf [rfirst] k=⟨-1,0,0⟩:=by
   unfold leOf
   match k with
   | 0=>rfl
   | k+1=>rfl
  rw [e]
  show (List.replicate 16 (⟨-1,0,0⟩:Le) ++ List.replicate (16 - 16) ⟨0,0,0⟩)[k]?=_
  rw [List.getElem?_append_left (by rw [List.length_replicate];exact hk),List.getElem?_replicate,if_pos hk]
 ·have hy':=List.eq_of_mem_replicate (List.mem_of_getElem? hy)
  subst hy'
  have hi:i<yn:=by have:=(List.getElem?_eq_some_iff.1 hy).1;simpa using this
  exact ⟨fun k hk=>⟨pl0,by rw [List.getElem?_replicate,if_pos (by omega)],rfl,rfl⟩,⟨by simp,fun x hx=>by simp at hx⟩,⟨by simp,fun x hx=>by simp at hx,fun x hx=>by simp at hx⟩⟩
 ·refine ⟨ow_new yn C.b hk4,fun k x hx e=>?_⟩
  refine hc_zero (fun j=>?_) _
  unfold hol
  rw [List.getElem?_replicate]
  split
  ·rename_i p hp
   split at hp
   ·injection hp with hp
    subst hp
    rfl
   ·cases hp
  ·rfl
theorem St.setup {W:World} {B wb gb g mb yb g2 vb vc sb rb kn yn:Nat} {C:Cfg} {sdv:Value} {base base2:Nat}
 (b0:W.heap[wb]?=some (.cells #[sdv,.slice none 0 0,.slice none 0 0,.slice none 0 0,.slice none 0 0,.slice none 0 0,.slice none 0 0,.int .i64 0] 36 (0,0)))
 (b1:W.heap[gb]?=some (.cells (grpArr C (.slice (some ⟨g,0,none⟩) 1 1) (rest0 (.slice (some ⟨mb,0,none⟩) kn kn) kn (memN kn))) 71 (0,0)))
 (b2:W.heap[g]?=some (.cells #[.int .i64 0,.int .i64 256,.bool true,.slice none 0 0,.slice none 0 0] 113 (0,0)))
 (b3:W.ownsRow base 162 128 (.slice (some ⟨mb,0,none⟩) kn kn) kn (memN kn))
 (b4:W.heap[yb]?=some (.cells (refArr C 0 (.slice (some ⟨g2,0,none⟩) 1 1) (.slice (some ⟨vb,0,none⟩) yn vc) (.slice none 0 0) (.slice none 0 0)) 80 (0,0)))
 (b5:W.heap[g2]?=some (.cells (rfCells rfirst).toArray 73 (0,0)))
 (b6:W.heap[sb]?=some (.cells #[.pointer (some ⟨gb,0,none⟩),.pointer (some ⟨yb,0,none⟩)] 46 (0,0)))
 (b8:W.ownsRow base2 84 2 (.slice (some ⟨vb,0,none⟩) yn vc) yn (rowWk yn)) (hyn:yn≤4) (hkn:(kn:Int)=C.a) (hyk:yn=kn) (hkn1:1≤kn) (hCl:validB C.a C.l C.b C.n C.s C.t=true)
 (o1:B≤wb) (o2:wb<gb) (o3:wb<g) (o4:wb<mb) (o5:g≠gb) (o6:mb≠gb) (o7:mb≠g) (o8:gb<g2) (o9:g<g2) (o10:mb<g2) (o11:g2<yb) (o12:yb<vb) (o12b:vb<sb) (o13:sb<rb) (o14:rb<W.heap.size) :
 St W (fun k=>k<B∨k=rb) wb sb gb yb C sdv 0 W:=by
 have hmb:∀k,(Value.slice (some ⟨mb,0,none⟩) kn kn).ownBlock=some k→k=mb:=fun k hk=>by simp [Value.ownBlock] at hk;exact hk.symm
 have one:∀(i:Nat) (s:Cs),[(⟨first,.slice none 0 0,.slice none 0 0⟩:Cs)][i]?=some s→i=0∧s=⟨first,.slice none 0 0,.slice none 0 0⟩:=by
  intro i s h
  match i,h with
  | 0,h=>simp at h;exact ⟨rfl,h.symm⟩
  | i+1,h=>simp at h
 have oner:∀(i:Nat) (r:Rf),[rfirst][i]?=some r→r=rfirst:=by
  intro i r h
  match i,h with
  | 0,h=>simp at h;exact h.symm
  | i+1,h=>simp at h
 have t0:tags0 wb gb g mb yb g2 vb sb wb=300:=by unfold tags0;rw [if_pos rfl]
 have t1:tags0 wb gb g mb yb g2 vb sb gb=1:=by unfold tags0;rw [if_neg (by omega),if_pos rfl]
 have t2:tags0 wb gb g mb yb g2 vb sb g=2:=by unfold tags0;rw [if_neg (by omega),if_neg o5,if_pos rfl]
 have t3:tags0 wb gb g mb yb g2 vb sb mb=40:=by unfold tags0;rw [if_neg (by omega),if_neg o6,if_neg o7,if_pos rfl]
 have t4:tags0 wb gb g mb yb g2 vb sb yb=200:=by unfold tags0;rw [if_neg (by omega),if_neg (by omega),if_neg (by omega),if_neg (by omega),if_pos rfl]
 have t5:tags0 wb gb g mb yb g2 vb sb g2=201:=by unfold tags0;rw [if_neg (by omega),if_neg (by omega),if_neg (by omega),if_neg (by omega),if_neg (by omega),if_pos rfl]
 have t6:tags0 wb gb g mb yb g2 vb sb sb=150:=by unfold tags0;rw [if_neg (by omega),if_neg (by omega),if_neg (by omega),if_neg (by omega),if_neg (by omega),if_neg (by omega),if_neg (by omega),if_pos rfl]
 have t7:tags0 wb gb g mb yb g2 vb sb vb=204:=by unfold tags0;rw [if_neg (by omega),if_neg (by omega),if_neg (by omega),if_neg (by omega),if_neg (by omega),if_neg (by omega),if_pos rfl]
 have tz:∀k,k<wb∨sb<k→tags0 wb gb g mb yb g2 vb sb k=0:=fun k hk=>by unfold tags0;rw [if_neg (by omega),if_neg (by omega),if_neg (by omega),if_neg (by omega),if_neg (by omega),if_neg (by omega),if_neg (by omega),if_neg (by omega)]
 refine ⟨tags0 wb gb g mb yb g2 vb sb,rest0 (.slice (some ⟨mb,0,none⟩) kn kn) kn (memN kn),0,[first],[rfirst],[],⟨.slice (some ⟨vb,0,none⟩) yn vc,List.replicate yn ⟨[],.slice none 0 0,[],.slice none 0 0⟩,[]⟩,.slice none 0 0,0,.slice none 0 0,.slice none 0 0,.slice none 0 0,.slice none 0 0,.slice none 0 0,.slice none 0 0,[],[],[],?_,?_,?_,?_,Keeps.refl _ _,?_,by simp,by simp,by simp,by simp,by omega,rel_new C mb kn vb vc yn hkn hyk hkn1 hyn hCl,by simp⟩
 ·refine ⟨b0,t0,krows0 _ _ _ _,krows0 _ _ _ _,krows0 _ _ _ _,?_,?_,?_,?_,?_,?_,?_⟩
  all_goals first | (intro k hk;simp [Value.ownBlock] at hk;done) | (intro x hx;simp at hx)
 ·refine ⟨b6,t6,⟨_,[⟨first,.slice none 0 0,.slice none 0 0⟩],rfl,⟨b1,t1,?_,ownsRow_base b3 (Nat.zero_le _),fun k hk=>by rw [hmb k hk];exact t3,by simp [rest0],by simp [rest0,noneL]⟩⟩,⟨_,_,⟨b4,t4,?_,?_,World.ownsRow_nil _ _ _ _,?_,?_,?_,?_⟩⟩,?_,inv_first,fun e he=>(by cases he)⟩
  ·refine ⟨⟨rfl,.inr ⟨g,1,_,rfl,Nat.zero_le _,b2,Nat.le_refl _,by unfold maxLen;omega,rfl,rfl⟩⟩,?_,?_,?_,?_,?_⟩
   ·intro k hk
    simp [Value.ownBlock] at hk
    subst hk
    exact t2
   ·intro i s hi;obtain ⟨_,rfl⟩:=one i s hi;exact World.ownsRow_nil _ _ _ _
   ·intro i s hi k hk;obtain ⟨_,rfl⟩:=one i s hi;simp [Value.ownBlock] at hk
   ·intro i s hi;obtain ⟨_,rfl⟩:=one i s hi;exact World.ownsRow_nil _ _ _ _
   ·intro i s hi k hk;obtain ⟨_,rfl⟩:=one i s hi;simp [Value.ownBlock] at hk
  ·exact ⟨rfl,.inr ⟨g2,1,_,rfl,Nat.zero_le _,b5,Nat.le_refl _,by unfold maxLen;omega,rfl,rfl⟩⟩
  ·intro k hk
   simp [Value.ownBlock] at hk
   subst hk
   exact t5
  ·intro k hk;simp [Value.ownBlock] at hk
  ·intro i r hi;rw [oner i r hi];exact World.ownsRow_nil _ _ _ _
  ·intro i r hi k hk;rw [oner i r hi] at hk;simp [rfirst,Value.ownBlock] at hk
  ·have rep:∀(i:Nat) (y:Wk),(List.replicate yn (⟨[],.slice none 0 0,[],.slice none 0 0⟩:Wk))[i]?=some y→y=⟨[],.slice none 0 0,[],.slice none 0 0⟩:=by
    intro i y hy
    exact List.eq_of_mem_replicate (List.mem_of_getElem? hy)
   refine ⟨?_,?_,?_,?_,?_,?_,World.ownsRow_nil _ _ _ _,?_,by simpa using hyn⟩
   ·show W.ownsRow 0 _ 2 _ (List.replicate yn _).length (rowWks _)
    rw [List.length_replicate,rowWks_new];exact ownsRow_base b8 (Nat.zero_le _)
   ·intro k hk;simp [Value.ownBlock] at hk;subst hk;exact t7
   ·intro i y hi;rw [rep i y hi];exact World.ownsRow_nil _ _ _ _
   ·intro i y hi k hk;rw [rep i y hi] at hk;simp [Value.ownBlock] at hk
   ·intro i y hi;rw [rep i y hi];exact World.ownsRow_nil _ _ _ _
   ·intro i y hi k hk;rw [rep i y hi] at hk;simp [Value.ownBlock] at hk
   ·intro k hk;simp [Value.ownBlock] at hk
  ·rfl
 ·intro k hk
  exact tz k (Or.inr (by omega))
 ·rintro k (hk | hk)
  ·exact tz k (Or.inl (by omega))
  ·exact tz k (Or.inr (by omega))
 ·rintro k (hk | hk)
  ·have:=lt_of_heap b0;omega
  ·omega
end Go.Proofs.YtpnkmnmchdabkaaGreat
namespace Go.Proofs.YtpnkmnmchdabkaaGreat
open Go.RowKit
attribute [local go_sem ↓] Go.wp_at_zero Go.wp_at_succ
theorem infoSP:(Tryz.prog.info? 44).map (fun i=>(i.zero,i.size,i.bytes))=some (some (.pointer none),1,8):=by kernel_rfl
def IsOps (w:World) (a0:Option Addr) (len:Nat) (os:List Opn):Prop :=
 os.length=len∧∀(i:Nat) (o:Opn),os[i]?=some o→o.s.size≤maxLen∧∃ab ao,a0=some ⟨ab,ao,none⟩∧ab<w.heap.size ∧
  w.cell? ⟨ab,ao+i*6,none⟩=some (.int .i64 o.k)∧w.cell? ⟨ab,ao+i*6+1,none⟩=some (.int .i64 o.a)∧w.cell? ⟨ab,ao+i*6+2,none⟩=some (.int .i64 o.b) ∧
  w.cell? ⟨ab,ao+i*6+3,none⟩=some (.string o.s)∧w.cell? ⟨ab,ao+i*6+4,none⟩=some (.bool o.lost)∧w.cell? ⟨ab,ao+i*6+5,none⟩=some (.bool o.wh)
theorem St.kept {w0 w:World} {K:Nat→Prop} {wb sb gb yb:Nat} {C:Cfg} {sdv:Value} {N:Nat} (h:St w0 K wb sb gb yb C sdv N w) :
 Calls Tryz.prog 11 #[.pointer (some ⟨wb,0,none⟩)] w fun e w'=>e=.returned (.bool true)∧St w0 K wb sb gb yb C sdv N w':=by
 have h':=h
 obtain ⟨ρ,now,time,l,rs,P,wv,fv,last,sv,iv,hv,m1,m2,m3,Ls,Li,Lh,hL,_⟩:=h'
 refine hL.kept.mono ?_
 rintro e w' ⟨rfl,hb⟩
 exact ⟨rfl,h.below hb⟩
theorem St.asked {w0 w:World} {K:Nat→Prop} {wb sb gb yb:Nat} {C:Cfg} {sdv:Value} {N:Nat} (h:St w0 K wb sb gb yb C sdv N w) (hN:N≤600000) :
 Calls Tryz.prog 12 #[.pointer (some ⟨wb,0,none⟩),.pointer (some ⟨sb,0,none⟩)] w fun e w'=>e=.returned (.bool true)∧St w0 K wb sb gb yb C sdv (N+1) w':=by
 obtain ⟨ρ,now,time,l,rs,P,wv,fv,last,sv,iv,hv,m1,m2,m3,Ls,Li,Lh,hL,hS,hf,hB0,hBb,hBs,hn1,hn2,hn3,hn4,hn5,hn6,hn7⟩:=h
 refine (shardsAre_any hL hS hf (by omega) (by omega) (by omega) (by omega) (by omega)).mono ?_
 rintro e w' ⟨rfl,ρ',last',sv',iv',m1',m2',Ls',Li',a1,a2,a3,a4,a5,a6,a7,a8⟩
 obtain ⟨b1,b2,b3⟩:=below_frame hBb hB0 hBs a8
 exact ⟨rfl,ρ',now,time,l,rs,P,wv,fv,last',sv',iv',hv,m1',m2',m3,Ls',Li',Lh,a1,a2,a3,b2,b1,b3,by omega,by omega,by omega,by omega,by omega,hn6.mono (by omega),by omega⟩
theorem St.cell0 {w0 w:World} {K:Nat→Prop} {wb sb gb yb:Nat} {C:Cfg} {sdv:Value} {N:Nat} (h:St w0 K wb sb gb yb C sdv N w):w.cell? ⟨wb,0,none⟩=some sdv:=by
 obtain ⟨ρ,now,time,l,rs,P,wv,fv,last,sv,iv,hv,m1,m2,m3,Ls,Li,Lh,hL,_⟩:=h
 exact cell_of hL.blk 0
theorem St.stands {w0 w:World} {K:Nat→Prop} {wb sb gb yb:Nat} {C:Cfg} {sdv:Value} {N:Nat} (h:St w0 K wb sb gb yb C sdv N w) {b i:Nat} (hK:K b):w.cell? ⟨b,i,none⟩=w0.cell? ⟨b,i,none⟩:=by
 obtain ⟨ρ,now,time,l,rs,P,wv,fv,last,sv,iv,hv,m1,m2,m3,Ls,Li,Lh,_,_,_,_,hBb,hBs,_⟩:=h
 exact World.cell?_of_block (w:=w0) (hBb.block b (hBs b hK) (fun q=>q hK))
theorem St.lt {w0 w:World} {K:Nat→Prop} {wb sb gb yb:Nat} {C:Cfg} {sdv:Value} {N:Nat} (h:St w0 K wb sb gb yb C sdv N w):wb<w.heap.size∧∀k,K k→k<w.heap.size:=by
 obtain ⟨ρ,now,time,l,rs,P,wv,fv,last,sv,iv,hv,m1,m2,m3,Ls,Li,Lh,hL,_,_,_,hBb,hBs,_⟩:=h
 exact ⟨lt_of_heap hL.blk,fun k hk=>Nat.lt_of_lt_of_le (hBs k hk) hBb.size⟩
theorem St.under {w0 w:World} {B rb wb sb gb yb:Nat} {C:Cfg} {sdv:Value} {N:Nat} (h:St w0 (fun k=>k<B∨k=rb) wb sb gb yb C sdv N w):Below B w0 w:=by
 obtain ⟨ρ,now,time,l,rs,P,wv,fv,last,sv,iv,hv,m1,m2,m3,Ls,Li,Lh,_,_,_,_,hBb,hBs,_⟩:=h
 exact ⟨hBb.os,hBb.tape,hBb.output,hBb.size,fun k hk=>hBb.block k (hBs k (Or.inl hk)) (fun q=>q (Or.inl hk))⟩
def Ready (w:World) (C:Cfg) (sb gb yb rb cap:Nat) (wr:World):Prop :=
 St wr (fun k=>k<w.heap.size∨k=rb) w.heap.size sb gb yb C (.slice (some ⟨rb,0,none⟩) 1 cap) 0 wr∧Below w.heap.size w wr∧wr.cell? ⟨rb,0,none⟩=some (.pointer (some ⟨sb,0,none⟩))
def ReadyEx (w:World) (C:Cfg) (wr:World):Prop:=∃sb gb yb rb cap,Ready w C sb gb yb rb cap wr
end Go.Proofs.YtpnkmnmchdabkaaGreat
