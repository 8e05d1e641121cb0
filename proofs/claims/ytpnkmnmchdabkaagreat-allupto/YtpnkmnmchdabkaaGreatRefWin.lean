import Derived.Test.YtpnkmnmchdabkaaGreatM36
import Derived.Test.YtpnkmnmchdabkaaGreatM35
import Derived.Test.YtpnkmnmchdabkaaGreatM25
import Derived.BigQuiet
namespace Go.Proofs.YtpnkmnmchdabkaaGreat
open Go.RowKit
attribute [local go_sem ↓] Go.wp_at_zero Go.wp_at_succ
theorem refWindows_no {w:World} (yb:Nat) (s:ByteArray) (hs:s.size≤maxLen) (hk:keyB s=false) :
 Calls Tryz.prog 36 #[.pointer (some ⟨yb,0,none⟩),.string s] w fun e w'=>e=.returned (.tuple #[.slice none 0 0,.int .i64 2])∧w=w':=by
 have HK:=hide (refIsKey_any s w hs)
 rw [hk] at HK
 go_enter Tryz.func36,Tryz.ntmps36
 go_wp2_with (go_at_call 56;refine (uh HK).mono ?_;rintro e w' ⟨rfl,rfl⟩)
 refine bodyPost_ret (v:=.tuple #[.slice none 0 0,.int .i64 2]) ?_ rfl ⟨rfl,rfl⟩
 simp [results,Tryz.results36,go_sem]
theorem key_of {a b:ByteArray} (h:a.toList=b.toList):a=b:=by
 rw [ByteArray.toList_eq,ByteArray.toList_eq] at h
 rcases a with ⟨a⟩
 rcases b with ⟨b⟩
 simpa using h
theorem RefAt.foldsAt {w:World} {ρ:Nat→Nat} {yb:Nat} {C:Cfg} {time:Int} {rs:List Rf} {P:List Pt} {wv:Wks} {fv sv lv:Value} (h:RefAt w ρ yb C time rs P wv fv sv lv) :
 ∃fa fc,fv=.slice fa wv.fo.length fc∧∀(j:Nat) (x:Fo),wv.fo[j]?=some x→∃fb,fa=some ⟨fb,0,none⟩∧fb<w.heap.size∧w.cell? ⟨fb,j*2,none⟩=some (.int .i64 x.sh)∧w.cell? ⟨fb,j*2+1,none⟩=some (.int .i64 x.pl):=by
 have hr:=h.wk.fold
 obtain ⟨fa,fc,hfv⟩:=ownsRow_len hr
 refine ⟨fa,fc,hfv,fun j x hj=>?_⟩
 rw [hfv] at hr
 have hjl:=(List.getElem?_eq_some_iff.1 hj).1
 obtain ⟨fb,cp,cur,hv1,_,hcb,_⟩:=ownsRow_shape hr (by omega)
 injection hv1 with e1 _ _
 subst e1
 refine ⟨fb,rfl,lt_of_heap hcb,?_,?_⟩
 ·rw [World.ownsRow.cellAt hr (j*2) (by omega)];exact (rowFo_get wv.fo j x hj).1
 ·rw [World.ownsRow.cellAt hr (j*2+1) (by omega)];exact (rowFo_get wv.fo j x hj).2
def wS (C:Cfg) (F:List En) (key:ByteArray) (j:Nat):List Int:=stsOf C.n C.s (((F.take j).filter (fun e=>decide (e.key=key))).map (·.time))
theorem wS_next {C:Cfg} {F:List En} {key:ByteArray} {j:Nat} {e:En} (h:F[j]?=some e):wS C F key (j+1)=if e.key=key then addT C.n C.s e.time (wS C F key j) else wS C F key j:=by
 obtain ⟨h1,rfl⟩:=List.getElem?_eq_some_iff.1 h
 unfold wS
 rw [List.take_succ_eq_append_getElem h1,List.filter_append,List.map_append]
 by_cases hk:F[j].key=key
 ·rw [if_pos hk]
  unfold stsOf
  rw [List.foldl_append]
  simp [hk]
 ·rw [if_neg hk]
  simp [hk]
theorem wS_sts {C:Cfg} {F:List En} {key:ByteArray} (h:∀e ∈ F,0≤e.time∧e.time≤1000000):∀j,j≤F.length→Sts (wS C F key j)
 | 0,_=>by simpa [wS,stsOf] using sts_nil
 | j+1,hj=>by
   have hp:F[j]?=some F[j]:=List.getElem?_eq_getElem (by omega)
   rw [wS_next hp]
   split
   ·exact Sts.addT (h _ (List.mem_of_getElem? hp)).2 (wS_sts h j (by omega))
   ·exact wS_sts h j (by omega)
set_option maxRecDepth 100000 in
set_option maxHeartbeats 2000000 in
theorem refWindows_any {w:World} {ρ:Nat→Nat} {yb:Nat} {C:Cfg} {time:Int} {rs:List Rf} {P:List Pt} {wv:Wks} {fv sv lv:Value} (h:RefAt w ρ yb C time rs P wv fv sv lv) (hP:P.length≤1000000) (F:List En) (hF:F.map enFo=wv.fo) (hl:F.length≤1000000) (hR:∀e ∈ F,(ofShard P e.shard)[e.place]?=some (enPt e)∧0≤e.time∧e.time≤1000000) (s:ByteArray) (hs:s.size≤maxLen) (hk:keyB s=true) (hC:1≤C.s∧C.s≤100∧1≤C.n∧C.n≤100) :
 Calls Tryz.prog 36 #[.pointer (some ⟨yb,0,none⟩),.string s] w fun e w'=>∃v,e=.returned (.tuple #[v,.int .i64 0])∧w'.ownsRow w.heap.size 3 1 v (wS C F s F.length).length ((wS C F s F.length).map (Value.int .i64))∧Below w.heap.size w w':=by
 have HK:=hide (refIsKey_any s w hs)
 rw [hk] at HK
 have hyb:=lt_of_heap h.blk
 obtain ⟨fa,fc,hfv,hfc⟩:=h.foldsAt
 have hFl:wv.fo.length=F.length:=by rw [←hF];simp
 rw [hFl] at hfv
 have HFc:Hid (∀W,Below w.heap.size w W→∀(j:Nat) (e:En),F[j]?=some e→∃fb,fa=some ⟨fb,0,none⟩∧W.cell? ⟨fb,j*2,none⟩=some (.int .i64 e.shard)∧W.cell? ⟨fb,j*2+1,none⟩=some (.int .i64 e.place)):=fun W hW j e hj=>by
  obtain ⟨fb,e1,e2,e3,e4⟩:=hfc j (enFo e) (by rw [←hF,List.getElem?_map,hj];rfl)
  exact ⟨fb,e1,(hW.cell (p:=⟨fb,j*2,none⟩) e2).trans e3,(hW.cell (p:=⟨fb,j*2+1,none⟩) e2).trans e4⟩
 have HYc:Hid (∀W,Below w.heap.size w W→W.cell? ⟨yb,3,none⟩=some (.int .i64 C.n)∧W.cell? ⟨yb,4,none⟩=some (.int .i64 C.s)∧W.cell? ⟨yb,10,none⟩=some (.slice fa F.length fc)):=fun W hW =>
  ⟨(hW.cell (p:=⟨yb,3,none⟩) hyb).trans (cell_of h.blk 3),(hW.cell (p:=⟨yb,4,none⟩) hyb).trans (cell_of h.blk 4),(hW.cell (p:=⟨yb,10,none⟩) hyb).trans (by rw [←hfv];exact cell_of h.blk 10)⟩
 have HRec:Hid (∀W,Below w.heap.size w W→∀k:Nat,Calls Tryz.prog 43 #[.pointer (some ⟨yb,0,none⟩),.int .i64 k] W fun e w'=>∃a cap,e=.returned (.slice a (ofShard P k).length cap)∧w'.ownsRow W.heap.size 144 4 (.slice a (ofShard P k).length cap) (ofShard P k).length (rowPt (ofShard P k))∧Below W.heap.size W w'):=fun W hW k =>
  records_any (h.keeps (Keeps.of_below hW) (fun _ hk=>Or.inr hk) (ρ':=ρ) (fun _ _=>rfl)) hP k
 have HR:=hide hR
 have HSt:=hide (wS_sts (C:=C) (key:=s) (fun e he=>(hR e he).2))
 have HNx:Hid (∀(j:Nat) (e:En),F[j]?=some e→wS C F s (j+1)=if e.key=s then addT C.n C.s e.time (wS C F s j) else wS C F s j):=fun j e hj=>wS_next hj
 have HW0:Hid (wS C F s 0=[]):=by unfold Hid wS;simp [stsOf]
 generalize wS C F s=WS at *
 clear h hfc hF hR hk hfv hFl
 go_enter Tryz.func36,Tryz.ntmps36
 go_wp2_with (go_at_call 56;refine (uh HK).mono ?_;rintro e w' ⟨rfl,rfl⟩)
 go_loopw [7,8] (fun o i wr=>∃(j cp:Nat) (a:Option Addr),j≤F.length∧i=.int .i64 j∧o=.slice a (WS j).length cp∧wr.ownsRow w.heap.size 3 1 (.slice a (WS j).length cp) (WS j).length ((WS j).map (Value.int .i64))∧Below w.heap.size w wr) (fun _ i _=>F.length - (intOf i).toNat)
 case atStart=>exact ⟨0,0,none,Nat.zero_le _,rfl,by rw [uh HW0];rfl,by rw [uh HW0];exact World.ownsRow_nil _ _ _ _,Below.refl _ _⟩
 case round =>
  obtain ⟨j,cp,a,hj,rfl,rfl,hown,hB⟩:=hrel
  obtain ⟨c3,c4,c10⟩:=uh HYc wr hB
  by_cases hlt:j<F.length
  ·obtain ⟨e,he⟩:∃e,F[j]?=some e:=⟨F[j],List.getElem?_eq_getElem hlt⟩
   obtain ⟨fb,rfl,f0,f1⟩:=uh HFc wr hB j e he
   obtain ⟨hrc,ht0,ht1⟩:=uh HR e (List.mem_of_getElem? he)
   have HB:=hide hB
   have HO:=hide hown
   have HRc:=hide hrc
   have HNj:=hide (uh HNx j e he)
   have HStj:=hide (uh HSt j hj)
   clear hB hown hrc he
   generalize WS j=L at *
   go_wp2_with fail
   have A1:Hid (Below w.heap.size w (wr.alloc (.cells #[.int .i64 e.shard,.int .i64 e.place] 124))):=(uh HB).alloc (uh HB).size _
   have N1:=heap_alloc_new wr (.cells #[.int .i64 e.shard,.int .i64 e.place] 124)
   have z1:(wr.alloc (.cells #[.int .i64 e.shard,.int .i64 e.place] 124)).heap.size=wr.heap.size+1:=by simp
   have HO1:=hide ((uh HO).alloc (.cells #[.int .i64 e.shard,.int .i64 e.place] 124))
   generalize wr.alloc (.cells #[.int .i64 e.shard,.int .i64 e.place] 124)=W1 at *
   refine (uh HRec W1 (uh A1) e.shard).mono ?_
   rintro e9 w3 ⟨ra,rcp,rfl,hrow,hb3⟩
   obtain ⟨pb,rfl,hpb,hpc⟩:=recs_cell hrow (uh HRc)
   have p0:w3.cell? ⟨pb,e.place*4,none⟩=some (.int .i64 e.shard):=hpc 0 (by omega)
   have p1:w3.cell? ⟨pb,e.place*4+1,none⟩=some (.string e.key):=hpc 1 (by omega)
   have p2:w3.cell? ⟨pb,e.place*4+2,none⟩=some (.int .i64 e.value):=hpc 2 (by omega)
   have p3:w3.cell? ⟨pb,e.place*4+3,none⟩=some (.int .i64 e.time):=hpc 3 (by omega)
   have hpl:e.place<(ofShard P e.shard).length:=(List.getElem?_eq_some_iff.1 (uh HRc)).1
   have M1:=(hb3.block _ (lt_of_heap N1)).trans N1
   have g1:w3.cell? ⟨wr.heap.size,1,none⟩=some (.int .i64 e.place):=cell_of M1 1
   have HB3:=hide ((uh A1).trans (hb3.mono (uh A1).size))
   have HO3:Hid (w3.ownsRow w.heap.size 3 1 (.slice a L.length cp) L.length (L.map (Value.int .i64))):=ownsRow_of_block (uh HO1) fun q hq=>hb3.block q ((uh HO1).lt q hq).2
   have hple:(ofShard P e.shard).length≤1000000:=by have:=ofShard_le P e.shard;omega
   generalize (ofShard P e.shard).length=rn at *
   clear hrow hb3 hpc M1 N1 HO1 HO A1 HB HRc c3 c4 c10 f0 f1 z1
   by_cases hke:e.key=s
   ·have HNe:Hid (WS (j+1)=addT C.n C.s e.time L):=by unfold Hid;rw [uh HNj,if_pos hke]
    have hn3:(e.key.toList == s.toList)=true:=by simp [hke]
    clear hke HNj
    go_wp2
    have A4:Hid (Below w.heap.size w (w3.alloc (.cells #[.int .i64 e.shard,.string e.key,.int .i64 e.value,.int .i64 e.time] 144))):=(uh HB3).alloc (uh HB3).size _
    have N4:=heap_alloc_new w3 (.cells #[.int .i64 e.shard,.string e.key,.int .i64 e.value,.int .i64 e.time] 144)
    have z4:(w3.alloc (.cells #[.int .i64 e.shard,.string e.key,.int .i64 e.value,.int .i64 e.time] 144)).heap.size=w3.heap.size+1:=by simp
    have HO4:=hide ((uh HO3).alloc (.cells #[.int .i64 e.shard,.string e.key,.int .i64 e.value,.int .i64 e.time] 144))
    generalize w3.alloc (.cells #[.int .i64 e.shard,.string e.key,.int .i64 e.value,.int .i64 e.time] 144)=V at *
    have y3:V.cell? ⟨w3.heap.size,3,none⟩=some (.int .i64 e.time):=cell_of N4 3
    obtain ⟨d3,d4,_⟩:=uh HYc V (uh A4)
    have hbx:w3.heap.size<V.heap.size:=by omega
    generalize w3.heap.size=bx at *
    generalize e.time=t at *
    clear N4 z4 HO3 HB3 p0 p1 p2 p3 g1 hn3
    obtain ⟨fs1,fs2,fs3,fs4⟩:=fstW_is (wd:=C.n) (sl:=C.s) (t:=t) hC.1 hC.2.2.1 ht0
    have HFin:Hid (∀q:Nat,(∀i:Nat,i<q→fstW C.n C.s t+i*C.s≤t)→t<fstW C.n C.s t+q*C.s→wF C.n C.s t q L=addT C.n C.s t L):=fun q h1 h2=>wF_is hC.1 hC.2.2.1 ⟨ht0,ht1⟩ (uh HStj) q h1 h2
    have HSw:Hid (∀q:Nat,(∀i:Nat,i<q→fstW C.n C.s t+i*C.s≤t)→Sts (wF C.n C.s t q L)):=fun q h1=>Sts.wF hC.1 hC.2.2.1 ⟨ht0,ht1⟩ (uh HStj) q h1
    have HWn:Hid (∀q:Nat,wF C.n C.s t (q+1) L=if t<fstW C.n C.s t+q*C.s+C.n then ins (fstW C.n C.s t+q*C.s) (wF C.n C.s t q L) else wF C.n C.s t q L):=fun q=>rfl
    have HW0':Hid (wF C.n C.s t 0 L=L):=rfl
    have HFst:Hid (fstW C.n C.s t=if C.n+C.s<t then (t - C.n - C.s) / C.s*C.s else 0):=rfl
    generalize fstW C.n C.s t=fst at *
    generalize wF C.n C.s t=wf at *
    by_cases hgt:C.n+C.s<t
    ·have HFs:Hid ((t - C.n - C.s) / C.s*C.s=fst):=by unfold Hid;rw [uh HFst,if_pos hgt]
     have hq0:0≤(t - C.n - C.s) / C.s:=Int.ediv_nonneg (by omega) (by omega)
     have hq1:(t - C.n - C.s) / C.s≤t - C.n - C.s:=Int.ediv_le_self _ (by omega)
     have hsz:¬C.s=0:=by omega
     have hw1:IntKind.i64.wrap ((t - C.n - C.s) / C.s)=(t - C.n - C.s) / C.s:=by rw [IntKind.wrap_i64];omega
     have hw2:IntKind.i64.wrap ((t - C.n - C.s) / C.s*C.s)=(t - C.n - C.s) / C.s*C.s:=by have:=uh HFs;rw [IntKind.wrap_i64];omega
     go_quiet (fail)
     go_wp2
     go_quiet (fail)
     go_wp2
     go_loopw [7,13] (fun o i wr=>∃(q cp2:Nat) (a2:Option Addr) (st:Int),i=.int .i64 st∧st=fst+q*C.s∧st≤t+100∧(∀i:Nat,i<q→fst+i*C.s≤t)∧o=.slice a2 (wf q L).length cp2∧wr.ownsRow w.heap.size 3 1 (.slice a2 (wf q L).length cp2) (wf q L).length ((wf q L).map (Value.int .i64))∧Below w.heap.size w wr∧wr.cell? ⟨bx,3,none⟩=some (.int .i64 t)∧bx<wr.heap.size) (fun _ i _=>(t+1000 - intOf i).toNat)
     case atStart=>exact ⟨0,cp,a,fst,by rw [uh HFs],by simp,by omega,fun i hi=>by omega,by rw [uh HW0'],by rw [uh HW0'];exact ownsRow_of_block (uh HO4) fun _ _=>rfl,⟨(uh A4).os,(uh A4).tape,(uh A4).output,(uh A4).size,(uh A4).block⟩,y3,hbx⟩
     case round =>
      obtain ⟨q,cp2,a2,st,rfl,hst,hst2,hqs,rfl,hown,hB,y3,hbx⟩:=hrel
      obtain ⟨d3,d4,_⟩:=uh HYc wr hB
      have HB5:=hide hB
      have BN:Hid (∀q,Below w.heap.size w (wr.drewN q)):=fun q=>⟨hB.os,hB.tape,hB.output,hB.size,hB.block⟩
      have HO5:=hide hown
      have HQ:=hide hqs
      have HStE:=hide hst
      have hst0:0≤st:=by have:0≤(q:Int)*C.s:=Int.mul_nonneg (by omega) (by omega);omega
      have HNq:=hide (uh HWn q)
      rw [←hst] at HNq
      have HSq:=hide (uh HSw q hqs)
      clear hB hown hqs hst
      by_cases hle:st≤t
      ·have HQn:Hid (∀i:Nat,i<q+1→fst+i*C.s≤t):=fun i hi=>by
        by_cases e:i=q
        ·subst e;have:=uh HStE;omega
        ·exact uh HQ i (by omega)
       have HSn:Hid (st+C.s=fst+((q+1:Nat):Int)*C.s):=by
        unfold Hid
        rw [uh HStE,show ((q+1:Nat):Int)=(q:Int)+1 by omega,Int.add_mul,Int.one_mul]
        omega
       generalize wf q L=K at *
       by_cases hin:t<st+C.n
       ·have HP:=fun q=>hide (refPlaced_any K st a2 cp2 (wr.drewN q) (uh HSq) (ownsRow_base (ownsRow_of_block (w':=wr.drewN q) (uh HO5) fun _ _=>rfl) (Nat.zero_le _)))
        have HNi:Hid (wf (q+1) L=ins st K):=by unfold Hid;rw [uh HNq,if_pos hin]
        go_wp2
        go_quiet (fail)
        go_wp2_with fail
        refine (uh (HP _)).mono ?_
        rintro e9 w8 ⟨v,rfl,hv,hb8⟩
        obtain ⟨a3,cp3,rfl⟩:=ownsRow_len hv
        have HB8:Hid (Below w.heap.size w w8):=(uh BN _).trans (hb8.mono (uh HB5).size)
        have y8:=(hb8.cell (p:=⟨bx,3,none⟩) hbx).trans y3
        have hbx8:bx<w8.heap.size:=by have:wr.heap.size≤w8.heap.size:=hb8.size;omega
        obtain ⟨d3,d4,_⟩:=uh HYc w8 (uh HB8)
        have HV:=hide (ownsRow_base hv (uh HB5).size)
        clear hv hb8
        go_wp2
        go_roundw
        case rel=>exact ⟨q+1,cp3,a3,_,rfl,uh HSn,by omega,uh HQn,by rw [uh HNi],by rw [uh HNi];exact uh HV,uh HB8,y8,hbx8⟩
        case measure=>simp [intOf];omega
       ·have HNi:Hid (wf (q+1) L=K):=by unfold Hid;rw [uh HNq,if_neg hin]
        go_wp2
        go_quiet (fail)
        go_wp2
        go_roundw
        case rel=>exact ⟨q+1,cp2,a2,_,rfl,uh HSn,by omega,uh HQn,by rw [uh HNi],by rw [uh HNi];exact ownsRow_of_block (uh HO5) fun _ _=>rfl,uh BN _,y3,hbx⟩
        case measure=>simp [intOf];omega
      ·have HE:Hid (wf q L=addT C.n C.s t L):=uh HFin q (uh HQ) (by have:=uh HStE;omega)
       generalize wf q L=K at *
       go_wp2
       go_roundw
       case rel=>exact ⟨j+1,cp2,a2,by omega,by go_num,by rw [uh HNe,uh HE],by rw [uh HNe,←uh HE];exact uh HO5,uh HB5⟩
       case measure=>simp [intOf];omega
    ·have HFs:Hid ((0:Int)=fst):=by unfold Hid;rw [uh HFst,if_neg hgt]
     go_quiet (fail)
     go_wp2
     go_loopw [7,13] (fun o i wr=>∃(q cp2:Nat) (a2:Option Addr) (st:Int),i=.int .i64 st∧st=fst+q*C.s∧st≤t+100∧(∀i:Nat,i<q→fst+i*C.s≤t)∧o=.slice a2 (wf q L).length cp2∧wr.ownsRow w.heap.size 3 1 (.slice a2 (wf q L).length cp2) (wf q L).length ((wf q L).map (Value.int .i64))∧Below w.heap.size w wr∧wr.cell? ⟨bx,3,none⟩=some (.int .i64 t)∧bx<wr.heap.size) (fun _ i _=>(t+1000 - intOf i).toNat)
     case atStart=>exact ⟨0,cp,a,fst,by rw [uh HFs],by simp,by omega,fun i hi=>by omega,by rw [uh HW0'],by rw [uh HW0'];exact ownsRow_of_block (uh HO4) fun _ _=>rfl,⟨(uh A4).os,(uh A4).tape,(uh A4).output,(uh A4).size,(uh A4).block⟩,y3,hbx⟩
     case round =>
      obtain ⟨q,cp2,a2,st,rfl,hst,hst2,hqs,rfl,hown,hB,y3,hbx⟩:=hrel
      obtain ⟨d3,d4,_⟩:=uh HYc wr hB
      have HB5:=hide hB
      have BN:Hid (∀q,Below w.heap.size w (wr.drewN q)):=fun q=>⟨hB.os,hB.tape,hB.output,hB.size,hB.block⟩
      have HO5:=hide hown
      have HQ:=hide hqs
      have HStE:=hide hst
      have hst0:0≤st:=by have:0≤(q:Int)*C.s:=Int.mul_nonneg (by omega) (by omega);omega
      have HNq:=hide (uh HWn q)
      rw [←hst] at HNq
      have HSq:=hide (uh HSw q hqs)
      clear hB hown hqs hst
      by_cases hle:st≤t
      ·have HQn:Hid (∀i:Nat,i<q+1→fst+i*C.s≤t):=fun i hi=>by
        by_cases e:i=q
        ·subst e;have:=uh HStE;omega
        ·exact uh HQ i (by omega)
       have HSn:Hid (st+C.s=fst+((q+1:Nat):Int)*C.s):=by
        unfold Hid
        rw [uh HStE,show ((q+1:Nat):Int)=(q:Int)+1 by omega,Int.add_mul,Int.one_mul]
        omega
       generalize wf q L=K at *
       by_cases hin:t<st+C.n
       ·have HP:=fun q=>hide (refPlaced_any K st a2 cp2 (wr.drewN q) (uh HSq) (ownsRow_base (ownsRow_of_block (w':=wr.drewN q) (uh HO5) fun _ _=>rfl) (Nat.zero_le _)))
        have HNi:Hid (wf (q+1) L=ins st K):=by unfold Hid;rw [uh HNq,if_pos hin]
        go_wp2
        go_quiet (fail)
        go_wp2_with fail
        refine (uh (HP _)).mono ?_
        rintro e9 w8 ⟨v,rfl,hv,hb8⟩
        obtain ⟨a3,cp3,rfl⟩:=ownsRow_len hv
        have HB8:Hid (Below w.heap.size w w8):=(uh BN _).trans (hb8.mono (uh HB5).size)
        have y8:=(hb8.cell (p:=⟨bx,3,none⟩) hbx).trans y3
        have hbx8:bx<w8.heap.size:=by have:wr.heap.size≤w8.heap.size:=hb8.size;omega
        obtain ⟨d3,d4,_⟩:=uh HYc w8 (uh HB8)
        have HV:=hide (ownsRow_base hv (uh HB5).size)
        clear hv hb8
        go_wp2
        go_roundw
        case rel=>exact ⟨q+1,cp3,a3,_,rfl,uh HSn,by omega,uh HQn,by rw [uh HNi],by rw [uh HNi];exact uh HV,uh HB8,y8,hbx8⟩
        case measure=>simp [intOf];omega
       ·have HNi:Hid (wf (q+1) L=K):=by unfold Hid;rw [uh HNq,if_neg hin]
        go_wp2
        go_quiet (fail)
        go_wp2
        go_roundw
        case rel=>exact ⟨q+1,cp2,a2,_,rfl,uh HSn,by omega,uh HQn,by rw [uh HNi],by rw [uh HNi];exact ownsRow_of_block (uh HO5) fun _ _=>rfl,uh BN _,y3,hbx⟩
        case measure=>simp [intOf];omega
      ·have HE:Hid (wf q L=addT C.n C.s t L):=uh HFin q (uh HQ) (by have:=uh HStE;omega)
       generalize wf q L=K at *
       go_wp2
       go_roundw
       case rel=>exact ⟨j+1,cp2,a2,by omega,by go_num,by rw [uh HNe,uh HE],by rw [uh HNe,←uh HE];exact uh HO5,uh HB5⟩
       case measure=>simp [intOf];omega
   ·have HNe:Hid (WS (j+1)=L):=by unfold Hid;rw [uh HNj,if_neg hke]
    have hn3:(e.key.toList == s.toList)=false:=by
     rw [beq_eq_false_iff_ne]
     exact fun hh=>hke (key_of hh)
    clear hke HNj
    go_wp2
    go_roundw
    case rel=>exact ⟨j+1,cp,a,by omega,by go_num,by rw [uh HNe],by rw [uh HNe];exact (uh HO3).alloc _,(uh HB3).alloc (uh HB3).size _⟩
    case measure=>simp [intOf];omega
  ·have e:j=F.length:=by omega
   subst e
   have HB:=hide hB
   have HO:=hide hown
   clear hB hown
   go_wp2
   refine bodyPost_ret (v:=.tuple #[.slice a (WS F.length).length cp,.int .i64 0]) ?_ rfl ⟨_,rfl,uh HO,uh HB⟩
   simp [results,Tryz.results36,go_sem]
end Go.Proofs.YtpnkmnmchdabkaaGreat
