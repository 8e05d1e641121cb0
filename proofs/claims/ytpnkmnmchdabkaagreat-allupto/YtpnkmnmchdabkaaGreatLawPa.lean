import Derived.Test.YtpnkmnmchdabkaaGreatM49
import Derived.Test.YtpnkmnmchdabkaaGreatM28
namespace Go.Proofs.YtpnkmnmchdabkaaGreat
open Go.RowKit
attribute [local go_sem ↓] Go.wp_at_zero Go.wp_at_succ
def Ready2 (w:World) (CA CB:Cfg) (wr:World):Prop:=∃(A B:GI) (rb rc:Nat),A.C=CA∧B.C=CB∧Two (fun k=>k<w.heap.size∨k=rb) w.heap.size (.slice (some ⟨rb,0,none⟩) 2 rc) A.sb A.gb A.yb A.C B.sb B.gb B.yb B.C 0 wr∧Below w.heap.size w wr∧wr.cell? ⟨rb,0,none⟩=some (.pointer (some ⟨A.sb,0,none⟩))∧wr.cell? ⟨rb,1,none⟩=some (.pointer (some ⟨B.sb,0,none⟩))
theorem Mk2.ready {w wr:World} {L:List GI} {a:Option Addr} {cap:Nat} {CA CB:Cfg} (h:Mk2 w L a cap wr) (hc:L.map GI.C=[CA,CB]):Ready2 w CA CB wr:=by
 match L,hc,h with
 | [A,B],hc,h =>
   simp at hc
   obtain ⟨p1,p2⟩:=h.one A rfl
   obtain ⟨p3,p4⟩:=h.two A B rfl rfl
   have hrow:=h.row
   obtain ⟨rb,rc,cur,hv1,_,hcb,_⟩:=ownsRow_shape hrow (by simp)
   injection hv1 with e1 _ e3
   subst e1 e3
   refine ⟨A,B,rb,cap,hc.1,hc.2,?_,h.below,?_,?_⟩
   ·refine Two.setup h.blk p1 p3 p4 (fun k hk=>?_)
    rcases hk with hk | rfl
    ·have:=h.below.size
     have u1:=p1.up
     have u2:=p1.lw
     exact ⟨by omega,by omega,p1.zero (Or.inl (by omega)),p3.zero (Or.inl (by omega))⟩
    ·exact ⟨lt_of_heap hcb,h.rw0 _ rfl,h.free A (by simp) _ rfl,h.free B (by simp) _ rfl⟩
   ·have:=World.ownsRow.cellAt hrow 0 (by simp)
    rw [this];rfl
   ·have:=World.ownsRow.cellAt hrow 1 (by simp)
    rw [this];rfl
 | [],hc,_=>simp at hc
 | [_],hc,_=>simp at hc
 | _ :: _ :: _ :: _,hc,_=>simp at hc
def TwoU (U w:World) (A B:GI) (rb rc N:Nat) (wr:World):Prop:=Two (fun k=>k<w.heap.size∨k=rb) w.heap.size (.slice (some ⟨rb,0,none⟩) 2 rc) A.sb A.gb A.yb A.C B.sb B.gb B.yb B.C N wr∧Keeps (fun k=>¬(k<w.heap.size∨k=rb)) U wr∧(w.heap.size≤U.heap.size∧rb<U.heap.size)
theorem TwoU.stands {U w:World} {A B:GI} {rb rc N:Nat} {wr:World} (h:TwoU U w A B rb rc N wr) {b i:Nat} (hb:b<w.heap.size∨b=rb):wr.cell? ⟨b,i,none⟩=U.cell? ⟨b,i,none⟩ :=
 World.cell?_of_block (w:=U) (h.2.1.block b (by have:=h.2.2;omega) (fun q=>q hb))
theorem TwoU.calls {U w:World} {A B:GI} {rb rc N M:Nat} {wr:World} (h:TwoU U w A B rb rc N wr) (hNM:N≤M) (wh:Bool) {F:Nat} {args:Array Value} {v:Value}
 (hc:∀K',(∀k,(k<w.heap.size∨k=rb)→K' k)→St wr K' w.heap.size (if wh=true then B.sb else A.sb) (if wh=true then B.gb else A.gb) (if wh=true then B.yb else A.yb) (if wh=true then B.C else A.C) (.slice (some ⟨rb,0,none⟩) 2 rc) N wr→Calls Tryz.prog F args wr fun e w'=>e=.returned v∧St wr K' w.heap.size (if wh=true then B.sb else A.sb) (if wh=true then B.gb else A.gb) (if wh=true then B.yb else A.yb) (if wh=true then B.C else A.C) (.slice (some ⟨rb,0,none⟩) 2 rc) M w') :
 Calls Tryz.prog F args wr fun e w'=>e=.returned v∧TwoU U w A B rb rc M w':=by
 obtain ⟨h1,h2,h3⟩:=h
 have hk:∀w',Keeps (fun k=>¬(k<w.heap.size∨k=rb)) wr w'→Keeps (fun k=>¬(k<w.heap.size∨k=rb)) U w':=fun w' q=>h2.trans q
 cases wh
 ·exact (h1.call hNM (fun K' hK hs=>hc K' hK hs)).mono fun e w' q=>⟨q.1,q.2.1,hk w' q.2.2,h3⟩
 ·exact (h1.swap.call hNM (fun K' hK hs=>hc K' hK hs)).mono fun e w' q=>⟨q.1,q.2.1.swap,hk w' q.2.2,h3⟩
theorem TwoU.below {U w:World} {A B:GI} {rb rc N:Nat} {wr W:World} (h:TwoU U w A B rb rc N wr) (hb:Below wr.heap.size wr W):TwoU U w A B rb rc N W:=by
 obtain ⟨h1,h2,h3⟩:=h
 exact ⟨h1.below hb,keepsK h2 hb,h3⟩
theorem TwoU.mono {U w:World} {A B:GI} {rb rc N M:Nat} {wr:World} (h:TwoU U w A B rb rc N wr) (hM:N≤M):TwoU U w A B rb rc M wr:=⟨h.1.mono hM,h.2⟩
theorem TwoU.kept {U w:World} {A B:GI} {rb rc N:Nat} {wr:World} (h:TwoU U w A B rb rc N wr):Calls Tryz.prog 11 #[.pointer (some ⟨w.heap.size,0,none⟩)] wr fun e w'=>e=.returned (.bool true)∧TwoU U w A B rb rc N w' :=
 h.calls (Nat.le_refl _) false (fun _ _ hs=>hs.kept)
theorem TwoU.under {U w:World} {A B:GI} {rb rc N:Nat} {wr:World} (h:TwoU U w A B rb rc N wr):Below w.heap.size U wr :=
 ⟨h.2.1.os,h.2.1.tape,h.2.1.output,h.2.1.size,fun k hk=>h.2.1.block k (by have:=h.2.2;omega) (fun q=>q (Or.inl hk))⟩
set_option maxRecDepth 100000 in
set_option maxHeartbeats 16000000 in
theorem play_all (w:World) (CA CB:Cfg) (cb n cap:Nat) (a0:Option Addr) (os:List Opn) (hn:n≤149798) (hcb:cb<w.heap.size) (hos:IsOps w a0 n os)
 (hcc:∀(i:Nat) (C:Cfg),[CA,CB][i]?=some C→w.cell? ⟨cb,i*6,none⟩=some (.int .i64 C.a)∧w.cell? ⟨cb,i*6+1,none⟩=some (.int .i64 C.l)∧w.cell? ⟨cb,i*6+2,none⟩=some (.int .i64 C.b)∧w.cell? ⟨cb,i*6+3,none⟩=some (.int .i64 C.n)∧w.cell? ⟨cb,i*6+4,none⟩=some (.int .i64 C.s)∧w.cell? ⟨cb,i*6+5,none⟩=some (.int .i64 C.t)) :
 Calls Tryz.prog 7 #[.slice (some ⟨cb,0,none⟩) 2 2,.slice a0 n cap,.int .i64 16] w fun e w'=>e=.returned (.bool true)∧Below w.heap.size w w':=by
 have HOS:=hide hos
 have HCC:=hide hcc
 obtain ⟨i5,hi5,y50,y51,y52⟩:=info_parts infoSP
 clear hos hcc
 go_enter Tryz.func7,Tryz.ntmps7
 go_wp2
 have HM0:=hide (Mk2.zero (w:=w))
 generalize w.alloc (.cells #[.slice none 0 0,.slice none 0 0,.slice none 0 0,.slice none 0 0,.slice none 0 0,.slice none 0 0,.slice none 0 0,.int .i64 0] 36)=V at *
 go_loopw [9] (fun i wr=>∃(L:List GI) (a:Option Addr) (rcap:Nat),L.length≤2∧i=.int .i64 L.length∧L.map GI.C=[CA,CB].take L.length∧Mk2 w L a rcap wr) (fun i _=>2 - (intOf i).toNat)
 case atStart=>exact ⟨[],none,0,by simp,rfl,rfl,uh HM0⟩
 case round =>
  obtain ⟨L,a,rcap,hL,rfl,hLC,hM⟩:=hrel
  by_cases hlt:L.length<2
  ·obtain ⟨C,hC⟩:∃C,[CA,CB][L.length]?=some C:=⟨_,List.getElem?_eq_getElem (by simpa using hlt)⟩
   obtain ⟨k0,k1,k2,k3,k4,k5⟩:=uh HCC L.length C hC
   have hBl:=hM.below
   have hwz:=hBl.size
   have k0:=(hBl.cell (p:=⟨cb,L.length*6,none⟩) hcb).trans k0
   have k1:=(hBl.cell (p:=⟨cb,L.length*6+1,none⟩) hcb).trans k1
   have k2:=(hBl.cell (p:=⟨cb,L.length*6+2,none⟩) hcb).trans k2
   have k3:=(hBl.cell (p:=⟨cb,L.length*6+3,none⟩) hcb).trans k3
   have k4:=(hBl.cell (p:=⟨cb,L.length*6+4,none⟩) hcb).trans k4
   have k5:=(hBl.cell (p:=⟨cb,L.length*6+5,none⟩) hcb).trans k5
   have hLC2:(L.map GI.C) ++ [C]=[CA,CB].take (L.length+1):=by
    rw [hLC,List.take_succ_eq_append_getElem (by simpa using hlt)]
    congr 2
    exact (List.getElem?_eq_some_iff.1 hC).2.symm
   have HLC:=hide hLC2
   have HBl:=hide hBl
   have HM:=hide hM
   have hll:L.length≤1:=by omega
   have hll2:(L.length:Int)<2:=by omega
   have hcbr:cb<wr.heap.size:=by omega
   clear hBl hM hLC hLC2 hC HM0
   generalize hln:L.length=ln at *
   cases hv:validB C.a C.l C.b C.n C.s C.t with
   | false =>
     have HN:=fun w=>hide (new_bad C w hv)
     have HR:=fun w=>hide (refNew_bad C w hv)
     unfold Cfg.arr at HN HR
     go_wp2_with (go_at_call 8;refine (uh (HN _)).mono ?_;rintro e w1 ⟨rfl,hb⟩;have k0:=(hb.cell (p:=⟨cb,ln*6,none⟩) hcbr).trans k0;have k1:=(hb.cell (p:=⟨cb,ln*6+1,none⟩) hcbr).trans k1;have k2:=(hb.cell (p:=⟨cb,ln*6+2,none⟩) hcbr).trans k2;have k3:=(hb.cell (p:=⟨cb,ln*6+3,none⟩) hcbr).trans k3;have k4:=(hb.cell (p:=⟨cb,ln*6+4,none⟩) hcbr).trans k4;have k5:=(hb.cell (p:=⟨cb,ln*6+5,none⟩) hcbr).trans k5;have HB1:=hide hb;clear hb)
     refine (uh (HR _)).mono ?_
     rintro e w2 ⟨rfl,hb2⟩
     have HB2:Hid (Below w.heap.size w w2):=(uh HBl).trans (((uh HB1).mono hwz).trans (hb2.mono (by have:=(uh HB1).size;omega)))
     clear hb2
     go_wp2
     go_ret
     exact ⟨rfl,uh HB2⟩
   | true =>
     have hCa:=((validB_iff _ _ _ _ _ _).1 hv).1
     have HV:=hide hv
     have HN:=fun w=>hide (new_good C w hv)
     have HR:=fun w=>hide (refNew_good C w hv hCa)
     unfold Cfg.arr at HN HR
     clear hv
     go_wp2_with (go_at_call 8;refine (uh (HN _)).mono ?_;rintro e w1 ⟨gb,g,mb,kn,rfl,hgb,hg,hmb,n1,n2,n3,hkn0,q1,q2,q3,hb⟩;have HQ0:=hide (And.intro hgb (And.intro hg (And.intro hmb (And.intro n1 (And.intro n2 (And.intro n3 hkn0))))));have k0:=(hb.cell (p:=⟨cb,ln*6,none⟩) hcbr).trans k0;have k1:=(hb.cell (p:=⟨cb,ln*6+1,none⟩) hcbr).trans k1;have k2:=(hb.cell (p:=⟨cb,ln*6+2,none⟩) hcbr).trans k2;have k3:=(hb.cell (p:=⟨cb,ln*6+3,none⟩) hcbr).trans k3;have k4:=(hb.cell (p:=⟨cb,ln*6+4,none⟩) hcbr).trans k4;have k5:=(hb.cell (p:=⟨cb,ln*6+5,none⟩) hcbr).trans k5;have HB1:=hide hb;have HQ1:=hide q1;have HQ2:=hide q2;have HQ3:=hide q3;clear hb q1 q2 q3 n1 n2 n3 hkn0 hgb hg hmb)
     refine (uh (HR _)).mono ?_
     rintro e w2 ⟨yb,g2,wv,rfl,hN2⟩
     obtain ⟨vb,vc,vcur,hvv,hvb0,hvb,_⟩:=ownsRow_shape hN2.wk (by have:=hCa;omega)
     subst hvv
     have hvbl:=lt_of_heap hvb
     have HN2:=hide hN2
     clear hvb
     have hs1:=(uh HB1).size
     have hs2:=hN2.below.size
     have hwl:=lt_of_heap (uh HM).blk
     have W2:w2.heap[w.heap.size]?=some (.cells #[.slice a L.length rcap,.slice none 0 0,.slice none 0 0,.slice none 0 0,.slice none 0 0,.slice none 0 0,.slice none 0 0,.int .i64 0] 36 (0,0)):=by
      rw [hN2.below.block _ (by omega),(uh HB1).block _ hwl];exact (uh HM).blk
     have z0:w2.cell? ⟨w.heap.size,0,none⟩=some (.slice a L.length rcap):=cell_of W2 0
     have zf:=frozen_of W2 0
     have R2:w2.ownsRow w.heap.size 44 1 (.slice a L.length rcap) L.length (L.map GI.ptr):=ownsRow_of_block (uh HM).row fun k hk=>by
      have:=((uh HM).row.lt k hk).2
      rw [hN2.below.block k (by omega),(uh HB1).block k this]
     have HR2:=hide R2
     rw [hln] at z0
     clear hN2 W2 k0 k1 k2 k3 k4 k5 R2
     have x0:((w2.alloc (.cells #[.pointer (some ⟨gb,0,none⟩),.pointer (some ⟨yb,0,none⟩)] 46)).alloc (.cells #[.pointer (some ⟨w2.heap.size,0,none⟩)] 44)).heap.size=w2.heap.size+2:=by simp
     have HRr:Hid (((w2.alloc (.cells #[.pointer (some ⟨gb,0,none⟩),.pointer (some ⟨yb,0,none⟩)] 46)).alloc (.cells #[.pointer (some ⟨w2.heap.size,0,none⟩)] 44)).ownsRow w.heap.size 44 1 (.slice a ln rcap) ln (L.map GI.ptr)):=by
      have:=(uh HR2).alloc (.cells #[.pointer (some ⟨gb,0,none⟩),.pointer (some ⟨yb,0,none⟩)] 46)
      have:=this.alloc (.cells #[.pointer (some ⟨w2.heap.size,0,none⟩)] 44)
      rw [hln] at this
      exact this
     go_wp2_with (at_builtin;go_must (refine wpList_append_stands _ rfl _ _ _ rfl w.heap.size 44 i5 _ 1 8 Tryz.underlying30 hi5 y50 y51 y52 rfl (by omega) _ ln (L.map GI.ptr) rfl (uh HRr) ⟨w2.heap.size+1,0,none⟩ 1 1 [.pointer (some ⟨w2.heap.size,0,none⟩)] rfl rfl ?news ?one (by omega) ?h63 ?bytes ?base ?next))
     case news =>
      have:=World.news_of_block (cs:=#[.pointer (some ⟨w2.heap.size,0,none⟩)]) (heap_alloc_new (w2.alloc (.cells #[.pointer (some ⟨gb,0,none⟩),.pointer (some ⟨yb,0,none⟩)] 46)) (.cells #[.pointer (some ⟨w2.heap.size,0,none⟩)] 44))
      simpa using this
     case one=>simp [Value.oneCell']
     case h63=>unfold maxLen;omega
     case bytes=>omega
     case base=>rw [x0];omega
     case next =>
      intro rb c1 B1 hown1 hgrow1 hat1 hlt1 hst1
      rw [←hln] at hown1 hgrow1 hat1
      have HEnd:=hide (Mk2.more (uh HM) (by omega) (uh HQ0) (uh HQ1) (uh HQ2) (uh HQ3) (uh HB1) (uh HN2) (uh HV) ⟨by omega,hvbl⟩ hown1 hgrow1 (by rw [x0];exact hat1))
      have hnr:∀k,(Value.slice a L.length rcap).ownBlock=some k→k≠w.heap.size:=(uh HM).rw0
      have old:B1.heap[w.heap.size]?=w2.heap[w.heap.size]?:=by
       rw [hgrow1.block _ (by rw [x0];omega) (fun e=>hnr _ e.symm rfl),Below.heap_alloc _ _ _ (by simp;omega),Below.heap_alloc _ _ _ (by omega)]
      have zz0:B1.cell? ⟨w.heap.size,0,none⟩=some (.slice a ln rcap):=(World.cell?_of_block (w:=w2) old).trans z0
      have zzf:B1.frozen? ⟨w.heap.size,0,none⟩=false:=(World.frozen?_of_block (w:=w2) old).trans zf
      rw [hln] at HEnd
      clear hown1 hgrow1 hat1 hst1 old z0 zf hnr
      go_wp2
      go_roundw
      case rel=>exact ⟨_,_,_,by simp;omega,by go_num,by rw [List.map_append,List.length_append,hln];exact uh HLC,uh HEnd⟩
      case measure=>simp [intOf];omega
  ·have hL2:L.length=2:=by omega
   rw [hL2] at hLC
   obtain ⟨A,B,rb,rc,rfl,rfl,htw,hbl,hr0,hr1⟩:=hM.ready hLC
   obtain ⟨U,hU⟩:∃U,U=wr:=⟨_,rfl⟩
   rw [←hU] at htw hbl hr0 hr1 ⊢
   clear hU
   have hwr:=hbl.size
   have HBL:=hide hbl
   have htl:=htw.lt.2 rb (Or.inr rfl)
   have HST:Hid (TwoU U w A B rb rc 0 U):=⟨htw,Keeps.refl _ U,hwr,htl⟩
   clear htw hbl hM hLC HM0 HCC htl hlt
   rw [hL2,show ((2:Nat):Int)=2 from rfl]
   go_wp2
   go_loopw [14] (fun i wr=>∃j:Nat,j≤n∧i=.int .i64 j∧TwoU U w A B rb rc j wr) (fun i _=>n - (intOf i).toNat)
   case atStart=>exact ⟨0,Nat.zero_le _,rfl,uh HST⟩
   case round =>
    obtain ⟨j,hj,rfl,hst⟩:=hrel
    have c0:=hst.1.cell0
    have hwl:=hst.1.lt.1
    have cr0:wr.cell? ⟨rb,0,none⟩=some (.pointer (some ⟨A.sb,0,none⟩)):=(hst.stands (Or.inr rfl)).trans hr0
    have cr1:wr.cell? ⟨rb,1,none⟩=some (.pointer (some ⟨B.sb,0,none⟩)):=(hst.stands (Or.inr rfl)).trans hr1
    have hrl:rb<wr.heap.size:=hst.1.lt.2 rb (Or.inr rfl)
    by_cases hlt:j<n
    ·obtain ⟨o,ho⟩:∃o,os[j]?=some o:=⟨_,List.getElem?_eq_getElem (by rw [(uh HOS).1];exact hlt)⟩
     obtain ⟨hsz,ab,ao,rfl,hab,p0,p1,p2,p3,p4,p5⟩:=(uh HOS).2 j o ho
     have habl:ab<wr.heap.size:=hst.1.lt.2 ab (Or.inl hab)
     have tr:∀i,wr.cell? ⟨ab,i,none⟩=w.cell? ⟨ab,i,none⟩:=fun i=>(hst.stands (Or.inl hab)).trans ((uh HBL).cell (p:=⟨ab,i,none⟩) hab)
     rw [←tr] at p0 p1 p2 p3 p4 p5
     have HSZ:=hide hsz
     have HS:=hide hst
     clear tr hst ho hsz
     by_cases hk:o.k≤16
     ·have HC:Hid (∀W,Below wr.heap.size wr W→Calls Tryz.prog 10 #[.pointer (some ⟨w.heap.size,0,none⟩),.pointer (some ⟨if o.wh=true then B.sb else A.sb,0,none⟩),.agg o.arr] W fun e w'=>e=.returned (.bool true)∧TwoU U w A B rb rc (j+1) w'):=fun W hW=>((uh HS).below hW).calls (by omega) o.wh (fun K' _ hs=>step_all hs (by omega) o (uh HSZ) hk)
      unfold Opn.arr at HC
      have hk':¬16<o.k:=by omega
      clear hk
      generalize o.k=ok at *
      cases hwh:o.wh
      all_goals
       rw [hwh] at p5 HC
       simp only [Bool.false_eq_true,if_false,if_true] at HC
       go_wp2_with (go_at_call 10;refine (uh HC _ ((Below.refl _ _).alloc (Nat.le_refl _) _)).mono ?_;rintro e w3 ⟨rfl,hst⟩;have HK:=hide hst.kept;clear hst)
       refine (uh HK).mono ?_
       rintro e w4 ⟨rfl,hst4⟩
       have H4:=hide hst4
       clear hst4
       go_wp2
       go_roundw
       case rel=>exact ⟨j+1,by omega,by go_num,uh H4⟩
       case measure=>simp [intOf];omega
     ·have hk':16<o.k:=by omega
      clear hk
      have HN:Hid (∀W,Below wr.heap.size wr W→TwoU U w A B rb rc (j+1) W):=fun W hW=>((uh HS).below hW).mono (by omega)
      go_wp2
      go_roundw
      case rel=>exact ⟨j+1,by omega,by go_num,uh HN _ ((Below.refl _ _).alloc (Nat.le_refl _) _)⟩
      case measure=>simp [intOf];omega
    ·have ej:j=n:=by omega
     subst ej
     have HS:=hide hst
     clear hst c0 cr0 cr1 hwl hrl
     go_wp2
     go_loopw [19] (fun i wr=>∃t:Nat,t≤2∧i=.int .i64 t∧TwoU U w A B rb rc (j+t*(10+j)) wr) (fun i _=>2 - (intOf i).toNat)
     case atStart=>exact ⟨0,by omega,rfl,by simpa using uh HS⟩
     case round =>
      obtain ⟨t,ht,rfl,hst⟩:=hrel
      by_cases hlt2:t<2
      ·have cell:∀wq M,TwoU U w A B rb rc M wq→wq.cell? ⟨rb,t,none⟩=some (.pointer (some ⟨if decide (t=1)=true then B.sb else A.sb,0,none⟩)):=fun wq M hq=>by
        have e:t=0∨t=1:=by omega
        rcases e with rfl | rfl
        ·exact (hq.stands (Or.inr rfl)).trans hr0
        ·exact (hq.stands (Or.inr rfl)).trans hr1
       have HCl:=hide cell
       have hB:j+t*(10+j)≤2*j+10:=by
        have e:t=0∨t=1:=by omega
        rcases e with rfl | rfl <;> omega
       have hT:(t+1)*(10+j)=t*(10+j)+(10+j):=by rw [Nat.add_mul,Nat.one_mul]
       have HT:=hide hT
       clear hT
       generalize t*(10+j)=tj at *
       have c0:=hst.1.cell0
       have cr:=uh HCl _ _ hst
       have HA:Hid (Calls Tryz.prog 12 #[.pointer (some ⟨w.heap.size,0,none⟩),.pointer (some ⟨if decide (t=1)=true then B.sb else A.sb,0,none⟩)] wr fun e w'=>e=.returned (.bool true)∧TwoU U w A B rb rc (j+tj+1) w'):=hst.calls (by omega) (decide (t=1)) (fun K' _ hs=>hs.asked (by omega))
       clear hst cell
       generalize hsb:(if decide (t=1)=true then B.sb else A.sb)=sb at *
       go_wp2_with fail
       refine (uh HA).mono ?_
       rintro e w5 ⟨rfl,hst5⟩
       have c5:=hst5.1.cell0
       have cr5:=uh HCl _ _ hst5
       have HLe:Hid (Calls Tryz.prog 13 #[.pointer (some ⟨w.heap.size,0,none⟩),.pointer (some ⟨sb,0,none⟩)] w5 fun e w'=>e=.returned (.bool true)∧TwoU U w A B rb rc (j+tj+1+4) w'):=by
        rw [←hsb]
        exact hst5.calls (by omega) (decide (t=1)) (fun K' _ hs=>leased_any hs (by omega))
       clear hst5 HA c0 cr
       go_wp2_with fail
       refine (uh HLe).mono ?_
       rintro e w7 ⟨rfl,hst7⟩
       have c7:=hst7.1.cell0
       have cr7:=uh HCl _ _ hst7
       have HEd:Hid (Calls Tryz.prog 14 #[.pointer (some ⟨w.heap.size,0,none⟩),.pointer (some ⟨sb,0,none⟩),.slice a0 j cap] w7 fun e w'=>e=.returned (.bool true)∧TwoU U w A B rb rc (j+tj+1+4+5+j) w'):=by
        rw [←hsb]
        exact hst7.calls (by omega) (decide (t=1)) (fun K' hK hs=>ended_any hs (by omega) (uh HOS) (fun k hk=>hK k (Or.inl hk)) (fun b i hb=>(hst7.stands (Or.inl hb)).trans ((uh HBL).cell (p:=⟨b,i,none⟩) hb)))
       clear hst7 HLe c5 cr5
       go_wp2_with fail
       refine (uh HEd).mono ?_
       rintro e w8 ⟨rfl,hst8⟩
       have H5:=hide hst8
       clear hst8 HEd c7 cr7
       go_wp2
       go_roundw
       case rel=>exact ⟨t+1,by omega,by go_num,by rw [uh HT];have:=uh H5;rw [show j+(tj+(10+j))=j+tj+1+4+5+j by omega];exact this⟩
       case measure=>simp [intOf];omega
      ·have e2:t=2:=by omega
       subst e2
       have HK:=hide hst.kept
       clear hst
       go_wp2_with (go_at_call 11;refine (uh HK).mono ?_;rintro e w6 ⟨rfl,hst6⟩;have H6:=hide hst6;clear hst6)
       go_ret
       exact ⟨rfl,(uh HBL).trans (uh H6).under⟩
end Go.Proofs.YtpnkmnmchdabkaaGreat
