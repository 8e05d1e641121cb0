import Derived.Test.YtpnkmnmchdabkaaGreatM28
namespace Go.Proofs.YtpnkmnmchdabkaaGreat
open Go.RowKit
attribute [local go_sem ↓] Go.wp_at_zero Go.wp_at_succ
set_option maxRecDepth 100000 in
set_option maxHeartbeats 4000000 in
theorem step_log {w0 w:World} {K:Nat→Prop} {wb sb gb yb:Nat} {C:Cfg} {sdv:Value} {N:Nat} (h:St w0 K wb sb gb yb C sdv N w) (hN:N≤600000) (o:Opn) (hs:o.s.size≤maxLen) (hk:o.k≤5) :
 Calls Tryz.prog 10 #[.pointer (some ⟨wb,0,none⟩),.pointer (some ⟨sb,0,none⟩),.agg o.arr] w fun e w'=>e=.returned (.bool true)∧St w0 K wb sb gb yb C sdv (N+1) w':=by
 have HL:Hid (∀W,Below w.heap.size w W→Calls Tryz.prog 30 #[.pointer (some ⟨wb,0,none⟩),.pointer (some ⟨sb,0,none⟩),.agg o.arr] W fun e w'=>e=.returned (.bool true)∧St w0 K wb sb gb yb C sdv (N+1) w'):=fun W hb=>lease_log (h.below hb) (by omega) o hs hk
 clear h
 obtain ⟨kk,oa,ob,os,olost,owh⟩:=o
 simp only at hk
 unfold Opn.arr at HL ⊢
 simp only at HL ⊢
 have e6:¬kk=12:=by omega
 have e7:¬kk=13:=by omega
 have e8:¬kk=14:=by omega
 have e9:¬kk=15:=by omega
 have e10:¬kk=16:=by omega
 clear hk
 go_enter Tryz.func10,Tryz.ntmps10
 go_wp2_with (go_at_call 30;refine (uh HL _ ((Below.refl _ w).alloc (Nat.le_refl _) _)).mono ?_;rintro e w' ⟨rfl,hp⟩;have HP:=hide hp;clear hp)
 go_ret
 exact ⟨rfl,uh HP⟩
set_option maxRecDepth 100000 in
set_option maxHeartbeats 16000000 in
theorem play_logs (w:World) (C:Cfg) (cb n cap:Nat) (a0:Option Addr) (os:List Opn) (hn:n≤149998) (hcb:cb<w.heap.size) (hv:validB C.a C.l C.b C.n C.s C.t=true) (hos:IsOps w a0 n os)
 (k0:w.cell? ⟨cb,0,none⟩=some (.int .i64 C.a)) (k1:w.cell? ⟨cb,1,none⟩=some (.int .i64 C.l)) (k2:w.cell? ⟨cb,2,none⟩=some (.int .i64 C.b)) (k3:w.cell? ⟨cb,3,none⟩=some (.int .i64 C.n)) (k4:w.cell? ⟨cb,4,none⟩=some (.int .i64 C.s)) (k5:w.cell? ⟨cb,5,none⟩=some (.int .i64 C.t)) :
 Calls Tryz.prog 7 #[.slice (some ⟨cb,0,none⟩) 1 1,.slice a0 n cap,.int .i64 5] w fun e w'=>e=.returned (.bool true)∧Below w.heap.size w w':=by
 have hCa:=((validB_iff _ _ _ _ _ _).1 hv).1
 have HCL:=hide hv
 have HN:=fun w=>hide (new_good C w hv)
 have HR:=fun w=>hide (refNew_good C w hv hCa)
 have HOS:=hide hos
 obtain ⟨i5,hi5,y50,y51,y52⟩:=info_parts infoSP
 unfold Cfg.arr at HN HR
 clear hv hos
 go_enter Tryz.func7,Tryz.ntmps7
 go_wp2
 have HB:Hid (Below w.heap.size w (w.alloc (.cells #[.slice none 0 0,.slice none 0 0,.slice none 0 0,.slice none 0 0,.slice none 0 0,.slice none 0 0,.slice none 0 0,.int .i64 0] 36))):=(Below.refl _ w).alloc (Nat.le_refl _) _
 have HV:=hide (heap_alloc_new w (.cells #[.slice none 0 0,.slice none 0 0,.slice none 0 0,.slice none 0 0,.slice none 0 0,.slice none 0 0,.slice none 0 0,.int .i64 0] 36))
 have hVs:(w.alloc (.cells #[.slice none 0 0,.slice none 0 0,.slice none 0 0,.slice none 0 0,.slice none 0 0,.slice none 0 0,.slice none 0 0,.int .i64 0] 36)).heap.size=w.heap.size+1:=by simp
 generalize w.alloc (.cells #[.slice none 0 0,.slice none 0 0,.slice none 0 0,.slice none 0 0,.slice none 0 0,.slice none 0 0,.slice none 0 0,.int .i64 0] 36)=V at *
 go_loopw [9] (fun i wr=>(i=.int .i64 0∧wr=V)∨(i=.int .i64 1∧ReadyEx w C wr)) (fun i _=>1 - (intOf i).toNat)
 case atStart=>exact Or.inl ⟨rfl,rfl⟩
 case round =>
  rcases hrel with ⟨rfl,rfl⟩ | ⟨rfl,hready⟩
  ·have hwz:=(uh HB).size
   have k0:=((uh HB).cell (p:=⟨cb,0,none⟩) hcb).trans k0
   have k1:=((uh HB).cell (p:=⟨cb,1,none⟩) hcb).trans k1
   have k2:=((uh HB).cell (p:=⟨cb,2,none⟩) hcb).trans k2
   have k3:=((uh HB).cell (p:=⟨cb,3,none⟩) hcb).trans k3
   have k4:=((uh HB).cell (p:=⟨cb,4,none⟩) hcb).trans k4
   have k5:=((uh HB).cell (p:=⟨cb,5,none⟩) hcb).trans k5
   go_wp2_with (go_at_call 8;refine (uh (HN _)).mono ?_;rintro e w1 ⟨gb,g,mb,kn,rfl,hgb,hg,hmb,n1,n2,n3,hkn0,q1,q2,q3,hb⟩;have HKN:=hide hkn0;have k0:=(hb.cell (p:=⟨cb,0,none⟩) (by simp;omega)).trans k0;have k1:=(hb.cell (p:=⟨cb,1,none⟩) (by simp;omega)).trans k1;have k2:=(hb.cell (p:=⟨cb,2,none⟩) (by simp;omega)).trans k2;have k3:=(hb.cell (p:=⟨cb,3,none⟩) (by simp;omega)).trans k3;have k4:=(hb.cell (p:=⟨cb,4,none⟩) (by simp;omega)).trans k4;have k5:=(hb.cell (p:=⟨cb,5,none⟩) (by simp;omega)).trans k5;have HB1:=hide hb;have HQ1:=hide q1;have HQ2:=hide q2;have HQ3:=hide q3;have HNE:=hide (And.intro n1 (And.intro n2 n3));clear hb q1 q2 q3 n1 n2 n3 hkn0)
   refine (uh (HR _)).mono ?_
   rintro e w2 ⟨yb,g2,wv,rfl,hN2⟩
   obtain ⟨vb,vc,vcur,hvv,hvb0,hvb,_⟩:=ownsRow_shape hN2.wk (by have:=hCa;omega)
   subst hvv
   have HN2:=hide hN2
   have hvbl:=lt_of_heap hvb
   clear hvb
   have hs1:=(uh HB1).size
   have hs2:=hN2.below.size
   have hgl:=lt_of_heap (uh HQ1)
   have hg1l:=lt_of_heap (uh HQ2)
   have hmbl:mb<w1.heap.size:=((uh HQ3).lt mb rfl).2
   have hyl:=lt_of_heap hN2.blk
   have hg2l:=lt_of_heap hN2.row
   have hgg:=hN2.g1
   have hgy:=hN2.g2
   have W2:w2.heap[w.heap.size]?=some (.cells #[.slice none 0 0,.slice none 0 0,.slice none 0 0,.slice none 0 0,.slice none 0 0,.slice none 0 0,.slice none 0 0,.int .i64 0] 36 (0,0)):=by
    rw [hN2.below.block _ (by omega),(uh HB1).block _ (by omega)];exact uh HV
   have HW2:=hide W2
   have z0:w2.cell? ⟨w.heap.size,0,none⟩=some (.slice none 0 0):=cell_of W2 0
   have zf:=frozen_of W2 0
   have HB2:Hid (Below w.heap.size w w2):=(uh HB).trans (((uh HB1).mono (by omega)).trans (hN2.below.mono (by omega)))
   clear hN2 W2 k0 k1 k2 k3 k4 k5
   have x0:((w2.alloc (.cells #[.pointer (some ⟨gb,0,none⟩),.pointer (some ⟨yb,0,none⟩)] 46)).alloc (.cells #[.pointer (some ⟨w2.heap.size,0,none⟩)] 44)).heap.size=w2.heap.size+2:=by simp
   go_wp2_with (at_builtin;go_must (refine wpList_append_stands _ rfl _ _ _ rfl 0 44 i5 _ 1 8 Tryz.underlying30 hi5 y50 y51 y52 rfl (by omega) _ 0 [] rfl (World.ownsRow_nil _ _ _ _) ⟨w2.heap.size+1,0,none⟩ 1 1 [.pointer (some ⟨w2.heap.size,0,none⟩)] rfl rfl ?news ?one (by omega) ?h63 ?bytes (Nat.zero_le _) ?next))
   case news =>
    have:=World.news_of_block (cs:=#[.pointer (some ⟨w2.heap.size,0,none⟩)]) (heap_alloc_new (w2.alloc (.cells #[.pointer (some ⟨gb,0,none⟩),.pointer (some ⟨yb,0,none⟩)] 46)) (.cells #[.pointer (some ⟨w2.heap.size,0,none⟩)] 44))
    simpa using this
   case one=>simp [Value.oneCell']
   case h63=>unfold maxLen;omega
   case bytes=>omega
   case next =>
    intro rb c1 B1 hown1 hgrow1 hat1 hlt1 hst1
    have hrb:rb=w2.heap.size+2:=by
     rcases hat1 with e | e
     ·cases e
     ·exact e
    have old:∀k,k<w2.heap.size→B1.heap[k]?=w2.heap[k]?:=fun k hk=>by
     rw [hgrow1.block k (by rw [x0];omega) (by simp [Value.ownBlock]),Below.heap_alloc _ _ _ (by simp;omega),Below.heap_alloc _ _ _ hk]
    have zz0:B1.cell? ⟨w.heap.size,0,none⟩=some (.slice none 0 0):=(World.cell?_of_block (w:=w2) (old w.heap.size (by omega))).trans z0
    have zzf:B1.frozen? ⟨w.heap.size,0,none⟩=false:=(World.frozen?_of_block (w:=w2) (old w.heap.size (by omega))).trans zf
    have hzB:=hgrow1.size
    rw [x0] at hzB
    have old2:∀k,k<w2.heap.size→k≠w.heap.size→(B1.setCell ⟨w.heap.size,0,none⟩ (.slice (some ⟨rb,0,none⟩) 1 c1)).heap[k]?=w2.heap[k]?:=fun k hk hne=>by
     rw [Below.heap_setCell _ _ _ _ hne];exact old k hk
    have old1:∀k,k<w1.heap.size→k≠w.heap.size→(B1.setCell ⟨w.heap.size,0,none⟩ (.slice (some ⟨rb,0,none⟩) 1 c1)).heap[k]?=w1.heap[k]?:=fun k hk hne=>by
     rw [old2 k (by omega) hne,(uh HN2).below.block k (by omega)]
    have hsS:(B1.setCell ⟨w.heap.size,0,none⟩ (.slice (some ⟨rb,0,none⟩) 1 c1)).heap.size=B1.heap.size:=by simp [World.setCell]
    have HEnd:Hid (ReadyEx w C (B1.setCell ⟨w.heap.size,0,none⟩ (.slice (some ⟨rb,0,none⟩) 1 c1))):=by
     refine ⟨w2.heap.size,gb,yb,rb,c1,St.setup (g:=g) (mb:=mb) (g2:=g2) (kn:=kn) (vb:=vb) (vc:=vc) (yn:=C.a.toNat) (base:=w.heap.size) (base2:=yb+1) ?_ ((old1 gb hgl (by omega)).trans (uh HQ1)) ((old1 g hg1l (by omega)).trans (uh HQ2)) ?_ ((old2 yb hyl (by omega)).trans (uh HN2).blk) ((old2 g2 hg2l (by omega)).trans (uh HN2).row) ?_ ?_ (by have:=hCa;omega) (uh HKN) (by have:=uh HKN;omega) (by have:=uh HKN;have:=hCa;omega) (uh HCL) (Nat.le_refl _) (by omega) (by omega) (by omega) (uh HNE).1 (uh HNE).2.1 (uh HNE).2.2 (by omega) (by omega) (by omega) hgy (by omega) hvbl (by omega) (by rw [hsS];exact hlt1),?_,?_⟩
     ·rw [heap_setCell_same ((old _ (by omega)).trans (uh HW2))]
      simp
     ·refine ownsRow_base (ownsRow_of_block (uh HQ3) fun k hk=>?_) (by omega)
      have e:k=mb:=by simp [Value.ownBlock] at hk;exact hk.symm
      rw [e]
      exact old1 mb hmbl (by omega)
     ·rw [Below.heap_setCell _ _ _ _ (by simp;omega),hgrow1.block _ (by rw [x0];omega) (by simp [Value.ownBlock]),Below.heap_alloc _ _ _ (by simp)]
      exact heap_alloc_new w2 _
     ·refine ownsRow_of_block (uh HN2).wk fun k hk=>?_
      have e:k=vb:=by simp [Value.ownBlock] at hk;exact hk.symm
      rw [e]
      exact old2 vb hvbl (by omega)
     ·refine (uh HB2).trans ⟨hgrow1.os,hgrow1.tape,hgrow1.output,by rw [hsS];omega,fun k hk=>old2 k (by omega) (by omega)⟩
     ·have:=World.ownsRow.cellAt hown1 0 (by omega)
      rw [World.cell?_of_block (w:=B1) (Below.heap_setCell _ _ _ _ (by show rb≠w.heap.size;omega))]
      exact this
    clear hown1 hgrow1 hat1 hst1 old old1 old2 z0 zf hrb
    go_wp2
    go_roundw
    case rel=>exact Or.inr ⟨rfl,uh HEnd⟩
    case measure=>simp [intOf]
  ·obtain ⟨sb,gb,yb,rb,rc,hst,hbl,hrc⟩:=hready
   obtain ⟨U,hU⟩:∃U,U=wr:=⟨_,rfl⟩
   rw [←hU] at hst hbl hrc ⊢
   clear hU
   have hwr:=hbl.size
   have HBL:=hide hbl
   have HST:=hide hst
   clear hst hbl HN HR k0 k1 k2 k3 k4 k5 HB HV hVs
   go_wp2
   go_loopw [14] (fun i wr=>∃j:Nat,j≤n∧i=.int .i64 j∧St U (fun k=>k<w.heap.size∨k=rb) w.heap.size sb gb yb C (.slice (some ⟨rb,0,none⟩) 1 rc) j wr) (fun i _=>n - (intOf i).toNat)
   case atStart=>exact ⟨0,Nat.zero_le _,rfl,uh HST⟩
   case round =>
    obtain ⟨j,hj,rfl,hst⟩:=hrel
    have c0:=hst.cell0
    have hwl:=hst.lt.1
    have hrl:rb<wr.heap.size:=hst.lt.2 rb (Or.inr rfl)
    have cr:wr.cell? ⟨rb,0,none⟩=some (.pointer (some ⟨sb,0,none⟩)):=(hst.stands (Or.inr rfl)).trans hrc
    by_cases hlt:j<n
    ·obtain ⟨o,ho⟩:∃o,os[j]?=some o:=⟨_,List.getElem?_eq_getElem (by rw [(uh HOS).1];exact hlt)⟩
     obtain ⟨hsz,ab,ao,rfl,hab,p0,p1,p2,p3,p4,p5⟩:=(uh HOS).2 j o ho
     have habl:ab<wr.heap.size:=hst.lt.2 ab (Or.inl hab)
     have tr:∀i,wr.cell? ⟨ab,i,none⟩=w.cell? ⟨ab,i,none⟩:=fun i=>(hst.stands (Or.inl hab)).trans ((uh HBL).cell (p:=⟨ab,i,none⟩) hab)
     rw [←tr] at p0 p1 p2 p3 p4 p5
     have HSZ:=hide hsz
     have HS:=hide hst
     clear tr hst ho hsz
     by_cases hk:o.k≤5
     ·have HC:Hid (∀W,Below wr.heap.size wr W→Calls Tryz.prog 10 #[.pointer (some ⟨w.heap.size,0,none⟩),.pointer (some ⟨sb,0,none⟩),.agg o.arr] W fun e w'=>e=.returned (.bool true)∧St U (fun k=>k<w.heap.size∨k=rb) w.heap.size sb gb yb C (.slice (some ⟨rb,0,none⟩) 1 rc) (j+1) w'):=fun W hW=>step_log ((uh HS).below hW) (by omega) o (uh HSZ) hk
      unfold Opn.arr at HC
      have hk':¬5<o.k:=by omega
      clear hk
      generalize o.k=ok at *
      cases hwh:o.wh
      all_goals
       rw [hwh] at p5 HC
       go_wp2_with (go_at_call 10;refine (uh HC _ ((Below.refl _ _).alloc (Nat.le_refl _) _)).mono ?_;rintro e w3 ⟨rfl,hst⟩;have HK:=hide hst.kept;clear hst)
       refine (uh HK).mono ?_
       rintro e w4 ⟨rfl,hst4⟩
       have H4:=hide hst4
       clear hst4
       go_wp2
       go_roundw
       case rel=>exact ⟨j+1,by omega,by go_num,uh H4⟩
       case measure=>simp [intOf];omega
     ·have hk':5<o.k:=by omega
      clear hk
      have HN:Hid (∀W,Below wr.heap.size wr W→St U (fun k=>k<w.heap.size∨k=rb) w.heap.size sb gb yb C (.slice (some ⟨rb,0,none⟩) 1 rc) (j+1) W):=fun W hW=>((uh HS).below hW).mono (by omega)
      go_wp2
      go_roundw
      case rel=>exact ⟨j+1,by omega,by go_num,uh HN _ ((Below.refl _ _).alloc (Nat.le_refl _) _)⟩
      case measure=>simp [intOf];omega
    ·have ej:j=n:=by omega
     subst ej
     have HS:=hide hst
     clear hst c0 cr hwl hrl
     go_wp2
     go_loopw [19] (fun i wr=>(i=.int .i64 0∧St U (fun k=>k<w.heap.size∨k=rb) w.heap.size sb gb yb C (.slice (some ⟨rb,0,none⟩) 1 rc) j wr)∨(i=.int .i64 1∧St U (fun k=>k<w.heap.size∨k=rb) w.heap.size sb gb yb C (.slice (some ⟨rb,0,none⟩) 1 rc) (j+1) wr)) (fun i _=>1 - (intOf i).toNat)
     case atStart=>exact Or.inl ⟨rfl,uh HS⟩
     case round =>
      rcases hrel with ⟨rfl,hst⟩ | ⟨rfl,hst⟩
      ·have c0:=hst.cell0
       have cr:wr.cell? ⟨rb,0,none⟩=some (.pointer (some ⟨sb,0,none⟩)):=(hst.stands (Or.inr rfl)).trans hrc
       have HA:=hide (hst.asked (by omega))
       clear hst
       go_wp2_with (go_at_call 12;refine (uh HA).mono ?_;rintro e w5 ⟨rfl,hst5⟩;have H5:=hide hst5;clear hst5)
       go_roundw
       case rel=>exact Or.inr ⟨rfl,uh H5⟩
       case measure=>simp [intOf]
      ·have HK:=hide hst.kept
       clear hst
       go_wp2_with (go_at_call 11;refine (uh HK).mono ?_;rintro e w6 ⟨rfl,hst6⟩;have H6:=hide hst6;clear hst6)
       go_ret
       exact ⟨rfl,(uh HBL).trans (uh H6).under⟩
end Go.Proofs.YtpnkmnmchdabkaaGreat
