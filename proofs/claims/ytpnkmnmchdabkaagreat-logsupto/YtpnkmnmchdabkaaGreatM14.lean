import Derived.Test.YtpnkmnmchdabkaaGreatM13
import Derived.Test.YtpnkmnmchdabkaaGreatInv
import Derived.Test.YtpnkmnmchdabkaaGreatM08
import Derived.Test.YtpnkmnmchdabkaaGreatM01
namespace Go.Proofs.YtpnkmnmchdabkaaGreat
open Go.RowKit
attribute [local go_sem ↓] Go.wp_at_zero Go.wp_at_succ
theorem infoSS:(Tryz.prog.info? 98).map (fun i=>(i.zero,i.size,i.bytes))=some (some (.slice none 0 0),1,24):=by kernel_rfl
set_option maxRecDepth 100000 in
set_option maxHeartbeats 8000000 in
theorem keepShards_any {w:World} {ρ:Nat→Nat} {wb:Nat} {sdv:Value} {last:Int} {sv iv hv m1 m2 m3:Value} {Ls Li Lh:List Ke} (h:LawAt w ρ wb sdv last sv iv hv m1 m2 m3 Ls Li Lh) (hf:Fits w ρ) (h1:-8000000000000000000≤last) (h2:last≤0) (lv:Value) (l:List (Sh × Value)) (ho:OutAt w ρ lv l) (hn:l.length≤16) (hpl:∀(i:Nat) (x:Sh × Value),l[i]?=some x→x.1.par.length≤2) (hlen:Li.length≤39999000) (hlenS:Ls.length≤40000000) :
 Calls Tryz.prog 34 #[.pointer (some ⟨wb,0,none⟩),lv] w (KeepPostS w ρ wb sdv last hv m3 Ls Li Lh lv l):=by
 obtain ⟨n,hnl⟩:∃n,n=l.length:=⟨_,rfl⟩
 obtain ⟨la,lc,rfl⟩:=ownsRow_len ho.row
 obtain ⟨i5,hi5,y50,y51,y52⟩:=info_parts infoSS
 obtain ⟨i3,hi3,y30,y31,y32⟩:=info_parts infoI
 obtain ⟨i8,hi8,y80,y81,y82⟩:=info_parts info82
 have HP0:=hide (PInv.start h hf l)
 rw [←hnl] at hn ho ⊢
 have HO:=hide ho
 have HPL:=hide hpl
 clear h hf ho hpl
 have HNL:=hide hnl
 have hn16:n≤16:=hn
 clear hn hnl
 go_enter Tryz.func34,Tryz.ntmps34
 go_wp2
 go_loopw [4] (fun i wr=>∃(j:Nat) (ρ1:Nat→Nat) (iv1 m11:Value) (Ln:List Ke),j≤n∧i=.int .i64 j∧PInv w ρ wb sdv last sv hv m2 m3 Ls Li Lh l j ρ1 iv1 m11 Ln wr) (fun i _=>n - (intOf i).toNat)
 case atStart=>exact ⟨0,_,_,_,_,Nat.zero_le _,rfl,uh HP0⟩
 case round =>
  obtain ⟨j,ρ1,iv1,m11,Ln,hj,rfl,hP⟩:=hrel
  by_cases hlt:j<n
  ·obtain ⟨x,hx⟩:∃x,l[j]?=some x:=⟨_,List.getElem?_eq_getElem (by have:=uh HNL;omega)⟩
   obtain ⟨pr,pt,vr,vt⟩:=hP.par (uh HO) x hx
   rw [←uh HNL] at vr
   obtain ⟨lb,cp,cur,hv1,_,hcb,_,_,hcs,_⟩:=ownsRow_shape vr (by omega)
   injection hv1 with e1 e2 e3
   subst e1 e3
   clear e2
   have c3:wr.cell? ⟨lb,j*5+3,none⟩=some x.2:=(World.ownsRow.cellAt vr (j*5+3) (by omega)).trans (by rw [listCells_get l j 3 (by omega) x hx];rfl)
   have hlenI:(Li ++ Ln).length≤40000000:=by rw [List.length_append,hP.len];omega
   have HK:=hide (keepInts_any hP.law hP.fits (by omega) (by omega) x.2 x.1.par.length _ pr (by have:=uh HPL j x hx;omega) hlenI pt)
   have HPj:=hide hP
   have HX:=hide hx
   clear hP pr pt vr vt hcb hcs hx
   go_wp2_with (go_at_call 58;refine (uh HK).mono ?_;rintro e w' hpost;have HQ:=hide ((uh HPj).step (uh HO) x (uh HX) hpost);obtain ⟨rfl,-⟩:=hpost)
   go_roundw
   case rel =>
    obtain ⟨ρ2,iv2,m12,L2,hq⟩:=uh HQ
    exact ⟨j+1,ρ2,iv2,m12,L2,by omega,by go_num,hq⟩
   case measure=>simp [intOf];omega
  ·have ej:j=n:=by omega
   subst ej
   obtain ⟨U,hU⟩:∃U,U=wr:=⟨_,rfl⟩
   rw [←hU] at hP ⊢
   clear hU
   have hwl:=lt_of_heap hP.law.blk
   have c7:U.cell? ⟨wb,7,none⟩=some (.int .i64 (last - j)):=cell_of hP.law.blk 7
   have f7:=frozen_of hP.law.blk 7
   have HM:=hide (mark_any U wb (last - j) c7 f7 (by omega) (by omega))
   obtain ⟨vr,vt⟩:=hP.row (uh HO)
   rw [←uh HNL] at vr
   have HL:=hide vr
   have HT:=hide vt
   have HPI:=hide hP
   have hll:Hid (∀k,(Value.slice la j lc).ownBlock=some k→k<U.heap.size):=fun k hk=>(vr.lt k hk).2
   clear vr vt hP HP0
   go_wp2_with (go_at_call 71;refine (uh HM).mono ?_;rintro e w' ⟨rfl,rfl⟩)
   have hVl:Hid ((U.setCell ⟨wb,7,none⟩ (.int .i64 (last - j - 1))).ownsRow 0 100 5 (.slice la j lc) j (listCells l)):=by
    refine ownsRow_of_block (uh HL) fun k hk=>Below.heap_setCell _ _ _ _ ?_
    rintro rfl
    have h1:=uh HT _ hk
    have h2:=(uh HPI).law.tag
    omega
   have HV:=hide ((uh HPI).law.marked (last - j - 1))
   have HKV:Hid (Keeps (fun k=>laws ρ1 k∨(Value.slice la j lc).ownBlock=some k) U (U.setCell ⟨wb,7,none⟩ (.int .i64 (last - j - 1)))):=(Keeps.refl _ U).setCell (Or.inl (Or.inl (by unfold laws;rw [(uh HPI).law.tag];omega))) _
   have hVs:(U.setCell ⟨wb,7,none⟩ (.int .i64 (last - j - 1))).heap.size=U.heap.size:=by simp [World.setCell]
   clear HM c7 f7
   generalize U.setCell ⟨wb,7,none⟩ (.int .i64 (last - j - 1))=V at *
   generalize hmm:last - (j:Int) - 1=m at *
   have HmE:=hide hmm.symm
   go_loopw [6] (fun i wr=>∃q:Nat,q≤j∧i=.int .i64 q∧wr.ownsRow 0 100 5 (.slice la j lc) j (repP patS m q ++ (listCells l).drop (q*5))∧Keeps (fun k=>(Value.slice la j lc).ownBlock=some k) V wr) (fun i _=>j - (intOf i).toNat)
   case atStart=>exact ⟨0,Nat.zero_le _,rfl,by simpa [repP] using uh hVl,Keeps.refl _ _⟩
   case round =>
    obtain ⟨q,hq,rfl,hown,hkk⟩:=hrel
    by_cases hlt:q<j
    ·obtain ⟨lb,cp,cur,hv1,_,hcb,_,_,hcs,_⟩:=ownsRow_shape hown (by omega)
     injection hv1 with e1 e2 e3
     subst e1
     have fz:=fun i=>frozen_of hcb i
     have c0:∃u,wr.cell? ⟨lb,q*5,none⟩=some u:=⟨_,(cell_of hcb (q*5)).trans (Array.getElem?_eq_getElem (by omega))⟩
     have c1:∃u,wr.cell? ⟨lb,q*5+1,none⟩=some u:=⟨_,(cell_of hcb (q*5+1)).trans (Array.getElem?_eq_getElem (by omega))⟩
     have c2:∃u,wr.cell? ⟨lb,q*5+2,none⟩=some u:=⟨_,(cell_of hcb (q*5+2)).trans (Array.getElem?_eq_getElem (by omega))⟩
     have c3:∃u,wr.cell? ⟨lb,q*5+3,none⟩=some u:=⟨_,(cell_of hcb (q*5+3)).trans (Array.getElem?_eq_getElem (by omega))⟩
     have c4:∃u,wr.cell? ⟨lb,q*5+4,none⟩=some u:=⟨_,(cell_of hcb (q*5+4)).trans (Array.getElem?_eq_getElem (by omega))⟩
     obtain ⟨u0,c0⟩:=c0
     obtain ⟨u1,c1⟩:=c1
     obtain ⟨u2,c2⟩:=c2
     obtain ⟨u3,c3⟩:=c3
     obtain ⟨u4,c4⟩:=c4
     have HS:=hide (row_put5 hown q (.int .i64 m) (.int .i64 0) (.bool false) (.slice none 0 0) (.int .i64 0))
     have HKK:=hide hkk
     have hxl:q*5+5≤(listCells l).length:=by rw [listCells_len,←uh HNL];omega
     have HXL:=hide hxl
     clear hown hkk hcb hcs hxl
     go_wp2
     go_roundw
     case rel =>
      refine ⟨q+1,by omega,by go_num,?_,(((((uh HKK).setCell (p:=⟨lb,q*5,none⟩) (Or.inl rfl) _).setCell (p:=⟨lb,q*5+1,none⟩) (Or.inl rfl) _).setCell (p:=⟨lb,q*5+2,none⟩) (Or.inl rfl) _).setCell (p:=⟨lb,q*5+3,none⟩) (Or.inl rfl) _).setCell (p:=⟨lb,q*5+4,none⟩) (Or.inl rfl) _⟩
      rw [←repS_set (uh HXL)];exact uh HS
     case measure=>simp [intOf];omega
    ·have HR:Hid (wr.ownsRow 0 100 5 (.slice la j lc) j (repP patS m j)):=by
      have e:q=j:=by omega
      subst e
      rw [List.drop_eq_nil_of_le (by rw [listCells_len,←uh HNL];omega),List.append_nil] at hown
      exact hown
     have HKK:=hide hkk
     clear hown hkk
     have HI0:=hide (KInvS.start (uh HV) hVs (uh HPI).fits (uh HT) (uh HKV) (uh HKK) (uh HR) (uh hll))
     clear HV HKV HKK HR hVl HL HT
     generalize j=n at *
     go_wp2
     go_loopw [1,7] (fun lq i wr=>∃(j:Nat) (ρ2:Nat→Nat) (sv1 m21:Value) (Lt:List Ke) (x:Ke),j≤4∧i=.int .i64 j∧lq=.slice x.a x.n x.cap∧KInvS U ρ1 wb sdv m iv1 hv m11 m3 Ls (Li ++ Ln) Lh (.slice la n lc) n j ρ2 sv1 m21 Lt x wr) (fun _ i _=>4 - (intOf i).toNat)
     case atStart=>exact ⟨0,_,_,_,_,_,by omega,rfl,rfl,uh HI0⟩
     case round =>
      obtain ⟨j,ρ2,sv1,m21,Lt,x,hj,rfl,rfl,hK⟩:=hrel
      by_cases hlt4:j<4
      ·obtain ⟨ia,ic,rfl⟩:=ownsRow_len hK.law.kS.row
       obtain ⟨ma,mc,rfl⟩:=ownsRow_len hK.law.kS.ms
       have hNl:(Ls ++ Lt).length≤40000010:=by rw [List.length_append,hK.len];omega
       have hxn:x.n≤1010:=by have:=hK.xn;omega
       have q2:wr.cell? ⟨wb,1,none⟩=some (.slice ia (Ls ++ Lt).length ic):=cell_of hK.law.blk 1
       have q4:wr.cell? ⟨wb,5,none⟩=some (.slice ma (Ls ++ Lt).length mc):=cell_of hK.law.blk 5
       have p2:=frozen_of hK.law.blk 1
       have p4:=frozen_of hK.law.blk 5
       have hwr:=lt_of_heap hK.law.blk
       have n1:Hid ((Value.slice ia (Ls ++ Lt).length ic).ownBlock≠some wb):=fun e=>by have:=hK.law.tS wb e;have:=hK.law.tag;omega
       have n2:Hid ((Value.slice ma (Ls ++ Lt).length mc).ownBlock≠some wb):=fun e=>by have:=hK.law.t2 wb e;have:=hK.law.tag;omega
       have HK:=hide hK
       clear hK HI0
       generalize hNN:(Ls ++ Lt).length=N at *
       have HNN:=hide hNN
       have HB:=hide (uh HK).law.blk
       clear hNN
       go_wp2_with (at_builtin;go_must (refine wpList_append_stands _ rfl _ _ _ rfl 0 98 i5 _ 1 24 Tryz.underlying31 hi5 y50 y51 y52 rfl (by omega) _ N ((Ls ++ Lt).map entV) rfl ?own ⟨wr.heap.size,0,none⟩ 1 1 [.slice x.a x.n x.cap] rfl rfl ?news ?one (by omega) ?h63 ?bytes (Nat.zero_le _) ?next))
       case own=>have:=(uh HK).law.kS.row.alloc (.cells #[.slice x.a x.n x.cap] 98);rw [uh HNN] at this;exact this
       case news=>exact World.news_of_block (cs:=#[.slice x.a x.n x.cap]) (heap_alloc_new wr _)
       case one=>simp [Value.oneCell']
       case h63=>unfold maxLen;omega
       case bytes=>omega
       case next =>
        intro g1 c1 B1 hown1 hgrow1 hat1 hlt1 hst1
        have F1:=field_append (f:=1) (v:=.slice ia N ic) (uh HB) (uh n1) hown1 hgrow1 (by simpa using hat1)
        have z2:B1.cell? ⟨wb,1,none⟩=some (.slice ia N ic):=(hgrow1.cell_far _ (by simp;omega) (fun e=>uh n1 e.symm)).trans ((World.cell?_of_block (w:=wr) (Below.heap_alloc _ _ _ hwr)).trans q2)
        have z4:B1.cell? ⟨wb,5,none⟩=some (.slice ma N mc):=(hgrow1.cell_far _ (by simp;omega) (fun e=>uh n1 e.symm)).trans ((World.cell?_of_block (w:=wr) (Below.heap_alloc _ _ _ hwr)).trans q4)
        have zf2:B1.frozen? ⟨wb,1,none⟩=false:=(hgrow1.frozen_far _ (by simp;omega) (fun e=>uh n1 e.symm)).trans ((World.frozen?_of_block (w:=wr) (Below.heap_alloc _ _ _ hwr)).trans p2)
        have zf4:B1.frozen? ⟨wb,5,none⟩=false:=(hgrow1.frozen_far _ (by simp;omega) (fun e=>uh n1 e.symm)).trans ((World.frozen?_of_block (w:=wr) (Below.heap_alloc _ _ _ hwr)).trans p4)
        have HF1:=hide F1
        have zB1:=hgrow1.size
        simp at zB1
        have sC1:(B1.setCell ⟨wb,1,none⟩ (.slice (some ⟨g1,0,none⟩) (N+1) c1)).heap.size=B1.heap.size:=by simp [World.setCell]
        have HO2:Hid ((B1.setCell ⟨wb,1,none⟩ (.slice (some ⟨g1,0,none⟩) (N+1) c1)).ownsRow 0 3 1 (.slice ma N mc) N ((Ls ++ Lt).map entM)):=by
         have:=(uh HK).law.kS.ms
         rw [uh HNN] at this
         refine ownsRow_of_block this fun k hk=>F1.2.2.1.block k (this.lt k hk).2 ?_
         rintro (e | e)
         ·exact uh n2 (e ▸ hk)
         ·have a:=(uh HK).law.tS k e;have b:=(uh HK).law.t2 k hk;omega
        have HO3:Hid ((B1.setCell ⟨wb,1,none⟩ (.slice (some ⟨g1,0,none⟩) (N+1) c1)).ownsRow 0 100 5 (entV x) x.n (repP patS x.m x.n)):=by
         refine ownsRow_of_block (uh HK).row fun k hk=>F1.2.2.1.block k ((uh HK).row.lt k hk).2 ?_
         have c:=(uh HK).xt k hk
         rintro (e | e)
         ·have:=(uh HK).law.tag;rw [e] at c;omega
         ·have a:=(uh HK).law.tS k e;omega
        have HW2:Hid (((B1.setCell ⟨wb,1,none⟩ (.slice (some ⟨g1,0,none⟩) (N+1) c1)).alloc (.cells #[.int .i64 m] 3)).heap[B1.heap.size]?=some (.cells #[.int .i64 m] 3 (0,0))):=by
         have:=heap_alloc_new (B1.setCell ⟨wb,1,none⟩ (.slice (some ⟨g1,0,none⟩) (N+1) c1)) (.cells #[.int .i64 m] 3)
         rw [sC1] at this
         exact this
        clear F1 hown1 hgrow1 hat1 hst1 q2 q4 p2 p4
        go_wp2_with (at_builtin;go_must (refine wpList_append_stands _ rfl _ _ _ rfl 0 3 i3 _ 1 8 Tryz.underlying34 hi3 y30 y31 y32 rfl (by omega) _ N ((Ls ++ Lt).map entM) rfl ?own2 ⟨B1.heap.size,0,none⟩ 1 1 [.int .i64 m] rfl rfl ?news2 ?one2 (by omega) ?h632 ?bytes2 (Nat.zero_le _) ?next2))
        case own2=>exact (uh HO2).alloc _
        case news2=>exact World.news_of_block (cs:=#[.int .i64 m]) (uh HW2)
        case one2=>simp [Value.oneCell']
        case h632=>unfold maxLen;omega
        case bytes2=>omega
        case next2 =>
         intro g2 c2 B2 hown2 hgrow2 hat2 hlt2 hst2
         have F2:=field_append (W:=(B1.setCell ⟨wb,1,none⟩ (.slice (some ⟨g1,0,none⟩) (N+1) c1))) (f:=5) (v:=.slice ma N mc) (uh HF1).1 (uh n2) hown2 hgrow2 (by simpa [World.setCell] using hat2)
         have w1:=lt_of_heap (uh HF1).1
         have y4:B2.cell? ⟨wb,5,none⟩=some (.slice ma N mc):=(hgrow2.cell_far _ (by simp [World.setCell];omega) (fun e=>uh n2 e.symm)).trans ((World.cell?_of_block (w:=(B1.setCell ⟨wb,1,none⟩ (.slice (some ⟨g1,0,none⟩) (N+1) c1))) (Below.heap_alloc _ _ _ w1)).trans (cell_of (uh HF1).1 5))
         have yf4:B2.frozen? ⟨wb,5,none⟩=false:=(hgrow2.frozen_far _ (by simp [World.setCell];omega) (fun e=>uh n2 e.symm)).trans ((World.frozen?_of_block (w:=(B1.setCell ⟨wb,1,none⟩ (.slice (some ⟨g1,0,none⟩) (N+1) c1))) (Below.heap_alloc _ _ _ w1)).trans (frozen_of (uh HF1).1 5))
         have HF2:=hide F2
         have sC2:(B2.setCell ⟨wb,5,none⟩ (.slice (some ⟨g2,0,none⟩) (N+1) c2)).heap.size=B2.heap.size:=by simp [World.setCell]
         have HO4:Hid ((B2.setCell ⟨wb,5,none⟩ (.slice (some ⟨g2,0,none⟩) (N+1) c2)).ownsRow 0 100 5 (entV x) x.n (repP patS x.m x.n)):=by
          refine ownsRow_of_block (uh HO3) fun k hk=>F2.2.2.1.block k ((uh HO3).lt k hk).2 ?_
          have c:=(uh HK).xt k hk
          rintro (e | e)
          ·have:=(uh HK).law.tag;rw [e] at c;omega
          ·have a:=(uh HK).law.t2 k e;omega
         have HW3:Hid (((B2.setCell ⟨wb,5,none⟩ (.slice (some ⟨g2,0,none⟩) (N+1) c2)).alloc (.cells #[.int .i64 m,.int .i64 0,.bool false,.slice none 0 0,.int .i64 0] 100)).heap[B2.heap.size]?=some (.cells #[.int .i64 m,.int .i64 0,.bool false,.slice none 0 0,.int .i64 0] 100 (0,0))):=by
          have:=heap_alloc_new (B2.setCell ⟨wb,5,none⟩ (.slice (some ⟨g2,0,none⟩) (N+1) c2)) (.cells #[.int .i64 m,.int .i64 0,.bool false,.slice none 0 0,.int .i64 0] 100)
          rw [sC2] at this
          exact this
         clear F2 hown2 hgrow2 hat2 hst2 z2 z4 zf2 zf4
         go_wp2_with (at_builtin;go_must (refine wpList_append_stands _ rfl _ _ _ rfl 0 100 i8 _ 5 56 Tryz.underlying98 hi8 y80 y81 y82 rfl (by omega) _ x.n (repP patS x.m x.n) rfl ?own3 ⟨B2.heap.size,0,none⟩ 1 1 [.int .i64 m,.int .i64 0,.bool false,.slice none 0 0,.int .i64 0] rfl rfl ?news3 ?one3 (by omega) ?h633 ?bytes3 (Nat.zero_le _) ?next3))
         case own3=>exact (uh HO4).alloc _
         case news3=>exact World.news_of_block (cs:=#[.int .i64 m,.int .i64 0,.bool false,.slice none 0 0,.int .i64 0]) (uh HW3)
         case one3=>simp [Value.oneCell']
         case h633=>unfold maxLen;omega
         case bytes3=>omega
         case next3 =>
          intro g3 c3 D hown3 hgrow3 hat3 hlt3 hst3
          have L3:=list_append hgrow3 hst3 (by simpa [World.setCell] using hat3)
          have hxm:=(uh HK).xm
          obtain ⟨ρ2,hstep⟩:=(uh HK).step (by omega) (by rw [uh HNN];omega) (N:=N+1) (by rw [uh HNN]) (uh HF1).1 (by rw [List.map_append,List.append_assoc];exact (uh HF1).2.1) (uh HF1).2.2.1 (uh HF1).2.2.2.1 (uh HF2).1 (by have:=(uh HF2).2.1;rw [←hxm] at this;rw [List.map_append,List.append_assoc];exact this) (uh HF2).2.2.1 (uh HF2).2.2.2.1 (by rw [←hxm] at hown3;exact hown3) L3.1 L3.2.1 L3.2.2
          have HStep:=hide hstep
          clear hstep L3 hown3 hgrow3 hat3 hst3 hxm
          go_wp2
          go_roundw
          case rel=>exact ⟨j+1,ρ2,_,_,_,⟨some ⟨g3,0,none⟩,x.n+1,c3,x.m⟩,by omega,by go_num,rfl,uh HStep⟩
          case measure=>simp [intOf];omega
      ·have HK:=hide hK
       have e4:Hid (j=4):=by (unfold Hid;omega)
       clear hK
       go_wp2
       have hK:=uh HK
       have e4':=uh e4
       subst e4'
       have hp:=PInv.done (uh HNL) (uh HPI) (uh HO) (by rw [uh HmE] at hK;exact hK)
       exact bodyPost_ret (v:=.tuple #[]) (by simp [results,Tryz.results34,go_sem]) rfl hp
def Grp (w:World) (ρ:Nat→Nat) (gb:Nat) (C:Cfg) (now:Rest) (l:List Sh):Prop:=∃sv m,m.map (·.s)=l∧GrpAt w ρ gb C now sv m
theorem to_map {m:List Cs} {l:List Sh} (h:m.map (·.s)=l) {i:Nat} {s:Sh} (hi:l[i]?=some s):∃t:Cs,m[i]?=some t∧t.s=s:=by
 rw [←h] at hi
 simp at hi
 exact hi
theorem GrpPost.grp {w w':World} {ρ:Nat→Nat} {gb:Nat} {C:Cfg} {now:Rest} {l:List Sh} (h:GrpPost w ρ gb C now l w'):∃ρ',Grp w' ρ' gb C now l∧Keeps (mine ρ) w w'∧Ext w.heap.size ρ ρ'∧Fits w' ρ':=by
 obtain ⟨ρ',sv,m,a,b,c,d,e⟩:=h
 exact ⟨ρ',⟨sv,m,a,b⟩,c,d,e⟩
set_option maxHeartbeats 400000 in
theorem gSplit_any (w:World) (ρ:Nat→Nat) (gb:Nat) (C:Cfg) (now:Rest) (l:List Sh) (n a:Int) (h:Grp w ρ gb C now l) (hf:Fits w ρ) (hI:Inv l) :
 Calls Tryz.prog 100 #[.pointer (some ⟨gb,0,none⟩),.int .i64 n,.int .i64 a] w fun e w' =>
  e=.returned (.tuple #[.int .i64 (aSplit l n a).2.1,.int .i64 (aSplit l n a).2.2])∧GrpPost w ρ gb C now (aSplit l n a).1 w':=by
 obtain ⟨sv,m,rfl,G⟩:=h
 have hl:m.length≤16:=by have:=hI.len;simpa using this
 have h0:0<m.length:=by have:=hI.pos;simpa using this
 have HS:=hide (split_any w ρ gb C now sv m n a G hf h0 hl)
 obtain ⟨c6,_⟩:=G.cells
 clear G hI
 go_enter Tryz.func100,Tryz.ntmps100
 go_wp2_with (go_at_call 126;refine (uh HS).mono ?_;rintro e w1 ⟨rfl,hp⟩)
 go_ret2
 exact ⟨rfl,hp⟩
set_option maxHeartbeats 400000 in
theorem gMerge_any (w:World) (ρ:Nat→Nat) (gb:Nat) (C:Cfg) (now:Rest) (l:List Sh) (n a:Int) (h:Grp w ρ gb C now l) (hf:Fits w ρ) (hI:Inv l) :
 Calls Tryz.prog 102 #[.pointer (some ⟨gb,0,none⟩),.int .i64 n,.int .i64 a] w fun e w' =>
  e=.returned (.tuple #[.int .i64 (aMerge l n a).2.1,.int .i64 (aMerge l n a).2.2])∧GrpPost w ρ gb C now (aMerge l n a).1 w':=by
 obtain ⟨sv,m,rfl,G⟩:=h
 have hl:m.length≤16:=by have:=hI.len;simpa using this
 have h0:0<m.length:=by have:=hI.pos;simpa using this
 have HS:=hide (merge_any w ρ gb C now sv m n a G hf h0 hl (fun i s hi=>(hI.rng i s.s (by simp [hi])).2.1))
 obtain ⟨c6,_⟩:=G.cells
 clear G hI
 go_enter Tryz.func102,Tryz.ntmps102
 go_wp2_with (go_at_call 127;refine (uh HS).mono ?_;rintro e w1 ⟨rfl,hp⟩)
 go_ret2
 exact ⟨rfl,hp⟩
set_option maxHeartbeats 400000 in
theorem gShards_any (w:World) (ρ:Nat→Nat) (gb:Nat) (C:Cfg) (now:Rest) (l:List Sh) (h:Grp w ρ gb C now l) (hI:Inv l) :
 Calls Tryz.prog 31 #[.pointer (some ⟨gb,0,none⟩)] w (ListPost w l):=by
 obtain ⟨sv,m,rfl,G⟩:=h
 have hl:m.length≤16:=by have:=hI.len;simpa using this
 have h0:0<m.length:=by have:=hI.pos;simpa using this
 have HS:=hide (list_any w ρ gb C now sv m G h0 hl (fun i s hi=>(hI.parL i s.s (by simp [hi])).1))
 obtain ⟨c6,_⟩:=G.cells
 clear G hI
 go_enter Tryz.func31,Tryz.ntmps31
 go_wp2_with (go_at_call 70;refine (uh HS).mono ?_;rintro e w1 ⟨v,k,rfl,hp⟩)
 go_ret
 exact ⟨v,k,rfl,hp⟩
theorem GrpAt.tick {w:World} {ρ:Nat→Nat} {gb:Nat} {C:Cfg} {now:Rest} {sv:Value} {m:List Cs} (h:GrpAt w ρ gb C now sv m) (hf:Fits w ρ) (hm:m.length≤16) (n':Int) :
 GrpPost w ρ gb C { now with t:=n' } (m.map (·.s)) (w.setCell ⟨gb,6,none⟩ (.int .i64 n')):=by
 have hk:Keeps (fun k=>k=gb) w (w.setCell ⟨gb,6,none⟩ (.int .i64 n')):=(Keeps.refl (fun k=>k=gb) w).setCell (p:=⟨gb,6,none⟩) (Or.inl rfl) _
 refine ⟨ρ,sv,m,rfl,⟨?_,h.tag,?_,ownsRow_keeps h.wk hk (fun k hkk e=>by subst e;have:=h.wkT _ hkk;have:=h.tag;omega),h.wkT,h.dnL,h.lsL⟩,hk.mono (fun k _ e=>by subst e;unfold mine;rw [h.tag];omega),Ext.refl hf,fun k hk=>hf k (by simpa [World.setCell] using hk)⟩
 ·rw [heap_setCell_same h.blk]
  unfold grpArr
  rw [List.setIfInBounds_toArray]
  rfl
 ·have lt:∀{i:Nat} {s:Cs},m[i]?=some s→i<16:=fun hi=>by have:=(List.getElem?_eq_some_iff.1 hi).1;omega
  refine ⟨ownsRow_keeps h.log.row hk (fun k hkk e=>by subst e;have:=h.log.rowT _ hkk;have:=h.tag;omega),h.log.rowT,fun i s hi=>ownsRow_keeps (h.log.par i s hi) hk (fun k hkk e=>by subst e;have:=h.log.parT i s hi _ hkk;have:=h.tag;omega),h.log.parT,fun i s hi=>?_,h.log.rcT⟩
  exact ownsRow_keeps (h.log.rcv i s hi) hk (fun k hkk e=>by subst e;have:=h.log.rcT i s hi _ hkk;have:=h.tag;omega)
set_option maxHeartbeats 400000 in
theorem gTick_any (w:World) (ρ:Nat→Nat) (gb:Nat) (C:Cfg) (now:Rest) (l:List Sh) (h:Grp w ρ gb C now l) (hf:Fits w ρ) (hI:Inv l) :
 Calls Tryz.prog 104 #[.pointer (some ⟨gb,0,none⟩)] w fun e w'=>e=.returned (.tuple #[])∧GrpPost w ρ gb C { now with t:=wrap64 (now.t+1) } l w':=by
 obtain ⟨sv,m,rfl,G⟩:=h
 have hl:m.length≤16:=by have:=hI.len;simpa using this
 obtain ⟨_,_,c7,f7,_⟩:=G.cells
 have HG:=hide (G.tick hf hl (wrap64 (now.t+1)))
 clear G hI
 go_enter Tryz.func104,Tryz.ntmps104
 go_wp2
 go_end0
 exact ⟨rfl,uh HG⟩
theorem makeR_zero {s:ByteArray} {v t:Int} (h:makeR s v t=0):keyB s=true∧¬(1000000<v∨v < -1000000)∧¬(t<0∨1000000<t):=by
 unfold makeR at h
 split at h
 ·omega
 ·rename_i hk
  split at h
  ·omega
  ·split at h
   ·omega
   ·exact ⟨by simpa using hk,by assumption,by assumption⟩
theorem keyB_len {s:ByteArray} (h:keyB s=true):s.data.toList.length≤8∧∀b ∈ s.data.toList,b.toNat≠0:=by
 simp only [keyB,Bool.and_eq_true,decide_eq_true_eq,List.all_eq_true] at h
 refine ⟨by have:=h.1.2;simpa using this,fun b hb=>?_⟩
 have:=h.2 b hb
 simp [letter] at this
 omega
def PutPost (w:World) (ρ:Nat→Nat) (gb:Nat) (C:Cfg) (now:Rest) (l:List Sh) (s:ByteArray) (v t:Int) (e:Ending) (w':World):Prop :=
 (makeR s v t≠0∧e=.returned (.tuple #[.int .i64 0,.int .i64 0,.int .i64 (makeR s v t)])∧GrpPost w ρ gb C now l w') ∨
 (makeR s v t=0∧∃k x,Home l (hashL s.data.toList) k x∧e=.returned (putV k x.cnt)∧GrpPost w ρ gb C now (putL l k x ⟨s.data.toList,v,t⟩) w')
set_option maxRecDepth 100000 in
set_option maxHeartbeats 1000000 in
theorem gPut_any (w:World) (ρ:Nat→Nat) (gb:Nat) (C:Cfg) (now:Rest) (l:List Sh) (s:ByteArray) (v t:Int) (h:Grp w ρ gb C now l) (hf:Fits w ρ) (hI:Inv l) (hs:s.size≤maxLen) :
 Calls Tryz.prog 98 #[.pointer (some ⟨gb,0,none⟩),.string s,.int .i64 v,.int .i64 t] w (PutPost w ρ gb C now l s v t):=by
 obtain ⟨sv,m,rfl,G⟩:=h
 have hl:m.length≤16:=by have:=hI.len;simpa using this
 have HM:=hide (make_any s v t w hs)
 obtain ⟨c6,_,_,_,hgb⟩:=G.cells
 have HX:Hid (∀w1,Below w.heap.size w w1→GrpAt w1 ρ gb C now sv m):=fun w1 hb=>G.keeps (Keeps.of_below hb) (fun j hj=>Or.inr hj) (fun _ _=>rfl) hl
 have HF:=hide hf
 by_cases hr:makeR s v t=0
 ·obtain ⟨hk,_,_⟩:=makeR_zero hr
  obtain ⟨hk8,hz⟩:=keyB_len hk
  obtain ⟨hb0,hb1⟩:=hashL_bd s.data.toList
  obtain ⟨k,x,hx,hacc,hu⟩:=hI.part (hashL s.data.toList) hb0 hb1
  obtain ⟨y,hy,rfl⟩:=to_map rfl hx
  have HP:Hid (∀w1,GrpAt w1 ρ gb C now sv m→Fits w1 ρ→Calls Tryz.prog 124 #[.pointer (some ⟨gb,7,none⟩),.agg (recArr s.data.toList v t)] w1 fun e w'=>e=.returned (putV k y.s.cnt)∧GrpPost w1 ρ gb C now (putL (m.map (·.s)) k y.s ⟨s.data.toList,v,t⟩) w'):=fun w1 G1 F1 =>
   logPut_any w1 ρ gb C now sv m s.data.toList v t G1 F1 hl hk8 hz k y hy hacc (fun j t hj ha=>hu j t.s (by simp [hj]) ha) (hI.cnt k y.s hx)
  have HHome:=hide (⟨hx,hacc,hu⟩:Home (m.map (·.s)) (hashL s.data.toList) k y.s)
  have HR:=hide hr
  rw [madeR_yes hr] at HM
  unfold recArr at HM HP
  clear G hI hr hk hk8 hz hb0 hb1 hx hacc hu hy hf
  go_enter Tryz.func98,Tryz.ntmps98
  go_wp2_with (go_at_call 123;refine (uh HM).mono ?_;rintro e w1 ⟨rfl,hb⟩)
  have hN:=heap_alloc_new w1 (.cells #[.int .u8 (byteAt s.data.toList 0),.int .u8 (byteAt s.data.toList 1),.int .u8 (byteAt s.data.toList 2),.int .u8 (byteAt s.data.toList 3),.int .u8 (byteAt s.data.toList 4),.int .u8 (byteAt s.data.toList 5),.int .u8 (byteAt s.data.toList 6),.int .u8 (byteAt s.data.toList 7),.int .i64 v,.int .i64 t] 137)
  have hB:=hb.alloc hb.size (.cells #[.int .u8 (byteAt s.data.toList 0),.int .u8 (byteAt s.data.toList 1),.int .u8 (byteAt s.data.toList 2),.int .u8 (byteAt s.data.toList 3),.int .u8 (byteAt s.data.toList 4),.int .u8 (byteAt s.data.toList 5),.int .u8 (byteAt s.data.toList 6),.int .u8 (byteAt s.data.toList 7),.int .i64 v,.int .i64 t] 137)
  have hws:=hb.size
  have hZ:(w1.alloc (.cells #[.int .u8 (byteAt s.data.toList 0),.int .u8 (byteAt s.data.toList 1),.int .u8 (byteAt s.data.toList 2),.int .u8 (byteAt s.data.toList 3),.int .u8 (byteAt s.data.toList 4),.int .u8 (byteAt s.data.toList 5),.int .u8 (byteAt s.data.toList 6),.int .u8 (byteAt s.data.toList 7),.int .i64 v,.int .i64 t] 137)).heap.size=w1.heap.size+1:=by simp
  generalize w1.alloc _=W at hN hB hZ ⊢
  obtain ⟨k0,k1,k2,k3,k4,k5,k6,k7,k8,k9⟩:=load10 hN
  have HP1:=hide (uh HP W.drew (uh HX W.drew hB.drew) (fun q hq=>uh HF q (by have:W.heap.size≤q:=hq;omega)))
  have hun:Hid (¬mine ρ w1.heap.size):=fun hm=>by have:=uh HF w1.heap.size hws;unfold mine at hm;omega
  have HB:=hide hB
  have HZ:=hide hZ
  clear hN hB hZ hb
  by_cases hc:32≤y.s.cnt
  ·have HV:Hid (putV k y.s.cnt=.tuple #[.int .i64 0,.int .i64 0,.int .i64 8]):=by unfold putV;rw [if_pos hc];trivial
   rw [uh HV] at HP1
   go_region_held3 (fun w'=>w'.cell? ⟨w1.heap.size,0,none⟩=some (.int .u8 (byteAt s.data.toList 0))∧w'.cell? ⟨w1.heap.size,1,none⟩=some (.int .u8 (byteAt s.data.toList 1))∧w'.cell? ⟨w1.heap.size,2,none⟩=some (.int .u8 (byteAt s.data.toList 2))∧w'.cell? ⟨w1.heap.size,3,none⟩=some (.int .u8 (byteAt s.data.toList 3))∧w'.cell? ⟨w1.heap.size,4,none⟩=some (.int .u8 (byteAt s.data.toList 4))∧w'.cell? ⟨w1.heap.size,5,none⟩=some (.int .u8 (byteAt s.data.toList 5))∧w'.cell? ⟨w1.heap.size,6,none⟩=some (.int .u8 (byteAt s.data.toList 6))∧w'.cell? ⟨w1.heap.size,7,none⟩=some (.int .u8 (byteAt s.data.toList 7))∧w'.cell? ⟨w1.heap.size,8,none⟩=some (.int .i64 v)∧w'.cell? ⟨w1.heap.size,9,none⟩=some (.int .i64 t))
    (first | go_keep | (go_split_ands;refine ⟨?_,?_,?_,?_,?_,?_,?_,?_,?_,?_⟩ <;> (rw [hkp.cell (show w1.heap.size<W.heap.size by have:=uh HZ;omega) (uh hun)];assumption)))
    ((go_at_call 124;refine (uh HP1).mono ?_;rintro e w2 ⟨rfl,hpost⟩;have hkp:=hpost.choose_spec.choose_spec.choose_spec.2.2.1))
   go_wp2
   go_ret3
   refine Or.inr ⟨uh HR,k,y.s,uh HHome,by rw [uh HV];rfl,GrpPost.trans (w1:=W.drew) ((Keeps.of_below (uh HB).drew).mono (fun _ _ _=>by omega)) (Ext.refl (uh HF)) hpost⟩
  ·have HV:Hid (putV k y.s.cnt=.tuple #[.int .i64 k,.int .i64 y.s.cnt,.int .i64 0]):=by unfold putV;rw [if_neg hc];trivial
   rw [uh HV] at HP1
   go_region_held3 (fun w'=>w'.cell? ⟨w1.heap.size,0,none⟩=some (.int .u8 (byteAt s.data.toList 0))∧w'.cell? ⟨w1.heap.size,1,none⟩=some (.int .u8 (byteAt s.data.toList 1))∧w'.cell? ⟨w1.heap.size,2,none⟩=some (.int .u8 (byteAt s.data.toList 2))∧w'.cell? ⟨w1.heap.size,3,none⟩=some (.int .u8 (byteAt s.data.toList 3))∧w'.cell? ⟨w1.heap.size,4,none⟩=some (.int .u8 (byteAt s.data.toList 4))∧w'.cell? ⟨w1.heap.size,5,none⟩=some (.int .u8 (byteAt s.data.toList 5))∧w'.cell? ⟨w1.heap.size,6,none⟩=some (.int .u8 (byteAt s.data.toList 6))∧w'.cell? ⟨w1.heap.size,7,none⟩=some (.int .u8 (byteAt s.data.toList 7))∧w'.cell? ⟨w1.heap.size,8,none⟩=some (.int .i64 v)∧w'.cell? ⟨w1.heap.size,9,none⟩=some (.int .i64 t))
    (first | go_keep | (go_split_ands;refine ⟨?_,?_,?_,?_,?_,?_,?_,?_,?_,?_⟩ <;> (rw [hkp.cell (show w1.heap.size<W.heap.size by have:=uh HZ;omega) (uh hun)];assumption)))
    ((go_at_call 124;refine (uh HP1).mono ?_;rintro e w2 ⟨rfl,hpost⟩;have hkp:=hpost.choose_spec.choose_spec.choose_spec.2.2.1))
   go_wp2
   go_ret3
   refine Or.inr ⟨uh HR,k,y.s,uh HHome,by rw [uh HV];rfl,GrpPost.trans (w1:=W.drew) ((Keeps.of_below (uh HB).drew).mono (fun _ _ _=>by omega)) (Ext.refl (uh HF)) hpost⟩
 ·rw [madeR_no rfl hr] at HM
  have HR:=hide hr
  have hne:(makeR s v t != 0)=true:=by rw [bne_iff_ne];exact hr
  unfold recArr at HM
  clear G hI hf hr
  generalize hq:makeR s v t=q at *
  have HQ:=hide hq
  clear hq
  go_enter Tryz.func98,Tryz.ntmps98
  go_wp2_with (go_at_call 123;refine (uh HM).mono ?_;rintro e w1 ⟨rfl,hb⟩)
  go_ret3
  exact Or.inl ⟨by rw [uh HQ];exact uh HR,by rw [uh HQ];rfl,ρ,sv,m,rfl,uh HX _ (hb.alloc hb.size _),(Keeps.of_below (hb.alloc hb.size _)).mono (fun _ _ _=>by omega),Ext.refl (uh HF),fun j hj=>uh HF j (by have:=hb.size;simp at hj;omega)⟩
structure Side (w:World) (ρ:Nat→Nat) (sb gb yb:Nat) (C:Cfg) (now:Rest) (time:Int) (l:List Sh) (rs:List Rf) (P:List Pt) (wv:Wks) (fv:Value):Prop where
 blk:w.heap[sb]?=some (.cells #[.pointer (some ⟨gb,0,none⟩),.pointer (some ⟨yb,0,none⟩)] 46 (0,0))
 tag:ρ sb=150
 grp:Grp w ρ gb C now l
 ref:∃sv lv,RefAt w ρ yb C time rs P wv fv sv lv
 same:absR rs P=l
 inv:Inv l
 pin:∀e ∈ P,e.shard<rs.length
theorem Side.keeps {S:Nat→Prop} {w w':World} {ρ ρ':Nat→Nat} {sb gb yb:Nat} {C:Cfg} {now:Rest} {time:Int} {l:List Sh} {rs:List Rf} {P:List Pt} {wv:Wks} {fv:Value} (h:Side w ρ sb gb yb C now time l rs P wv fv) (hk:Keeps S w w') (hS:∀k,S k→ρ k=0∨300≤ρ k∨w.heap.size≤k) (he:∀k,k<w.heap.size→ρ' k=ρ k):Side w' ρ' sb gb yb C now time l rs P wv fv:=by
 have hlt:=lt_of_heap h.blk
 refine ⟨?_,by rw [he sb hlt];exact h.tag,?_,?_,h.same,h.inv,h.pin⟩
 ·rw [hk.block sb hlt fun hs=>?_]
  ·exact h.blk
  ·have:=hS sb hs;have:=h.tag;omega
 ·obtain ⟨sv,m,hm,G⟩:=h.grp
  exact ⟨sv,m,hm,G.keeps hk (fun k hs=>by have:=hS k hs;unfold mine;omega) he (by have:=h.inv.len;rw [←hm] at this;simpa using this)⟩
 ·obtain ⟨sv,lv,R⟩:=h.ref
  exact ⟨sv,lv,R.keeps hk (fun k hs=>by have:=hS k hs;unfold theirs;omega) he⟩
theorem Fits.below {w w':World} {ρ:Nat→Nat} (h:Fits w ρ) (hs:w.heap.size≤w'.heap.size):Fits w' ρ:=fun k hk=>h k (by omega)
theorem LawAt.below {w w':World} {ρ:Nat→Nat} {wb:Nat} {sdv:Value} {last:Int} {sv iv hv m1 m2 m3:Value} {Ls Li Lh:List Ke} (h:LawAt w ρ wb sdv last sv iv hv m1 m2 m3 Ls Li Lh) (hb:Below w.heap.size w w'):LawAt w' ρ wb sdv last sv iv hv m1 m2 m3 Ls Li Lh :=
 h.keeps (Keeps.of_below hb) (fun _ hk=>Or.inr hk) (fun _ _ _=>rfl)
theorem ListAt.below {w w':World} {B:Nat} {v:Value} {l:List (Sh × Value)} (h:ListAt w B v l) (hb:Below w.heap.size w w'):ListAt w' B v l :=
 ⟨ownsRow_of_block h.row fun k hk=>hb.block k (h.row.lt k hk).2,h.blk,fun i x hi=>ownsRow_of_block (h.par i x hi) fun k hk=>hb.block k ((h.par i x hi).lt k hk).2,h.parS,h.apart,h.vapart⟩
def Frame (w:World) (ρ:Nat→Nat) (w':World) (ρ':Nat→Nat):Prop:=Keeps (fun k=>ρ k≠0) w w'∧∀k,k<w.heap.size→ρ k=0→ρ' k=0
def AskPost (w:World) (ρ:Nat→Nat) (wb:Nat) (sdv:Value) (last:Int) (hv m3:Value) (Ls Li Lh:List Ke) (sb gb yb:Nat) (C:Cfg) (now:Rest) (time:Int) (l:List Sh) (rs:List Rf) (P:List Pt) (wv:Wks) (fv:Value) (e:Ending) (w':World):Prop :=
 e=.returned (.bool true)∧∃ρ' last' sv' iv' m1' m2' Ls' Li',LawAt w' ρ' wb sdv last' sv' iv' hv m1' m2' m3 Ls' Li' Lh∧Side w' ρ' sb gb yb C now time l rs P wv fv∧Fits w' ρ'∧Ls'.length=Ls.length+4∧Li'.length≤Li.length+64∧last - 17≤last'∧last'≤last∧Frame w ρ w' ρ'
theorem AskPost.of {w w4 w':World} {ρ:Nat→Nat} {wb:Nat} {sdv:Value} {last:Int} {hv m3:Value} {Ls Li Lh:List Ke} {sb gb yb:Nat} {C:Cfg} {now:Rest} {time:Int} {l:List Sh} {rs:List Rf} {P:List Pt} {wv:Wks} {fv:Value} (hS:Side w ρ sb gb yb C now time l rs P wv fv) {v:Value} {k:List (Sh × Value)} (hb:Below w.heap.size w w4) (hl:ListAt w4 w.heap.size v k) (hkl:k.length≤16) {e:Ending}
 (hp:KeepPostS w4 ρ wb sdv last hv m3 Ls Li Lh v k e w'):AskPost w ρ wb sdv last hv m3 Ls Li Lh sb gb yb C now time l rs P wv fv (.returned (.bool true)) w':=by
 obtain ⟨_,ρ',sv',iv',m1',m2',Lt,Ln,hL,h4,hn,t1,t2,hf,hk⟩:=hp
 have hz:=hb.size
 have out:∀q,OutB v k q→w.heap.size≤q:=by
  rintro q (h | ⟨i,x,hi,hx⟩)
  ·exact (hl.row.lt q h).1
  ·exact ((hl.par i x hi).lt q hx).1
 have tg:∀q,q<w.heap.size→ρ' q=ρ q:=fun q hq=>t1 q (by omega) (fun h=>by have:=out q h;omega)
 have kk:Keeps (fun q=>laws ρ q∨w.heap.size≤q) w w':=⟨hk.os.trans hb.os,hk.tape.trans hb.tape,hk.output.trans hb.output,Nat.le_trans hz hk.size,fun q hq hs=>by
  rw [hk.block q (by omega) (fun h=>hs (h.elim Or.inl (fun h=>Or.inr (out q h))))]
  exact hb.block q hq⟩
 refine ⟨rfl,ρ',_,sv',iv',m1',m2',Ls ++ Lt,Li ++ Ln,hL,?_,hf,by rw [List.length_append,h4],by rw [List.length_append,hn];omega,by omega,by omega,?_,fun q hq h0=>by rw [tg q hq];exact h0⟩
 ·exact hS.keeps kk (fun q hq=>by rcases hq with hq | hq;exact Or.inr (Or.inl hq);exact Or.inr (Or.inr hq)) tg
 ·exact kk.mono (fun q hq hs=>by rcases hs with hs | hs;unfold laws at hs;omega;omega)
theorem of_mapP {k:List (Sh × Value)} {l:List Sh} (h:k.map (·.1)=l):k.length=l.length:=by rw [←h];simp
set_option maxRecDepth 100000 in
set_option maxHeartbeats 8000000 in
theorem shardsAre_any {w:World} {ρ:Nat→Nat} {wb:Nat} {sdv:Value} {last:Int} {sv iv hv m1 m2 m3:Value} {Ls Li Lh:List Ke} {sb gb yb:Nat} {C:Cfg} {now:Rest} {time:Int} {l:List Sh} {rs:List Rf} {P:List Pt} {wv:Wks} {fv:Value} (hL:LawAt w ρ wb sdv last sv iv hv m1 m2 m3 Ls Li Lh) (hS:Side w ρ sb gb yb C now time l rs P wv fv) (hf:Fits w ρ)
 (h1:-8000000000000000000≤last) (h2:last≤0) (hlen:Li.length≤39999000) (hlenS:Ls.length≤40000000) (hP:P.length≤1000000) :
 Calls Tryz.prog 12 #[.pointer (some ⟨wb,0,none⟩),.pointer (some ⟨sb,0,none⟩)] w (AskPost w ρ wb sdv last hv m3 Ls Li Lh sb gb yb C now time l rs P wv fv):=by
 have hsl:=lt_of_heap hS.blk
 have s0:w.cell? ⟨sb,0,none⟩=some (.pointer (some ⟨gb,0,none⟩)):=cell_of hS.blk 0
 have s1:w.cell? ⟨sb,1,none⟩=some (.pointer (some ⟨yb,0,none⟩)):=cell_of hS.blk 1
 have HG:=hide (gShards_any w ρ gb C now l hS.grp hS.inv)
 have hrl:rs.length=l.length:=by rw [←hS.same,absR_len]
 have hl0:0<l.length:=hS.inv.pos
 have hl16:l.length≤16:=hS.inv.len
 have HR:Hid (∀w1,Below w.heap.size w w1→Calls Tryz.prog 32 #[.pointer (some ⟨yb,0,none⟩)] w1 fun e w'=>∃a cap,e=.returned (.slice a l.length cap)∧w'.ownsRow w1.heap.size 100 5 (.slice a l.length cap) l.length (listCells (refOut rs P))∧Below w1.heap.size w1 w'):=fun w1 hb=>by
  obtain ⟨sv,lv,R⟩:=hS.ref
  rw [←hrl]
  exact refList_any (R.keeps (Keeps.of_below hb) (fun _ hk=>Or.inr hk) (fun _ _=>rfl)) hP (by omega) (by omega)
 have HRP:Hid (∀w1,Below w.heap.size w w1→∀(i:Nat) (r:Rf),rs[i]?=some r→w1.ownsRow 0 3 1 r.pv r.par.length (r.par.map (Value.int .i64))):=fun w1 hb=>by
  obtain ⟨sv,lv,R⟩:=hS.ref
  exact (R.keeps (Keeps.of_below hb) (fun _ hk=>Or.inr hk) (fun _ _=>rfl)).par
 have HL:=hide hL
 have HS:=hide hS
 have HF:=hide hf
 clear hL hS hf
 go_enter Tryz.func12,Tryz.ntmps12
 have HRL:=hide hrl
 clear hrl
 go_wp2_with (go_at_call 31;refine (uh HG).mono ?_;rintro e w1 ⟨v,k,rfl,hkl,hat,hb1⟩;have s2:=(hb1.cell (p:=⟨sb,1,none⟩) hsl).trans s1;have HAT:=hide hat;have HB1:=hide hb1;have HKL:=hide hkl;have hrow:w1.ownsRow w.heap.size 100 5 v l.length (listCells k):=(by have:=hat.row;rw [←of_mapP hkl];exact this);obtain ⟨va,vc,rfl⟩:=ownsRow_len hrow;clear hat hb1 hkl hrow)
 refine (uh HR _ (uh HB1)).mono ?_
 rintro e w2 ⟨ya,yc,rfl,hown,hb2⟩
 have HOW:=hide hown
 have HB2:=hide hb2
 have hw12:=(uh HB1).size
 have hw22:=hb2.size
 have HB12:Hid (Below w.heap.size w w2):=(uh HB1).trans (hb2.mono hw12)
 have HAT2:=hide ((uh HAT).below hb2)
 clear hown hb2 s0 s1 s2 HAT
 go_wp2
 go_loopw [7] (fun i wr=>∃j:Nat,j≤l.length∧i=.int .i64 j∧Below w2.heap.size w2 wr) (fun i _=>l.length - (intOf i).toNat)
 case atStart=>exact ⟨0,Nat.zero_le _,rfl,Below.refl _ _⟩
 case round =>
  obtain ⟨j,hj,rfl,hbr⟩:=hrel
  have hwr:=hbr.size
  by_cases hlt:j<l.length
  ·obtain ⟨x,hx⟩:∃x,k[j]?=some x:=⟨_,List.getElem?_eq_getElem (by rw [of_mapP (uh HKL)];exact hlt)⟩
   obtain ⟨r,hr⟩:∃r,rs[j]?=some r:=⟨_,List.getElem?_eq_getElem (by rw [uh HRL];exact hlt)⟩
   have hls:l[j]?=some x.1:=by rw [←uh HKL];simp [hx]
   have hlr:(⟨r.lo,r.hi,r.op,r.par,rcsOf P j⟩:Sh)=x.1:=by
    have:=absR_get (P:=P) hr
    rw [(uh HS).same,hls] at this
    injection this with this
    exact this.symm
   have hro:=refOut_get (P:=P) hr
   rw [hlr] at hro
   have hpar:r.par=x.1.par:=by rw [←hlr]
   obtain ⟨s,pv⟩:=x
   simp only at hls hro hpar
   have hp2:s.par.length≤2:=((uh HS).inv.parL j s hls).1
   have hat3:=(uh HAT2).below hbr
   have row3:wr.ownsRow w.heap.size 100 5 (.slice va l.length vc) l.length (listCells k):=by have:=hat3.row;rw [of_mapP (uh HKL)] at this;exact this
   obtain ⟨lb,cp,cur,hv1,_,hcb,_⟩:=ownsRow_shape row3 (by omega)
   injection hv1 with e1 _ e3
   subst e1 e3
   have out3:wr.ownsRow w1.heap.size 100 5 (.slice ya l.length yc) l.length (listCells (refOut rs P)):=ownsRow_of_block (uh HOW) fun q hq=>hbr.block q ((uh HOW).lt q hq).2
   obtain ⟨mb,cp2,cur2,hv2,_,hcb2,_⟩:=ownsRow_shape out3 (by omega)
   injection hv2 with e4 _ e5
   subst e4 e5
   have hlbl:=lt_of_heap hcb
   have hmbl:=lt_of_heap hcb2
   have ca:∀q,q<5→wr.cell? ⟨lb,j*5+q,none⟩=(outCells (s,pv))[q]?:=fun q hq=>(World.ownsRow.cellAt row3 (j*5+q) (by omega)).trans (listCells_get k j q hq _ hx)
   have cb:∀q,q<5→wr.cell? ⟨mb,j*5+q,none⟩=(outCells (s,r.pv))[q]?:=fun q hq=>(World.ownsRow.cellAt out3 (j*5+q) (by omega)).trans (listCells_get _ j q hq _ hro)
   have hpa:=ownsRow_base (hat3.par j (s,pv) hx) (Nat.zero_le _)
   have hpb:=uh HRP wr ((uh HB12).trans (hbr.mono (by omega))) j r hr
   rw [hpar] at hpb
   have HSI:Hid (∀W,Below wr.heap.size wr W→Calls Tryz.prog 33 #[pv,r.pv] W fun e w'=>e=.returned (.bool true)∧Below W.heap.size W w'):=fun W hW=>by
    have:=sameInts_any W pv r.pv s.par s.par (ownsRow_of_block hpa fun q hq=>hW.block q (hpa.lt q hq).2) (ownsRow_of_block hpb fun q hq=>hW.block q (hpb.lt q hq).2) (by omega)
    simpa using this
   have a0:wr.cell? ⟨lb,j*5,none⟩=some (.int .i64 s.lo):=ca 0 (by omega)
   have a1:wr.cell? ⟨lb,j*5+1,none⟩=some (.int .i64 s.hi):=ca 1 (by omega)
   have a2:wr.cell? ⟨lb,j*5+2,none⟩=some (.bool s.op):=ca 2 (by omega)
   have a3:wr.cell? ⟨lb,j*5+3,none⟩=some pv:=ca 3 (by omega)
   have a4:wr.cell? ⟨lb,j*5+4,none⟩=some (.int .i64 s.cnt):=ca 4 (by omega)
   have b0:wr.cell? ⟨mb,j*5,none⟩=some (.int .i64 s.lo):=cb 0 (by omega)
   have b1:wr.cell? ⟨mb,j*5+1,none⟩=some (.int .i64 s.hi):=cb 1 (by omega)
   have b2:wr.cell? ⟨mb,j*5+2,none⟩=some (.bool s.op):=cb 2 (by omega)
   have b3:wr.cell? ⟨mb,j*5+3,none⟩=some r.pv:=cb 3 (by omega)
   have b4:wr.cell? ⟨mb,j*5+4,none⟩=some (.int .i64 s.cnt):=cb 4 (by omega)
   have HBR:=hide hbr
   generalize r.pv=rv at *
   clear hat3 row3 out3 ca cb hpa hpb hls hlr hro hpar hx hr hcb hcb2 hbr
   go_wp2
   go_region_held3 (fun w'=>w'.cell? ⟨lb,j*5+3,none⟩=some pv∧w'.cell? ⟨mb,j*5+3,none⟩=some rv)
    (first | go_keep | (go_split_ands;refine ⟨?_,?_⟩ <;> (rw [hb5.cell (by simp;omega)];assumption)))
    ((go_at_call 33;refine (uh HSI _ (by first | exact (Below.refl _ _).drew | exact Below.refl _ _)).mono ?_;rintro e w5 ⟨rfl,hb5⟩))
   have hs5:wr.heap.size≤w5.heap.size:=hb5.size
   have a0:=(hb5.cell (p:=⟨lb,j*5,none⟩) hlbl).trans a0
   have a1:=(hb5.cell (p:=⟨lb,j*5+1,none⟩) hlbl).trans a1
   have a2:=(hb5.cell (p:=⟨lb,j*5+2,none⟩) hlbl).trans a2
   have a4:=(hb5.cell (p:=⟨lb,j*5+4,none⟩) hlbl).trans a4
   have b0:=(hb5.cell (p:=⟨mb,j*5,none⟩) hmbl).trans b0
   have b1:=(hb5.cell (p:=⟨mb,j*5+1,none⟩) hmbl).trans b1
   have b2:=(hb5.cell (p:=⟨mb,j*5+2,none⟩) hmbl).trans b2
   have b4:=(hb5.cell (p:=⟨mb,j*5+4,none⟩) hmbl).trans b4
   have HB5:Hid (Below w2.heap.size w2 w5):=(uh HBR).drew.trans (hb5.mono (show w2.heap.size≤wr.heap.size from hwr))
   clear hb5
   go_wp2
   go_quiet (fail)
   go_wp2
   go_roundw
   case rel=>exact ⟨j+1,by omega,by go_num,⟨(uh HB5).os,(uh HB5).tape,(uh HB5).output,(uh HB5).size,(uh HB5).block⟩⟩
   case measure=>simp [intOf];omega
  ·have HB3:Hid (Below w.heap.size w wr):=(uh HB12).trans (hbr.mono (by omega))
   have HAT3:=hide ((uh HAT2).below hbr)
   have HK:=hide (((uh HL).below (uh HB3)).kept)
   have HKS:Hid (∀W,Below wr.heap.size wr W→Calls Tryz.prog 34 #[.pointer (some ⟨wb,0,none⟩),.slice va l.length vc] W (KeepPostS W ρ wb sdv last hv m3 Ls Li Lh (.slice va l.length vc) k)):=fun W hW=>by
    have hBW:Below w.heap.size w W:=(uh HB3).trans (hW.mono (by have:=(uh HB3).size;omega))
    refine keepShards_any ((uh HL).below hBW) ((uh HF).below hBW.size) h1 h2 _ k (((uh HAT3).below hW).outAt ρ (fun q hq=>uh HF q hq)) (by rw [of_mapP (uh HKL)];exact hl16) (fun i x hi=>?_) hlen hlenS
    exact ((uh HS).inv.parL i x.1 (by rw [←uh HKL];simp [hi])).1
   clear hbr
   go_wp2_with (go_at_call 11;refine (uh HK).mono ?_;rintro e w6 ⟨rfl,hb6⟩;have HB6:=hide hb6;clear hb6)
   refine (uh HKS _ (uh HB6)).mono ?_
   rintro e w7 hp
   have HPP:=hide (AskPost.of (uh HS) ((uh HB3).trans ((uh HB6).mono (uh HB3).size)) ((uh HAT3).below (uh HB6)) (by rw [of_mapP (uh HKL)];exact hl16) hp)
   obtain ⟨rfl,-⟩:=hp
   go_wp2
   go_ret
   exact uh HPP
end Go.Proofs.YtpnkmnmchdabkaaGreat
namespace Go.Proofs.YtpnkmnmchdabkaaGreat
def finB (l:List Sh) (dn:Nat→Int):Nat→Nat→Bool
 | 0,_=>false
 | f+1,k=>match l[k]? with
   | none=>false
   | some s=>s.par.all (fun p=>finB l dn f p.toNat) && (!s.op && decide (dn k=s.cnt))
def fin (l:List Sh) (dn:Nat→Int) (k:Nat):Bool:=finB l dn (k+1) k
def rdy (l:List Sh) (dn:Nat→Int) (k:Nat):Bool:=match l[k]? with
 | none=>true
 | some s=>s.par.all (fun p=>fin l dn p.toNat)
theorem all_same {l:List Int} {f g:Int→Bool} (h:∀p ∈ l,f p=g p):l.all f=l.all g:=by
 induction l with
 | nil=>rfl
 | cons p r ih =>
   simp only [List.all_cons]
   rw [h p (by simp),ih (fun q hq=>h q (by simp [hq]))]
theorem finB_fuel {l:List Sh} (hI:Inv l) (dn:Nat→Int):∀(k f:Nat),k<f→finB l dn f k=finB l dn (k+1) k:=by
 intro k
 induction k using Nat.strongRecOn with
 | ind k ih =>
   intro f hf
   cases f with
   | zero=>omega
   | succ f =>
     cases hk:l[k]? with
     | none=>simp only [finB,hk]
     | some s =>
       simp only [finB,hk]
       congr 1
       have:∀p ∈ s.par,finB l dn f p.toNat=finB l dn k p.toNat:=by
        intro p hp
        obtain ⟨q,t,rfl,hq,_⟩:=hI.parR k s hk p hp
        rw [show ((q:Int)).toNat=q by omega,ih q hq f (by omega),ih q hq k hq]
       exact all_same this
theorem fin_is {l:List Sh} (hI:Inv l) (dn:Nat→Int) {k:Nat} {s:Sh} (hk:l[k]?=some s):fin l dn k=(rdy l dn k && (!s.op && decide (dn k=s.cnt))):=by
 unfold fin rdy
 simp only [finB,hk]
 congr 1
 have:∀p ∈ s.par,finB l dn k p.toNat=fin l dn p.toNat:=by
  intro p hp
  obtain ⟨q,t,rfl,hq,_⟩:=hI.parR k s hk p hp
  rw [show ((q:Int)).toNat=q by omega]
  exact finB_fuel hI dn q k hq
 exact all_same this
theorem rdy_is {l:List Sh} (dn:Nat→Int) {k:Nat} {s:Sh} (hk:l[k]?=some s):rdy l dn k=s.par.all (fun p=>fin l dn p.toNat):=by
 unfold rdy;simp only [hk]
end Go.Proofs.YtpnkmnmchdabkaaGreat
