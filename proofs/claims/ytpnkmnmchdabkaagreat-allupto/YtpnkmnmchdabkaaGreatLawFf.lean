import Derived.Test.YtpnkmnmchdabkaaGreatM46
import Derived.Test.YtpnkmnmchdabkaaGreatLawW
import Derived.BigQuiet
namespace Go.Proofs.YtpnkmnmchdabkaaGreat
open Go.RowKit
attribute [local go_sem ↓] Go.wp_at_zero Go.wp_at_succ
theorem step_all {w0 w:World} {K:Nat→Prop} {wb sb gb yb:Nat} {C:Cfg} {sdv:Value} {N:Nat} (h:St w0 K wb sb gb yb C sdv N w) (hN:N≤600000) (o:Opn) (hs:o.s.size≤maxLen) (hk:o.k≤16) :
 Calls Tryz.prog 10 #[.pointer (some ⟨wb,0,none⟩),.pointer (some ⟨sb,0,none⟩),.agg o.arr] w fun e w'=>e=.returned (.bool true)∧St w0 K wb sb gb yb C sdv (N+1) w':=by
 by_cases h12:o.k=12
 ·exact step_12 h hN o h12
 by_cases h13:o.k=13
 ·exact step_13 h hN o h13
 by_cases h14:o.k=14
 ·exact (mark_ask h hN o h14).mono fun e w' q=>⟨q.1,(h.below q.2).mono (by omega)⟩
 by_cases h15:o.k=15
 ·exact (read_ask h hN o h15 hs).mono fun e w' q=>⟨q.1,(h.below q.2).mono (by omega)⟩
 by_cases h16:o.k=16
 ·exact step_16 h hN o h16 hs
 exact step_any h hN o hs (by omega)
theorem St.more {w0 w W:World} {K:Nat→Prop} {wb sb gb yb:Nat} {C:Cfg} {sdv:Value} {N:Nat} (h:St w0 K wb sb gb yb C sdv N w) (hb:Below w.heap.size w W) (Z:Nat→Prop) (hZ:∀k,Z k→w.heap.size≤k∧k<W.heap.size):St W (fun k=>K k∨Z k) wb sb gb yb C sdv N W:=by
 have h':=h.below hb
 obtain ⟨ρ,now,time,l,rs,P,wv,fv,last,sv,iv,hv,m1,m2,m3,Ls,Li,Lh,hL,hS,hf,hB0,hBb,hBs,r⟩:=h
 have hz:=hb.size
 refine ⟨ρ,now,time,l,rs,P,wv,fv,last,sv,iv,hv,m1,m2,m3,Ls,Li,Lh,hL.below hb,hS.keeps (Keeps.of_below hb) (fun k hk=>Or.inr (Or.inr hk)) (fun _ _=>rfl),hf.below hb.size,fun k hk=>?_,Keeps.refl _ W,fun k hk=>?_,r⟩
 ·rcases hk with hk | hk
  ·exact hB0 k hk
  ·exact hf _ (hZ k hk).1
 ·rcases hk with hk | hk
  ·exact h'.lt.2 k hk
  ·exact (hZ k hk).2
theorem St.less {w0 w W:World} {K Z:Nat→Prop} {wb sb gb yb:Nat} {C:Cfg} {sdv:Value} {N M:Nat} (h0:St w0 K wb sb gb yb C sdv N w) (hb:Below w.heap.size w W) {w':World} (h:St W (fun k=>K k∨Z k) wb sb gb yb C sdv M w'):St w0 K wb sb gb yb C sdv M w':=by
 have h1:=h0.below hb
 obtain ⟨_,_,_,_,_,_,_,_,_,_,_,_,_,_,_,_,_,_,_,_,_,_,c1,c2,_⟩:=h1
 obtain ⟨ρ,now,time,l,rs,P,wv,fv,last,sv,iv,hv,m1,m2,m3,Ls,Li,Lh,hL,hS,hf,hB0,hBb,hBs,r⟩:=h
 refine ⟨ρ,now,time,l,rs,P,wv,fv,last,sv,iv,hv,m1,m2,m3,Ls,Li,Lh,hL,hS,hf,fun k hk=>hB0 k (Or.inl hk),?_,c2,r⟩
 refine ⟨hBb.os.trans c1.os,hBb.tape.trans c1.tape,hBb.output.trans c1.output,Nat.le_trans c1.size hBb.size,fun k hk hs=>?_⟩
 have hK:K k:=Classical.byContradiction hs
 rw [hBb.block k (Nat.lt_of_lt_of_le hk c1.size) (fun z=>z (Or.inl hK))]
 exact c1.block k hk hs
theorem St.wins {w0 w:World} {K:Nat→Prop} {wb sb gb yb:Nat} {C:Cfg} {sdv:Value} {N:Nat} (h:St w0 K wb sb gb yb C sdv N w) (hN:N≤600000) (key:ByteArray) (hs:key.size≤maxLen) :
 ∃xs er,xs.length≤2000000∧∀W,Below w.heap.size w W→Calls Tryz.prog 36 #[.pointer (some ⟨yb,0,none⟩),.string key] W (WinOut W xs er):=by
 obtain ⟨ρ,now,time,l,rs,P,wv,fv,last,sv,iv,hv,m1,m2,m3,Ls,Li,Lh,hL,hS,hf,hB0,hBb,hBs,hn1,hn2,hn3,hn4,hn5,hn6,hn7⟩:=h
 obtain ⟨xs,er,hxl,hR,_⟩:=win_both hn6 hS.same hS.inv (by omega) key hs
 refine ⟨xs,er,hxl,fun W hb=>?_⟩
 obtain ⟨sv2,lv2,R⟩:=(hS.keeps (Keeps.of_below hb) (fun k hk=>Or.inr (Or.inr hk)) (fun _ _=>rfl)).ref
 exact hR W ρ yb fv sv2 lv2 R
theorem St.sizes {w0 w:World} {K:Nat→Prop} {wb sb gb yb:Nat} {C:Cfg} {sdv:Value} {N:Nat} (h:St w0 K wb sb gb yb C sdv N w):w.cell? ⟨sb,0,none⟩=some (.pointer (some ⟨gb,0,none⟩))∧w.cell? ⟨sb,1,none⟩=some (.pointer (some ⟨yb,0,none⟩))∧sb<w.heap.size∧yb<w.heap.size:=by
 obtain ⟨now,time,l,rs,P,wv,fv,hX⟩:=h.x
 obtain ⟨a,b,c,d,_⟩:=hX.cells
 exact ⟨a,b,c,d⟩
theorem StX.four {w0 w:World} {K:Nat→Prop} {wb sb gb yb:Nat} {C:Cfg} {sdv:Value} {N:Nat} {now:Rest} {time:Int} {l:List Sh} {rs:List Rf} {P:List Pt} {wv:Wks} {fv:Value} (h:StX w0 K wb sb gb yb C sdv N now time l rs P wv fv w):rs.length≤16∧wv.l.length≤4:=by
 obtain ⟨ρ,last,sv,iv,hv,m1,m2,m3,Ls,Li,Lh,hL,hS,hf,hB0,hBb,hBs,hn1,hn2,hn3,hn4,hn5,hn6,hn7⟩:=h
 have:=hS.inv.len
 rw [←hS.same,absR_len] at this
 obtain ⟨sv2,lv2,R⟩:=hS.ref
 exact ⟨this,R.wk.four⟩
set_option maxRecDepth 100000 in
set_option maxHeartbeats 8000000 in
theorem ended_any {w0 w wS:World} {K:Nat→Prop} {wb sb gb yb:Nat} {C:Cfg} {sdv:Value} {N n cap:Nat} {a0:Option Addr} {os:List Opn} (h:St w0 K wb sb gb yb C sdv N w) (hN:N+n≤599900) (hos:IsOps wS a0 n os) (hK:∀k,k<wS.heap.size→K k) (hc:∀b i,b<wS.heap.size→w0.cell? ⟨b,i,none⟩=wS.cell? ⟨b,i,none⟩) :
 Calls Tryz.prog 14 #[.pointer (some ⟨wb,0,none⟩),.pointer (some ⟨sb,0,none⟩),.slice a0 n cap] w fun e w'=>e=.returned (.bool true)∧St w0 K wb sb gb yb C sdv (N+5+n) w':=by
 have HA:=hide (h.asked (by omega))
 have HOS:=hide hos
 have HKs:=hide hK
 have HCs:=hide hc
 clear h hos hK hc
 go_enter Tryz.func14,Tryz.ntmps14
 go_wp2_with (go_at_call 12;refine (uh HA).mono ?_;rintro e w1 ⟨rfl,hst1⟩;have HS1:=hide hst1;clear hst1)
 obtain ⟨now,time,l,rs,P,wv,fv,hX⟩:=(uh HS1).x
 obtain ⟨hrs,hws⟩:=hX.four
 have HX:=hide hX
 clear hX
 go_loopw [7,8] (fun ok q wq=>∃i:Nat,i≤wv.l.length∧ok=.bool true∧q=.int .i64 i∧StX w0 K wb sb gb yb C sdv (N+1+i) now time l rs P wv fv wq) (fun _ q _=>wv.l.length - (intOf q).toNat)
 case atStart=>exact ⟨0,Nat.zero_le _,rfl,rfl,uh HX⟩
 case round =>
  obtain ⟨i,hi,rfl,rfl,hXi⟩:=hrel
  obtain ⟨_,e1,_,_,_,⟨a8,k8,e8⟩⟩:=hXi.cells
  by_cases hlt2:i<wv.l.length
  ·have HC:=hide (holds_x hXi (by omega) i)
   clear hXi
   go_wp2_with fail
   refine (uh HC).mono ?_
   rintro e w2 ⟨rfl,hX2⟩
   have HX2:=hide hX2
   clear hX2
   go_wp2
   go_roundw
   case rel=>exact ⟨i+1,by omega,rfl,by go_num,uh HX2⟩
   case measure=>simp [intOf];omega
  ·have HXi:=hide hXi
   clear hXi HX HS1 HA
   go_wp2
   go_loopw [7,9] (fun ok q wq=>∃k:Nat,k≤rs.length∧ok=.bool true∧q=.int .i64 k∧StX w0 K wb sb gb yb C sdv (N+1+i) now time l rs P wv fv wq) (fun _ q _=>rs.length - (intOf q).toNat)
   case atStart=>exact ⟨0,Nat.zero_le _,rfl,rfl,uh HXi⟩
   case round =>
    obtain ⟨k,hk,rfl,rfl,hXk⟩:=hrel
    obtain ⟨_,e1,_,_,⟨a7,k7,e7⟩,_⟩:=hXk.cells
    by_cases hlt3:k<rs.length
    ·have HC1:=hide (step_ask hXk.st ⟨10,k,0,⟨#[]⟩,false,false⟩ rfl)
     have HXk:=hide hXk
     unfold Opn.arr at HC1
     simp only at HC1
     clear hXk
     go_wp2_with fail
     refine (uh HC1).mono ?_
     rintro e w3 ⟨rfl,hb3⟩
     have HX3:=hide ((uh HXk).below hb3)
     have HC2:=hide (mark_ask (uh HX3).st (by omega) ⟨14,k,0,⟨#[]⟩,false,false⟩ rfl)
     unfold Opn.arr at HC2
     simp only at HC2
     clear hb3 e1 e7
     go_wp2_with fail
     refine (uh HC2).mono ?_
     rintro e w4 ⟨rfl,hb4⟩
     have HX4:=hide ((uh HX3).below hb4)
     clear hb4
     go_wp2
     go_roundw
     case rel=>exact ⟨k+1,by omega,rfl,by go_num,uh HX4⟩
     case measure=>simp [intOf];omega
    ·have HSt:=hide (hXk.st.mono (show N+1+i≤N+5+0 by omega))
     clear hXk HXi
     go_wp2
     go_loopw [7,12] (fun ok q wq=>∃j:Nat,j≤n∧ok=.bool true∧q=.int .i64 j∧St w0 K wb sb gb yb C sdv (N+5+j) wq) (fun _ q _=>n - (intOf q).toNat)
     case atStart=>exact ⟨0,Nat.zero_le _,rfl,rfl,uh HSt⟩
     case round =>
      obtain ⟨j,hj,rfl,rfl,hst⟩:=hrel
      by_cases hlt4:j<n
      ·obtain ⟨o,ho⟩:∃o,os[j]?=some o:=⟨_,List.getElem?_eq_getElem (by rw [(uh HOS).1];exact hlt4)⟩
       obtain ⟨hsz,ab,ao,rfl,hab,_,_,_,p3,_,_⟩:=(uh HOS).2 j o ho
       have hKab:K ab:=uh HKs ab hab
       have p3:=(uh HCs ab (ao+j*6+3) hab).trans p3
       have d3:=(hst.stands hKab (i:=ao+j*6+3)).trans p3
       have HSZ:=hide hsz
       have HW:=hide (hst.windows (by omega) o.s hsz)
       have HKab:=hide hKab
       have HP3:=hide p3
       clear hst ho hsz hKab p3 HSt
       go_wp2_with fail
       refine (uh HW).mono ?_
       rintro e w5 ⟨rfl,hst5⟩
       have d3:=(hst5.stands (uh HKab) (i:=ao+j*6+3)).trans (uh HP3)
       have hab5:=hst5.lt.2 ab (uh HKab)
       obtain ⟨_,e1,hsl,_⟩:=hst5.sizes
       obtain ⟨xs,er,hxl,hwin⟩:=hst5.wins (by omega) o.s (uh HSZ)
       have HWn:=hide hwin
       have HS5:=hide hst5
       have HB5:Hid (∀q,Below w5.heap.size w5 (w5.drewN q)):=fun q=>⟨rfl,rfl,rfl,Nat.le_refl _,fun _ _=>rfl⟩
       clear hst5 hwin HW
       go_wp2
       go_region_held3 (fun w'=>w'.cell? ⟨sb,1,none⟩=some (.pointer (some ⟨yb,0,none⟩))∧w'.cell? ⟨ab,ao+j*6+3,none⟩=some (.string o.s))
        (first | go_keep | (go_split_ands;refine ⟨?_,?_⟩ <;> first | (rw [hb6.cell (p:=⟨sb,1,none⟩) hsl];assumption) | (rw [hb6.cell (p:=⟨ab,ao+j*6+3,none⟩) hab5];assumption)))
        ((go_at_call 36;refine (uh HWn _ (uh HB5 _)).mono ?_;rintro e w6 ⟨xv,rfl,hrow,hb6⟩))
       have hB6:Below w5.heap.size w5 w6:=(uh HB5 _).trans hb6
       obtain ⟨xa,xc,rfl⟩:=ownsRow_len hrow
       have HM:=hide ((uh HS5).more hB6 (fun k=>(Value.slice xa xs.length xc).ownBlock=some k) (fun k hk=>hrow.lt k hk))
       have HLs:Hid (∀w',St w6 (fun k=>K k∨(Value.slice xa xs.length xc).ownBlock=some k) wb sb gb yb C sdv (N+5+j+1) w'→St w0 K wb sb gb yb C sdv (N+5+j+1) w'):=fun w' hw=>St.less (uh HS5) hB6 hw
       have HXr:Hid (∀(q:Nat) (x:Int),xs[q]?=some x→∃xb,xa=some ⟨xb,0,none⟩∧w6.cell? ⟨xb,q,none⟩=some (.int .i64 x)):=fun q x hx=>by
        have hq:=(List.getElem?_eq_some_iff.1 hx).1
        obtain ⟨xb,cp,cur,hv1,_,hcb,_⟩:=ownsRow_shape hrow (by omega)
        injection hv1 with q1 _ _
        subst q1
        refine ⟨xb,rfl,?_⟩
        have:=World.ownsRow.cellAt hrow q (by omega)
        rw [this,List.getElem?_map,hx]
        rfl
       have D6:Hid (w6.cell? ⟨ab,ao+j*6+3,none⟩=some (.string o.s)):=(hB6.cell (p:=⟨ab,ao+j*6+3,none⟩) hab5).trans d3
       clear hrow hb6 hB6 d3 e1 HWn HB5 HS5
       go_wp2
       go_loopw [7,15] (fun ok q wq=>∃t:Nat,t≤xs.length∧ok=.bool true∧q=.int .i64 t∧St w6 (fun k=>K k∨(Value.slice xa xs.length xc).ownBlock=some k) wb sb gb yb C sdv (N+5+j+1) wq) (fun _ q _=>xs.length - (intOf q).toNat)
       case atStart=>exact ⟨0,Nat.zero_le _,rfl,rfl,uh HM⟩
       case round =>
        obtain ⟨t,ht,rfl,rfl,hst7⟩:=hrel
        by_cases hlt5:t<xs.length
        ·obtain ⟨x,hx⟩:∃x,xs[t]?=some x:=⟨xs[t],List.getElem?_eq_getElem hlt5⟩
         obtain ⟨xb,rfl,hxc⟩:=uh HXr t x hx
         have d3:=(hst7.stands (Or.inl (uh HKab)) (i:=ao+j*6+3)).trans (uh D6)
         have d4:=(hst7.stands (b:=xb) (i:=t) (Or.inr rfl)).trans hxc
         have hab7:=hst7.lt.2 ab (Or.inl (uh HKab))
         have hxb7:=hst7.lt.2 xb (Or.inr rfl)
         have HS7:=hide hst7
         have HB7:Hid (∀q,Below wr.heap.size wr (wr.drewN q)):=fun q=>⟨rfl,rfl,rfl,Nat.le_refl _,fun _ _=>rfl⟩
         have HC7:Hid (∀W,Below wr.heap.size wr W→Calls Tryz.prog 10 #[.pointer (some ⟨wb,0,none⟩),.pointer (some ⟨sb,0,none⟩),.agg #[.int .i64 15,.int .i64 x,.int .i64 0,.string o.s,.bool false,.bool false]] W fun e w'=>e=.returned (.bool true)∧Below W.heap.size W w'):=fun W hb=>read_ask (hst7.below hb) (by omega) ⟨15,x,0,o.s,false,false⟩ rfl (uh HSZ)
         clear hst7 hx hxc HM
         go_wp2
         go_region_held3 (fun w'=>w'.cell? ⟨ab,ao+j*6+3,none⟩=some (.string o.s)∧w'.cell? ⟨xb,t,none⟩=some (.int .i64 x))
          (first | go_keep | (go_split_ands;refine ⟨?_,?_⟩ <;> first | (rw [hb8.cell (p:=⟨ab,ao+j*6+3,none⟩) hab7];assumption) | (rw [hb8.cell (p:=⟨xb,t,none⟩) hxb7];assumption)))
          ((go_at_call 10;refine (uh HC7 _ (uh HB7 _)).mono ?_;rintro e w8 ⟨rfl,hb8⟩))
         have HS8:=hide ((uh HS7).below ((uh HB7 _).trans hb8))
         clear hb8 d3 d4 HC7 HB7 HS7
         go_wp2
         go_roundw
         case rel=>exact ⟨t+1,by omega,rfl,by go_num,uh HS8⟩
         case measure=>simp [intOf];omega
        ·have HS9:=hide (uh HLs _ hst7)
         clear hst7 HLs HM
         go_wp2
         go_roundw
         case rel=>exact ⟨j+1,by omega,rfl,by go_num,uh HS9⟩
         case measure=>simp [intOf];omega
      ·have ej:j=n:=by omega
       subst ej
       have HSf:=hide hst
       clear hst
       go_wp2
       go_ret
       exact ⟨rfl,uh HSf⟩
end Go.Proofs.YtpnkmnmchdabkaaGreat
