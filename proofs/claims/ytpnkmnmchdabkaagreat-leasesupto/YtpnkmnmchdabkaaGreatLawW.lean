import Derived.Test.YtpnkmnmchdabkaaGreatM35
namespace Go.Proofs.YtpnkmnmchdabkaaGreat
open Go.RowKit
attribute [local go_sem ↓] Go.wp_at_zero Go.wp_at_succ
set_option maxRecDepth 100000 in
set_option maxHeartbeats 4000000 in
theorem step_of {w:World} {wb sb:Nat} {Q:World→Prop} (o:Opn) (hk:o.k≤11)
 (HL:∀W,Below w.heap.size w W→Calls Tryz.prog 30 #[.pointer (some ⟨wb,0,none⟩),.pointer (some ⟨sb,0,none⟩),.agg o.arr] W fun e w'=>e=.returned (.bool true)∧Q w') :
 Calls Tryz.prog 10 #[.pointer (some ⟨wb,0,none⟩),.pointer (some ⟨sb,0,none⟩),.agg o.arr] w fun e w'=>e=.returned (.bool true)∧Q w':=by
 have HL:=hide HL
 obtain ⟨kk,oa,ob,os,olost,owh⟩:=o
 simp only at hk
 unfold Opn.arr at HL ⊢
 simp only at HL ⊢
 have e6:¬kk=12:=by omega
 have e7:¬kk=13:=by omega
 have e8:¬kk=14:=by omega
 have e9:¬kk=15:=by omega
 have e10:¬kk=16:=by omega
 clear hk
 go_enter Tryz.func10,Tryz.ntmps10
 go_wp2_with (go_at_call 30;refine (uh HL _ ((Below.refl _ w).alloc (Nat.le_refl _) _)).mono ?_;rintro e w' ⟨rfl,hp⟩;have HP:=hide hp;clear hp)
 go_ret
 exact ⟨rfl,uh HP⟩
theorem step_any {w0 w:World} {K:Nat→Prop} {wb sb gb yb:Nat} {C:Cfg} {sdv:Value} {N:Nat} (h:St w0 K wb sb gb yb C sdv N w) (hN:N≤600000) (o:Opn) (hs:o.s.size≤maxLen) (hk:o.k≤11) :
 Calls Tryz.prog 10 #[.pointer (some ⟨wb,0,none⟩),.pointer (some ⟨sb,0,none⟩),.agg o.arr] w fun e w'=>e=.returned (.bool true)∧St w0 K wb sb gb yb C sdv (N+1) w' :=
 step_of o hk fun _ hb=>lease_any (h.below hb) hN o hs hk
theorem step_ask {w0 w:World} {K:Nat→Prop} {wb sb gb yb:Nat} {C:Cfg} {sdv:Value} {N:Nat} (h:St w0 K wb sb gb yb C sdv N w) (o:Opn) (ho:o.k=10) :
 Calls Tryz.prog 10 #[.pointer (some ⟨wb,0,none⟩),.pointer (some ⟨sb,0,none⟩),.agg o.arr] w fun e w'=>e=.returned (.bool true)∧Below w.heap.size w w' :=
 step_of o (by omega) fun _ hb=>(ask_any (h.below hb) o ho).mono fun _ _ q=>⟨q.1,hb.trans (q.2.mono hb.size)⟩
set_option maxRecDepth 100000 in
set_option maxHeartbeats 4000000 in
theorem leased_any {w0 w:World} {K:Nat→Prop} {wb sb gb yb:Nat} {C:Cfg} {sdv:Value} {N:Nat} (h:St w0 K wb sb gb yb C sdv N w) (hN:N≤599900) :
 Calls Tryz.prog 13 #[.pointer (some ⟨wb,0,none⟩),.pointer (some ⟨sb,0,none⟩)] w fun e w'=>e=.returned (.bool true)∧St w0 K wb sb gb yb C sdv (N+4) w':=by
 obtain ⟨now,time,l,rs,P,wv,fv,hX⟩:=h.x
 have hrs:rs.length≤16∧wv.l.length≤4:=by
  obtain ⟨ρ,last,sv,iv,hv,m1,m2,m3,Ls,Li,Lh,hL,hS,hf,hB0,hBb,hBs,hn1,hn2,hn3,hn4,hn5,hn6,hn7⟩:=hX
  have:=hS.inv.len
  rw [←hS.same,absR_len] at this
  obtain ⟨sv2,lv2,R⟩:=hS.ref
  exact ⟨this,R.wk.four⟩
 have HX:=hide hX
 have HQ:Hid (∀W,Below w.heap.size w W→∀k:Int,Calls Tryz.prog 10 #[.pointer (some ⟨wb,0,none⟩),.pointer (some ⟨sb,0,none⟩),.agg #[.int .i64 10,.int .i64 k,.int .i64 0,.string ⟨#[]⟩,.bool false,.bool false]] W fun e w'=>e=.returned (.bool true)∧Below W.heap.size W w'):=fun W hb k=>step_ask (h.below hb) ⟨10,k,0,⟨#[]⟩,false,false⟩ rfl
 obtain ⟨_,s1,hsl,hyl,⟨a7,k7,c7⟩,_⟩:=hX.cells
 clear h hX
 go_enter Tryz.func13,Tryz.ntmps13
 go_wp2
 go_loopw [5] (fun q wr=>∃j:Nat,j≤rs.length∧q=.int .i64 j∧Below w.heap.size w wr) (fun q _=>rs.length - (intOf q).toNat)
 case atStart=>exact ⟨0,Nat.zero_le _,rfl,Below.refl _ _⟩
 case round =>
  obtain ⟨j,hj,rfl,hB⟩:=hrel
  have d1:=(hB.cell (p:=⟨sb,1,none⟩) hsl).trans s1
  have d7:=(hB.cell (p:=⟨yb,7,none⟩) hyl).trans c7
  by_cases hlt:j<rs.length
  ·have HBr:=hide hB
   have HC:=hide (uh HQ wr hB j)
   clear hB
   go_wp2_with fail
   refine (uh HC).mono ?_
   rintro e w1 ⟨rfl,hb1⟩
   have HB1:=hide ((uh HBr).trans (hb1.mono (uh HBr).size))
   clear hb1
   go_wp2
   go_roundw
   case rel=>exact ⟨j+1,by omega,by go_num,uh HB1⟩
   case measure=>simp [intOf];omega
  ·have HXr:=hide ((uh HX).below hB)
   clear hB
   go_wp2
   go_loopw [7] (fun q wq=>∃i:Nat,i≤wv.l.length∧q=.int .i64 i∧StX w0 K wb sb gb yb C sdv (N+i) now time l rs P wv fv wq) (fun q _=>wv.l.length - (intOf q).toNat)
   case atStart=>exact ⟨0,Nat.zero_le _,rfl,uh HXr⟩
   case round =>
    obtain ⟨i,hi,rfl,hXi⟩:=hrel
    obtain ⟨_,e1,_,_,_,⟨a8,k8,e8⟩⟩:=hXi.cells
    by_cases hlt2:i<wv.l.length
    ·have HC:=hide (holds_x hXi (by omega) i)
     clear hXi
     go_wp2_with fail
     refine (uh HC).mono ?_
     rintro e w2 ⟨rfl,hX2⟩
     have HX2:=hide hX2
     clear hX2
     go_wp2
     go_roundw
     case rel=>exact ⟨i+1,by omega,by go_num,uh HX2⟩
     case measure=>simp [intOf];omega
    ·have HXi:=hide (hXi.st.mono (show N+i≤N+4 by omega))
     clear hXi
     go_wp2
     go_ret
     exact ⟨rfl,uh HXi⟩
end Go.Proofs.YtpnkmnmchdabkaaGreat
