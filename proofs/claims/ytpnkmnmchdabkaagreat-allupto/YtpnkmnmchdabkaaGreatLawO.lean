import Derived.Test.YtpnkmnmchdabkaaGreatM28
namespace Go.Proofs.YtpnkmnmchdabkaaGreat
open Go.RowKit
attribute [local go_sem ↓] Go.wp_at_zero Go.wp_at_succ
theorem aSplit_len (l:List Sh) (n a:Int):l.length≤(aSplit l n a).1.length:=by
 unfold aSplit
 split
 ·split
  ·exact Nat.le_refl _
  ·split
   ·exact Nat.le_refl _
   ·split
    ·exact Nat.le_refl _
    ·split
     ·exact Nat.le_refl _
     ·simp
 ·exact Nat.le_refl _
theorem aMerge_len (l:List Sh) (n a:Int):l.length≤(aMerge l n a).1.length:=by
 unfold aMerge
 split
 ·split
  ·split
   ·exact Nat.le_refl _
   ·split
    ·exact Nat.le_refl _
    ·split
     ·exact Nat.le_refl _
     ·simp
  ·exact Nat.le_refl _
 ·exact Nat.le_refl _
theorem Home.uniq {l:List Sh} {h:Int} {k k':Nat} {x x':Sh} (a:Home l h k x) (b:Home l h k' x'):k'=k∧x'=x:=by
 have e:=a.2.2 k' x' b.1 b.2.1
 subst e
 have:=a.1.symm.trans b.1
 injection this with this
 exact ⟨rfl,this.symm⟩
theorem log_any {w0 w:World} {K:Nat→Prop} {wb sb gb yb:Nat} {C:Cfg} {sdv:Value} {N:Nat} (h:St w0 K wb sb gb yb C sdv N w) (hN:N≤600000) (o:Opn) (hs:o.s.size≤maxLen) :
 Calls Tryz.prog 69 #[.pointer (some ⟨wb,0,none⟩),.pointer (some ⟨sb,0,none⟩),.agg o.arr] w fun e w'=>e=.returned (.bool true)∧St w0 K wb sb gb yb C sdv (N+1) w':=by
 by_cases h1:o.k=1
 ·obtain ⟨ρ,now,time,l,rs,P,wv,fv,last,sv,iv,hv,m1,m2,m3,Ls,Li,Lh,hL,hS,hf,hB0,hBb,hBs,hn1,hn2,hn3,hn4,hn5,hn6,hn7⟩:=h
  have hGW:∀W,Below w.heap.size w W→Calls Tryz.prog 98 #[.pointer (some ⟨gb,0,none⟩),.string o.s,.int .i64 o.a,.int .i64 o.b] W (PutPost W ρ gb C now l o.s o.a o.b):=fun W hb =>
   gPut_any W ρ gb C now l o.s o.a o.b (hS.keeps (Keeps.of_below hb) (fun k hk=>Or.inr (Or.inr hk)) (fun _ _=>rfl)).grp (hf.below hb.size) hS.inv hs
  have hRW:∀W (ρ2:Nat→Nat),(∃sv lv,RefAt W ρ2 yb C time rs P wv fv sv lv)→Fits W ρ2→Calls Tryz.prog 99 #[.pointer (some ⟨yb,0,none⟩),.string o.s,.int .i64 o.a,.int .i64 o.b] W (RefPutPost W ρ2 yb C time rs P wv fv o.s o.a o.b):=fun W ρ2 ⟨sv,lv,R⟩ hf2 =>
   refPut_any R hf2 (by rw [hS.same];exact hS.inv) (by omega) o.s o.a o.b hs
  by_cases hr:makeR o.s o.a o.b=0
  ·obtain ⟨hb0,hb1⟩:=hashL_bd o.s.data.toList
   obtain ⟨k,x,hx⟩:=hS.inv.part (hashL o.s.data.toList) hb0 hb1
   by_cases hc:32≤x.cnt
   ·refine log_put hL hS hf hB0 hBb hBs hn1 hn2 hn3 hn4 hn5 (hn7:=hn7) (l':=l) (now':=now) hS.inv o h1 0 0 8 (fun W hb=>(hGW W hb).mono ?_) (fun W ρ2 hR hf2=>(hRW W ρ2 hR hf2).mono ?_)
    ·rintro e w' (⟨a,_,_⟩ | ⟨_,k',x',hh,rfl,hp⟩)
     ·exact absurd hr a
     ·obtain ⟨rfl,rfl⟩:=hx.uniq hh
      refine ⟨by unfold putV;rw [if_pos hc],?_⟩
      rw [putL,if_pos hc] at hp;exact hp
    ·rintro e w' (⟨a,_,_⟩ | ⟨_,k',x',hh,rfl,hp⟩)
     ·exact absurd hr a
     ·rw [hS.same] at hh
      obtain ⟨rfl,rfl⟩:=hx.uniq hh
      rcases hp with ⟨_,hp⟩ | ⟨hp,_⟩
      ·exact ⟨by unfold putV;rw [if_pos hc],rs,P,hp,hS.same,hS.pin,by omega,hn6.mono (by omega)⟩
      ·exact absurd hc hp
   ·refine log_put hL hS hf hB0 hBb hBs hn1 hn2 hn3 hn4 hn5 (hn7:=hn7) (l':=putL l k x ⟨o.s.data.toList,o.a,o.b⟩) (now':=now) (inv_put hS.inv hx.1 _) o h1 k x.cnt 0 (fun W hb=>(hGW W hb).mono ?_) (fun W ρ2 hR hf2=>(hRW W ρ2 hR hf2).mono ?_)
    ·rintro e w' (⟨a,_,_⟩ | ⟨_,k',x',hh,rfl,hp⟩)
     ·exact absurd hr a
     ·obtain ⟨rfl,rfl⟩:=hx.uniq hh
      exact ⟨by unfold putV;rw [if_neg hc],hp⟩
    ·rintro e w' (⟨a,_,_⟩ | ⟨_,k',x',hh,rfl,hp⟩)
     ·exact absurd hr a
     ·rw [hS.same] at hh
      obtain ⟨rfl,rfl⟩:=hx.uniq hh
      rcases hp with ⟨hp,_⟩ | ⟨_,hp⟩
      ·exact absurd hp hc
      ·have hkx:(absR rs P)[k']?=some x':=by rw [hS.same];exact hh.1
       refine ⟨by unfold putV;rw [if_neg hc],rs,_,hp,?_,?_,by simp,(hn6.put hS.inv hx hc hs hr).mono (by omega)⟩
       ·rw [absR_put hkx,hS.same,putL,if_neg hc]
       ·intro e he
        rcases List.mem_append.1 he with he | he
        ·exact hS.pin e he
        ·simp at he
         subst he
         have:=(List.getElem?_eq_some_iff.1 hkx).1
         rw [absR_len] at this
         exact this
  ·refine log_put hL hS hf hB0 hBb hBs hn1 hn2 hn3 hn4 hn5 (hn7:=hn7) (l':=l) (now':=now) hS.inv o h1 0 0 (makeR o.s o.a o.b) (fun W hb=>(hGW W hb).mono ?_) (fun W ρ2 hR hf2=>(hRW W ρ2 hR hf2).mono ?_)
   ·rintro e w' (⟨_,rfl,hp⟩ | ⟨a,_⟩)
    ·exact ⟨rfl,hp⟩
    ·exact absurd a hr
   ·rintro e w' (⟨_,rfl,hp⟩ | ⟨a,_⟩)
    ·exact ⟨rfl,rs,P,hp,hS.same,hS.pin,by omega,hn6.mono (by omega)⟩
    ·exact absurd a hr
 ·by_cases h2:o.k=2
  ·obtain ⟨ρ,now,time,l,rs,P,wv,fv,last,sv,iv,hv,m1,m2,m3,Ls,Li,Lh,hL,hS,hf,hB0,hBb,hBs,hn1,hn2,hn3,hn4,hn5,hn6,hn7⟩:=h
   have hrl:rs.length=l.length:=by rw [←hS.same,absR_len]
   refine log_split hL hS hf hB0 hBb hBs hn1 hn2 hn3 hn4 hn5 (hn7:=hn7) (l':=(aSplit l o.a o.b).1) (now':=now) (inv_split hS.inv o.a o.b) o h2 (aSplit l o.a o.b).2.1 (aSplit l o.a o.b).2.2 (fun W hb=>?_) (fun W ρ2 ⟨sv,lv,R⟩ hf2=>?_)
   ·exact gSplit_any W ρ gb C now l o.a o.b (hS.keeps (Keeps.of_below hb) (fun k hk=>Or.inr (Or.inr hk)) (fun _ _=>rfl)).grp (hf.below hb.size) hS.inv
   ·have:=refSplit_any R hf2 (by rw [hrl];exact hS.inv.pos) (by rw [hrl];exact hS.inv.len) hS.pin o.a o.b
    rw [hS.same] at this
    refine this.mono ?_
    rintro e w' ⟨rfl,rs',h3,hmo,hp⟩
    refine ⟨rfl,rs',P,hp,h3,fun e he=>?_,by omega,(hn6.split hS.inv o.a o.b hmo).mono (by omega)⟩
    have a:=hS.pin e he
    have b:=aSplit_len l o.a o.b
    rw [←h3,absR_len] at b
    omega
  ·by_cases h3:o.k=3
   ·obtain ⟨ρ,now,time,l,rs,P,wv,fv,last,sv,iv,hv,m1,m2,m3,Ls,Li,Lh,hL,hS,hf,hB0,hBb,hBs,hn1,hn2,hn3,hn4,hn5,hn6,hn7⟩:=h
    have hrl:rs.length=l.length:=by rw [←hS.same,absR_len]
    refine log_merge hL hS hf hB0 hBb hBs hn1 hn2 hn3 hn4 hn5 (hn7:=hn7) (l':=(aMerge l o.a o.b).1) (now':=now) (inv_merge hS.inv o.a o.b) o h3 (aMerge l o.a o.b).2.1 (aMerge l o.a o.b).2.2 (fun W hb=>?_) (fun W ρ2 ⟨sv,lv,R⟩ hf2=>?_)
    ·exact gMerge_any W ρ gb C now l o.a o.b (hS.keeps (Keeps.of_below hb) (fun k hk=>Or.inr (Or.inr hk)) (fun _ _=>rfl)).grp (hf.below hb.size) hS.inv
    ·have:=refMerge_any R hf2 (by rw [hrl];exact hS.inv.pos) (by rw [hrl];exact hS.inv.len) hS.pin (fun i r hr=>by
      have q:=absR_get (P:=P) hr
      rw [hS.same] at q
      exact (hS.inv.rng i _ q).2.1) o.a o.b
     rw [hS.same] at this
     refine this.mono ?_
     rintro e w' ⟨rfl,rs',h3,hmo,hp⟩
     refine ⟨rfl,rs',P,hp,h3,fun e he=>?_,by omega,(hn6.merge hS.inv o.a o.b hmo).mono (by omega)⟩
     have a:=hS.pin e he
     have b:=aMerge_len l o.a o.b
     rw [←h3,absR_len] at b
     omega
   ·by_cases h4:o.k=4
    ·exact log_shards h hN o h4
    ·by_cases h5:o.k=5
     ·exact log_tick h hN o h5
     ·exact log_none h o h1 h2 h3 h4 h5
set_option maxRecDepth 100000 in
set_option maxHeartbeats 4000000 in
theorem lease_log {w0 w:World} {K:Nat→Prop} {wb sb gb yb:Nat} {C:Cfg} {sdv:Value} {N:Nat} (h:St w0 K wb sb gb yb C sdv N w) (hN:N≤600000) (o:Opn) (hs:o.s.size≤maxLen) (hk:o.k≤5) :
 Calls Tryz.prog 30 #[.pointer (some ⟨wb,0,none⟩),.pointer (some ⟨sb,0,none⟩),.agg o.arr] w fun e w'=>e=.returned (.bool true)∧St w0 K wb sb gb yb C sdv (N+1) w':=by
 have HL:Hid (∀W,Below w.heap.size w W→Calls Tryz.prog 69 #[.pointer (some ⟨wb,0,none⟩),.pointer (some ⟨sb,0,none⟩),.agg o.arr] W fun e w'=>e=.returned (.bool true)∧St w0 K wb sb gb yb C sdv (N+1) w'):=fun W hb=>log_any (h.below hb) (by omega) o hs
 clear h
 obtain ⟨kk,oa,ob,os,olost,owh⟩:=o
 simp only at hk
 unfold Opn.arr at HL ⊢
 simp only at HL ⊢
 have e6:¬kk=6:=by omega
 have e7:¬kk=7:=by omega
 have e8:¬kk=8:=by omega
 have e9:¬kk=9:=by omega
 have e10:¬kk=10:=by omega
 have e11:¬kk=11:=by omega
 clear hk
 go_enter Tryz.func30,Tryz.ntmps30
 go_wp2_with (go_at_call 69;refine (uh HL _ ((Below.refl _ w).alloc (Nat.le_refl _) _)).mono ?_;rintro e w' ⟨rfl,hp⟩;have HP:=hide hp;clear hp)
 go_ret
 exact ⟨rfl,uh HP⟩
end Go.Proofs.YtpnkmnmchdabkaaGreat
