import Derived.Test.YtpnkmnmchdabkaaGreatRefSince
import Derived.Test.YtpnkmnmchdabkaaGreatM04
import Derived.Test.YtpnkmnmchdabkaaGreatM08
namespace Go.Proofs.YtpnkmnmchdabkaaGreat
open Go.RowKit
attribute [local go_sem ↓] Go.wp_at_zero Go.wp_at_succ
theorem ixOf_none {hs:List Hd} {k:Int} (h:firstOf hs k=none):ixOf hs k 0=-1:=(ixOf_first hs k 0).1 h
theorem ixOf_some {hs:List Hd} {k:Int} {x:Hd} (h:firstOf hs k=some x):∃j:Nat,hs[j]?=some x∧ixOf hs k 0=(j:Int):=by
 obtain ⟨j,h1,h2⟩:=(ixOf_first hs k 0).2 x h
 exact ⟨j,h1,by rw [h2,Nat.zero_add]⟩
theorem RefPost.later {w W w':World} {ρ:Nat→Nat} {yb:Nat} {C:Cfg} {time:Int} {rs:List Rf} {P:List Pt} {wv:Wks} {fv:Value} (hf:Fits w ρ) (hb:Below w.heap.size w W) (h:RefPost W ρ yb C time rs P wv fv w'):RefPost w ρ yb C time rs P wv fv w':=by
 obtain ⟨ρ',sv',lv',a,b,c,d⟩:=h
 have hz:=hb.size
 refine ⟨ρ',sv',lv',a,⟨b.os.trans hb.os,b.tape.trans hb.tape,b.output.trans hb.output,Nat.le_trans hz b.size,fun k hk hs=>(b.block k (by omega) hs).trans (hb.block k hk)⟩,⟨fun k hk=>c.1 k (by omega),fun k hk=>?_⟩,d⟩
 by_cases hlt:k<W.heap.size
 ·left;rw [c.1 k hlt];exact hf k hk
 ·exact c.2 k (by omega)
def StealPost (w:World) (ρ:Nat→Nat) (yb:Nat) (C:Cfg) (time:Int) (rs:List Rf) (P:List Pt) (wv:Wks) (fv:Value) (i:Nat) (y:Wk) (k:Nat) (r:Rf) (e:Ending) (w':World):Prop :=
 if (firstOf y.hs k).isSome=true then e=.returned (.int .i64 11)∧RefPost w ρ yb C time rs P wv fv w'
 else if (rdy (absR rs P) (dnR rs) k && !fin (absR rs P) (dnR rs) k)=false then e=.returned (.int .i64 12)∧RefPost w ρ yb C time rs P wv fv w'
 else e=.returned (.int .i64 0)∧∃hv',RefPost w ρ yb C time (rs.set k { r with own:=i,ctr:=r.ctr+1,lep:=r.lep+1 }) P (wv.setH i y (y.hs ++ [⟨k,r.lep+1,r.done,0⟩]) hv') fv w'
set_option maxRecDepth 100000 in
set_option maxHeartbeats 4000000 in
theorem refSteal_any {w:World} {ρ:Nat→Nat} {yb:Nat} {C:Cfg} {time:Int} {rs:List Rf} {P:List Pt} {wv:Wks} {fv sv lv:Value} (h:RefAt w ρ yb C time rs P wv fv sv lv) (hf:Fits w ρ) (hI:Inv (absR rs P)) (hP:P.length≤1000000) (i:Nat) (y:Wk) (hy:wv.l[i]?=some y) (hl:y.hs.length≤1000) (k:Nat) (r:Rf) (hr:rs[k]?=some r) (hc:0≤r.ctr∧r.ctr≤1000000000000) (hlep:0≤r.lep∧r.lep≤1000000000000) :
 Calls Tryz.prog 64 #[.pointer (some ⟨yb,0,none⟩),.int .i64 i,.int .i64 k] w (StealPost w ρ yb C time rs P wv fv i y k r):=by
 have hi:=(List.getElem?_eq_some_iff.1 hy).1
 have hk:=(List.getElem?_eq_some_iff.1 hr).1
 obtain ⟨vb,vc,hv,_⟩:=h.wk.shape hy
 have c8:w.cell? ⟨yb,8,none⟩=some wv.v:=cell_of h.blk 8
 rw [hv] at c8
 obtain ⟨sb,cap,rfl,_⟩:=h.shards (by omega)
 have c7:w.cell? ⟨yb,7,none⟩=some (.slice (some ⟨sb,0,none⟩) rs.length cap):=cell_of h.blk 7
 have HW:=hide (refWorks_any yb wv.l.length vc (some ⟨vb,0,none⟩) i w c8)
 have HT:=hide (refThere_any yb rs.length cap (some ⟨sb,0,none⟩) k w c7)
 have HH:=hide (refHold_any h i y hy hl k)
 have hd:decide (0≤(i:Int)∧(i:Int)<(wv.l.length:Int))=true:=by simp;omega
 have hd2:decide (0≤(k:Int)∧(k:Int)<(rs.length:Int))=true:=by simp;omega
 rw [hd] at HW
 rw [hd2] at HT
 have HRd:=hide (refFin_any h hI hP k hk)
 have HTk:Hid (∀W,Below w.heap.size w W→Calls Tryz.prog 94 #[.pointer (some ⟨yb,0,none⟩),.int .i64 i,.int .i64 k] W fun e w'=>e=.returned (.tuple #[])∧∃hv',RefPost w ρ yb C time (rs.set k { r with own:=i,ctr:=r.ctr+1,lep:=r.lep+1 }) P (wv.setH i y (y.hs ++ [⟨k,r.lep+1,r.done,0⟩]) hv') fv w'):=fun W hb=>by
  refine (refTakes_any (h.keeps (Keeps.of_below hb) (fun _ hk=>Or.inr hk) (ρ':=ρ) (fun _ _=>rfl)) (fun q hq=>hf q (by have:=hb.size;omega)) i y hy hl k r hr hc hlep).mono ?_
  rintro e w' ⟨rfl,hv',hp⟩
  exact ⟨rfl,hv',RefPost.later hf hb hp⟩
 have HS:Hid (∀W,Below w.heap.size w W→RefPost w ρ yb C time rs P wv fv W):=fun W hb=>RefPost.below h hf hb
 clear h hf hI hd hd2 hv hc hlep
 cases hfi:firstOf y.hs (k:Int) with
 | some x =>
   obtain ⟨j,hj,hix⟩:=ixOf_some hfi
   have HP:Hid (∀e W,e=.returned (.int .i64 11)∧RefPost w ρ yb C time rs P wv fv W→StealPost w ρ yb C time rs P wv fv i y k r e W):=fun e W q=>by unfold StealPost;rw [hfi,if_pos (by simp)];exact q
   rw [hix] at HH
   have hj0:(0:Int)≤(j:Int):=Int.natCast_nonneg _
   clear hfi hix hj
   go_enter Tryz.func64,Tryz.ntmps64
   go_wp2_with (first | (go_at_call 79;refine (uh HW).mono ?_;rintro e w1 ⟨rfl,rfl⟩) | (go_at_call 49;refine (uh HT).mono ?_;rintro e w1 ⟨rfl,rfl⟩) | (go_at_call 80;refine (uh HH).mono ?_;rintro e w1 ⟨rfl,rfl⟩))
   go_ret
   exact uh HP _ _ ⟨rfl,uh HS _ (Below.refl _ _)⟩
 | none =>
   have hix:=ixOf_none hfi
   rw [hix] at HH
   have HP:Hid (∀e W,(if (rdy (absR rs P) (dnR rs) k && !fin (absR rs P) (dnR rs) k)=false then e=.returned (.int .i64 12)∧RefPost w ρ yb C time rs P wv fv W else e=.returned (.int .i64 0)∧∃hv',RefPost w ρ yb C time (rs.set k { r with own:=i,ctr:=r.ctr+1,lep:=r.lep+1 }) P (wv.setH i y (y.hs ++ [⟨k,r.lep+1,r.done,0⟩]) hv') fv W)→StealPost w ρ yb C time rs P wv fv i y k r e W):=fun e W q=>by unfold StealPost;rw [hfi,if_neg (by simp)];exact q
   clear hfi hix
   generalize rdy (absR rs P) (dnR rs) k=b1 at *
   generalize fin (absR rs P) (dnR rs) k=b2 at *
   go_enter Tryz.func64,Tryz.ntmps64
   go_wp2_with (first | (go_at_call 79;refine (uh HW).mono ?_;rintro e w1 ⟨rfl,rfl⟩) | (go_at_call 49;refine (uh HT).mono ?_;rintro e w1 ⟨rfl,rfl⟩) | (go_at_call 80;refine (uh HH).mono ?_;rintro e w1 ⟨rfl,rfl⟩))
   refine ((uh HRd).2 _ (Below.refl _ _)).mono ?_
   rintro e w1 ⟨rfl,hb1⟩
   have HB1:=hide hb1
   clear hb1
   go_wp2_with fail
   refine ((uh HRd).1 _ (uh HB1)).mono ?_
   rintro e w2 ⟨rfl,hb2⟩
   have HB2:Hid (Below w.heap.size w w2):=(uh HB1).trans (hb2.mono (uh HB1).size)
   clear hb2
   cases b1
   ·go_wp2
    go_ret
    exact uh HP _ _ (by rw [if_pos (by simp)];exact ⟨rfl,uh HS _ (uh HB2)⟩)
   ·cases b2
    ·go_wp2_with (go_at_call 94;refine (uh HTk _ (uh HB2)).mono ?_;rintro e w3 ⟨rfl,hp⟩;have HPP:=hide hp;clear hp)
     go_ret
     exact uh HP _ _ (by rw [if_neg (by simp)];exact ⟨rfl,uh HPP⟩)
    ·go_wp2
     go_ret
     exact uh HP _ _ (by rw [if_pos (by simp)];exact ⟨rfl,uh HS _ (uh HB2)⟩)
def ctrR (rs:List Rf) (k:Nat):Int:=(rs[k]?.map (·.ctr)).getD 0
def ownR (rs:List Rf) (k:Nat):Int:=(rs[k]?.map (·.own)).getD 0
def mayB (l:List Sh) (rs:List Rf) (hs:List Hd) (time lease:Int) (k:Nat) (s:Int):Bool :=
 rdy l (dnR rs) k && (!fin l (dnR rs) k && ((firstOf hs k).isNone && (decide (ownR rs k=-1) || decide (s+lease≤time))))
def takeDown (l:List Sh) (rs:List Rf) (hs:List Hd) (time lease:Int):Nat→List Nt→Int→List Nt × Int
 | 0,ns,b=>(ns,b)
 | n+1,ns,b=>takeDown l rs hs time lease n (sinceN ns n (ctrR rs n) time).1 (if mayB l rs hs time lease n (sinceN ns n (ctrR rs n) time).2=true then n else b)
theorem sinceN_bd {ns:List Nt} {k c t:Int} (ht:0≤t∧t≤1000000000000) (h:∀x ∈ ns,0≤x.s∧x.s≤1000000000000):(∀x ∈ (sinceN ns k c t).1,0≤x.s∧x.s≤1000000000000)∧(0≤(sinceN ns k c t).2∧(sinceN ns k c t).2≤1000000000000)∧(sinceN ns k c t).1.length≤ns.length+1:=by
 induction ns with
 | nil=>exact ⟨fun x hx=>by simp [sinceN] at hx;subst hx;exact ht,ht,by simp [sinceN]⟩
 | cons n r ih =>
   obtain ⟨i1,i2,i3⟩:=ih (fun x hx=>h x (by simp [hx]))
   have hn:=h n (by simp)
   by_cases hk:n.sh=k
   ·by_cases hc:n.c=c
    ·simp only [sinceN,if_pos hk,if_pos hc]
     exact ⟨h,hn,by omega⟩
    ·simp only [sinceN,if_pos hk,if_neg hc]
     refine ⟨fun x hx=>?_,ht,by simp⟩
     rcases List.mem_cons.1 hx with rfl | hx
     ·exact ht
     ·exact h x (by simp [hx])
   ·simp only [sinceN,if_neg hk]
    refine ⟨fun x hx=>?_,i2,by simp;omega⟩
    rcases List.mem_cons.1 hx with rfl | hx
    ·exact hn
    ·exact i1 x hx
theorem takeDown_least (l:List Sh) (rs:List Rf) (hs:List Hd) (time lease:Int) (n:Nat):∀(ns:List Nt) (b:Int),(takeDown l rs hs time lease n ns b).2=b∨∃k:Nat,k<n∧(takeDown l rs hs time lease n ns b).2=k:=by
 induction n with
 | zero=>intro ns b;exact Or.inl rfl
 | succ n ih =>
   intro ns b
   rcases ih (sinceN ns n (ctrR rs n) time).1 (if mayB l rs hs time lease n (sinceN ns n (ctrR rs n) time).2=true then n else b) with h | ⟨k,hk,h⟩
   ·simp only [takeDown,h]
    split
    ·exact Or.inr ⟨n,by omega,rfl⟩
    ·exact Or.inl rfl
   ·exact Or.inr ⟨k,by omega,by simp only [takeDown,h]⟩
def TakePost (w:World) (ρ:Nat→Nat) (yb:Nat) (C:Cfg) (time:Int) (rs:List Rf) (P:List Pt) (wv:Wks) (fv:Value) (i:Nat) (y:Wk) (q:List Nt × Int) (e:Ending) (w':World):Prop :=
 (q.2<0∧e=.returned (.tuple #[.int .i64 0,.int .i64 10])∧∃nv',RefPost w ρ yb C time rs P (wv.setN i y q.1 nv') fv w') ∨
 (∃(k:Nat) (r:Rf),q.2=k∧rs[k]?=some r∧e=.returned (.tuple #[.int .i64 k,.int .i64 0])∧∃nv' hv',RefPost w ρ yb C time (rs.set k { r with own:=i,ctr:=r.ctr+1,lep:=r.lep+1 }) P ((wv.setN i y q.1 nv').setH i { y with ns:=q.1,nv:=nv' } (y.hs ++ [⟨k,r.lep+1,r.done,0⟩]) hv') fv w')
set_option maxRecDepth 100000 in
set_option maxHeartbeats 8000000 in
theorem refTake_any {w:World} {ρ:Nat→Nat} {yb:Nat} {C:Cfg} {time:Int} {rs:List Rf} {P:List Pt} {wv:Wks} {fv sv lv:Value} (h:RefAt w ρ yb C time rs P wv fv sv lv) (hf:Fits w ρ) (hI:Inv (absR rs P)) (hP:P.length≤1000000) (i:Nat) (y:Wk) (hy:wv.l[i]?=some y) (hl:y.hs.length≤500) (hln:y.ns.length≤500) (hns:∀x ∈ y.ns,0≤x.s∧x.s≤1000000000000) (ht:0≤time∧time≤1000000000000) (hCl:0≤C.l∧C.l≤100)
 (hcl:∀(k:Nat) (r:Rf),rs[k]?=some r→(0≤r.ctr∧r.ctr≤1000000000000)∧(0≤r.lep∧r.lep≤1000000000000)) :
 Calls Tryz.prog 62 #[.pointer (some ⟨yb,0,none⟩),.int .i64 i] w (TakePost w ρ yb C time rs P wv fv i y (takeDown (absR rs P) rs y.hs time C.l rs.length y.ns (-1))):=by
 have hi:=(List.getElem?_eq_some_iff.1 hy).1
 have hpos:0<rs.length:=by have:=hI.pos;rwa [absR_len] at this
 have hrs:rs.length≤16:=by have:=hI.len;rwa [absR_len] at this
 obtain ⟨vb,vc,hv,_⟩:=h.wk.shape hy
 have c8:w.cell? ⟨yb,8,none⟩=some wv.v:=cell_of h.blk 8
 rw [hv] at c8
 obtain ⟨sb0,cap0,rfl,_⟩:=h.shards hpos
 have c7:w.cell? ⟨yb,7,none⟩=some (.slice (some ⟨sb0,0,none⟩) rs.length cap0):=cell_of h.blk 7
 have HW:=hide (refWorks_any yb wv.l.length vc (some ⟨vb,0,none⟩) i w c8)
 have hd:decide (0≤(i:Int)∧(i:Int)<(wv.l.length:Int))=true:=by simp;omega
 rw [hd] at HW
 have HStart:Hid (RefPost w ρ yb C time rs P (wv.setN i y y.ns y.nv) fv w):=by (rw [Wks.setN_self hy];exact RefPost.below h hf (Below.refl _ w))
 have HF:=hide hf
 have HI:=hide hI
 have HCL:=hide hcl
 have HNS:=hide hns
 clear h hf hI hd hv hcl hns
 go_enter Tryz.func62,Tryz.ntmps62
 go_wp2_with (go_at_call 79;refine (uh HW).mono ?_;rintro e w1 ⟨rfl,rfl⟩)
 go_loopw [7,8] (fun b k wr=>∃(j:Nat) (ns:List Nt) (bb:Int) (nv1:Value),j≤rs.length∧k=.int .i64 ((j:Int) - 1)∧b=.int .i64 bb∧takeDown (absR rs P) rs y.hs time C.l rs.length y.ns (-1)=takeDown (absR rs P) rs y.hs time C.l j ns bb∧ns.length+j≤y.ns.length+rs.length∧(∀x ∈ ns,0≤x.s∧x.s≤1000000000000)∧RefPost w ρ yb C time rs P (wv.setN i y ns nv1) fv wr) (fun _ k _=>(intOf k+1).toNat)
 case atStart=>exact ⟨rs.length,y.ns,-1,y.nv,Nat.le_refl _,rfl,rfl,rfl,Nat.le_refl _,uh HNS,uh HStart⟩
 case round =>
  obtain ⟨j,ns,bb,nv1,hj,rfl,rfl,htd,hlen,hbd,hpost⟩:=hrel
  obtain ⟨ρ1,sv1,lv1,R1,k1,x1,f1⟩:=hpost
  cases j with
  | zero =>
    have hfull:takeDown (absR rs P) rs y.hs time C.l rs.length y.ns (-1)=(ns,bb):=htd
    rcases takeDown_least (absR rs P) rs y.hs time C.l rs.length y.ns (-1) with hb | ⟨k,hk,hb⟩
    ·rw [hfull] at hb
     simp only at hb
     subst hb
     have HPo:Hid (TakePost w ρ yb C time rs P wv fv i y (takeDown (absR rs P) rs y.hs time C.l rs.length y.ns (-1)) (.returned (.tuple #[.int .i64 0,.int .i64 10])) wr):=by
      unfold Hid
      rw [hfull]
      exact Or.inl ⟨by simp,rfl,nv1,ρ1,sv1,lv1,R1,k1,x1,f1⟩
     clear htd hfull R1 k1 x1 f1
     go_wp2
     go_ret2
     exact uh HPo
    ·rw [hfull] at hb
     simp only at hb
     subst hb
     obtain ⟨r,hr⟩:∃r,rs[k]?=some r:=⟨_,List.getElem?_eq_getElem hk⟩
     have HTk:=hide (refTakes_any R1 f1 i _ (Wks.get_setN hy ns nv1) (by simp;omega) k r hr (uh HCL k r hr).1 (uh HCL k r hr).2)
     have HPo:Hid (∀W,(∃hv',RefPost wr ρ1 yb C time (rs.set k { r with own:=i,ctr:=r.ctr+1,lep:=r.lep+1 }) P ((wv.setN i y ns nv1).setH i { y with ns:=ns,nv:=nv1 } (y.hs ++ [⟨k,r.lep+1,r.done,0⟩]) hv') fv W)→TakePost w ρ yb C time rs P wv fv i y (takeDown (absR rs P) rs y.hs time C.l rs.length y.ns (-1)) (.returned (.tuple #[.int .i64 k,.int .i64 0])) W):=by
      rintro W ⟨hv',hp⟩
      rw [hfull]
      exact Or.inr ⟨k,r,rfl,hr,rfl,nv1,hv',RefPost.trans k1 x1 hp⟩
     have hk0:¬((k:Int)<0):=by omega
     clear htd hfull R1 k1 x1 f1
     simp only at HTk
     go_wp2_with (go_at_call 94;refine (uh HTk).mono ?_;rintro e w2 ⟨rfl,hp⟩;have HPP:=hide (uh HPo w2 hp);clear hp)
     go_ret2
     exact uh HPP
  | succ j =>
    obtain ⟨r,hr⟩:∃r,rs[j]?=some r:=⟨_,List.getElem?_eq_getElem (by omega)⟩
    have hctr:ctrR rs j=r.ctr:=by unfold ctrR;rw [hr];rfl
    have hown:ownR rs j=r.own:=by unfold ownR;rw [hr];rfl
    have e1:(((j+1:Nat):Int) - 1)=(j:Int):=by omega
    rw [e1]
    have HSi:=hide (refSince_any R1 f1 i _ (Wks.get_setN hy ns nv1) (by simp;omega) j r hr)
    have HTD:=hide htd
    have K1:=hide k1
    have X1:=hide x1
    have hbd2:=sinceN_bd (k:=j) (c:=r.ctr) ht hbd
    clear htd k1 x1 f1 R1 e1
    simp only at HSi
    generalize hq:sinceN ns j r.ctr time=q at *
    have HQ:=hide hq
    clear hq
    go_wp2_with (go_at_call 92;refine (uh HSi).mono ?_;rintro e w1 ⟨rfl,nv2,hp1⟩;rw [Wks.setN_setN] at hp1;have HP1:=hide (RefPost.trans (uh K1) (uh X1) hp1);clear hp1)
    obtain ⟨ρ2,sv2,lv2,R2,k2,x2,f2⟩:=uh HP1
    have HFn:=hide (refFin_any R2 (uh HI) hP j (by omega))
    have HHo:Hid (∀W,Below w1.heap.size w1 W→Calls Tryz.prog 80 #[.pointer (some ⟨yb,0,none⟩),.int .i64 i,.int .i64 j] W fun e w'=>e=.returned (.int .i64 (ixOf y.hs j 0))∧W=w'):=fun W hb=>refHold_any (R2.keeps (Keeps.of_below hb) (fun _ hk=>Or.inr hk) (ρ':=ρ2) (fun _ _=>rfl)) i _ (Wks.get_setN hy q.1 nv2) (by simp;omega) j
    have HPo:Hid (∀W,Below w1.heap.size w1 W→RefPost w ρ yb C time rs P (wv.setN i y q.1 nv2) fv W):=fun W hb=>RefPost.trans k2 x2 (RefPost.below R2 f2 hb)
    obtain ⟨sb,cap,hsv,hsb,_,_,hcell⟩:=R2.shards hpos
    subst hsv
    have d7:w1.cell? ⟨yb,7,none⟩=some (.slice (some ⟨sb,0,none⟩) rs.length cap):=cell_of R2.blk 7
    have d6:w1.cell? ⟨yb,6,none⟩=some (.int .i64 time):=cell_of R2.blk 6
    have d1:w1.cell? ⟨yb,1,none⟩=some (.int .i64 C.l):=cell_of R2.blk 1
    have do_:w1.cell? ⟨sb,j*9+4,none⟩=some (.int .i64 r.own):=hcell j r hr 4 (by omega)
    have hyb:=lt_of_heap R2.blk
    clear R2 k2 x2 f2 hcell
    refine ((uh HFn).2 _ (Below.refl _ _)).mono ?_
    rintro e w2 ⟨rfl,hb2⟩
    have HB2:=hide hb2
    clear hb2
    go_wp2_with fail
    refine ((uh HFn).1 _ (uh HB2)).mono ?_
    rintro e w3 ⟨rfl,hb3⟩
    have HB3:Hid (Below w1.heap.size w1 w3):=(uh HB2).trans (hb3.mono (uh HB2).size)
    clear hb3
    go_wp2_with fail
    refine (uh HHo _ (uh HB3)).mono ?_
    rintro e w4 ⟨rfl,rfl⟩
    have d7:=((uh HB3).cell (p:=⟨yb,7,none⟩) hyb).trans d7
    have d6:=((uh HB3).cell (p:=⟨yb,6,none⟩) hyb).trans d6
    have d1:=((uh HB3).cell (p:=⟨yb,1,none⟩) hyb).trans d1
    have do_:=((uh HB3).cell (p:=⟨sb,j*9+4,none⟩) hsb).trans do_
    have HNx:Hid (∀b:Bool,mayB (absR rs P) rs y.hs time C.l j q.2=b→takeDown (absR rs P) rs y.hs time C.l rs.length y.ns (-1)=takeDown (absR rs P) rs y.hs time C.l j q.1 (if b=true then (j:Int) else bb)):=by
     intro b hb
     rw [uh HTD]
     simp only [takeDown]
     rw [hctr,uh HQ,hb]
    have HMay:Hid (mayB (absR rs P) rs y.hs time C.l j q.2=(rdy (absR rs P) (dnR rs) j && (!fin (absR rs P) (dnR rs) j && ((firstOf y.hs j).isNone && (decide (r.own=-1) || decide (q.2+C.l≤time)))))):=by
     unfold Hid mayB
     rw [hown]
    have HBd:=hide hbd2
    obtain ⟨hq1,hq2⟩:=hbd2.2.1
    have hqa:q.2+C.l≤2000000000000:=by omega
    clear HTD hctr hown HFn HHo HQ hbd2 hbd
    generalize rdy (absR rs P) (dnR rs) j=b1 at *
    generalize fin (absR rs P) (dnR rs) j=b2 at *
    have HEnd:Hid (∀(b:Bool) W,mayB (absR rs P) rs y.hs time C.l j q.2=b→Below w1.heap.size w1 W→∃(j':Nat) (ns':List Nt) (bb':Int) (nv1:Value),j'≤rs.length∧Value.int .i64 ((j:Int) - 1)=.int .i64 ((j':Int) - 1)∧Value.int .i64 (if b=true then (j:Int) else bb)=.int .i64 bb'∧takeDown (absR rs P) rs y.hs time C.l rs.length y.ns (-1)=takeDown (absR rs P) rs y.hs time C.l j' ns' bb'∧ns'.length+j'≤y.ns.length+rs.length∧(∀x ∈ ns',0≤x.s∧x.s≤1000000000000)∧RefPost w ρ yb C time rs P (wv.setN i y ns' nv1) fv W):=by
     intro b W hb hW
     exact ⟨j,q.1,_,nv2,by omega,rfl,rfl,uh HNx b hb,by have:=(uh HBd).2.2;omega,(uh HBd).1,uh HPo W hW⟩
    clear HNx HPo HBd
    have HB3d:Hid (∀nq,Below w1.heap.size w1 (w3.drewN nq)):=fun nq=>⟨(uh HB3).os,(uh HB3).tape,(uh HB3).output,(uh HB3).size,(uh HB3).block⟩
    cases hfo:firstOf y.hs (j:Int) with
    | some x =>
      obtain ⟨jx,hjx,hix⟩:=ixOf_some hfo
      have dj:decide ((jx:Int)<0)=false:=by simp
      have HMf:Hid (mayB (absR rs P) rs y.hs time C.l j q.2=false):=by (unfold Hid;rw [uh HMay,hfo];cases b1 <;> cases b2 <;> simp)
      rw [hix]
      clear hfo hix hjx HMay
      cases b1
      ·go_wp2
       go_quiet (fail)
       go_wp2
       go_roundw
       case rel=>exact uh HEnd false _ (uh HMf) (uh HB3d _)
       case measure=>simp [intOf]
      ·cases b2
       ·go_wp2
        go_quiet (fail)
        go_wp2
        go_roundw
        case rel=>exact uh HEnd false _ (uh HMf) (uh HB3d _)
        case measure=>simp [intOf]
       ·go_wp2
        go_quiet (fail)
        go_wp2
        go_roundw
        case rel=>exact uh HEnd false _ (uh HMf) (uh HB3d _)
        case measure=>simp [intOf]
    | none =>
      have hix:=ixOf_none hfo
      rw [hix]
      rw [hfo] at HMay
      clear hfo hix
      cases b1
      ·have HMf:Hid (mayB (absR rs P) rs y.hs time C.l j q.2=false):=by (unfold Hid;rw [uh HMay];simp)
       clear HMay
       go_wp2
       go_quiet (fail)
       go_wp2
       go_roundw
       case rel=>exact uh HEnd false _ (uh HMf) (uh HB3d _)
       case measure=>simp [intOf]
      ·cases b2
       ·by_cases ho:r.own=-1
        ·have HMt:Hid (mayB (absR rs P) rs y.hs time C.l j q.2=true):=by (unfold Hid;rw [uh HMay];simp [ho])
         rw [ho] at do_
         clear HMay ho
         go_wp2
         go_quiet (fail)
         go_wp2
         go_roundw
         case rel=>exact uh HEnd true _ (uh HMt) (uh HB3d _)
         case measure=>simp [intOf]
        ·have dow:(r.own == -1)=false:=by rw [beq_eq_false_iff_ne];exact ho
         by_cases hle:q.2+C.l≤time
         ·have HMt:Hid (mayB (absR rs P) rs y.hs time C.l j q.2=true):=by (unfold Hid;rw [uh HMay];simp [hle])
          have dle:decide (q.2+C.l≤time)=true:=by simpa using hle
          clear HMay ho
          go_wp2
          go_quiet (fail)
          go_wp2
          go_roundw
          case rel=>exact uh HEnd true _ (uh HMt) (uh HB3d _)
          case measure=>simp [intOf]
         ·have HMf:Hid (mayB (absR rs P) rs y.hs time C.l j q.2=false):=by (unfold Hid;rw [uh HMay];simp [ho,hle])
          have dle:decide (q.2+C.l≤time)=false:=by simpa using hle
          clear HMay ho
          go_wp2
          go_quiet (fail)
          go_wp2
          go_roundw
          case rel=>exact uh HEnd false _ (uh HMf) (uh HB3d _)
          case measure=>simp [intOf]
       ·have HMf:Hid (mayB (absR rs P) rs y.hs time C.l j q.2=false):=by (unfold Hid;rw [uh HMay];simp)
        clear HMay
        go_wp2
        go_quiet (fail)
        go_wp2
        go_roundw
        case rel=>exact uh HEnd false _ (uh HMf) (uh HB3d _)
        case measure=>simp [intOf]
theorem RefAt.setLease {w:World} {ρ:Nat→Nat} {yb:Nat} {C:Cfg} {time:Int} {rs:List Rf} {P:List Pt} {wv:Wks} {fv lv:Value} {sb cap:Nat} (h:RefAt w ρ yb C time rs P wv fv (.slice (some ⟨sb,0,none⟩) rs.length cap) lv) (hf:Fits w ρ) (k:Nat) (r:Rf) (hr:rs[k]?=some r) (o c e:Int) :
 RefPost w ρ yb C time (rs.set k { r with own:=o,ctr:=c,lep:=e }) P wv fv (((w.setCell ⟨sb,k*9+4,none⟩ (.int .i64 o)).setCell ⟨sb,k*9+4+1,none⟩ (.int .i64 c)).setCell ⟨sb,k*9+4+2,none⟩ (.int .i64 e)):=by
 have hk:=(List.getElem?_eq_some_iff.1 hr).1
 have R1:=h.setRf k 4 (by omega) r { r with own:=o } hr (.int .i64 o) rfl rfl rfl
 rw [show (rs.length)=(rs.set k { r with own:=o }).length by simp] at R1
 have R2:=R1.setRf k 5 (by omega) { r with own:=o } { r with own:=o,ctr:=c } (by simp [hk]) (.int .i64 c) rfl rfl rfl
 rw [show (rs.set k { r with own:=o }).length=((rs.set k { r with own:=o }).set k { r with own:=o,ctr:=c }).length by simp] at R2
 have R3:=R2.setRf k 6 (by omega) { r with own:=o,ctr:=c } { r with own:=o,ctr:=c,lep:=e } (by simp [hk]) (.int .i64 e) rfl rfl rfl
 simp only [List.set_set,List.length_set] at R3
 have hT:theirs ρ sb:=by have:=h.rowT sb rfl;unfold theirs;omega
 exact ⟨ρ,_,_,R3,(((Keeps.refl (theirs ρ) w).setCell (p:=⟨sb,k*9+4,none⟩) (Or.inl hT) _).setCell (p:=⟨sb,k*9+4+1,none⟩) (Or.inl hT) _).setCell (p:=⟨sb,k*9+4+2,none⟩) (Or.inl hT) _,ExtR.refl hf,fun q hq=>hf q (by simpa [World.setCell] using hq)⟩
theorem absR_lease {rs:List Rf} {P:List Pt} {k:Nat} {r:Rf} (hr:rs[k]?=some r) (o c e:Int):absR (rs.set k { r with own:=o,ctr:=c,lep:=e }) P=absR rs P∧dnR (rs.set k { r with own:=o,ctr:=c,lep:=e })=dnR rs:=by
 have hk:=(List.getElem?_eq_some_iff.1 hr).1
 refine ⟨?_,?_⟩
 ·apply List.ext_getElem?
  intro j
  by_cases hj:j=k
  ·subst hj
   rw [absR_get (r:={ r with own:=o,ctr:=c,lep:=e }) (by simp [hk]),absR_get hr]
  ·cases hq:rs[j]? with
   | none=>rw [List.getElem?_eq_none (by rw [absR_len,List.length_set];exact List.getElem?_eq_none_iff.1 hq),List.getElem?_eq_none (by rw [absR_len];exact List.getElem?_eq_none_iff.1 hq)]
   | some q=>rw [absR_get (r:=q) (by rw [List.getElem?_set_ne (fun e=>hj e.symm)];exact hq),absR_get hq]
 ·funext j
  unfold dnR
  by_cases hj:j=k
  ·subst hj;rw [List.getElem?_set_self hk,hr];rfl
  ·rw [List.getElem?_set_ne (fun e=>hj e.symm)]
def renewAt (f:Nat→Bool) (i:Int) (k:Nat) (st:List Rf × List Hd):List Rf × List Hd :=
 match firstOf st.2 k,st.1[k]? with
 | some x,some r=>if r.own≠i∨r.lep≠x.ep then (st.1,lost st.2 k) else if f k=true then (st.1.set k { r with own:=-1,ctr:=r.ctr+1,lep:=r.lep },lost st.2 k) else (st.1.set k { r with own:=i,ctr:=r.ctr+1,lep:=r.lep },st.2)
 | _,_=>st
def renewUp (f:Nat→Bool) (i:Int):Nat→List Rf × List Hd→List Rf × List Hd
 | 0,st=>st
 | n+1,st=>renewAt f i n (renewUp f i n st)
structure RInv (w:World) (ρ:Nat→Nat) (yb:Nat) (C:Cfg) (time:Int) (rs:List Rf) (P:List Pt) (wv:Wks) (fv:Value) (i:Nat) (y:Wk) (j:Nat) (rs1:List Rf) (hs1:List Hd) (hv1:Value) (wr:World):Prop where
 st:renewUp (fin (absR rs P) (dnR rs)) i j (rs,y.hs)=(rs1,hs1)
 len:rs1.length=rs.length
 ab:absR rs1 P=absR rs P
 dn:dnR rs1=dnR rs
 rest:∀k,j≤k→rs1[k]?=rs[k]?
 hl:hs1.length≤y.hs.length
 post:RefPost w ρ yb C time rs1 P (wv.setH i y hs1 hv1) fv wr
theorem Wks.setH_self {x:Wks} {i:Nat} {y:Wk} (hy:x.l[i]?=some y):x.setH i y y.hs y.hv=x:=by
 obtain ⟨hlt,he⟩:=List.getElem?_eq_some_iff.1 hy
 unfold Wks.setH
 have:x.l.set i { y with hs:=y.hs,hv:=y.hv }=x.l:=by
  rw [show ({ y with hs:=y.hs,hv:=y.hv }:Wk)=x.l[i] from he.symm,List.set_getElem_self]
 rw [this]
theorem Wks.setH_setH (x:Wks) (i:Nat) (y:Wk) (hs hs':List Hd) (hv hv':Value):(x.setH i y hs hv).setH i { y with hs:=hs,hv:=hv } hs' hv'=x.setH i y hs' hv':=by
 unfold Wks.setH
 simp
def RenewPost (w:World) (ρ:Nat→Nat) (yb:Nat) (C:Cfg) (time:Int) (P:List Pt) (wv:Wks) (fv:Value) (i:Nat) (y:Wk) (q:List Rf × List Hd) (e:Ending) (w':World):Prop :=
 ∃hv',e=.returned (.tuple #[.int .i64 q.2.length,.int .i64 0])∧RefPost w ρ yb C time q.1 P (wv.setH i y q.2 hv') fv w'
set_option maxRecDepth 100000 in
set_option maxHeartbeats 8000000 in
theorem refRenew_any {w:World} {ρ:Nat→Nat} {yb:Nat} {C:Cfg} {time:Int} {rs:List Rf} {P:List Pt} {wv:Wks} {fv sv lv:Value} (h:RefAt w ρ yb C time rs P wv fv sv lv) (hf:Fits w ρ) (hI:Inv (absR rs P)) (hP:P.length≤1000000) (i:Nat) (y:Wk) (hy:wv.l[i]?=some y) (hl:y.hs.length≤500)
 (hcl:∀(k:Nat) (r:Rf),rs[k]?=some r→(0≤r.ctr∧r.ctr≤1000000000000)∧(0≤r.lep∧r.lep≤1000000000000)) :
 Calls Tryz.prog 60 #[.pointer (some ⟨yb,0,none⟩),.int .i64 i] w (RenewPost w ρ yb C time P wv fv i y (renewUp (fin (absR rs P) (dnR rs)) i rs.length (rs,y.hs))):=by
 have hi:=(List.getElem?_eq_some_iff.1 hy).1
 have hpos:0<rs.length:=by have:=hI.pos;rwa [absR_len] at this
 have hrs:rs.length≤16:=by have:=hI.len;rwa [absR_len] at this
 obtain ⟨vb,vc,hv,_⟩:=h.wk.shape hy
 have c8:w.cell? ⟨yb,8,none⟩=some wv.v:=cell_of h.blk 8
 rw [hv] at c8
 have HW:=hide (refWorks_any yb wv.l.length vc (some ⟨vb,0,none⟩) i w c8)
 have hd:decide (0≤(i:Int)∧(i:Int)<(wv.l.length:Int))=true:=by simp;omega
 rw [hd] at HW
 have HStart:Hid (RInv w ρ yb C time rs P wv fv i y 0 rs y.hs y.hv w):=⟨rfl,rfl,rfl,rfl,fun _ _=>rfl,Nat.le_refl _,by rw [Wks.setH_self hy];exact RefPost.below h hf (Below.refl _ w)⟩
 have HF:=hide hf
 have HI:=hide hI
 have HCL:=hide hcl
 clear h hf hI hd hv hcl
 go_enter Tryz.func60,Tryz.ntmps60
 go_wp2_with (go_at_call 79;refine (uh HW).mono ?_;rintro e w1 ⟨rfl,rfl⟩)
 go_loopw [7] (fun k wr=>∃(j:Nat) (rs1:List Rf) (hs1:List Hd) (hv1:Value),j≤rs.length∧k=.int .i64 j∧RInv w ρ yb C time rs P wv fv i y j rs1 hs1 hv1 wr) (fun k _=>rs.length - (intOf k).toNat)
 case atStart=>exact ⟨0,rs,y.hs,y.hv,Nat.zero_le _,rfl,uh HStart⟩
 case round =>
  obtain ⟨j,rs1,hs1,hv1,hj,rfl,hR⟩:=hrel
  obtain ⟨ρ1,sv1,lv1,R1,k1,x1,f1⟩:=hR.post
  have hy1:=Wks.get_setH hy hs1 hv1
  have hlen1:=hR.len
  have hhl:=hR.hl
  obtain ⟨sb,cap,hsv,hsb,hsbT,hsf,hcell⟩:=R1.shards (by omega)
  subst hsv
  obtain ⟨vb1,vc1,hv1',hvT1,hvb1,_,ch1,_⟩:=R1.wk.shape hy1
  simp only at ch1
  have d8:wr.cell? ⟨yb,8,none⟩=some (wv.setH i y hs1 hv1).v:=cell_of R1.blk 8
  have hlw:(wv.setH i y hs1 hv1).l.length=wv.l.length:=by simp [Wks.setH]
  rw [hv1',hlw] at d8
  have d7:wr.cell? ⟨yb,7,none⟩=some (.slice (some ⟨sb,0,none⟩) rs1.length cap):=cell_of R1.blk 7
  rw [hlen1] at d7
  have hyb:=lt_of_heap R1.blk
  obtain ⟨ha,hcc,hhv,hcl1⟩:=R1.holdsAt hy1
  simp only at hhv hcl1
  rw [hhv] at ch1
  by_cases hlt:j<rs.length
  ·have HHo:=hide (refHold_any R1 i _ hy1 (by simp;omega) j)
   simp only at HHo
   cases hfo:firstOf hs1 (j:Int) with
   | none =>
     have hix:=ixOf_none hfo
     rw [hix] at HHo
     have HN:Hid (RInv w ρ yb C time rs P wv fv i y (j+1) rs1 hs1 hv1 wr):=⟨by rw [renewUp,hR.st];simp only [renewAt,hfo],hR.len,hR.ab,hR.dn,fun k hk=>hR.rest k (by omega),hR.hl,hR.post⟩
     clear hR R1 k1 x1 f1 hcell hcl1 hfo hix hhv hy1
     go_wp2_with (go_at_call 80;refine (uh HHo).mono ?_;rintro e w1 ⟨rfl,rfl⟩)
     go_roundw
     case rel=>exact ⟨j+1,rs1,hs1,hv1,by omega,by go_num,uh HN⟩
     case measure=>simp [intOf];omega
   | some x =>
     obtain ⟨jx,hjx,hix⟩:=ixOf_some hfo
     rw [hix] at HHo
     have hjl:=(List.getElem?_eq_some_iff.1 hjx).1
     obtain ⟨hb,hab,hbl,hbT,_,hcx⟩:=hcl1 jx x hjx
     subst hab
     have b0:wr.cell? ⟨hb,jx*4,none⟩=some (.int .i64 x.sh):=hcx 0 (by omega)
     have b1:wr.cell? ⟨hb,jx*4+1,none⟩=some (.int .i64 x.ep):=hcx 1 (by omega)
     have b2:wr.cell? ⟨hb,jx*4+2,none⟩=some (.int .i64 x.at_):=hcx 2 (by omega)
     have b3:wr.cell? ⟨hb,jx*4+3,none⟩=some (.int .i64 x.bf):=hcx 3 (by omega)
     obtain ⟨r,hr⟩:∃r,rs[j]?=some r:=⟨_,List.getElem?_eq_getElem hlt⟩
     have hr1:rs1[j]?=some r:=(hR.rest j (Nat.le_refl _)).trans hr
     have l4:wr.cell? ⟨sb,j*9+4,none⟩=some (.int .i64 r.own):=hcell j r hr1 4 (by omega)
     have l5:wr.cell? ⟨sb,j*9+4+1,none⟩=some (.int .i64 r.ctr):=hcell j r hr1 5 (by omega)
     have l6:wr.cell? ⟨sb,j*9+4+2,none⟩=some (.int .i64 r.lep):=hcell j r hr1 6 (by omega)
     have g4:=hsf (j*9+4)
     have g5:=hsf (j*9+4+1)
     have g6:=hsf (j*9+4+2)
     have dj:decide ((jx:Int)<0)=false:=by simp
     have hFin:=fun W hW=>((refFin_any R1 (by rw [hR.ab];exact uh HI) hP j (by omega)).1 W hW)
     rw [hR.ab,hR.dn] at hFin
     have HFin:=hide hFin
     have hbd:=uh HCL j r hr
     have HRR:=hide hR
     have HR1:=hide R1
     have K1:=hide k1
     have X1:=hide x1
     have F1:=hide f1
     have HY1:=hide hy1
     have HFo:=hide hfo
     have HR1r:=hide hr1
     clear hR R1 k1 x1 f1 hcell hcl1 hfo hix hhv hy1 hFin hcx hjx hsf hr hr1
     go_wp2_with (go_at_call 80;refine (uh HHo).mono ?_;rintro e w1 ⟨rfl,rfl⟩)
     have HBV:Hid (Below wr.heap.size wr ((wr.alloc (.cells #[.int .i64 x.sh,.int .i64 x.ep,.int .i64 x.at_,.int .i64 x.bf] 102)).alloc (.cells #[.int .i64 r.own,.int .i64 r.ctr,.int .i64 r.lep] 59))):=((Below.refl _ wr).alloc (Nat.le_refl _) _).alloc (by simp) _
     have hV1:((wr.alloc (.cells #[.int .i64 x.sh,.int .i64 x.ep,.int .i64 x.at_,.int .i64 x.bf] 102)).alloc (.cells #[.int .i64 r.own,.int .i64 r.ctr,.int .i64 r.lep] 59)).heap[wr.heap.size]?=some (.cells #[.int .i64 x.sh,.int .i64 x.ep,.int .i64 x.at_,.int .i64 x.bf] 102 (0,0)):=by rw [Below.heap_alloc _ _ _ (by simp)];exact heap_alloc_new wr _
     have hV2:((wr.alloc (.cells #[.int .i64 x.sh,.int .i64 x.ep,.int .i64 x.at_,.int .i64 x.bf] 102)).alloc (.cells #[.int .i64 r.own,.int .i64 r.ctr,.int .i64 r.lep] 59)).heap[wr.heap.size+1]?=some (.cells #[.int .i64 r.own,.int .i64 r.ctr,.int .i64 r.lep] 59 (0,0)):=by
      have:=heap_alloc_new (wr.alloc (.cells #[.int .i64 x.sh,.int .i64 x.ep,.int .i64 x.at_,.int .i64 x.bf] 102)) (.cells #[.int .i64 r.own,.int .i64 r.ctr,.int .i64 r.lep] 59)
      simpa using this
     generalize (wr.alloc (.cells #[.int .i64 x.sh,.int .i64 x.ep,.int .i64 x.at_,.int .i64 x.bf] 102)).alloc (.cells #[.int .i64 r.own,.int .i64 r.ctr,.int .i64 r.lep] 59)=V at *
     refine (uh HFin _ (uh HBV)).mono ?_
     rintro e w2 ⟨rfl,hb2⟩
     have HB2:Hid (Below wr.heap.size wr w2):=(uh HBV).trans (hb2.mono (uh HBV).size)
     have hz2:=(uh HB2).size
     have hl1:=lt_of_heap hV1
     have hl2:=lt_of_heap hV2
     have hzV:=hb2.size
     have W1:=(hb2.block _ hl1).trans hV1
     have W2:=(hb2.block _ hl2).trans hV2
     have e1:w2.cell? ⟨wr.heap.size,1,none⟩=some (.int .i64 x.ep):=cell_of W1 1
     have m0:w2.cell? ⟨wr.heap.size+1,0,none⟩=some (.int .i64 r.own):=cell_of W2 0
     have m1:w2.cell? ⟨wr.heap.size+1,1,none⟩=some (.int .i64 r.ctr):=cell_of W2 1
     have m2:w2.cell? ⟨wr.heap.size+1,2,none⟩=some (.int .i64 r.lep):=cell_of W2 2
     have d7:=((uh HB2).cell (p:=⟨yb,7,none⟩) hyb).trans d7
     have l4:=((uh HB2).cell (p:=⟨sb,j*9+4,none⟩) hsb).trans l4
     have l5:=((uh HB2).cell (p:=⟨sb,j*9+4+1,none⟩) hsb).trans l5
     have l6:=((uh HB2).cell (p:=⟨sb,j*9+4+2,none⟩) hsb).trans l6
     have g4:=(World.frozen?_of_block (w:=wr) (a:=⟨sb,j*9+4,none⟩) ((uh HB2).block sb hsb)).trans g4
     have g5:=(World.frozen?_of_block (w:=wr) (a:=⟨sb,j*9+4+1,none⟩) ((uh HB2).block sb hsb)).trans g5
     have g6:=(World.frozen?_of_block (w:=wr) (a:=⟨sb,j*9+4+2,none⟩) ((uh HB2).block sb hsb)).trans g6
     have R2:=hide ((uh HR1).keeps (Keeps.of_below (uh HB2)) (fun _ hk=>Or.inr hk) (ρ':=ρ1) (fun _ _=>rfl))
     have F2:Hid (Fits w2 ρ1):=fun q hq=>uh F1 q (by omega)
     have HUp:Hid (∀rs2 wv2 W,RefPost w2 ρ1 yb C time rs2 P wv2 fv W→RefPost w ρ yb C time rs2 P wv2 fv W):=fun rs2 wv2 W hp=>RefPost.trans (uh K1) (uh X1) (RefPost.later (uh F1) (uh HB2) hp)
     have nsy:¬sb=yb:=by rintro rfl;have:=(uh R2).tag;omega
     have nys:¬yb=sb:=fun e=>nsy e.symm
     have nl:¬wr.heap.size+1=sb:=by omega
     have nl2:¬sb=wr.heap.size+1:=by omega
     have HRst:=hide (uh HRR).st
     clear hb2 hV1 hV2 W1 W2 HFin HBV HR1 b0 b1 b2 b3 d8 ch1
     by_cases hc:r.own≠i∨r.lep≠x.ep
     ·have HLo:=hide (refLoses_any (uh R2) (uh F2) i _ (uh HY1) (by simp;omega) j)
      have HNx:Hid (∀W,(∃hv',RefPost w2 ρ1 yb C time rs1 P ((wv.setH i y hs1 hv1).setH i { y with hs:=hs1,hv:=hv1 } (lost hs1 j) hv') fv W)→∃hv2,RInv w ρ yb C time rs P wv fv i y (j+1) rs1 (lost hs1 j) hv2 W):=by
       rintro W ⟨hv',hp⟩
       rw [Wks.setH_setH] at hp
       refine ⟨hv',⟨?_,(uh HRR).len,(uh HRR).ab,(uh HRR).dn,fun k hk=>(uh HRR).rest k (by omega),Nat.le_trans (lost_le _ _) (uh HRR).hl,uh HUp _ _ _ hp⟩⟩
       rw [renewUp,uh HRst]
       simp only [renewAt,uh HFo,uh HR1r,if_pos hc]
      simp only at HLo
      have HC:Hid ((r.own≠i)∨(r.own=i∧r.lep≠x.ep)):=by
       by_cases h1:r.own=i
       ·exact Or.inr ⟨h1,hc.elim (fun q=>absurd h1 q) id⟩
       ·exact Or.inl h1
      clear hc
      rcases uh HC with h1 | ⟨h1,h2⟩
      ·have q1:(r.own != (i:Int))=true:=by rw [bne_iff_ne];exact h1
       clear h1 HC
       go_wp2_with (go_at_call 46;refine (uh HLo).mono ?_;rintro e w3 ⟨rfl,hp⟩;have HQ:=hide (uh HNx w3 hp);clear hp)
       go_roundw
       case rel =>
        obtain ⟨hv2,hq⟩:=uh HQ
        exact ⟨j+1,rs1,_,hv2,by omega,by go_num,hq⟩
       case measure=>simp [intOf];omega
      ·have q2:(r.lep != x.ep)=true:=by rw [bne_iff_ne];exact h2
       rw [h1] at m0
       clear h1 h2 HC
       go_wp2_with (go_at_call 46;refine (uh HLo).mono ?_;rintro e w3 ⟨rfl,hp⟩;have HQ:=hide (uh HNx w3 hp);clear hp)
       go_roundw
       case rel =>
        obtain ⟨hv2,hq⟩:=uh HQ
        exact ⟨j+1,rs1,_,hv2,by omega,by go_num,hq⟩
       case measure=>simp [intOf];omega
     ·have h1:r.own=i:=Classical.byContradiction fun q=>hc (Or.inl q)
      have h2:r.lep=x.ep:=Classical.byContradiction fun q=>hc (Or.inr q)
      rw [←h2] at e1
      rw [h1] at m0
      have HC:=hide hc
      have hsv2:=(uh R2)
      rw [←hlen1] at d7
      have HL1:=hide (hsv2.setLease (uh F2) j r (uh HR1r) (-1) (r.ctr+1) r.lep)
      have HL2:=hide (hsv2.setLease (uh F2) j r (uh HR1r) i (r.ctr+1) r.lep)
      rw [hlen1] at d7
      clear hc h1 h2 hsv2
      cases hfi:fin (absR rs P) (dnR rs) j
      ·have HFi:=hide hfi
       have HNx:Hid (∀W,RefPost w2 ρ1 yb C time (rs1.set j { r with own:=i,ctr:=r.ctr+1,lep:=r.lep }) P (wv.setH i y hs1 hv1) fv W→RInv w ρ yb C time rs P wv fv i y (j+1) (rs1.set j { r with own:=i,ctr:=r.ctr+1,lep:=r.lep }) hs1 hv1 W):=by
        intro W hp
        have ab:=absR_lease (P:=P) (uh HR1r) i (r.ctr+1) r.lep
        refine ⟨?_,by rw [List.length_set];exact (uh HRR).len,ab.1.trans (uh HRR).ab,ab.2.trans (uh HRR).dn,fun k hk=>?_,(uh HRR).hl,uh HUp _ _ _ hp⟩
        ·rw [renewUp,uh HRst]
         simp only [renewAt,uh HFo,uh HR1r,if_neg (uh HC),uh HFi]
         rfl
        ·rw [List.getElem?_set_ne (by omega)];exact (uh HRR).rest k (by omega)
       clear hfi HFi
       go_wp2
       go_region_held3 (fun w'=>w'.cell? ⟨yb,7,none⟩=some (.slice (some ⟨sb,0,none⟩) rs.length cap)∧w'.cell? ⟨wr.heap.size+1,1,none⟩=some (.int .i64 r.ctr)∧w'.cell? ⟨wr.heap.size+1,2,none⟩=some (.int .i64 r.lep))
        (go_keep) (fail)
       go_wp2
       go_roundw
       case rel =>
        refine ⟨j+1,_,hs1,hv1,by omega,by go_num,uh HNx _ ?_⟩
        obtain ⟨ρ',sv',lv',a,b,c,d⟩:=uh HL2
        exact ⟨ρ',sv',lv',a.keeps (Keeps.refl (fun _=>False) _).drew (fun _ h=>h.elim) (fun _ _=>rfl),b.drew,c,d⟩
       case measure=>simp [intOf];omega
      ·have HFi:=hide hfi
       have HNx:Hid (∀U W ρ3 sv3 lv3,RefAt U ρ3 yb C time (rs1.set j { r with own:=-1,ctr:=r.ctr+1,lep:=r.lep }) P (wv.setH i y hs1 hv1) fv sv3 lv3→Keeps (theirs ρ1) w2 U→ExtR w2.heap.size ρ1 ρ3→(∃hv',RefPost U ρ3 yb C time (rs1.set j { r with own:=-1,ctr:=r.ctr+1,lep:=r.lep }) P ((wv.setH i y hs1 hv1).setH i { y with hs:=hs1,hv:=hv1 } (lost hs1 j) hv') fv W)→∃hv2,RInv w ρ yb C time rs P wv fv i y (j+1) (rs1.set j { r with own:=-1,ctr:=r.ctr+1,lep:=r.lep }) (lost hs1 j) hv2 W):=by
        rintro U W ρ3 sv3 lv3 a b c ⟨hv',hp⟩
        rw [Wks.setH_setH] at hp
        have ab:=absR_lease (P:=P) (uh HR1r) (-1) (r.ctr+1) r.lep
        refine ⟨hv',⟨?_,by rw [List.length_set];exact (uh HRR).len,ab.1.trans (uh HRR).ab,ab.2.trans (uh HRR).dn,fun k hk=>?_,Nat.le_trans (lost_le _ _) (uh HRR).hl,uh HUp _ _ _ (RefPost.trans b c hp)⟩⟩
        ·rw [renewUp,uh HRst]
         simp only [renewAt,uh HFo,uh HR1r,if_neg (uh HC),uh HFi]
         rfl
        ·rw [List.getElem?_set_ne (by omega)];exact (uh HRR).rest k (by omega)
       clear hfi HFi
       go_wp2
       go_region_held3 (fun w'=>w'.cell? ⟨yb,7,none⟩=some (.slice (some ⟨sb,0,none⟩) rs.length cap)∧w'.cell? ⟨wr.heap.size+1,1,none⟩=some (.int .i64 r.ctr)∧w'.cell? ⟨wr.heap.size+1,2,none⟩=some (.int .i64 r.lep))
        (go_keep) (fail)
       obtain ⟨ρ3,sv3,lv3,a3,b3,c3,f3⟩:=uh HL1
       have a4:=a3.keeps (Keeps.refl (fun _=>False) _).drew (fun _ h=>h.elim) (ρ':=ρ3) (fun _ _=>rfl)
       have f4:Fits ((((w2.setCell ⟨sb,j*9+4,none⟩ (.int .i64 (-1))).setCell ⟨sb,j*9+4+1,none⟩ (.int .i64 (r.ctr+1))).setCell ⟨sb,j*9+4+2,none⟩ (.int .i64 r.lep)).drew) ρ3:=f3
       have HLo:=hide (refLoses_any a4 f4 i _ (uh HY1) (by simp;omega) j)
       simp only at HLo
       have HNy:=hide (fun W hp=>uh HNx _ W ρ3 sv3 lv3 a4 b3.drew c3 hp)
       clear a3 b3 c3 f3 a4 f4 HNx
       go_wp2_with (go_at_call 46;refine (uh HLo).mono ?_;rintro e w3 ⟨rfl,hp⟩;have HQ:=hide (uh HNy w3 hp);clear hp)
       go_roundw
       case rel =>
        obtain ⟨hv2,hq⟩:=uh HQ
        exact ⟨j+1,_,_,hv2,by omega,by go_num,hq⟩
       case measure=>simp [intOf];omega
  ·have ej:j=rs.length:=by omega
   subst ej
   have HE:Hid (renewUp (fin (absR rs P) (dnR rs)) i rs.length (rs,y.hs)=(rs1,hs1)):=hR.st
   have HPo:=hide hR.post
   clear hR R1 k1 x1 f1 hcell hcl1 hy1
   go_wp2
   go_ret2
   rw [uh HE]
   exact ⟨_,rfl,uh HPo⟩
set_option maxHeartbeats 400000 in
theorem logLen_any (b off n cap:Nat) (sa:Option Addr) (w:World) (c0:w.cell? ⟨b,off,none⟩=some (.slice sa n cap)) :
 Calls Tryz.prog 108 #[.pointer (some ⟨b,off,none⟩)] w fun e w'=>e=.returned (.int .i64 n)∧w=w':=by
 go_enter Tryz.func108,Tryz.ntmps108
 go_wp2
 go_ret
 exact ⟨rfl,rfl⟩
theorem has_yes {k n:Nat} (h:k<n):decide (0≤(k:Int)∧(k:Int)<(n:Int))=true:=by simp;omega
set_option maxHeartbeats 1000000 in
theorem logClosed_any (b off n cap bs k:Nat) (op:Bool) (w:World) (hk:k<n) (c0:w.cell? ⟨b,off,none⟩=some (.slice (some ⟨bs,0,none⟩) n cap)) (c1:w.cell? ⟨bs,k*5+2,none⟩=some (.bool op)) :
 Calls Tryz.prog 130 #[.pointer (some ⟨b,off,none⟩),.int .i64 k] w fun e w'=>e=.returned (.bool (!op))∧w=w':=by
 go_enter Tryz.func130,Tryz.ntmps130
 go_wp2
 go_ret
 exact ⟨rfl,rfl⟩
set_option maxHeartbeats 1000000 in
theorem logCount_any (b off n cap bs k cnt rcap:Nat) (ra:Option Addr) (w:World) (hk:k<n) (c0:w.cell? ⟨b,off,none⟩=some (.slice (some ⟨bs,0,none⟩) n cap)) (c1:w.cell? ⟨bs,k*5+4,none⟩=some (.slice ra cnt rcap)) :
 Calls Tryz.prog 40 #[.pointer (some ⟨b,off,none⟩),.int .i64 k] w fun e w'=>e=.returned (.int .i64 cnt)∧w=w':=by
 have HH:=fun w h=>hide (has_any b off n cap (some ⟨bs,0,none⟩) k w h)
 rw [has_yes hk] at HH
 go_enter Tryz.func40,Tryz.ntmps40
 go_wp2_with (go_at_call 47;refine (uh (HH _ ‹_›)).mono ?_;rintro e w1 ⟨rfl,rfl⟩)
 go_ret
 exact ⟨rfl,rfl⟩
set_option maxHeartbeats 1000000 in
theorem logParents_any (b off n cap bs k:Nat) (par:List Int) (pcap:Nat) (pa:Option Addr) (w:World) (hk:k<n) (hp:par.length≤2) (hb:bs<w.heap.size) (c0:w.cell? ⟨b,off,none⟩=some (.slice (some ⟨bs,0,none⟩) n cap)) (c1:w.cell? ⟨bs,k*5+3,none⟩=some (.slice pa par.length pcap))
 (hpar:∀j (hj:j<par.length),∃pb,pa=some ⟨pb,0,none⟩∧pb<w.heap.size∧w.cell? ⟨pb,j,none⟩=some (.int .i64 par[j])) :
 Calls Tryz.prog 109 #[.pointer (some ⟨b,off,none⟩),.int .i64 k] w (CopyPost w par):=by
 have HH:=fun w h=>hide (has_any b off n cap (some ⟨bs,0,none⟩) k w h)
 rw [has_yes hk] at HH
 have HC:=hide (copyParents_any bs (k*5) par pcap pa w hp hb c1 hpar)
 clear hpar
 go_enter Tryz.func109,Tryz.ntmps109
 go_wp2_with (go_at_call 47;refine (uh (HH _ ‹_›)).mono ?_;rintro e w1 ⟨rfl,rfl⟩)
 go_at_call 128
 refine (uh HC).mono ?_
 intro e w1 hq
 obtain ⟨g,gc,rfl,q1,q2⟩:=hq
 have Q1:=hide q1
 have Q2:=hide q2
 clear q1 q2
 go_wp2
 go_ret
 exact ⟨g,gc,rfl,uh Q1,uh Q2⟩
end Go.Proofs.YtpnkmnmchdabkaaGreat
