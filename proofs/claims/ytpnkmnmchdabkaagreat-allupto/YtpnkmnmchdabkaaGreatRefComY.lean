import Derived.Test.YtpnkmnmchdabkaaGreatM44
namespace Go.Proofs.YtpnkmnmchdabkaaGreat
open Go.RowKit
attribute [local go_sem ↓] Go.wp_at_zero Go.wp_at_succ
theorem infoFold:(Tryz.prog.info? 124).map (fun i=>(i.zero,i.size,i.bytes))=some (some (.agg #[.int .i64 0,.int .i64 0]),2,16):=by kernel_rfl
def ComL (V:World) (ρ:Nat→Nat) (yb:Nat) (C:Cfg) (time:Int) (rs:List Rf) (P:List Pt) (wv:Wks) (k nb:Nat) (x:Hd) (m:Nat) (wr:World):Prop :=
 (∃fv',RefPost V ρ yb C time rs P { wv with fo:=wv.fo ++ nfo k x.at_ m } fv' wr)∧wr.heap[nb]?=some (.cells #[.int .i64 x.sh,.int .i64 x.ep,.int .i64 x.at_,.int .i64 x.bf] 102 (0,0))
theorem ComL.next {V wr Z w3:World} {ρ ρ':Nat→Nat} {yb:Nat} {C:Cfg} {time:Int} {rs:List Rf} {P:List Pt} {wv:Wks} {k nb:Nat} {x:Hd} {m:Nat} {fv' sv' lv':Value} (R:RefAt wr ρ' yb C time rs P { wv with fo:=wv.fo ++ nfo k x.at_ m } fv' sv' lv') (hk:Keeps (theirs ρ) V wr) (he:ExtR V.heap.size ρ ρ') (hff:Fits wr ρ') (hnb:nb<V.heap.size) (h0:ρ nb=0) (hc:wr.heap[nb]?=some (.cells #[.int .i64 x.sh,.int .i64 x.ep,.int .i64 x.at_,.int .i64 x.bf] 102 (0,0))) (hB:Below wr.heap.size wr Z) (g cap:Nat)
 (hown:w3.ownsRow 0 124 2 (.slice (some ⟨g,0,none⟩) ((wv.fo ++ nfo k x.at_ m).length+1) cap) ((wv.fo ++ nfo k x.at_ m).length+1) (rowFo (wv.fo ++ nfo k x.at_ m) ++ [.int .i64 k,.int .i64 (x.at_+m)])) (hgrow:Z.grownBy w3 fv'.ownBlock) (hat:fv'.ownBlock=some g∨g=Z.heap.size) :
 ComL V ρ yb C time rs P wv k nb x (m+1) (w3.setCell ⟨yb,10,none⟩ (.slice (some ⟨g,0,none⟩) ((wv.fo ++ nfo k x.at_ m).length+1) cap)):=by
 have hp:=R.addFold hff ((Keeps.of_below hB).mono (fun q hq hs=>by omega)) ⟨(k:Int),x.at_+(m:Int)⟩ g cap hown hgrow hat
 have e:({ wv with fo:=wv.fo ++ nfo k x.at_ (m+1) }:Wks)={ wv with fo:=(wv.fo ++ nfo k x.at_ m) ++ [⟨(k:Int),x.at_+(m:Int)⟩] }:=by rw [nfo_succ,List.append_assoc]
 refine ⟨⟨_,by rw [e];exact RefPost.trans hk he hp⟩,?_⟩
 obtain ⟨_,_,_,_,hk2,_,_⟩:=hp
 rw [hk2.block nb (lt_of_heap hc) (by unfold theirs;rw [he.1 nb hnb,h0];omega)]
 exact hc
theorem RefAt.comEnd {wr:World} {ρ:Nat→Nat} {yb:Nat} {C:Cfg} {time:Int} {rs:List Rf} {P:List Pt} {wv:Wks} {fv lv:Value} {sb sc:Nat} (R:RefAt wr ρ yb C time rs P wv fv (.slice (some ⟨sb,0,none⟩) rs.length sc) lv) {k:Nat} {r:Rf} (hr:rs[k]?=some r) (d e:Int) :
 RefAt (((wr.setCell ⟨sb,k*9+7,none⟩ (.int .i64 d)).drew.setCell ⟨sb,k*9+8,none⟩ (.int .i64 e)).drew) ρ yb C time (rs.set k { r with done:=d,ep:=e }) P wv fv (.slice (some ⟨sb,0,none⟩) rs.length sc) lv:=by
 have hk:=(List.getElem?_eq_some_iff.1 hr).1
 have R1:=R.setRf k 7 (by omega) r { r with done:=d } hr (.int .i64 d) rfl rfl rfl
 have R2:=R1.keeps (Keeps.refl (fun _=>False) _).drew (fun _ h=>h.elim) (ρ':=ρ) (fun _ _=>rfl)
 rw [show (rs.length)=(rs.set k { r with done:=d }).length by simp] at R2
 have R3:=R2.setRf k 8 (by omega) { r with done:=d } { r with done:=d,ep:=e } (by simp [hk]) (.int .i64 e) rfl rfl rfl
 have R4:=R3.keeps (Keeps.refl (fun _=>False) _).drew (fun _ h=>h.elim) (ρ':=ρ) (fun _ _=>rfl)
 simp only [List.set_set,List.length_set] at R4
 exact R4
theorem RefAt.comHold {wr:World} {ρ:Nat→Nat} {yb:Nat} {C:Cfg} {time:Int} {rs:List Rf} {P:List Pt} {wv:Wks} {fv sv lv:Value} (R:RefAt wr ρ yb C time rs P wv fv sv lv) {i:Nat} {y:Wk} (hy:wv.l[i]?=some y) {hb hc:Nat} (hhv:y.hv=.slice (some ⟨hb,0,none⟩) y.hs.length hc) {j:Nat} {x:Hd} (hj:y.hs[j]?=some x) (a:Int) :
 RefAt ((wr.setCell ⟨hb,j*4+2,none⟩ (.int .i64 a)).drew.setCell ⟨hb,j*4+3,none⟩ (.int .i64 0)) ρ yb C time rs P (wv.setH i y (y.hs.set j { x with at_:=a,bf:=0 }) y.hv) fv sv lv:=by
 have hil:=(List.getElem?_eq_some_iff.1 hy).1
 have hjl:=(List.getElem?_eq_some_iff.1 hj).1
 have R1:=R.holdSet hy hhv (j*4+2) (.int .i64 a) (y.hs.set j { x with at_:=a }) (rowHd_set2 y.hs j x hj a) (by simp)
 have R2:=R1.keeps (Keeps.refl (fun _=>False) _).drew (fun _ h=>h.elim) (ρ':=ρ) (fun _ _=>rfl)
 have hy2:(wv.setH i y (y.hs.set j { x with at_:=a }) y.hv).l[i]?=some { y with hs:=y.hs.set j { x with at_:=a },hv:=y.hv }:=by
  unfold Wks.setH
  exact List.getElem?_set_self hil
 have R3:=R2.holdSet (nb:=hb) (nc:=hc) hy2 (by show y.hv=_;rw [hhv];simp only [List.length_set]) (j*4+3) (.int .i64 0) ((y.hs.set j { x with at_:=a }).set j { x with at_:=a,bf:=0 }) (rowHd_set3 (y.hs.set j { x with at_:=a }) j { x with at_:=a } (by simp [hjl]) 0) (by simp)
 have e:(wv.setH i y (y.hs.set j { x with at_:=a }) y.hv).setH i { y with hs:=y.hs.set j { x with at_:=a },hv:=y.hv } ((y.hs.set j { x with at_:=a }).set j { x with at_:=a,bf:=0 }) y.hv=wv.setH i y (y.hs.set j { x with at_:=a,bf:=0 }) y.hv:=by
  unfold Wks.setH
  simp only [List.set_set]
 rw [e] at R3
 exact R3
theorem cell_sd {w:World} {b q c p:Nat} {u v:Value} (h:w.cell? ⟨b,q,none⟩=some v) (hne:b≠c∨q≠p):(w.setCell ⟨c,p,none⟩ u).drew.cell? ⟨b,q,none⟩=some v:=by
 rw [World.cell?_drew,World.cell?_setCell_other _ _ _ _ (by intro e;injection e with e1 e2;omega)]
 exact h
theorem frozen_sd {w:World} {b q c p:Nat} {u:Value} (h:w.frozen? ⟨b,q,none⟩=false):(w.setCell ⟨c,p,none⟩ u).drew.frozen? ⟨b,q,none⟩=false:=by
 show (w.setCell ⟨c,p,none⟩ u).frozen? ⟨b,q,none⟩=false
 rw [World.frozen?_setCell]
 exact h
set_option maxRecDepth 100000 in
set_option maxHeartbeats 8000000 in
theorem refCommit_yes {w:World} {ρ:Nat→Nat} {yb:Nat} {C:Cfg} {time:Int} {rs:List Rf} {P:List Pt} {wv:Wks} {fv sv lv:Value} (h:RefAt w ρ yb C time rs P wv fv sv lv) (hf:Fits w ρ) (i:Nat) (y:Wk) (hy:wv.l[i]?=some y) (hl:y.hs.length≤1000) (k:Nat) (r:Rf) (hr:rs[k]?=some r) (j:Nat) (x:Hd) (hj:y.hs[j]?=some x) (hix:ixOf y.hs k 0=(j:Int)) (n:Nat) (hn:x.bf=(n:Int)) (hn1:1≤n∧n≤1000) (hat:0≤x.at_∧x.at_≤1000) (hfl:wv.fo.length≤1000000) (hep:¬x.ep<r.ep) (hdn:x.at_=r.done) (b:Bool) :
 Calls Tryz.prog 23 #[.pointer (some ⟨yb,0,none⟩),.int .i64 i,.int .i64 k,.bool b] w fun e w'=>e=.returned (.int .i64 0)∧∃fv',RefPost w ρ yb C time (rs.set k { r with done:=x.at_+x.bf,ep:=x.ep }) P { (if b=true then wv else wv.setH i y (y.hs.set j { x with at_:=x.at_+x.bf,bf:=0 }) y.hv) with fo:=wv.fo ++ nfo k x.at_ n } fv' w':=by
 have HH:=hide (refHeld_at h i y hy hl k (List.getElem?_eq_some_iff.1 hr).1 j hix)
 obtain ⟨vb,sb,hb,vc,sc,hc,K,hK9⟩:=h.comAt hy hr hj
 clear hK9
 obtain ⟨c7,c8,ch,z0,z1,z2,z3,e7,e8,hyb,hvb,hsb,hhb,_⟩:=K
 rw [←hdn] at e7
 rw [hn] at z3
 have HDn:=hide hdn
 have HNn:=hide hn
 have hil:=(List.getElem?_eq_some_iff.1 hy).1
 have hkl:=(List.getElem?_eq_some_iff.1 hr).1
 have hjl:=(List.getElem?_eq_some_iff.1 hj).1
 obtain ⟨i0,hi0,hz0,hz1,hz2⟩:=info_parts infoFold
 have HBV:Hid (Below w.heap.size w (w.alloc (.cells #[.int .i64 x.sh,.int .i64 x.ep,.int .i64 x.at_,.int .i64 x.bf] 102))):=(Below.refl _ w).alloc (Nat.le_refl _) _
 have RV:Hid (RefPost (w.alloc (.cells #[.int .i64 x.sh,.int .i64 x.ep,.int .i64 x.at_,.int .i64 x.bf] 102)) ρ yb C time rs P { wv with fo:=wv.fo ++ nfo k x.at_ 0 } fv (w.alloc (.cells #[.int .i64 x.sh,.int .i64 x.ep,.int .i64 x.at_,.int .i64 x.bf] 102))):=by
  have R0:=h.keeps (Keeps.of_below (uh HBV)) (fun _ hk=>Or.inr hk) (ρ':=ρ) (fun _ _=>rfl)
  have:=RefPost.below R0 (fun q hq=>hf q (by have:=(uh HBV).size;omega)) (Below.refl _ _)
  have e:({ wv with fo:=wv.fo ++ nfo k x.at_ 0 }:Wks)=wv:=by simp [nfo]
  rw [e]
  exact this
 have KV:Hid (Keeps (theirs ρ) w (w.alloc (.cells #[.int .i64 x.sh,.int .i64 x.ep,.int .i64 x.at_,.int .i64 x.bf] 102))∧ExtR w.heap.size ρ ρ):=⟨(Keeps.of_below (uh HBV)).mono (fun q hq hs=>by omega),ExtR.refl hf⟩
 have h0:Hid (ρ w.heap.size=0):=hf _ (Nat.le_refl _)
 have HY:=hide hy
 have HRr:=hide hr
 have HJ:=hide hj
 clear h hf hy hr hj hix hdn hn
 go_enter Tryz.func23,Tryz.ntmps23
 go_wp2_with fail
 refine (uh HH).mono ?_
 rintro e w1 ⟨rfl,rfl⟩
 have hbne:¬(n:Int)=0:=by omega
 rw [uh HNn] at HBV RV KV
 go_wp2
 have hN:=heap_alloc_new w (.cells #[.int .i64 x.sh,.int .i64 x.ep,.int .i64 x.at_,.int .i64 n] 102)
 have hVs:(w.alloc (.cells #[.int .i64 x.sh,.int .i64 x.ep,.int .i64 x.at_,.int .i64 n] 102)).heap.size=w.heap.size+1:=by simp
 generalize w.alloc (.cells #[.int .i64 x.sh,.int .i64 x.ep,.int .i64 x.at_,.int .i64 n] 102)=V at *
 have l1:V.cell? ⟨w.heap.size,1,none⟩=some (.int .i64 x.ep):=cell_of hN 1
 have l2:V.cell? ⟨w.heap.size,2,none⟩=some (.int .i64 x.at_):=cell_of hN 2
 have c7:=((uh HBV).cell (p:=⟨yb,7,none⟩) hyb).trans c7
 have e7:=((uh HBV).cell (p:=⟨sb,k*9+7,none⟩) hsb).trans e7
 have e8:=((uh HBV).cell (p:=⟨sb,k*9+8,none⟩) hsb).trans e8
 have HN:=hide hN
 clear hN z0 z1 z2 z3 c8 ch
 go_quiet (fail)
 go_wp2
 have HC0:Hid (∀q,ComL V ρ yb C time rs P wv k w.heap.size x 0 (V.drewN q)):=fun q=>by
  refine ⟨⟨fv,?_⟩,by rw [uh HNn];exact uh HN⟩
  obtain ⟨ρ',sv',lv',R,hk,he,hff⟩:=uh RV
  exact ⟨ρ',sv',lv',R.keeps (S:=fun _=>False) ⟨rfl,rfl,rfl,Nat.le_refl _,fun _ _ _=>rfl⟩ (fun _ h=>h.elim) (fun _ _=>rfl),⟨hk.os,hk.tape,hk.output,hk.size,hk.block⟩,he,hff⟩
 go_loopw [12] (fun q wr=>∃m:Nat,m≤n∧q=.int .i64 m∧ComL V ρ yb C time rs P wv k w.heap.size x m wr) (fun q _=>n - (intOf q).toNat)
 case atStart=>exact ⟨0,Nat.zero_le _,rfl,uh HC0 _⟩
 case round =>
  obtain ⟨m,hm,rfl,hcl⟩:=hrel
  obtain ⟨⟨fv',ρ',sv',lv',R,hk,he,hff⟩,hnb⟩:=hcl
  have HNb:=hide hnb
  rw [uh HNn] at hnb
  have l2:wr.cell? ⟨w.heap.size,2,none⟩=some (.int .i64 x.at_):=cell_of hnb 2
  have l3:wr.cell? ⟨w.heap.size,3,none⟩=some (.int .i64 n):=cell_of hnb 3
  have hwl:=lt_of_heap hnb
  by_cases hlt:m<n
  ·have hfo:=R.wk.fold
   obtain ⟨fa,fc,hfv⟩:=ownsRow_len hfo
   have c10:wr.cell? ⟨yb,10,none⟩=some fv':=cell_of R.blk 10
   have f10:wr.frozen? ⟨yb,10,none⟩=false:=frozen_of R.blk 10
   have hybr:=lt_of_heap R.blk
   have NY:Hid (some yb≠fv'.ownBlock):=fun e=>by have a:=R.wk.foldT yb e.symm;have b:=R.tag;omega
   have NN:Hid (some w.heap.size≠fv'.ownBlock):=fun e=>by have a:=R.wk.foldT w.heap.size e.symm;have b:=he.1 w.heap.size (by omega);have c:=uh h0;omega
   have HFin:Hid (∀(Z w3:World) (g3 cap3:Nat),Below wr.heap.size wr Z→w3.ownsRow 0 124 2 (.slice (some ⟨g3,0,none⟩) ((wv.fo ++ nfo k x.at_ m).length+1) cap3) ((wv.fo ++ nfo k x.at_ m).length+1) (rowFo (wv.fo ++ nfo k x.at_ m) ++ [.int .i64 k,.int .i64 (x.at_+m)])→Z.grownBy w3 fv'.ownBlock→(fv'.ownBlock=some g3∨g3=Z.heap.size)→ComL V ρ yb C time rs P wv k w.heap.size x (m+1) (w3.setCell ⟨yb,10,none⟩ (.slice (some ⟨g3,0,none⟩) ((wv.fo ++ nfo k x.at_ m).length+1) cap3))):=fun Z w3 g3 cap3 hB hown hgrow hat=>ComL.next R hk he hff (by omega) (uh h0) (uh HNb) hB g3 cap3 hown hgrow hat
   have HRow:Hid (∀W,Below wr.heap.size wr W→W.ownsRow 0 124 2 fv' (wv.fo ++ nfo k x.at_ m).length (rowFo (wv.fo ++ nfo k x.at_ m))):=fun W hB=>(R.keeps (Keeps.of_below hB) (fun _ hk=>Or.inr hk) (ρ':=ρ') (fun _ _=>rfl)).wk.fold
   have hLn:(wv.fo ++ nfo k x.at_ m).length≤1001000:=by rw [List.length_append,nfo_len];omega
   have hwm:IntKind.i64.wrap (x.at_+(m:Int))=x.at_+(m:Int):=by rw [IntKind.wrap_i64];omega
   generalize (wv.fo ++ nfo k x.at_ m)=FL at *
   have HS:Hid (∀W,Below wr.heap.size wr W→(fun w'=>w'.cell? ⟨yb,10,none⟩=some (.slice fa FL.length fc)∧w'.cell? ⟨w.heap.size,2,none⟩=some (.int .i64 x.at_)) W):=fun W hb=>⟨by rw [←hfv];exact (hb.cell (p:=⟨yb,10,none⟩) hybr).trans c10,(hb.cell (p:=⟨w.heap.size,2,none⟩) hwl).trans l2⟩
   have hfv:=hfv
   simp only at hfv
   rw [hfv] at NY NN HFin HRow
   have B0:Hid (Below wr.heap.size wr wr.drew):=(Below.refl _ _).drew
   clear R hk he hff hfo hnb HNb hfv c10 KV HBV RV HC0 HN HY HRr HJ
   go_wp2
   refine wp_region_but (S:=(fun w'=>w'.cell? ⟨yb,10,none⟩=some (.slice fa FL.length fc)∧w'.cell? ⟨w.heap.size,2,none⟩=some (.int .i64 x.at_))) (z:=15) (by kernel_rfl) 16 rfl #[false,false,false,false,false,false,false,false,false,false,false,false,false,false,false,false] rfl ?_
   generalize wr.drew=Vd at *
   refine anyBut_take (i:=0) (v:=?_) (l':=#[true,false,false,false,false,false,false,false,false,false,false,false,false,false,false,false]) rfl (by kernel_rfl) (by kernel_rfl) (by kernel_rfl) (by kernel_rfl) rfl (fun _ _ _ h=>h) rfl ?_ (uh HS _ (uh B0)) ?_
   rotate_left
   ·intro w' hSw;go_simp;try with_reducible rfl
   refine anyBut_take (i:=1) (v:=?_) (l':=#[true,true,false,false,false,false,false,false,false,false,false,false,false,false,false,false]) rfl (by kernel_rfl) (by kernel_rfl) (by kernel_rfl) (by kernel_rfl) rfl (fun _ _ _ h=>h) rfl ?_ (uh HS _ (uh B0)) ?_
   rotate_left
   ·intro w' hSw;go_simp;try with_reducible rfl
   refine anyBut_take (i:=2) (v:=?_) (l':=#[true,true,true,false,false,false,false,false,false,false,false,false,false,false,false,false]) rfl (by kernel_rfl) (by kernel_rfl) (by kernel_rfl) (by kernel_rfl) rfl (fun _ _ _ h=>h) rfl ?_ (uh HS _ (uh B0)) ?_
   rotate_left
   ·intro w' hSw;go_simp;try with_reducible rfl
   refine anyBut_take (i:=3) (v:=?_) (l':=#[true,true,true,true,false,false,false,false,false,false,false,false,false,false,false,false]) rfl (by kernel_rfl) (by kernel_rfl) (by kernel_rfl) (by kernel_rfl) rfl (fun _ _ _ h=>h) rfl ?_ (uh HS _ (uh B0)) ?_
   rotate_left
   ·intro w' hSw;go_simp;try with_reducible rfl
   refine anyBut_take (i:=4) (v:=?_) (l':=#[true,true,true,true,true,false,false,false,false,false,false,false,false,false,false,false]) rfl (by kernel_rfl) (by kernel_rfl) (by kernel_rfl) (by kernel_rfl) rfl (fun _ _ _ h=>h) rfl ?_ (uh HS _ (uh B0)) ?_
   rotate_left
   ·intro w' hSw;obtain ⟨q0,q1⟩:=hSw;go_simp;try with_reducible rfl
   refine anyBut_take (i:=5) (v:=?_) (l':=#[true,true,true,true,true,true,false,false,false,false,false,false,false,false,false,false]) rfl (by kernel_rfl) (by kernel_rfl) (by kernel_rfl) (by kernel_rfl) rfl (fun _ _ _ h=>h) rfl ?_ (uh HS _ (uh B0)) ?_
   rotate_left
   ·intro w' hSw;go_simp;try with_reducible rfl
   refine anyBut_take (i:=6) (v:=?_) (l':=#[true,true,true,true,true,true,true,false,false,false,false,false,false,false,false,false]) rfl (by kernel_rfl) (by kernel_rfl) (by kernel_rfl) (by kernel_rfl) rfl (fun _ _ _ h=>h) rfl ?_ (uh HS _ (uh B0)) ?_
   rotate_left
   ·intro w' hSw;go_simp;try with_reducible rfl
   refine anyBut_take (i:=7) (v:=?_) (l':=#[true,true,true,true,true,true,true,true,false,false,false,false,false,false,false,false]) rfl (by kernel_rfl) (by kernel_rfl) (by kernel_rfl) (by kernel_rfl) rfl (fun _ _ _ h=>h) rfl ?_ (uh HS _ (uh B0)) ?_
   rotate_left
   ·intro w' hSw;obtain ⟨q0,q1⟩:=hSw;go_simp;try with_reducible rfl
   refine anyBut_take (i:=8) (v:=?_) (l':=#[true,true,true,true,true,true,true,true,true,false,false,false,false,false,false,false]) rfl (by kernel_rfl) (by kernel_rfl) (by kernel_rfl) (by kernel_rfl) rfl (fun _ _ _ h=>h) rfl ?_ (uh HS _ (uh B0)) ?_
   rotate_left
   ·intro w' hSw;go_simp;try with_reducible rfl
   refine anyBut_take (i:=9) (v:=?_) (l':=#[true,true,true,true,true,true,true,true,true,true,false,false,false,false,false,false]) rfl (by kernel_rfl) (by kernel_rfl) (by kernel_rfl) (by kernel_rfl) rfl (fun _ _ _ h=>h) rfl ?_ (uh HS _ (uh B0)) ?_
   rotate_left
   ·intro w' hSw;go_simp;try with_reducible rfl
   try rw [hwm]
   refine anyBut_take (i:=10) (v:=?_) (l':=#[true,true,true,true,true,true,true,true,true,true,true,false,false,false,false,false]) rfl (by kernel_rfl) (by kernel_rfl) (by kernel_rfl) (by kernel_rfl) rfl (fun _ _ _ h=>h) rfl ?_ (uh HS _ (uh B0)) ?_
   rotate_left
   ·intro w' hSw;go_simp;try with_reducible rfl
   refine anyBut_one (i:=11) (l':=#[true,true,true,true,true,true,true,true,true,true,true,true,false,false,false,false]) (by kernel_rfl) rfl rfl rfl (fun K hK=>?_)
   go_simp
   have BZ:Hid (Below wr.heap.size wr (Vd.alloc (Obj.cells #[Value.int .i64 k,Value.int .i64 (x.at_+m)] 124))):=(uh B0).alloc (uh B0).size _
   refine hK.out _ _ (fun _=>uh HS _ (uh BZ)) ?_
   clear hK K
   have eZ:=hide (heap_alloc_new Vd (Obj.cells #[Value.int .i64 k,Value.int .i64 (x.at_+m)] 124))
   generalize Vd.alloc (Obj.cells #[Value.int .i64 k,Value.int .i64 (x.at_+m)] 124)=Z at *
   refine anyBut_one (i:=12) (l':=#[true,true,true,true,true,true,true,true,true,true,true,true,true,false,false,false]) (by kernel_rfl) rfl rfl rfl (fun K hK=>?_)
   refine wp_append_stands _ _ _ _ rfl 0 124 i0 _ 2 16 Tryz.underlying78 hi0 hz0 hz1 hz2 rfl (by omega) _ FL.length (rowFo FL) rfl (uh HRow _ (uh BZ)) ⟨Vd.heap.size,0,none⟩ 1 1 [.int .i64 k,.int .i64 (x.at_+m)] rfl rfl (World.news_of_block (uh eZ)) (by intro u hu;simp at hu;rcases hu with rfl | rfl <;> rfl) (by omega) (by unfold maxLen;omega) (by omega) (Nat.zero_le _) ?_
   intro g3 cap3 w3 hown3 hgrow3 hat3 hlt3 hst3
   have HS3:(fun w'=>w'.cell? ⟨yb,10,none⟩=some (.slice fa FL.length fc)∧w'.cell? ⟨w.heap.size,2,none⟩=some (.int .i64 x.at_)) w3:=⟨hgrow3.cell (uh HS _ (uh BZ)).1 (uh NY),hgrow3.cell (uh HS _ (uh BZ)).2 (uh NN)⟩
   have zf:w3.frozen? ⟨yb,10,none⟩=false:=(hgrow3.frozen_far _ (Nat.lt_of_lt_of_le hybr (uh BZ).size) (uh NY)).trans (((uh BZ).frozen hybr).trans f10)
   have z10:=HS3.1
   have HF3:=hide (uh HFin Z w3 g3 cap3 (uh BZ) hown3 hgrow3 hat3)
   have HS4:=hide HS3
   clear hown3 hgrow3 hat3 hlt3 hst3 HS3
   refine hK.out _ _ (fun _=>uh HS4) ?_
   clear hK K
   simp only [Act.put,List.setIfInBounds_toArray]
   refine anyBut_one (i:=13) (l':=#[true,true,true,true,true,true,true,true,true,true,true,true,true,true,false,false]) (by kernel_rfl) rfl rfl rfl (fun K hK=>?_)
   go_simp
   refine hK.out _ _ (fun _=>uh HS4) ?_
   clear hK K
   refine anyBut_one (i:=14) (l':=#[true,true,true,true,true,true,true,true,true,true,true,true,true,true,true,false]) (by kernel_rfl) rfl rfl rfl (fun K hK=>?_)
   go_simp
   refine hK.out _ _ (fun _=>uh HS4) ?_
   clear hK K
   refine anyBut_one (i:=15) (l':=#[true,true,true,true,true,true,true,true,true,true,true,true,true,true,true,true]) (by kernel_rfl) rfl rfl rfl (fun K hK=>?_)
   go_simp
   refine hK.out _ _ (fun h=>absurd rfl h) (anyBut_done (by kernel_rfl) ?_ _)
   clear hK K
   go_wp2
   go_roundw
   case rel=>exact ⟨m+1,by omega,by go_num,uh HF3⟩
   case measure=>simp [intOf];omega
  ·have em:m=n:=by omega
   subst em
   obtain ⟨vb,sb,hb,vc,sc,hc,K2,hsv,hhv,hvv⟩:=R.comAt (i:=i) (y:=y) (uh HY) (uh HRr) (uh HJ)
   subst hsv
   obtain ⟨c7,c8,ch,z0,z1,z2,z3,e7,e8,hyb,hvb,hsb,hhb,f7,fh,fy,tv,ts,th,ty⟩:=K2
   have l1:wr.cell? ⟨w.heap.size,1,none⟩=some (.int .i64 x.ep):=cell_of hnb 1
   rw [uh HNn] at z3
   rw [←uh HDn] at e7
   have f77:=f7 (k*9+7)
   have f78:=f7 (k*9+8)
   have fh2:=fh (j*4+2)
   have fh3:=fh (j*4+3)
   have tn:ρ' w.heap.size=0:=by rw [he.1 w.heap.size (by omega)];exact uh h0
   have n1:w.heap.size≠sb:=by rintro e9;rw [←e9] at ts;omega
   have n2:w.heap.size≠hb:=by rintro e9;rw [←e9] at th;omega
   have n3:yb≠sb:=by rintro rfl;omega
   have n4:yb≠hb:=by rintro rfl;omega
   have n5:vb≠sb:=by rintro rfl;omega
   have n6:vb≠hb:=by rintro rfl;omega
   have n7:hb≠sb:=by rintro rfl;omega
   have hwm:IntKind.i64.wrap (x.at_+(m:Int))=x.at_+(m:Int):=by rw [IntKind.wrap_i64];omega
   have hT1:theirs ρ' sb:=by unfold theirs;omega
   have hT2:theirs ρ' hb:=by unfold theirs;have:=R.wk.four;simp only at this;omega
   have HK1:Hid (Keeps (theirs ρ') wr (((wr.setCell ⟨sb,k*9+7,none⟩ (.int .i64 (x.at_+m))).drew.setCell ⟨sb,k*9+8,none⟩ (.int .i64 x.ep)).drew)):=(((((Keeps.refl _ wr).setCell (p:=⟨sb,k*9+7,none⟩) (Or.inl hT1) _).drew).setCell (p:=⟨sb,k*9+8,none⟩) (Or.inl hT1) _).drew)
   have HR1:=hide (R.comEnd (uh HRr) (x.at_+m) x.ep)
   have hsz1:(((wr.setCell ⟨sb,k*9+7,none⟩ (.int .i64 (x.at_+m))).drew.setCell ⟨sb,k*9+8,none⟩ (.int .i64 x.ep)).drew).heap.size=wr.heap.size:=by show ((wr.setCell _ _).drew.setCell _ _).heap.size=_;simp [World.setCell,World.drew]
   have HEN:Hid (∀(W:World) (rs':List Rf) (wv':Wks),RefPost wr ρ' yb C time rs' P wv' fv' W→RefPost w ρ yb C time rs' P wv' fv' W):=fun W rs' wv' hp=>RefPost.trans (uh KV).1 (uh KV).2 (RefPost.trans hk he hp)
   have HFF:=hide hff
   have HT2:=hide hT2
   have HHv:=hide hhv
   have a7:=cell_sd (u:=.int .i64 (x.at_+m)) (c:=sb) (p:=k*9+7) c7 (Or.inl n3)
   have a8:=cell_sd (u:=.int .i64 (x.at_+m)) (c:=sb) (p:=k*9+7) c8 (Or.inl n3)
   have ah:=cell_sd (u:=.int .i64 (x.at_+m)) (c:=sb) (p:=k*9+7) ch (Or.inl n5)
   have a1:=cell_sd (u:=.int .i64 (x.at_+m)) (c:=sb) (p:=k*9+7) l1 (Or.inl n1)
   have a2:=cell_sd (u:=.int .i64 (x.at_+m)) (c:=sb) (p:=k*9+7) l2 (Or.inl n1)
   have a3:=cell_sd (u:=.int .i64 (x.at_+m)) (c:=sb) (p:=k*9+7) l3 (Or.inl n1)
   have ae:=cell_sd (u:=.int .i64 (x.at_+m)) (c:=sb) (p:=k*9+7) e8 (Or.inr (by omega))
   have at2:=cell_sd (u:=.int .i64 (x.at_+m)) (c:=sb) (p:=k*9+7) z2 (Or.inl n7)
   have at3:=cell_sd (u:=.int .i64 (x.at_+m)) (c:=sb) (p:=k*9+7) z3 (Or.inl n7)
   have af:=frozen_sd (u:=.int .i64 (x.at_+m)) (c:=sb) (p:=k*9+7) f78
   have ag:=frozen_sd (u:=.int .i64 (x.at_+m)) (c:=sb) (p:=k*9+7) fh2
   have ai:=frozen_sd (u:=.int .i64 (x.at_+m)) (c:=sb) (p:=k*9+7) fh3
   clear R hk he hff hnb f7 fh fy tv ts th ty KV HBV RV HC0 HN hfl hhv hvv hT1 hT2
   go_wp2
   go_region_held3 (fun w'=>w'.cell? ⟨yb,7,none⟩=some (.slice (some ⟨sb,0,none⟩) rs.length sc)∧w'.cell? ⟨w.heap.size,2,none⟩=some (.int .i64 x.at_)∧w'.cell? ⟨w.heap.size,3,none⟩=some (.int .i64 m))
    (go_keep) (fail)
   clear c7 c8 ch z0 z1 z2 z3 e7 e8 l1 l2 l3 f77 f78 fh2 fh3
   generalize (wr.setCell ⟨sb,k*9+7,none⟩ (.int .i64 (x.at_+m))).drew=U1 at *
   have b7:=cell_sd (u:=.int .i64 x.ep) (c:=sb) (p:=k*9+8) a7 (Or.inl n3)
   have b1:=cell_sd (u:=.int .i64 x.ep) (c:=sb) (p:=k*9+8) a1 (Or.inl n1)
   have b8:=cell_sd (u:=.int .i64 x.ep) (c:=sb) (p:=k*9+8) a8 (Or.inl n3)
   have bh:=cell_sd (u:=.int .i64 x.ep) (c:=sb) (p:=k*9+8) ah (Or.inl n5)
   have b2:=cell_sd (u:=.int .i64 x.ep) (c:=sb) (p:=k*9+8) a2 (Or.inl n1)
   have b3:=cell_sd (u:=.int .i64 x.ep) (c:=sb) (p:=k*9+8) a3 (Or.inl n1)
   have bt2:=cell_sd (u:=.int .i64 x.ep) (c:=sb) (p:=k*9+8) at2 (Or.inl n7)
   have bt3:=cell_sd (u:=.int .i64 x.ep) (c:=sb) (p:=k*9+8) at3 (Or.inl n7)
   have bg:=frozen_sd (u:=.int .i64 x.ep) (c:=sb) (p:=k*9+8) ag
   have bi:=frozen_sd (u:=.int .i64 x.ep) (c:=sb) (p:=k*9+8) ai
   go_wp2
   go_region_held3 (fun w'=>w'.cell? ⟨yb,7,none⟩=some (.slice (some ⟨sb,0,none⟩) rs.length sc)∧w'.cell? ⟨w.heap.size,1,none⟩=some (.int .i64 x.ep))
    (go_keep) (fail)
   clear a7 a8 ah a1 a2 a3 ae at2 at3 af ag ai
   generalize (U1.setCell ⟨sb,k*9+8,none⟩ (.int .i64 x.ep)).drew=U2 at *
   cases b
   ·have HR2:=hide ((uh HR1).comHold (uh HY) (uh HHv) (uh HJ) (x.at_+m))
    have HK2:Hid (Keeps (theirs ρ') wr ((U2.setCell ⟨hb,j*4+2,none⟩ (.int .i64 (x.at_+m))).drew.setCell ⟨hb,j*4+3,none⟩ (.int .i64 0))):=(((uh HK1).setCell (p:=⟨hb,j*4+2,none⟩) (Or.inl (uh HT2)) _).drew).setCell (p:=⟨hb,j*4+3,none⟩) (Or.inl (uh HT2)) _
    have e9:((U2.setCell ⟨hb,j*4+2,none⟩ (.int .i64 (x.at_+m))).drew.setCell ⟨hb,j*4+3,none⟩ (.int .i64 0)).heap.size=U2.heap.size:=by simp [World.setCell,World.drew]
    have HE2:=hide (uh HEN _ _ _ ⟨ρ',_,lv',uh HR2,uh HK2,ExtR.refl (uh HFF),fun q hq=>uh HFF q (by omega)⟩)
    have d8:=cell_sd (u:=.int .i64 (x.at_+m)) (c:=hb) (p:=j*4+2) b8 (Or.inl n4)
    have dh:=cell_sd (u:=.int .i64 (x.at_+m)) (c:=hb) (p:=j*4+2) bh (Or.inl n6)
    have d2:=cell_sd (u:=.int .i64 (x.at_+m)) (c:=hb) (p:=j*4+2) b2 (Or.inl n2)
    have d3:=cell_sd (u:=.int .i64 (x.at_+m)) (c:=hb) (p:=j*4+2) b3 (Or.inl n2)
    have dt3:=cell_sd (u:=.int .i64 (x.at_+m)) (c:=hb) (p:=j*4+2) bt3 (Or.inr (by omega))
    have di:=frozen_sd (u:=.int .i64 (x.at_+m)) (c:=hb) (p:=j*4+2) bi
    go_wp2
    go_region_held3 (fun w'=>w'.cell? ⟨yb,8,none⟩=some (.slice (some ⟨vb,0,none⟩) wv.l.length vc)∧w'.cell? ⟨vb,i*2,none⟩=some (.slice (some ⟨hb,0,none⟩) y.hs.length hc)∧w'.cell? ⟨w.heap.size,2,none⟩=some (.int .i64 x.at_)∧w'.cell? ⟨w.heap.size,3,none⟩=some (.int .i64 m))
     (go_keep) (fail)
    clear b8 bh b2 b3 bt2 bt3 bg bi
    generalize (U2.setCell ⟨hb,j*4+2,none⟩ (.int .i64 (x.at_+m))).drew=U3 at *
    go_wp2
    go_ret
    refine ⟨rfl,fv',?_⟩
    rw [uh HNn]
    exact uh HE2
   ·have HE2:=hide (uh HEN _ _ _ ⟨ρ',_,lv',uh HR1,uh HK1,ExtR.refl (uh HFF),fun q hq=>uh HFF q (by omega)⟩)
    go_wp2
    go_ret
    refine ⟨rfl,fv',?_⟩
    rw [uh HNn]
    exact uh HE2
end Go.Proofs.YtpnkmnmchdabkaaGreat
