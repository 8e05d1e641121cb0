import Derived.Test.YtpnkmnmchdabkaaGreatM15
import Derived.Test.YtpnkmnmchdabkaaGreatRefApp
namespace Go.Proofs.YtpnkmnmchdabkaaGreat
open Go.RowKit
attribute [local go_sem ↓] Go.wp_at_zero Go.wp_at_succ
set_option maxRecDepth 100000 in
set_option maxHeartbeats 4000000 in
theorem refTakes_any {w:World} {ρ:Nat→Nat} {yb:Nat} {C:Cfg} {time:Int} {rs:List Rf} {P:List Pt} {wv:Wks} {fv sv lv:Value} (h:RefAt w ρ yb C time rs P wv fv sv lv) (hf:Fits w ρ) (i:Nat) (y:Wk) (hy:wv.l[i]?=some y) (hl:y.hs.length≤1000) (k:Nat) (r:Rf) (hr:rs[k]?=some r) (hc:0≤r.ctr∧r.ctr≤1000000000000) (hlep:0≤r.lep∧r.lep≤1000000000000) :
 Calls Tryz.prog 94 #[.pointer (some ⟨yb,0,none⟩),.int .i64 i,.int .i64 k] w fun e w'=>e=.returned (.tuple #[])∧∃hv',RefPost w ρ yb C time (rs.set k { r with own:=i,ctr:=r.ctr+1,lep:=r.lep+1 }) P (wv.setH i y (y.hs ++ [⟨k,r.lep+1,r.done,0⟩]) hv') fv w':=by
 have hi:=(List.getElem?_eq_some_iff.1 hy).1
 have hk:=(List.getElem?_eq_some_iff.1 hr).1
 obtain ⟨vb,vc,hv,hvT,hvb,hvf,ch,_⟩:=h.wk.shape hy
 have c8:w.cell? ⟨yb,8,none⟩=some wv.v:=cell_of h.blk 8
 rw [hv] at c8
 have hyb:=lt_of_heap h.blk
 obtain ⟨ha,hcc,hhv,_⟩:=h.holdsAt hy
 rw [hhv] at ch
 obtain ⟨sb,cap,rfl,hsb,hsbT,hsf,hcell⟩:=h.shards (by omega)
 have c7:w.cell? ⟨yb,7,none⟩=some (.slice (some ⟨sb,0,none⟩) rs.length cap):=cell_of h.blk 7
 have e4:w.cell? ⟨sb,k*9+4,none⟩=some (.int .i64 r.own):=hcell k r hr 4 (by omega)
 have e5:w.cell? ⟨sb,k*9+5,none⟩=some (.int .i64 r.ctr):=hcell k r hr 5 (by omega)
 have e6:w.cell? ⟨sb,k*9+6,none⟩=some (.int .i64 r.lep):=hcell k r hr 6 (by omega)
 have e7:w.cell? ⟨sb,k*9+7,none⟩=some (.int .i64 r.done):=hcell k r hr 7 (by omega)
 have f4:=hsf (k*9+4)
 have f5:=hsf (k*9+5)
 have f6:=hsf (k*9+6)
 have fv0:=hvf (i*2)
 have nsy:sb≠yb:=by rintro rfl;have:=h.tag;omega
 have nvy:vb≠yb:=by rintro rfl;have:=h.tag;omega
 have nvs:vb≠sb:=by rintro rfl;omega
 obtain ⟨i0,hi0,hz0,hz1,hz2⟩:=info_parts infoHold
 have H0:=hide h
 have HF:=hide hf
 clear h hf hcell hsf hvf
 go_enter Tryz.func94,Tryz.ntmps94
 go_wp2
 have hN:=heap_alloc_new w (.cells #[.int .i64 i,.int .i64 (r.ctr+1),.int .i64 (r.lep+1)] 59)
 have HBV:Hid (Below w.heap.size w (w.alloc (.cells #[.int .i64 i,.int .i64 (r.ctr+1),.int .i64 (r.lep+1)] 59))):=(Below.refl _ w).alloc (Nat.le_refl _) _
 have hVs:(w.alloc (.cells #[.int .i64 i,.int .i64 (r.ctr+1),.int .i64 (r.lep+1)] 59)).heap.size=w.heap.size+1:=by simp
 generalize w.alloc (.cells #[.int .i64 i,.int .i64 (r.ctr+1),.int .i64 (r.lep+1)] 59)=V at *
 have l0:V.cell? ⟨w.heap.size,0,none⟩=some (.int .i64 i):=cell_of hN 0
 have l1:V.cell? ⟨w.heap.size,1,none⟩=some (.int .i64 (r.ctr+1)):=cell_of hN 1
 have l2:V.cell? ⟨w.heap.size,2,none⟩=some (.int .i64 (r.lep+1)):=cell_of hN 2
 have tr:∀b q,b<w.heap.size→V.cell? ⟨b,q,none⟩=w.cell? ⟨b,q,none⟩:=fun b q hb=>(uh HBV).cell (p:=⟨b,q,none⟩) hb
 have fr:∀b q,b<w.heap.size→V.frozen? ⟨b,q,none⟩=w.frozen? ⟨b,q,none⟩:=fun b q hb=>World.frozen?_of_block (w:=w) ((uh HBV).block b hb)
 rw [←tr _ _ hyb] at c7 c8
 rw [←tr _ _ hsb] at e4 e5 e6 e7
 rw [←tr _ _ hvb] at ch
 rw [←fr _ _ hsb] at f4 f5 f6
 rw [←fr _ _ hvb] at fv0
 have n1:¬sb=w.heap.size:=by omega
 have n2:¬yb=w.heap.size:=by omega
 have n3:¬vb=w.heap.size:=by omega
 have hne1:¬w.heap.size=sb:=by omega
 have hne2:¬yb=sb:=fun e=>nsy e.symm
 clear tr fr hN
 go_region_held3 (fun w'=>w'.cell? ⟨yb,7,none⟩=some (.slice (some ⟨sb,0,none⟩) rs.length cap)∧w'.cell? ⟨w.heap.size,0,none⟩=some (.int .i64 i)∧w'.cell? ⟨w.heap.size,1,none⟩=some (.int .i64 (r.ctr+1))∧w'.cell? ⟨w.heap.size,2,none⟩=some (.int .i64 (r.lep+1)))
  (go_keep) (fail)
 go_wp2
 have RU:Hid (RefAt ((((V.setCell ⟨sb,k*9+4,none⟩ (.int .i64 i)).setCell ⟨sb,k*9+4+1,none⟩ (.int .i64 (r.ctr+1))).setCell ⟨sb,k*9+4+2,none⟩ (.int .i64 (r.lep+1))).drew) ρ yb C time (rs.set k { r with own:=i,ctr:=r.ctr+1,lep:=r.lep+1 }) P wv fv (.slice (some ⟨sb,0,none⟩) rs.length cap) lv):=by
  have R0:=(uh H0).keeps (Keeps.of_below (uh HBV)) (fun _ hk=>Or.inr hk) (ρ':=ρ) (fun _ _=>rfl)
  have R1:=R0.setRf k 4 (by omega) r { r with own:=i } hr (.int .i64 i) rfl rfl rfl
  rw [show (rs.length)=(rs.set k { r with own:=(i:Int) }).length by simp] at R1
  have R2:=R1.setRf k 5 (by omega) { r with own:=i } { r with own:=i,ctr:=r.ctr+1 } (by simp [hk]) (.int .i64 (r.ctr+1)) rfl rfl rfl
  rw [show (rs.set k { r with own:=(i:Int) }).length=((rs.set k { r with own:=(i:Int) }).set k { r with own:=(i:Int),ctr:=r.ctr+1 }).length by simp] at R2
  have R3:=R2.setRf k 6 (by omega) { r with own:=i,ctr:=r.ctr+1 } { r with own:=i,ctr:=r.ctr+1,lep:=r.lep+1 } (by simp [hk]) (.int .i64 (r.lep+1)) rfl rfl rfl
  have R4:=R3.keeps (Keeps.refl (fun _=>False) _).drew (fun _ h=>h.elim) (ρ':=ρ) (fun _ _=>rfl)
  simp only [List.set_set,List.length_set] at R4
  exact R4
 have KU:Hid (Keeps (theirs ρ) w ((((V.setCell ⟨sb,k*9+4,none⟩ (.int .i64 i)).setCell ⟨sb,k*9+4+1,none⟩ (.int .i64 (r.ctr+1))).setCell ⟨sb,k*9+4+2,none⟩ (.int .i64 (r.lep+1))).drew)):=by
  have hT:theirs ρ sb:=by unfold theirs;omega
  exact (((((Keeps.of_below (uh HBV)).mono (fun q hq hs=>by omega)).setCell (p:=⟨sb,k*9+4,none⟩) (Or.inl hT) _).setCell (p:=⟨sb,k*9+4+1,none⟩) (Or.inl hT) _).setCell (p:=⟨sb,k*9+4+2,none⟩) (Or.inl hT) _).drew
 have zU:((((V.setCell ⟨sb,k*9+4,none⟩ (.int .i64 i)).setCell ⟨sb,k*9+4+1,none⟩ (.int .i64 (r.ctr+1))).setCell ⟨sb,k*9+4+2,none⟩ (.int .i64 (r.lep+1))).drew).heap.size=w.heap.size+1:=by show (((V.setCell _ _).setCell _ _).setCell _ _).heap.size=_;simp [World.setCell,hVs]
 have FU:Hid (Fits ((((V.setCell ⟨sb,k*9+4,none⟩ (.int .i64 i)).setCell ⟨sb,k*9+4+1,none⟩ (.int .i64 (r.ctr+1))).setCell ⟨sb,k*9+4+2,none⟩ (.int .i64 (r.lep+1))).drew) ρ):=fun q hq=>uh HF q (by omega)
 have u0:((((V.setCell ⟨sb,k*9+4,none⟩ (.int .i64 i)).setCell ⟨sb,k*9+4+1,none⟩ (.int .i64 (r.ctr+1))).setCell ⟨sb,k*9+4+2,none⟩ (.int .i64 (r.lep+1))).drew).cell? ⟨yb,8,none⟩=some (.slice (some ⟨vb,0,none⟩) wv.l.length vc):=by rw [World.cell?_drew,World.cell?_setCell_other _ _ _ _ (by intro e;injection e with e1 e2;omega),World.cell?_setCell_other _ _ _ _ (by intro e;injection e with e1 e2;omega),World.cell?_setCell_other _ _ _ _ (by intro e;injection e with e1 e2;omega)];exact c8
 have u1:((((V.setCell ⟨sb,k*9+4,none⟩ (.int .i64 i)).setCell ⟨sb,k*9+4+1,none⟩ (.int .i64 (r.ctr+1))).setCell ⟨sb,k*9+4+2,none⟩ (.int .i64 (r.lep+1))).drew).cell? ⟨vb,i*2,none⟩=some (.slice ha y.hs.length hcc):=by rw [World.cell?_drew,World.cell?_setCell_other _ _ _ _ (by intro e;injection e with e1 e2;omega),World.cell?_setCell_other _ _ _ _ (by intro e;injection e with e1 e2;omega),World.cell?_setCell_other _ _ _ _ (by intro e;injection e with e1 e2;omega)];exact ch
 have u2:((((V.setCell ⟨sb,k*9+4,none⟩ (.int .i64 i)).setCell ⟨sb,k*9+4+1,none⟩ (.int .i64 (r.ctr+1))).setCell ⟨sb,k*9+4+2,none⟩ (.int .i64 (r.lep+1))).drew).cell? ⟨w.heap.size,2,none⟩=some (.int .i64 (r.lep+1)):=by rw [World.cell?_drew,World.cell?_setCell_other _ _ _ _ (by intro e;injection e with e1 e2;omega),World.cell?_setCell_other _ _ _ _ (by intro e;injection e with e1 e2;omega),World.cell?_setCell_other _ _ _ _ (by intro e;injection e with e1 e2;omega)];exact l2
 have u3:((((V.setCell ⟨sb,k*9+4,none⟩ (.int .i64 i)).setCell ⟨sb,k*9+4+1,none⟩ (.int .i64 (r.ctr+1))).setCell ⟨sb,k*9+4+2,none⟩ (.int .i64 (r.lep+1))).drew).cell? ⟨yb,7,none⟩=some (.slice (some ⟨sb,0,none⟩) rs.length cap):=by rw [World.cell?_drew,World.cell?_setCell_other _ _ _ _ (by intro e;injection e with e1 e2;omega),World.cell?_setCell_other _ _ _ _ (by intro e;injection e with e1 e2;omega),World.cell?_setCell_other _ _ _ _ (by intro e;injection e with e1 e2;omega)];exact c7
 have u4:((((V.setCell ⟨sb,k*9+4,none⟩ (.int .i64 i)).setCell ⟨sb,k*9+4+1,none⟩ (.int .i64 (r.ctr+1))).setCell ⟨sb,k*9+4+2,none⟩ (.int .i64 (r.lep+1))).drew).cell? ⟨sb,k*9+7,none⟩=some (.int .i64 r.done):=by rw [World.cell?_drew,World.cell?_setCell_other _ _ _ _ (by intro e;injection e with e1 e2;omega),World.cell?_setCell_other _ _ _ _ (by intro e;injection e with e1 e2;omega),World.cell?_setCell_other _ _ _ _ (by intro e;injection e with e1 e2;omega)];exact e7
 clear c7 c8 ch e4 e5 e6 e7 f4 f5 f6 fv0 l0 l1 l2
 generalize (((V.setCell ⟨sb,k*9+4,none⟩ (.int .i64 i)).setCell ⟨sb,k*9+4+1,none⟩ (.int .i64 (r.ctr+1))).setCell ⟨sb,k*9+4+2,none⟩ (.int .i64 (r.lep+1))).drew=U at *
 have fvU:U.frozen? ⟨vb,i*2,none⟩=false:=by
  obtain ⟨vb',vc',a,_,_,d,_⟩:=(uh RU).wk.shape hy
  have:vb'=vb:=by
   rw [hv] at a
   injection a with a1 _ _
   injection a1 with a1
   injection a1 with a1 _ _
   exact a1.symm
  rw [←this];exact d _
 have hybU:yb<U.heap.size:=by omega
 have hsbU:sb<U.heap.size:=by omega
 have hvbU:vb<U.heap.size:=by omega
 have hlbU:w.heap.size<U.heap.size:=by omega
 have HT:=hide ((uh RU).wk.hdT i y hy)
 have HTl:Hid (∀q,y.hv.ownBlock=some q→q<w.heap.size):=fun q hq=>(((uh H0).wk.hd i y hy).lt q hq).2
 have N1:Hid (some yb≠y.hv.ownBlock):=fun e=>by have a:=uh HT yb e.symm;have b:=(uh RU).tag;omega
 have N2:Hid (some vb≠y.hv.ownBlock):=fun e=>by have a:=uh HT vb e.symm;omega
 have N3:Hid (some sb≠y.hv.ownBlock):=fun e=>by have a:=uh HT sb e.symm;omega
 have N4:Hid (some w.heap.size≠y.hv.ownBlock):=fun e=>by have a:=uh HTl w.heap.size e.symm;omega
 rw [hhv] at N1 N2 N3 N4
 have HS:Hid (∀W,Below U.heap.size U W→(fun w'=>w'.cell? ⟨yb,8,none⟩=some (.slice (some ⟨vb,0,none⟩) wv.l.length vc)∧w'.cell? ⟨vb,i*2,none⟩=some (.slice ha y.hs.length hcc)∧w'.cell? ⟨w.heap.size,2,none⟩=some (.int .i64 (r.lep+1))∧w'.cell? ⟨yb,7,none⟩=some (.slice (some ⟨sb,0,none⟩) rs.length cap)∧w'.cell? ⟨sb,k*9+7,none⟩=some (.int .i64 r.done)) W):=fun W hb=>⟨(hb.cell (p:=⟨yb,8,none⟩) hybU).trans u0,(hb.cell (p:=⟨vb,i*2,none⟩) hvbU).trans u1,(hb.cell (p:=⟨w.heap.size,2,none⟩) hlbU).trans u2,(hb.cell (p:=⟨yb,7,none⟩) hybU).trans u3,(hb.cell (p:=⟨sb,k*9+7,none⟩) hsbU).trans u4⟩
 have B0:Hid (Below U.heap.size U U.drew):=(Below.refl _ _).drew
 have HFin:Hid (∀(Z w3:World) (g3 cap3:Nat),Below U.heap.size U Z→w3.ownsRow 0 102 4 (.slice (some ⟨g3,0,none⟩) (y.hs.length+1) cap3) (y.hs.length+1) (rowHd y.hs ++ hdCells ⟨k,r.lep+1,r.done,0⟩)→Z.grownBy w3 (Value.slice ha y.hs.length hcc).ownBlock→((Value.slice ha y.hs.length hcc).ownBlock=some g3∨g3=Z.heap.size)→∃hv',RefPost w ρ yb C time (rs.set k { r with own:=i,ctr:=r.ctr+1,lep:=r.lep+1 }) P (wv.setH i y (y.hs ++ [⟨k,r.lep+1,r.done,0⟩]) hv') fv (w3.setCell ⟨vb,i*2,none⟩ (.slice (some ⟨g3,0,none⟩) (y.hs.length+1) cap3))):=by
  intro Z w3 g3 cap3 hB hown hgrow hat
  rw [←hhv] at hgrow hat
  have hzz:=hB.size
  refine ⟨_,RefPost.trans (uh KU) (ExtR.refl (uh HF)) ((uh RU).setHolds (uh FU) hy hv (y.hs ++ [⟨k,r.lep+1,r.done,0⟩]) (.slice (some ⟨g3,0,none⟩) (y.hs.length+1) cap3) ?_ ⟨hgrow.os.trans hB.os,hgrow.tape.trans hB.tape,hgrow.output.trans hB.output,Nat.le_trans hzz hgrow.size,fun q hq hs=>(hgrow.block q (by omega) (fun e=>hs e.symm)).trans (hB.block q hq)⟩ ?_)⟩
  ·rw [rowHd_append,List.length_append];simpa [rowHd] using hown
  ·intro q hq hlt
   simp [Value.ownBlock] at hq
   subst hq
   rcases hat with e | e
   ·exact e
   ·omega
 have HRow:Hid (∀W,Below U.heap.size U W→W.ownsRow 0 102 4 (.slice ha y.hs.length hcc) y.hs.length (rowHd y.hs)):=fun W hB=>by have:=((uh RU).keeps (Keeps.of_below hB) (fun _ hk=>Or.inr hk) (ρ':=ρ) (fun _ _=>rfl)).wk.hd i y hy;rw [hhv] at this;exact this
 clear zU HT HTl RU KU FU H0 HBV HF
 refine wp_region_but (S:=(fun w'=>w'.cell? ⟨yb,8,none⟩=some (.slice (some ⟨vb,0,none⟩) wv.l.length vc)∧w'.cell? ⟨vb,i*2,none⟩=some (.slice ha y.hs.length hcc)∧w'.cell? ⟨w.heap.size,2,none⟩=some (.int .i64 (r.lep+1))∧w'.cell? ⟨yb,7,none⟩=some (.slice (some ⟨sb,0,none⟩) rs.length cap)∧w'.cell? ⟨sb,k*9+7,none⟩=some (.int .i64 r.done))) (z:=29) (by kernel_rfl) 30 rfl #[false,false,false,false,false,false,false,false,false,false,false,false,false,false,false,false,false,false,false,false,false,false,false,false,false,false,false,false,false,false] rfl ?_
 generalize U.drew=V at *
 refine anyBut_take (i:=0) (v:=?_) (l':=#[true,false,false,false,false,false,false,false,false,false,false,false,false,false,false,false,false,false,false,false,false,false,false,false,false,false,false,false,false,false]) rfl (by kernel_rfl) (by kernel_rfl) (by kernel_rfl) (by kernel_rfl) rfl (fun _ _ _ h=>h) rfl ?_ (uh HS _ (uh B0)) ?_
 rotate_left
 ·intro w' hSw;go_simp;try with_reducible rfl
 refine anyBut_take (i:=1) (v:=?_) (l':=#[true,true,false,false,false,false,false,false,false,false,false,false,false,false,false,false,false,false,false,false,false,false,false,false,false,false,false,false,false,false]) rfl (by kernel_rfl) (by kernel_rfl) (by kernel_rfl) (by kernel_rfl) rfl (fun _ _ _ h=>h) rfl ?_ (uh HS _ (uh B0)) ?_
 rotate_left
 ·intro w' hSw;go_simp;try with_reducible rfl
 refine anyBut_take (i:=2) (v:=?_) (l':=#[true,true,true,false,false,false,false,false,false,false,false,false,false,false,false,false,false,false,false,false,false,false,false,false,false,false,false,false,false,false]) rfl (by kernel_rfl) (by kernel_rfl) (by kernel_rfl) (by kernel_rfl) rfl (fun _ _ _ h=>h) rfl ?_ (uh HS _ (uh B0)) ?_
 rotate_left
 ·intro w' hSw;go_simp;try with_reducible rfl
 refine anyBut_take (i:=3) (v:=?_) (l':=#[true,true,true,true,false,false,false,false,false,false,false,false,false,false,false,false,false,false,false,false,false,false,false,false,false,false,false,false,false,false]) rfl (by kernel_rfl) (by kernel_rfl) (by kernel_rfl) (by kernel_rfl) rfl (fun _ _ _ h=>h) rfl ?_ (uh HS _ (uh B0)) ?_
 rotate_left
 ·intro w' hSw;obtain ⟨q0,q1,q2,q3,q4⟩:=hSw;go_simp;try with_reducible rfl
 refine anyBut_take (i:=4) (v:=?_) (l':=#[true,true,true,true,true,false,false,false,false,false,false,false,false,false,false,false,false,false,false,false,false,false,false,false,false,false,false,false,false,false]) rfl (by kernel_rfl) (by kernel_rfl) (by kernel_rfl) (by kernel_rfl) rfl (fun _ _ _ h=>h) rfl ?_ (uh HS _ (uh B0)) ?_
 rotate_left
 ·intro w' hSw;go_simp;try with_reducible rfl
 refine anyBut_take (i:=5) (v:=?_) (l':=#[true,true,true,true,true,true,false,false,false,false,false,false,false,false,false,false,false,false,false,false,false,false,false,false,false,false,false,false,false,false]) rfl (by kernel_rfl) (by kernel_rfl) (by kernel_rfl) (by kernel_rfl) rfl (fun _ _ _ h=>h) rfl ?_ (uh HS _ (uh B0)) ?_
 rotate_left
 ·intro w' hSw;go_simp;try with_reducible rfl
 refine anyBut_take (i:=6) (v:=?_) (l':=#[true,true,true,true,true,true,true,false,false,false,false,false,false,false,false,false,false,false,false,false,false,false,false,false,false,false,false,false,false,false]) rfl (by kernel_rfl) (by kernel_rfl) (by kernel_rfl) (by kernel_rfl) rfl (fun _ _ _ h=>h) rfl ?_ (uh HS _ (uh B0)) ?_
 rotate_left
 ·intro w' hSw;go_simp;try with_reducible rfl
 refine anyBut_take (i:=7) (v:=?_) (l':=#[true,true,true,true,true,true,true,true,false,false,false,false,false,false,false,false,false,false,false,false,false,false,false,false,false,false,false,false,false,false]) rfl (by kernel_rfl) (by kernel_rfl) (by kernel_rfl) (by kernel_rfl) rfl (fun _ _ _ h=>h) rfl ?_ (uh HS _ (uh B0)) ?_
 rotate_left
 ·intro w' hSw;go_simp;try with_reducible rfl
 refine anyBut_take (i:=8) (v:=?_) (l':=#[true,true,true,true,true,true,true,true,true,false,false,false,false,false,false,false,false,false,false,false,false,false,false,false,false,false,false,false,false,false]) rfl (by kernel_rfl) (by kernel_rfl) (by kernel_rfl) (by kernel_rfl) rfl (fun _ _ _ h=>h) rfl ?_ (uh HS _ (uh B0)) ?_
 rotate_left
 ·intro w' hSw;obtain ⟨q0,q1,q2,q3,q4⟩:=hSw;go_simp;try with_reducible rfl
 refine anyBut_take (i:=9) (v:=?_) (l':=#[true,true,true,true,true,true,true,true,true,true,false,false,false,false,false,false,false,false,false,false,false,false,false,false,false,false,false,false,false,false]) rfl (by kernel_rfl) (by kernel_rfl) (by kernel_rfl) (by kernel_rfl) rfl (fun _ _ _ h=>h) rfl ?_ (uh HS _ (uh B0)) ?_
 rotate_left
 ·intro w' hSw;go_simp;try with_reducible rfl
 refine anyBut_take (i:=10) (v:=?_) (l':=#[true,true,true,true,true,true,true,true,true,true,true,false,false,false,false,false,false,false,false,false,false,false,false,false,false,false,false,false,false,false]) rfl (by kernel_rfl) (by kernel_rfl) (by kernel_rfl) (by kernel_rfl) rfl (fun _ _ _ h=>h) rfl ?_ (uh HS _ (uh B0)) ?_
 rotate_left
 ·intro w' hSw;go_simp;try with_reducible rfl
 refine anyBut_take (i:=11) (v:=?_) (l':=#[true,true,true,true,true,true,true,true,true,true,true,true,false,false,false,false,false,false,false,false,false,false,false,false,false,false,false,false,false,false]) rfl (by kernel_rfl) (by kernel_rfl) (by kernel_rfl) (by kernel_rfl) rfl (fun _ _ _ h=>h) rfl ?_ (uh HS _ (uh B0)) ?_
 rotate_left
 ·intro w' hSw;go_simp;try with_reducible rfl
 refine anyBut_take (i:=12) (v:=?_) (l':=#[true,true,true,true,true,true,true,true,true,true,true,true,true,false,false,false,false,false,false,false,false,false,false,false,false,false,false,false,false,false]) rfl (by kernel_rfl) (by kernel_rfl) (by kernel_rfl) (by kernel_rfl) rfl (fun _ _ _ h=>h) rfl ?_ (uh HS _ (uh B0)) ?_
 rotate_left
 ·intro w' hSw;obtain ⟨q0,q1,q2,q3,q4⟩:=hSw;go_simp;try with_reducible rfl
 refine anyBut_take (i:=13) (v:=?_) (l':=#[true,true,true,true,true,true,true,true,true,true,true,true,true,true,false,false,false,false,false,false,false,false,false,false,false,false,false,false,false,false]) rfl (by kernel_rfl) (by kernel_rfl) (by kernel_rfl) (by kernel_rfl) rfl (fun _ _ _ h=>h) rfl ?_ (uh HS _ (uh B0)) ?_
 rotate_left
 ·intro w' hSw;go_simp;try with_reducible rfl
 refine anyBut_take (i:=14) (v:=?_) (l':=#[true,true,true,true,true,true,true,true,true,true,true,true,true,true,true,false,false,false,false,false,false,false,false,false,false,false,false,false,false,false]) rfl (by kernel_rfl) (by kernel_rfl) (by kernel_rfl) (by kernel_rfl) rfl (fun _ _ _ h=>h) rfl ?_ (uh HS _ (uh B0)) ?_
 rotate_left
 ·intro w' hSw;go_simp;try with_reducible rfl
 refine anyBut_take (i:=15) (v:=?_) (l':=#[true,true,true,true,true,true,true,true,true,true,true,true,true,true,true,true,false,false,false,false,false,false,false,false,false,false,false,false,false,false]) rfl (by kernel_rfl) (by kernel_rfl) (by kernel_rfl) (by kernel_rfl) rfl (fun _ _ _ h=>h) rfl ?_ (uh HS _ (uh B0)) ?_
 rotate_left
 ·intro w' hSw;obtain ⟨q0,q1,q2,q3,q4⟩:=hSw;go_simp;try with_reducible rfl
 refine anyBut_take (i:=16) (v:=?_) (l':=#[true,true,true,true,true,true,true,true,true,true,true,true,true,true,true,true,true,false,false,false,false,false,false,false,false,false,false,false,false,false]) rfl (by kernel_rfl) (by kernel_rfl) (by kernel_rfl) (by kernel_rfl) rfl (fun _ _ _ h=>h) rfl ?_ (uh HS _ (uh B0)) ?_
 rotate_left
 ·intro w' hSw;go_simp;try with_reducible rfl
 refine anyBut_take (i:=17) (v:=?_) (l':=#[true,true,true,true,true,true,true,true,true,true,true,true,true,true,true,true,true,true,false,false,false,false,false,false,false,false,false,false,false,false]) rfl (by kernel_rfl) (by kernel_rfl) (by kernel_rfl) (by kernel_rfl) rfl (fun _ _ _ h=>h) rfl ?_ (uh HS _ (uh B0)) ?_
 rotate_left
 ·intro w' hSw;go_simp;try with_reducible rfl
 refine anyBut_take (i:=18) (v:=?_) (l':=#[true,true,true,true,true,true,true,true,true,true,true,true,true,true,true,true,true,true,true,false,false,false,false,false,false,false,false,false,false,false]) rfl (by kernel_rfl) (by kernel_rfl) (by kernel_rfl) (by kernel_rfl) rfl (fun _ _ _ h=>h) rfl ?_ (uh HS _ (uh B0)) ?_
 rotate_left
 ·intro w' hSw;go_simp;try with_reducible rfl
 refine anyBut_take (i:=19) (v:=?_) (l':=#[true,true,true,true,true,true,true,true,true,true,true,true,true,true,true,true,true,true,true,true,false,false,false,false,false,false,false,false,false,false]) rfl (by kernel_rfl) (by kernel_rfl) (by kernel_rfl) (by kernel_rfl) rfl (fun _ _ _ h=>h) rfl ?_ (uh HS _ (uh B0)) ?_
 rotate_left
 ·intro w' hSw;obtain ⟨q0,q1,q2,q3,q4⟩:=hSw;go_simp;try with_reducible rfl
 refine anyBut_take (i:=20) (v:=?_) (l':=#[true,true,true,true,true,true,true,true,true,true,true,true,true,true,true,true,true,true,true,true,true,false,false,false,false,false,false,false,false,false]) rfl (by kernel_rfl) (by kernel_rfl) (by kernel_rfl) (by kernel_rfl) rfl (fun _ _ _ h=>h) rfl ?_ (uh HS _ (uh B0)) ?_
 rotate_left
 ·intro w' hSw;go_simp;try with_reducible rfl
 refine anyBut_take (i:=21) (v:=?_) (l':=#[true,true,true,true,true,true,true,true,true,true,true,true,true,true,true,true,true,true,true,true,true,true,false,false,false,false,false,false,false,false]) rfl (by kernel_rfl) (by kernel_rfl) (by kernel_rfl) (by kernel_rfl) rfl (fun _ _ _ h=>h) rfl ?_ (uh HS _ (uh B0)) ?_
 rotate_left
 ·intro w' hSw;go_simp;try with_reducible rfl
 refine anyBut_take (i:=22) (v:=?_) (l':=#[true,true,true,true,true,true,true,true,true,true,true,true,true,true,true,true,true,true,true,true,true,true,true,false,false,false,false,false,false,false]) rfl (by kernel_rfl) (by kernel_rfl) (by kernel_rfl) (by kernel_rfl) rfl (fun _ _ _ h=>h) rfl ?_ (uh HS _ (uh B0)) ?_
 rotate_left
 ·intro w' hSw;go_simp;try with_reducible rfl
 refine anyBut_take (i:=23) (v:=?_) (l':=#[true,true,true,true,true,true,true,true,true,true,true,true,true,true,true,true,true,true,true,true,true,true,true,true,false,false,false,false,false,false]) rfl (by kernel_rfl) (by kernel_rfl) (by kernel_rfl) (by kernel_rfl) rfl (fun _ _ _ h=>h) rfl ?_ (uh HS _ (uh B0)) ?_
 rotate_left
 ·intro w' hSw;obtain ⟨q0,q1,q2,q3,q4⟩:=hSw;go_simp;try with_reducible rfl
 refine anyBut_take (i:=24) (v:=?_) (l':=#[true,true,true,true,true,true,true,true,true,true,true,true,true,true,true,true,true,true,true,true,true,true,true,true,true,false,false,false,false,false]) rfl (by kernel_rfl) (by kernel_rfl) (by kernel_rfl) (by kernel_rfl) rfl (fun _ _ _ h=>h) rfl ?_ (uh HS _ (uh B0)) ?_
 rotate_left
 ·intro w' hSw;go_simp;try with_reducible rfl
 refine anyBut_one (i:=25) (l':=#[true,true,true,true,true,true,true,true,true,true,true,true,true,true,true,true,true,true,true,true,true,true,true,true,true,true,false,false,false,false]) (by kernel_rfl) rfl rfl rfl (fun K hK=>?_)
 go_simp
 have BZ:Hid (Below U.heap.size U (V.alloc (Obj.cells #[Value.int .i64 k,Value.int .i64 (r.lep+1),Value.int .i64 r.done,Value.int .i64 0] 102))):=(uh B0).alloc (uh B0).size _
 refine hK.out _ _ (fun _=>uh HS _ (uh BZ)) ?_
 clear hK K
 have eZ:=hide (heap_alloc_new V (Obj.cells #[Value.int .i64 k,Value.int .i64 (r.lep+1),Value.int .i64 r.done,Value.int .i64 0] 102))
 generalize V.alloc (Obj.cells #[Value.int .i64 k,Value.int .i64 (r.lep+1),Value.int .i64 r.done,Value.int .i64 0] 102)=Z at *
 refine anyBut_one (i:=26) (l':=#[true,true,true,true,true,true,true,true,true,true,true,true,true,true,true,true,true,true,true,true,true,true,true,true,true,true,true,false,false,false]) (by kernel_rfl) rfl rfl rfl (fun K hK=>?_)
 refine wp_append_stands _ _ _ _ rfl 0 102 i0 _ 4 32 Tryz.underlying81 hi0 hz0 hz1 hz2 rfl (by omega) _ y.hs.length (rowHd y.hs) rfl (uh HRow _ (uh BZ)) ⟨V.heap.size,0,none⟩ 1 1 (hdCells ⟨k,r.lep+1,r.done,0⟩) rfl rfl (World.news_of_block (uh eZ)) (by intro u hu;simp [hdCells] at hu;rcases hu with rfl | rfl | rfl | rfl <;> rfl) (by omega) (by unfold maxLen;omega) (by omega) (Nat.zero_le _) ?_
 intro g3 cap3 w3 hown3 hgrow3 hat3 hlt3 hst3
 have HS3:(fun w'=>w'.cell? ⟨yb,8,none⟩=some (.slice (some ⟨vb,0,none⟩) wv.l.length vc)∧w'.cell? ⟨vb,i*2,none⟩=some (.slice ha y.hs.length hcc)∧w'.cell? ⟨w.heap.size,2,none⟩=some (.int .i64 (r.lep+1))∧w'.cell? ⟨yb,7,none⟩=some (.slice (some ⟨sb,0,none⟩) rs.length cap)∧w'.cell? ⟨sb,k*9+7,none⟩=some (.int .i64 r.done)) w3:=⟨hgrow3.cell (uh HS _ (uh BZ)).1 (uh N1),hgrow3.cell (uh HS _ (uh BZ)).2.1 (uh N2),hgrow3.cell (uh HS _ (uh BZ)).2.2.1 (uh N4),hgrow3.cell (uh HS _ (uh BZ)).2.2.2.1 (uh N1),hgrow3.cell (uh HS _ (uh BZ)).2.2.2.2 (uh N3)⟩
 have z7:=HS3.2.1
 have zf:w3.frozen? ⟨vb,i*2,none⟩=false:=(hgrow3.frozen_far _ (Nat.lt_of_lt_of_le hvbU (uh BZ).size) (uh N2)).trans (((uh BZ).frozen hvbU).trans fvU)
 have HF3:=hide (uh HFin Z w3 g3 cap3 (uh BZ) hown3 hgrow3 hat3)
 have HS4:=hide HS3
 clear hown3 hgrow3 hat3 hlt3 hst3 HS3
 refine hK.out _ _ (fun _=>uh HS4) ?_
 clear hK K
 simp only [Act.put,List.setIfInBounds_toArray]
 refine anyBut_one (i:=27) (l':=#[true,true,true,true,true,true,true,true,true,true,true,true,true,true,true,true,true,true,true,true,true,true,true,true,true,true,true,true,false,false]) (by kernel_rfl) rfl rfl rfl (fun K hK=>?_)
 go_simp
 refine hK.out _ _ (fun _=>uh HS4) ?_
 clear hK K
 refine anyBut_one (i:=28) (l':=#[true,true,true,true,true,true,true,true,true,true,true,true,true,true,true,true,true,true,true,true,true,true,true,true,true,true,true,true,true,false]) (by kernel_rfl) rfl rfl rfl (fun K hK=>?_)
 go_simp
 refine hK.out _ _ (fun _=>uh HS4) ?_
 clear hK K
 refine anyBut_one (i:=29) (l':=#[true,true,true,true,true,true,true,true,true,true,true,true,true,true,true,true,true,true,true,true,true,true,true,true,true,true,true,true,true,true]) (by kernel_rfl) rfl rfl rfl (fun K hK=>?_)
 go_simp
 refine hK.out _ _ (fun h=>absurd rfl h) (anyBut_done (by kernel_rfl) ?_ _)
 clear hK K
 go_wp2
 go_end0
 exact ⟨rfl,uh HF3⟩
end Go.Proofs.YtpnkmnmchdabkaaGreat
