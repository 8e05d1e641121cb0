import Derived.Test.YtpnkmnmchdabkaaGreatRefTakes
namespace Go.Proofs.YtpnkmnmchdabkaaGreat
open Go.RowKit
attribute [local go_sem ↓] Go.wp_at_zero Go.wp_at_succ
def sinceN:List Nt→Int→Int→Int→List Nt × Int
 | [],k,c,t=>([⟨k,c,t⟩],t)
 | n :: r,k,c,t=>if n.sh=k then (if n.c=c then (n :: r,n.s) else (⟨n.sh,c,t⟩ :: r,t)) else (n :: (sinceN r k c t).1,(sinceN r k c t).2)
theorem sinceN_step {ns:List Nt} {k c t:Int} {j:Nat} {x:Nt} (hx:ns[j]?=some x) (hk:x.sh≠k) (h:sinceN ns k c t=(ns.take j ++ (sinceN (ns.drop j) k c t).1,(sinceN (ns.drop j) k c t).2)) :
 sinceN ns k c t=(ns.take (j+1) ++ (sinceN (ns.drop (j+1)) k c t).1,(sinceN (ns.drop (j+1)) k c t).2):=by
 obtain ⟨hlt,he⟩:=List.getElem?_eq_some_iff.1 hx
 rw [h,drop_at hx]
 simp only [sinceN,if_neg hk]
 rw [List.take_succ_eq_append_getElem hlt,he,List.append_assoc]
 rfl
theorem RefAt.notesAt {w:World} {ρ:Nat→Nat} {yb:Nat} {C:Cfg} {time:Int} {rs:List Rf} {P:List Pt} {wv:Wks} {fv sv lv:Value} (h:RefAt w ρ yb C time rs P wv fv sv lv) {i:Nat} {y:Wk} (hy:wv.l[i]?=some y) :
 ∃ha hc,y.nv=.slice ha y.ns.length hc∧∀(j:Nat) (x:Nt),y.ns[j]?=some x→∃hb,ha=some ⟨hb,0,none⟩∧hb<w.heap.size∧ρ hb=206+2*i∧(∀q,w.frozen? ⟨hb,q,none⟩=false)∧∀q,q<3→w.cell? ⟨hb,j*3+q,none⟩=(ntCells x)[q]?:=by
 have hr:=h.wk.nt i y hy
 have ht:=h.wk.ntT i y hy
 obtain ⟨ha,hc,hhv⟩:=ownsRow_len hr
 refine ⟨ha,hc,hhv,fun j x hj=>?_⟩
 rw [hhv] at hr ht
 have hjl:=(List.getElem?_eq_some_iff.1 hj).1
 obtain ⟨hb,cp,cur,hv1,_,hcb,_⟩:=ownsRow_shape hr (by omega)
 injection hv1 with e1 _ _
 subst e1
 refine ⟨hb,rfl,lt_of_heap hcb,ht hb rfl,fun q=>frozen_of hcb q,fun q hq=>?_⟩
 rw [World.ownsRow.cellAt hr (j*3+q) (by omega)]
 exact rowNt_get y.ns j q hq x hj
theorem RefAt.noteSet {w:World} {ρ:Nat→Nat} {yb:Nat} {C:Cfg} {time:Int} {rs:List Rf} {P:List Pt} {wv:Wks} {fv sv lv:Value} (h:RefAt w ρ yb C time rs P wv fv sv lv) {i:Nat} {y:Wk} (hy:wv.l[i]?=some y) {nb nc:Nat} (hnv:y.nv=.slice (some ⟨nb,0,none⟩) y.ns.length nc) (q:Nat) (v:Value) (ns':List Nt) (hs:(rowNt y.ns).set q v=rowNt ns') (hl:ns'.length=y.ns.length) :
 RefAt (w.setCell ⟨nb,q,none⟩ v) ρ yb C time rs P (wv.setN i y ns' y.nv) fv sv lv:=by
 have hnT:ρ nb=206+2*i:=h.wk.ntT i y hy nb (by rw [hnv];rfl)
 have hi4:i<4:=by have:=(List.getElem?_eq_some_iff.1 hy).1;have:=h.wk.four;omega
 have ok:∀{e:TypeId} {size:Nat} {v':Value} {n:Nat} {xs:List Value} {t:Nat},w.ownsRow 0 e size v' n xs→(∀k,v'.ownBlock=some k→ρ k=t)→t≠206+2*i→(w.setCell ⟨nb,q,none⟩ v).ownsRow 0 e size v' n xs:=by
  intro e size v' n xs t ho ht h1
  refine ownsRow_of_block ho fun k hkk=>Below.heap_setCell _ _ _ _ ?_
  rintro rfl
  have:=ht _ hkk;omega
 refine ⟨?_,h.tag,ok h.row h.rowT (by omega),h.rowT,ok h.log h.logT (by omega),h.logT,fun j r hj=>ok (h.par j r hj) (h.parT j r hj) (by omega),h.parT,?_⟩
 ·rw [Below.heap_setCell _ _ _ _ (by rintro rfl;have:=h.tag;omega)];exact h.blk
 ·refine ⟨?_,h.wk.rowT,?_,?_,?_,?_,ok h.wk.fold h.wk.foldT (by omega),h.wk.foldT,by simpa [Wks.setN] using h.wk.four⟩
  ·have e:rowWks (wv.setN i y ns' y.nv).l=rowWks wv.l:=by
    show rowWks (wv.l.set i _)=_
    rw [←rowWks_setN wv.l i y { y with ns:=ns',nv:=y.nv } hy rfl]
    obtain ⟨hlt,_⟩:=List.getElem?_eq_some_iff.1 (rowWks_get wv.l i y hy).2
    have hg:=(rowWks_get wv.l i y hy).2
    apply List.ext_getElem?
    intro m
    rw [List.getElem?_set]
    split
    ·rename_i e;subst e;exact hg.symm
    ·rfl
   rw [e]
   show World.ownsRow _ 0 _ 2 wv.v (wv.l.set i _).length _
   rw [List.length_set]
   exact ok h.wk.row h.wk.rowT (by omega)
  ·intro j z hj
   rcases set_cases hj with ⟨rfl,rfl⟩ | ⟨hne,hj⟩
   ·exact ok (h.wk.hd j y hy) (h.wk.hdT j y hy) (by omega)
   ·exact ok (h.wk.hd j z hj) (h.wk.hdT j z hj) (by omega)
  ·intro j z hj k hk
   rcases set_cases hj with ⟨rfl,rfl⟩ | ⟨hne,hj⟩
   ·exact h.wk.hdT j y hy k hk
   ·exact h.wk.hdT j z hj k hk
  ·intro j z hj
   rcases set_cases hj with ⟨rfl,rfl⟩ | ⟨hne,hj⟩
   ·have hr:=h.wk.nt j y hy
    rw [hnv] at hr
    have:=(World.ownsRow.stored hr q v).1
    rw [hs] at this
    show World.ownsRow _ 0 _ 3 y.nv ns'.length (rowNt ns')
    rw [hnv,hl]
    exact this
   ·exact ok (h.wk.nt j z hj) (h.wk.ntT j z hj) (by omega)
  ·intro j z hj k hk
   rcases set_cases hj with ⟨rfl,rfl⟩ | ⟨hne,hj⟩
   ·exact h.wk.ntT j y hy k hk
   ·exact h.wk.ntT j z hj k hk
theorem rowNt_set1 (l:List Nt) (j:Nat) (x:Nt) (h:l[j]?=some x) (v:Int):(rowNt l).set (j*3+1) (.int .i64 v)=rowNt (l.set j { x with c:=v }):=by
 induction l generalizing j with
 | nil=>simp at h
 | cons a r ih =>
   cases j with
   | zero=>simp at h;subst h;rfl
   | succ j =>
     simp at h
     simp only [rowNt,List.set_cons_succ]
     rw [List.set_append_right _ _ (by simp only [ntCells,List.length_cons,List.length_nil];omega),←ih j h]
     congr 2
     simp only [ntCells,List.length_cons,List.length_nil];omega
theorem rowNt_set2 (l:List Nt) (j:Nat) (x:Nt) (h:l[j]?=some x) (v:Int):(rowNt l).set (j*3+2) (.int .i64 v)=rowNt (l.set j { x with s:=v }):=by
 induction l generalizing j with
 | nil=>simp at h
 | cons a r ih =>
   cases j with
   | zero=>simp at h;subst h;rfl
   | succ j =>
     simp at h
     simp only [rowNt,List.set_cons_succ]
     rw [List.set_append_right _ _ (by simp only [ntCells,List.length_cons,List.length_nil];omega),←ih j h]
     congr 2
     simp only [ntCells,List.length_cons,List.length_nil];omega
theorem Wks.get_setN {x:Wks} {i:Nat} {y:Wk} (hy:x.l[i]?=some y) (ns:List Nt) (nv:Value):(x.setN i y ns nv).l[i]?=some { y with ns:=ns,nv:=nv }:=by
 have:=(List.getElem?_eq_some_iff.1 hy).1
 simp [Wks.setN,this]
theorem Wks.setN_self {x:Wks} {i:Nat} {y:Wk} (hy:x.l[i]?=some y):x.setN i y y.ns y.nv=x:=by
 obtain ⟨hlt,he⟩:=List.getElem?_eq_some_iff.1 hy
 unfold Wks.setN
 have:x.l.set i { y with ns:=y.ns,nv:=y.nv }=x.l:=by
  rw [show ({ y with ns:=y.ns,nv:=y.nv }:Wk)=x.l[i] from he.symm,List.set_getElem_self]
 rw [this]
theorem Wks.setN_setN (x:Wks) (i:Nat) (y:Wk) (ns ns':List Nt) (nv nv':Value):(x.setN i y ns nv).setN i { y with ns:=ns,nv:=nv } ns' nv'=x.setN i y ns' nv':=by
 unfold Wks.setN
 simp
set_option maxRecDepth 100000 in
set_option maxHeartbeats 4000000 in
theorem refSince_any {w:World} {ρ:Nat→Nat} {yb:Nat} {C:Cfg} {time:Int} {rs:List Rf} {P:List Pt} {wv:Wks} {fv sv lv:Value} (h:RefAt w ρ yb C time rs P wv fv sv lv) (hf:Fits w ρ) (i:Nat) (y:Wk) (hy:wv.l[i]?=some y) (hl:y.ns.length≤1000) (k:Nat) (r:Rf) (hr:rs[k]?=some r) :
 Calls Tryz.prog 92 #[.pointer (some ⟨yb,0,none⟩),.int .i64 i,.int .i64 k] w fun e w'=>e=.returned (.int .i64 (sinceN y.ns k r.ctr time).2)∧∃nv',RefPost w ρ yb C time rs P (wv.setN i y (sinceN y.ns k r.ctr time).1 nv') fv w':=by
 have hi:=(List.getElem?_eq_some_iff.1 hy).1
 have hk:=(List.getElem?_eq_some_iff.1 hr).1
 obtain ⟨vb,vc,hv,hvT,hvb,hvf,_,cn⟩:=h.wk.shape hy
 have c8:w.cell? ⟨yb,8,none⟩=some wv.v:=cell_of h.blk 8
 rw [hv] at c8
 have c6:w.cell? ⟨yb,6,none⟩=some (.int .i64 time):=cell_of h.blk 6
 have hyb:=lt_of_heap h.blk
 obtain ⟨ha,hcc,hhv,hcell⟩:=h.notesAt hy
 rw [hhv] at cn
 obtain ⟨sb,cap,rfl,hsb,hsbT,hsf,hscell⟩:=h.shards (by omega)
 have c7:w.cell? ⟨yb,7,none⟩=some (.slice (some ⟨sb,0,none⟩) rs.length cap):=cell_of h.blk 7
 have e5:w.cell? ⟨sb,k*9+4+1,none⟩=some (.int .i64 r.ctr):=hscell k r hr 5 (by omega)
 have fv0:=hvf (i*2+1)
 have nvy:vb≠yb:=by rintro rfl;have:=h.tag;omega
 have htag:=h.tag
 obtain ⟨i0,hi0,hz0,hz1,hz2⟩:=info_parts infoNote
 have HC:=hide hcell
 have H0:=hide h
 have HF:=hide hf
 have HSame:Hid (RefPost w ρ yb C time rs P (wv.setN i y y.ns y.nv) fv w):=by (rw [Wks.setN_self hy];exact RefPost.below h hf (Below.refl _ w))
 have HUp:Hid (∀(j nb:Nat) (x:Nt),y.ns[j]?=some x→ha=some ⟨nb,0,none⟩→RefPost w ρ yb C time rs P (wv.setN i y (y.ns.set j ⟨x.sh,r.ctr,time⟩) y.nv) fv ((w.setCell ⟨nb,j*3+1,none⟩ (.int .i64 r.ctr)).setCell ⟨nb,j*3+2,none⟩ (.int .i64 time))):=by
  intro j nb x hx e
  subst e
  have hjl:=(List.getElem?_eq_some_iff.1 hx).1
  have R1:=h.noteSet hy hhv (j*3+1) (.int .i64 r.ctr) (y.ns.set j { x with c:=r.ctr }) (rowNt_set1 y.ns j x hx r.ctr) (by simp)
  have R2:=R1.noteSet (Wks.get_setN hy (y.ns.set j { x with c:=r.ctr }) y.nv) (nb:=nb) (nc:=hcc) (by simpa using hhv) (j*3+2) (.int .i64 time) (y.ns.set j ⟨x.sh,r.ctr,time⟩) (by
   have:=rowNt_set2 (y.ns.set j { x with c:=r.ctr }) j { x with c:=r.ctr } (by simp [hjl]) time
   simpa using this) (by simp)
  rw [Wks.setN_setN] at R2
  obtain ⟨nb',e',_,hnT,_⟩:=hcell j x hx
  have hTn:theirs ρ nb:=by
   injection e' with e'
   injection e' with e' _ _
   rw [e']
   have:=(List.getElem?_eq_some_iff.1 hy).1
   have:=h.wk.four
   unfold theirs;omega
  exact ⟨ρ,_,_,R2,((Keeps.refl (theirs ρ) w).setCell (p:=⟨nb,j*3+1,none⟩) (Or.inl hTn) _).setCell (p:=⟨nb,j*3+2,none⟩) (Or.inl hTn) _,ExtR.refl hf,fun q hq=>hf q (by simpa [World.setCell] using hq)⟩
 have HTl:Hid (∀q,(Value.slice ha y.ns.length hcc).ownBlock=some q→q<w.heap.size∧ρ q=206+2*i):=by
  intro q hq
  rw [←hhv] at hq
  exact ⟨((h.wk.nt i y hy).lt q hq).2,h.wk.ntT i y hy q hq⟩
 clear h hf hcell hscell hsf
 go_enter Tryz.func92,Tryz.ntmps92
 go_wp2
 go_loop [9] (fun q=>∃j:Nat,j≤y.ns.length∧q=.int .i64 j∧sinceN y.ns k r.ctr time=(y.ns.take j ++ (sinceN (y.ns.drop j) k r.ctr time).1,(sinceN (y.ns.drop j) k r.ctr time).2)) (fun q=>y.ns.length - (intOf q).toNat)
 case atStart=>exact ⟨0,Nat.zero_le _,rfl,by simp⟩
 case round =>
  obtain ⟨j,hj,rfl,hq⟩:=hrel
  by_cases hlt:j<y.ns.length
  ·obtain ⟨x,hx⟩:∃x,y.ns[j]?=some x:=⟨_,List.getElem?_eq_getElem hlt⟩
   obtain ⟨nb,rfl,hnb,hnT,hnf,hcx⟩:=uh HC j x hx
   have b0:w.cell? ⟨nb,j*3,none⟩=some (.int .i64 x.sh):=hcx 0 (by omega)
   have b1:w.cell? ⟨nb,j*3+1,none⟩=some (.int .i64 x.c):=hcx 1 (by omega)
   have b2:w.cell? ⟨nb,j*3+2,none⟩=some (.int .i64 x.s):=hcx 2 (by omega)
   have g1:=hnf (j*3+1)
   have g2:=hnf (j*3+2)
   have hx':y.ns=y.ns.take j ++ x :: y.ns.drop (j+1):=by rw [←drop_at hx,List.take_append_drop]
   by_cases hkk:x.sh=k
   ·by_cases hct:x.c=r.ctr
    ·have HQ:Hid (sinceN y.ns k r.ctr time=(y.ns,x.s)):=by
      unfold Hid
      rw [hq,drop_at hx]
      simp only [sinceN,if_pos hkk,if_pos hct]
      rw [←hx']
     rw [hkk] at b0
     rw [hct] at b1
     clear hq hx hx' hcx hnf hkk hct
     go_wp2
     go_ret
     rw [uh HQ]
     exact ⟨rfl,_,uh HSame⟩
    ·have HQ:Hid (sinceN y.ns k r.ctr time=(y.ns.set j ⟨x.sh,r.ctr,time⟩,time)):=by
      unfold Hid
      rw [hq,drop_at hx]
      simp only [sinceN,if_pos hkk,if_neg hct]
      congr 1
      conv=>rhs;rw [hx']
      rw [List.set_append_right _ _ (by rw [List.length_take];omega),List.length_take,show j - min j y.ns.length=0 by omega]
      rfl
     have HU:=hide (uh HUp j nb x hx rfl)
     have nny:¬yb=nb:=by rintro rfl;omega
     have nny2:¬nb=yb:=fun e=>nny e.symm
     have dk:(x.c != r.ctr)=true:=by rw [bne_iff_ne];exact hct
     rw [hkk] at b0
     clear hq hx hx' hcx hnf hkk hct
     go_wp2
     go_ret
     rw [uh HQ]
     exact ⟨rfl,_,uh HU⟩
   ·have HQ:=hide (sinceN_step hx hkk hq)
    clear hq hx hx' hcx hnf
    go_wp2
    go_round
    case rel=>exact ⟨j+1,by omega,by go_num,uh HQ⟩
    case measure=>simp [intOf];omega
  ·have HQ:Hid (sinceN y.ns k r.ctr time=(y.ns ++ [⟨k,r.ctr,time⟩],time)):=by
    have ej:j=y.ns.length:=by omega
    subst ej
    unfold Hid
    rw [hq,List.drop_length,List.take_length]
    rfl
   clear hq
   go_wp2
   have N1:Hid (some yb≠(Value.slice ha y.ns.length hcc).ownBlock):=fun e=>by have a:=(uh HTl yb e.symm).2;omega
   have N2:Hid (some vb≠(Value.slice ha y.ns.length hcc).ownBlock):=fun e=>by have a:=(uh HTl vb e.symm).2;omega
   have HS:Hid (∀W,Below w.heap.size w W→(fun w'=>w'.cell? ⟨yb,8,none⟩=some (.slice (some ⟨vb,0,none⟩) wv.l.length vc)∧w'.cell? ⟨yb,6,none⟩=some (.int .i64 time)) W):=fun W hb=>⟨(hb.cell (p:=⟨yb,8,none⟩) hyb).trans c8,(hb.cell (p:=⟨yb,6,none⟩) hyb).trans c6⟩
   have B0:Hid (Below w.heap.size w w.drew):=(Below.refl _ _).drew
   have HFin:Hid (∀(Z w3:World) (g3 cap3:Nat),Below w.heap.size w Z→w3.ownsRow 0 199 3 (.slice (some ⟨g3,0,none⟩) (y.ns.length+1) cap3) (y.ns.length+1) (rowNt y.ns ++ ntCells ⟨k,r.ctr,time⟩)→Z.grownBy w3 (Value.slice ha y.ns.length hcc).ownBlock→((Value.slice ha y.ns.length hcc).ownBlock=some g3∨g3=Z.heap.size)→∃nv',RefPost w ρ yb C time rs P (wv.setN i y (y.ns ++ [⟨k,r.ctr,time⟩]) nv') fv (w3.setCell ⟨vb,i*2+1,none⟩ (.slice (some ⟨g3,0,none⟩) (y.ns.length+1) cap3))):=by
    intro Z w3 g3 cap3 hB hown hgrow hat
    rw [←hhv] at hgrow hat
    have hzz:=hB.size
    refine ⟨_,(uh H0).setNotes (uh HF) hy hv (y.ns ++ [⟨k,r.ctr,time⟩]) (.slice (some ⟨g3,0,none⟩) (y.ns.length+1) cap3) ?_ ⟨hgrow.os.trans hB.os,hgrow.tape.trans hB.tape,hgrow.output.trans hB.output,Nat.le_trans hzz hgrow.size,fun q hq hs=>(hgrow.block q (by omega) (fun e=>hs e.symm)).trans (hB.block q hq)⟩ ?_⟩
    ·rw [rowNt_append,List.length_append];simpa [rowNt] using hown
    ·intro q hq hlt
     simp [Value.ownBlock] at hq
     subst hq
     rcases hat with e | e
     ·exact e
     ·omega
   have HRow:Hid (∀W,Below w.heap.size w W→W.ownsRow 0 199 3 (.slice ha y.ns.length hcc) y.ns.length (rowNt y.ns)):=fun W hB=>by have:=((uh H0).keeps (Keeps.of_below hB) (fun _ hk=>Or.inr hk) (ρ':=ρ) (fun _ _=>rfl)).wk.nt i y hy;rw [hhv] at this;exact this
   clear HTl H0 HF HUp HSame HC
   refine wp_region_but (S:=(fun w'=>w'.cell? ⟨yb,8,none⟩=some (.slice (some ⟨vb,0,none⟩) wv.l.length vc)∧w'.cell? ⟨yb,6,none⟩=some (.int .i64 time))) (z:=17) (by kernel_rfl) 18 rfl #[false,false,false,false,false,false,false,false,false,false,false,false,false,false,false,false,false,false] rfl ?_
   generalize w.drew=V at *
   refine anyBut_take (i:=0) (v:=?_) (l':=#[true,false,false,false,false,false,false,false,false,false,false,false,false,false,false,false,false,false]) rfl (by kernel_rfl) (by kernel_rfl) (by kernel_rfl) (by kernel_rfl) rfl (fun _ _ _ h=>h) rfl ?_ (uh HS _ (uh B0)) ?_
   rotate_left
   ·intro w' hSw;go_simp;try with_reducible rfl
   refine anyBut_take (i:=1) (v:=?_) (l':=#[true,true,false,false,false,false,false,false,false,false,false,false,false,false,false,false,false,false]) rfl (by kernel_rfl) (by kernel_rfl) (by kernel_rfl) (by kernel_rfl) rfl (fun _ _ _ h=>h) rfl ?_ (uh HS _ (uh B0)) ?_
   rotate_left
   ·intro w' hSw;go_simp;try with_reducible rfl
   refine anyBut_take (i:=2) (v:=?_) (l':=#[true,true,true,false,false,false,false,false,false,false,false,false,false,false,false,false,false,false]) rfl (by kernel_rfl) (by kernel_rfl) (by kernel_rfl) (by kernel_rfl) rfl (fun _ _ _ h=>h) rfl ?_ (uh HS _ (uh B0)) ?_
   rotate_left
   ·intro w' hSw;go_simp;try with_reducible rfl
   refine anyBut_take (i:=3) (v:=?_) (l':=#[true,true,true,true,false,false,false,false,false,false,false,false,false,false,false,false,false,false]) rfl (by kernel_rfl) (by kernel_rfl) (by kernel_rfl) (by kernel_rfl) rfl (fun _ _ _ h=>h) rfl ?_ (uh HS _ (uh B0)) ?_
   rotate_left
   ·intro w' hSw;obtain ⟨q0,q1⟩:=hSw;go_simp;try with_reducible rfl
   refine anyBut_take (i:=4) (v:=?_) (l':=#[true,true,true,true,true,false,false,false,false,false,false,false,false,false,false,false,false,false]) rfl (by kernel_rfl) (by kernel_rfl) (by kernel_rfl) (by kernel_rfl) rfl (fun _ _ _ h=>h) rfl ?_ (uh HS _ (uh B0)) ?_
   rotate_left
   ·intro w' hSw;go_simp;try with_reducible rfl
   refine anyBut_take (i:=5) (v:=?_) (l':=#[true,true,true,true,true,true,false,false,false,false,false,false,false,false,false,false,false,false]) rfl (by kernel_rfl) (by kernel_rfl) (by kernel_rfl) (by kernel_rfl) rfl (fun _ _ _ h=>h) rfl ?_ (uh HS _ (uh B0)) ?_
   rotate_left
   ·intro w' hSw;go_simp;try with_reducible rfl
   refine anyBut_take (i:=6) (v:=?_) (l':=#[true,true,true,true,true,true,true,false,false,false,false,false,false,false,false,false,false,false]) rfl (by kernel_rfl) (by kernel_rfl) (by kernel_rfl) (by kernel_rfl) rfl (fun _ _ _ h=>h) rfl ?_ (uh HS _ (uh B0)) ?_
   rotate_left
   ·intro w' hSw;go_simp;try with_reducible rfl
   refine anyBut_take (i:=7) (v:=?_) (l':=#[true,true,true,true,true,true,true,true,false,false,false,false,false,false,false,false,false,false]) rfl (by kernel_rfl) (by kernel_rfl) (by kernel_rfl) (by kernel_rfl) rfl (fun _ _ _ h=>h) rfl ?_ (uh HS _ (uh B0)) ?_
   rotate_left
   ·intro w' hSw;go_simp;try with_reducible rfl
   refine anyBut_take (i:=8) (v:=?_) (l':=#[true,true,true,true,true,true,true,true,true,false,false,false,false,false,false,false,false,false]) rfl (by kernel_rfl) (by kernel_rfl) (by kernel_rfl) (by kernel_rfl) rfl (fun _ _ _ h=>h) rfl ?_ (uh HS _ (uh B0)) ?_
   rotate_left
   ·intro w' hSw;go_simp;try with_reducible rfl
   refine anyBut_take (i:=9) (v:=?_) (l':=#[true,true,true,true,true,true,true,true,true,true,false,false,false,false,false,false,false,false]) rfl (by kernel_rfl) (by kernel_rfl) (by kernel_rfl) (by kernel_rfl) rfl (fun _ _ _ h=>h) rfl ?_ (uh HS _ (uh B0)) ?_
   rotate_left
   ·intro w' hSw;go_simp;try with_reducible rfl
   refine anyBut_take (i:=10) (v:=?_) (l':=#[true,true,true,true,true,true,true,true,true,true,true,false,false,false,false,false,false,false]) rfl (by kernel_rfl) (by kernel_rfl) (by kernel_rfl) (by kernel_rfl) rfl (fun _ _ _ h=>h) rfl ?_ (uh HS _ (uh B0)) ?_
   rotate_left
   ·intro w' hSw;go_simp;try with_reducible rfl
   refine anyBut_take (i:=11) (v:=?_) (l':=#[true,true,true,true,true,true,true,true,true,true,true,true,false,false,false,false,false,false]) rfl (by kernel_rfl) (by kernel_rfl) (by kernel_rfl) (by kernel_rfl) rfl (fun _ _ _ h=>h) rfl ?_ (uh HS _ (uh B0)) ?_
   rotate_left
   ·intro w' hSw;obtain ⟨q0,q1⟩:=hSw;go_simp;try with_reducible rfl
   refine anyBut_take (i:=12) (v:=?_) (l':=#[true,true,true,true,true,true,true,true,true,true,true,true,true,false,false,false,false,false]) rfl (by kernel_rfl) (by kernel_rfl) (by kernel_rfl) (by kernel_rfl) rfl (fun _ _ _ h=>h) rfl ?_ (uh HS _ (uh B0)) ?_
   rotate_left
   ·intro w' hSw;go_simp;try with_reducible rfl
   refine anyBut_one (i:=13) (l':=#[true,true,true,true,true,true,true,true,true,true,true,true,true,true,false,false,false,false]) (by kernel_rfl) rfl rfl rfl (fun K hK=>?_)
   go_simp
   have BZ:Hid (Below w.heap.size w (V.alloc (Obj.cells #[Value.int .i64 k,Value.int .i64 r.ctr,Value.int .i64 time] 199))):=(uh B0).alloc (uh B0).size _
   refine hK.out _ _ (fun _=>uh HS _ (uh BZ)) ?_
   clear hK K
   have eZ:=hide (heap_alloc_new V (Obj.cells #[Value.int .i64 k,Value.int .i64 r.ctr,Value.int .i64 time] 199))
   generalize V.alloc (Obj.cells #[Value.int .i64 k,Value.int .i64 r.ctr,Value.int .i64 time] 199)=Z at *
   refine anyBut_one (i:=14) (l':=#[true,true,true,true,true,true,true,true,true,true,true,true,true,true,true,false,false,false]) (by kernel_rfl) rfl rfl rfl (fun K hK=>?_)
   refine wp_append_stands _ _ _ _ rfl 0 199 i0 _ 3 24 Tryz.underlying82 hi0 hz0 hz1 hz2 rfl (by omega) _ y.ns.length (rowNt y.ns) rfl (uh HRow _ (uh BZ)) ⟨V.heap.size,0,none⟩ 1 1 (ntCells ⟨k,r.ctr,time⟩) rfl rfl (World.news_of_block (uh eZ)) (by intro u hu;simp [ntCells] at hu;rcases hu with rfl | rfl | rfl <;> rfl) (by omega) (by unfold maxLen;omega) (by omega) (Nat.zero_le _) ?_
   intro g3 cap3 w3 hown3 hgrow3 hat3 hlt3 hst3
   have HS3:(fun w'=>w'.cell? ⟨yb,8,none⟩=some (.slice (some ⟨vb,0,none⟩) wv.l.length vc)∧w'.cell? ⟨yb,6,none⟩=some (.int .i64 time)) w3:=⟨hgrow3.cell (uh HS _ (uh BZ)).1 (uh N1),hgrow3.cell (uh HS _ (uh BZ)).2 (uh N1)⟩
   have z7:w3.cell? ⟨vb,i*2+1,none⟩=some (.slice ha y.ns.length hcc):=hgrow3.cell (((uh BZ).cell (p:=⟨vb,i*2+1,none⟩) hvb).trans cn) (uh N2)
   have zf:w3.frozen? ⟨vb,i*2+1,none⟩=false:=(hgrow3.frozen_far _ (Nat.lt_of_lt_of_le hvb (uh BZ).size) (uh N2)).trans (((uh BZ).frozen hvb).trans fv0)
   have z6:=HS3.2
   have HF3:=hide (uh HFin Z w3 g3 cap3 (uh BZ) hown3 hgrow3 hat3)
   have HS4:=hide HS3
   clear hown3 hgrow3 hat3 hlt3 hst3 HS3
   refine hK.out _ _ (fun _=>uh HS4) ?_
   clear hK K
   simp only [Act.put,List.setIfInBounds_toArray]
   refine anyBut_one (i:=15) (l':=#[true,true,true,true,true,true,true,true,true,true,true,true,true,true,true,true,false,false]) (by kernel_rfl) rfl rfl rfl (fun K hK=>?_)
   go_simp
   refine hK.out _ _ (fun _=>uh HS4) ?_
   clear hK K
   refine anyBut_one (i:=16) (l':=#[true,true,true,true,true,true,true,true,true,true,true,true,true,true,true,true,true,false]) (by kernel_rfl) rfl rfl rfl (fun K hK=>?_)
   go_simp
   refine hK.out _ _ (fun _=>uh HS4) ?_
   clear hK K
   refine anyBut_one (i:=17) (l':=#[true,true,true,true,true,true,true,true,true,true,true,true,true,true,true,true,true,true]) (by kernel_rfl) rfl rfl rfl (fun K hK=>?_)
   go_simp
   refine hK.out _ _ (fun h=>absurd rfl h) (anyBut_done (by kernel_rfl) ?_ _)
   clear hK K
   have nny:¬yb=vb:=fun e=>nvy e.symm
   go_wp2
   go_ret
   rw [uh HQ]
   exact ⟨rfl,uh HF3⟩
end Go.Proofs.YtpnkmnmchdabkaaGreat
