import Derived.Test.YtpnkmnmchdabkaaGreatM08
namespace Go.Proofs.YtpnkmnmchdabkaaGreat
open Go.RowKit
attribute [local go_sem ↓] Go.wp_at_zero Go.wp_at_succ
theorem info98:(Tryz.prog.info? 73).map (fun i=>(i.zero,i.size,i.bytes))=some (some (.agg #[.int .i64 0,.int .i64 0,.bool false,.slice none 0 0,.int .i64 0,.int .i64 0,.int .i64 0,.int .i64 0,.int .i64 0]),9,88):=by kernel_rfl
def Fresh (r:Rf):Prop:=r.own=-1∧r.ctr=0∧r.lep=0∧r.done=0∧r.ep=0
def SameL (r r':Rf):Prop:=r'.own=r.own∧r'.ctr=r.ctr∧r'.lep=r.lep∧r'.done=r.done∧r'.ep=r.ep
def More (rs rs':List Rf):Prop:=rs.length≤rs'.length∧(∀(k:Nat) (r:Rf),rs[k]?=some r→∃r',rs'[k]?=some r'∧SameL r r')∧(∀(k:Nat) (r':Rf),rs.length≤k→rs'[k]?=some r'→Fresh r')
theorem More.refl (rs:List Rf):More rs rs:=⟨Nat.le_refl _,fun k r h=>⟨r,h,rfl,rfl,rfl,rfl,rfl⟩,fun k r h h'=>by rw [List.getElem?_eq_none h] at h';cases h'⟩
theorem More.of {rs c m:List Rf} (hc:c.length=rs.length) (hat:∀(k:Nat) (r:Rf),rs[k]?=some r→∃r',c[k]?=some r'∧SameL r r') (hm:∀x ∈ m,Fresh x):More rs (c ++ m):=by
 refine ⟨by rw [List.length_append];omega,fun k r h=>?_,fun k r h h'=>?_⟩
 ·have hk:=(List.getElem?_eq_some_iff.1 h).1
  rw [List.getElem?_append_left (by omega)]
  exact hat k r h
 ·rw [List.getElem?_append_right (by omega)] at h'
  exact hm r (List.mem_of_getElem? h')
theorem sameL_set {rs:List Rf} {k:Nat} {r:Rf} (hr:rs[k]?=some r) (b:Bool):∀(j:Nat) (x:Rf),rs[j]?=some x→∃x',(rs.set k { r with op:=b })[j]?=some x'∧SameL x x':=by
 intro j x hx
 have hk:=(List.getElem?_eq_some_iff.1 hr).1
 by_cases e:j=k
 ·subst e
  rw [hr] at hx
  injection hx with hx
  subst hx
  exact ⟨_,List.getElem?_set_self hk,rfl,rfl,rfl,rfl,rfl⟩
 ·exact ⟨x,by rw [List.getElem?_set_ne (fun q=>e q.symm)];exact hx,rfl,rfl,rfl,rfl,rfl⟩
theorem More.one {rs:List Rf} {k:Nat} {r:Rf} (hr:rs[k]?=some r) (m:List Rf) (hm:∀x ∈ m,Fresh x):More rs (rs.set k { r with op:=false } ++ m):=More.of (by simp) (sameL_set hr false) hm
theorem More.two {rs:List Rf} {j k:Nat} {r t:Rf} (hr:rs[j]?=some r) (ht:(rs.set j { r with op:=false })[k]?=some t) (m:List Rf) (hm:∀x ∈ m,Fresh x):More rs ((rs.set j { r with op:=false }).set k { t with op:=false } ++ m):=by
 refine More.of (by simp) (fun i x hx=>?_) hm
 obtain ⟨x1,h1,a1,a2,a3,a4,a5⟩:=sameL_set hr false i x hx
 obtain ⟨x2,h2,b1,b2,b3,b4,b5⟩:=sameL_set ht false i x1 h1
 exact ⟨x2,h2,b1.trans a1,b2.trans a2,b3.trans a3,b4.trans a4,b5.trans a5⟩
def RefTurn (w:World) (ρ:Nat→Nat) (yb:Nat) (C:Cfg) (time:Int) (rs:List Rf) (P:List Pt) (wv:Wks) (fv:Value) (q:List Sh × Int × Int) (e:Ending) (w':World):Prop :=
 e=.returned (.tuple #[.int .i64 q.2.1,.int .i64 q.2.2])∧∃rs',absR rs' P=q.1∧More rs rs'∧RefPost w ρ yb C time rs' P wv fv w'
theorem absR_at {rs:List Rf} {P:List Pt} {k:Nat} {r:Rf} (hr:rs[k]?=some r) (a:Int) :
 aSplit (absR rs P) k a=if r.op=false then (absR rs P,0,6) else if a≤r.lo∨r.hi≤a then (absR rs P,0,7) else if 14<rs.length then (absR rs P,0,8)
  else ((absR rs P).set k ⟨r.lo,r.hi,false,r.par,rcsOf P k⟩ ++ [⟨r.lo,a,true,[(k:Int)],[]⟩,⟨a,r.hi,true,[(k:Int)],[]⟩],(rs.length:Int),0):=by
 rw [aSplit_at (absR_get hr),absR_len]
theorem rfWalk {w:World} {sb j:Nat} {r:Rf} {pa:Option Addr} {pn pc:Nat} (hpv:r.pv=.slice pa pn pc) (hc:∀i,i<9→w.cell? ⟨sb,j*9+i,none⟩=(rfCells r)[i]?) :
 w.cell? ⟨sb,j*9,none⟩=some (.int .i64 r.lo)∧w.cell? ⟨sb,j*9+1,none⟩=some (.int .i64 r.hi)∧w.cell? ⟨sb,j*9+2,none⟩=some (.bool r.op)∧w.cell? ⟨sb,j*9+3,none⟩=some (.slice pa pn pc) ∧
  w.cell? ⟨sb,j*9+4,none⟩=some (.int .i64 r.own)∧w.cell? ⟨sb,j*9+5,none⟩=some (.int .i64 r.ctr)∧w.cell? ⟨sb,j*9+6,none⟩=some (.int .i64 r.lep)∧w.cell? ⟨sb,j*9+7,none⟩=some (.int .i64 r.done)∧w.cell? ⟨sb,j*9+8,none⟩=some (.int .i64 r.ep) :=
 ⟨hc 0 (by omega),hc 1 (by omega),hc 2 (by omega),by rw [←hpv];exact hc 3 (by omega),hc 4 (by omega),hc 5 (by omega),hc 6 (by omega),hc 7 (by omega),hc 8 (by omega)⟩
theorem rf_one (r:Rf) (h:∃a n c,r.pv=.slice a n c):∀u ∈ rfCells r,u.oneCell'=true:=by
 obtain ⟨a,n,c,e⟩:=h
 intro u hu
 simp only [rfCells,List.mem_cons,List.not_mem_nil,or_false] at hu
 rcases hu with rfl | rfl | rfl | rfl | rfl | rfl | rfl | rfl | rfl <;> first | rfl | (rw [e];rfl)
set_option maxRecDepth 100000 in
set_option maxHeartbeats 4000000 in
theorem refSplit_any {w:World} {ρ:Nat→Nat} {yb:Nat} {C:Cfg} {time:Int} {rs:List Rf} {P:List Pt} {wv:Wks} {fv sv lv:Value} (h:RefAt w ρ yb C time rs P wv fv sv lv) (hf:Fits w ρ) (hpos:0<rs.length) (hrs:rs.length≤16) (hPs:∀e ∈ P,e.shard<rs.length) (n a:Int) :
 Calls Tryz.prog 101 #[.pointer (some ⟨yb,0,none⟩),.int .i64 n,.int .i64 a] w (RefTurn w ρ yb C time rs P wv fv (aSplit (absR rs P) n a)):=by
 obtain ⟨sb,cap,rfl,hsb,hsbT,ff,hcell⟩:=h.shards hpos
 have c7:w.cell? ⟨yb,7,none⟩=some (.slice (some ⟨sb,0,none⟩) rs.length cap):=cell_of h.blk 7
 have f7:=frozen_of h.blk 7
 have hyb:=lt_of_heap h.blk
 have HTh:=hide (refThere_any yb rs.length cap (some ⟨sb,0,none⟩) n w c7)
 have HSame:Hid (∀(q:Int) w',Below w.heap.size w w'→aSplit (absR rs P) n a=(absR rs P,0,q)→RefTurn w ρ yb C time rs P wv fv (aSplit (absR rs P) n a) (.returned (.tuple #[.int .i64 0,.int .i64 q])) w'):=by
  intro q w' hb he
  rw [he]
  exact ⟨rfl,rs,rfl,More.refl rs,RefPost.below h hf hb⟩
 by_cases hn:0≤n∧n<rs.length
 ·obtain ⟨k,rfl⟩:=Int.eq_ofNat_of_zero_le hn.1
  have hk:k<rs.length:=by omega
  obtain ⟨r,hr⟩:∃r,rs[k]?=some r:=⟨rs[k],List.getElem?_eq_getElem hk⟩
  obtain ⟨pa,pc,hpv⟩:=ownsRow_len (h.par k r hr)
  obtain ⟨b0,b1,b2,b3,b4,b5,b6,b7,b8⟩:=rfWalk hpv (hcell k r hr)
  have d:decide (0≤(k:Int)∧(k:Int)<rs.length)=true:=by simp;omega
  rw [d] at HTh
  have HA:=hide (absR_at (P:=P) hr a)
  have hbx:∀o,Below w.heap.size w (w.alloc o):=fun o=>(Below.refl _ _).alloc (Nat.le_refl _) _
  cases ro:r.op
  ·rw [ro] at b2 HA
   have HE:=hide (fun w' hb=>uh HSame 6 w' hb (by rw [uh HA,if_pos rfl]))
   clear h hf hr hcell d HSame HA hpv
   go_enter Tryz.func101,Tryz.ntmps101
   go_wp2_with (go_at_call 49;refine (uh HTh).mono ?_;rintro e w' ⟨rfl,rfl⟩)
   go_ret2
   exact uh HE _ (hbx _)
  ·rw [ro] at b2 HA
   by_cases ha:a≤r.lo
   ·have HE:=hide (fun w' hb=>uh HSame 7 w' hb (by rw [uh HA,if_neg (by simp),if_pos (Or.inl ha)]))
    clear h hf hr hcell d HSame HA hpv
    go_enter Tryz.func101,Tryz.ntmps101
    go_wp2_with (go_at_call 49;refine (uh HTh).mono ?_;rintro e w' ⟨rfl,rfl⟩)
    go_ret2
    exact uh HE _ (hbx _)
   ·by_cases ha2:r.hi≤a
    ·have HE:=hide (fun w' hb=>uh HSame 7 w' hb (by rw [uh HA,if_neg (by simp),if_pos (Or.inr ha2)]))
     clear h hf hr hcell d HSame HA hpv
     go_enter Tryz.func101,Tryz.ntmps101
     go_wp2_with (go_at_call 49;refine (uh HTh).mono ?_;rintro e w' ⟨rfl,rfl⟩)
     go_ret2
     exact uh HE _ (hbx _)
    ·by_cases hl:14<rs.length
     ·have HE:=hide (fun w' hb=>uh HSame 8 w' hb (by rw [uh HA,if_neg (by simp),if_neg (by omega),if_pos hl]))
      clear h hf hr hcell d HSame HA hpv
      go_enter Tryz.func101,Tryz.ntmps101
      go_wp2_with (go_at_call 49;refine (uh HTh).mono ?_;rintro e w' ⟨rfl,rfl⟩)
      go_ret2
      exact uh HE _ (hbx _)
     ·have HA2:Hid (aSplit (absR rs P) k a=(absR (rs.set k { r with op:=false } ++ [⟨r.lo,a,true,[(k:Int)],.slice none 0 0,-1,0,0,0,0⟩,⟨a,r.hi,true,[(k:Int)],.slice none 0 0,-1,0,0,0,0⟩]) P,(rs.length:Int),0)):=by
       refine hide ?_
       rw [uh HA,if_neg (by simp),if_neg (by omega),if_neg hl,absR_turn (by simpa using hPs),absR_close hr];rfl
      have HMo:Hid (∀m,(∀x ∈ m,Fresh x)→More rs (rs.set k { r with op:=false } ++ m)):=fun m hm=>More.one hr m hm
      have hC:=h.close k r hr
      have hfk:=ff (k*9+2)
      have hne:sb≠yb:=by rintro rfl;have:=h.tag;omega
      have HC:=hide hC
      have HF:=hide hf
      have HK1:Hid (Keeps (theirs ρ) w (w.setCell ⟨sb,k*9+2,none⟩ (.bool false))):=(Keeps.refl _ w).setCell (Or.inl (show theirs ρ sb by unfold theirs;omega)) _
      have hPs':=hPs
      clear h hf hr hcell d HSame HA hpv hC ff hPs
      go_enter Tryz.func101,Tryz.ntmps101
      go_wp2_with (go_at_call 49;refine (uh HTh).mono ?_;rintro e w' ⟨rfl,rfl⟩)
      have hbU:Below (w.setCell ⟨sb,k*9+2,none⟩ (.bool false)).heap.size (w.setCell ⟨sb,k*9+2,none⟩ (.bool false)) ((w.setCell ⟨sb,k*9+2,none⟩ (.bool false)).alloc (.cells #[.int .i64 r.lo,.int .i64 r.hi,.bool true,.slice pa r.par.length pc,.int .i64 r.own,.int .i64 r.ctr,.int .i64 r.lep,.int .i64 r.done,.int .i64 r.ep] 73)):=(Below.refl _ _).alloc (Nat.le_refl _) _
      have hzV:(w.setCell ⟨sb,k*9+2,none⟩ (.bool false)).heap.size=w.heap.size:=by simp [World.setCell]
      have RU:=hide ((uh HC).keeps (Keeps.of_below hbU) (fun _ hk=>Or.inr hk) (fun _ _=>rfl))
      have hNU:=heap_alloc_new (w.setCell ⟨sb,k*9+2,none⟩ (.bool false)) (.cells #[.int .i64 r.lo,.int .i64 r.hi,.bool true,.slice pa r.par.length pc,.int .i64 r.own,.int .i64 r.ctr,.int .i64 r.lep,.int .i64 r.done,.int .i64 r.ep] 73)
      rw [hzV] at hNU
      have zU:((w.setCell ⟨sb,k*9+2,none⟩ (.bool false)).alloc (.cells #[.int .i64 r.lo,.int .i64 r.hi,.bool true,.slice pa r.par.length pc,.int .i64 r.own,.int .i64 r.ctr,.int .i64 r.lep,.int .i64 r.done,.int .i64 r.ep] 73)).heap.size=w.heap.size+1:=by simp [World.setCell]
      have KU:Hid (Keeps (theirs ρ) w ((w.setCell ⟨sb,k*9+2,none⟩ (.bool false)).alloc (.cells #[.int .i64 r.lo,.int .i64 r.hi,.bool true,.slice pa r.par.length pc,.int .i64 r.own,.int .i64 r.ctr,.int .i64 r.lep,.int .i64 r.done,.int .i64 r.ep] 73))):=(uh HK1).alloc _
      clear hbU hzV c7 f7 hfk b0 b1 b2 b3 b4 b5 b6 b7 b8 HC HK1
      generalize (w.setCell ⟨sb,k*9+2,none⟩ (.bool false)).alloc _=U at *
      have u0:=cell_of hNU 0
      have u1:=cell_of hNU 1
      simp at u0 u1
      have y7:U.cell? ⟨yb,7,none⟩=some (.slice (some ⟨sb,0,none⟩) rs.length cap):=cell_of (uh RU).blk 7
      have fy7:=frozen_of (uh RU).blk 7
      have FU:Hid (Fits U ρ):=fun q hq=>uh HF q (by omega)
      have hybU:yb<U.heap.size:=by omega
      obtain ⟨i0,hi0,hz0,hz1,hz2⟩:=info_parts info98
      have HNB:=hide hNU
      have hlr:rs.length≤14:=by omega
      clear hNU HTh
      have HS:Hid (∀W,Below U.heap.size U W→(fun w'=>w'.cell? ⟨w.heap.size,0,none⟩=some (.int .i64 r.lo)∧w'.cell? ⟨w.heap.size,1,none⟩=some (.int .i64 r.hi)∧w'.cell? ⟨yb,7,none⟩=some (.slice (some ⟨sb,0,none⟩) rs.length cap)) W):=fun W hb=>⟨(hb.cell (p:=⟨w.heap.size,0,none⟩) (by show w.heap.size<U.heap.size;omega)).trans u0,(hb.cell (p:=⟨w.heap.size,1,none⟩) (by show w.heap.size<U.heap.size;omega)).trans u1,(hb.cell (p:=⟨yb,7,none⟩) hybU).trans y7⟩
      have B0:Hid (Below U.heap.size U U.drew):=(Below.refl _ _).drew
      have s0:U.drew.heap.size=U.heap.size:=rfl
      have HFin:Hid (∀(W w3:World) (b1 b2 g cap3:Nat),Below U.heap.size U W→W.heap[b1]?=some (.cells #[.int .i64 k] 3 (0,0))→W.heap[b2]?=some (.cells #[.int .i64 k] 3 (0,0))→U.heap.size≤b1→U.heap.size≤b2→w3.ownsRow 0 73 9 (.slice (some ⟨g,0,none⟩) (rs.length+2) cap3) (rs.length+2) ((rowRf (rs.set k { r with op:=false })) ++ (rfCells ⟨r.lo,a,true,[(k:Int)],.slice (some ⟨b1,0,none⟩) 1 1,-1,0,0,0,0⟩ ++ rfCells ⟨a,r.hi,true,[(k:Int)],.slice (some ⟨b2,0,none⟩) 1 1,-1,0,0,0,0⟩))→W.grownBy w3 (some sb)→(some sb=some g∨g=W.heap.size)→RefTurn w ρ yb C time rs P wv fv (aSplit (absR rs P) k a) (.returned (.tuple #[.int .i64 rs.length,.int .i64 0])) (w3.setCell ⟨yb,7,none⟩ (.slice (some ⟨g,0,none⟩) (rs.length+2) cap3))):=by
       intro W w3 b1 b2 g cap3 hB e1 e2 l1 l2 hown hgrow hat
       rw [uh HA2]
       refine ⟨rfl,rs.set k { r with op:=false } ++ [⟨r.lo,a,true,[(k:Int)],.slice (some ⟨b1,0,none⟩) 1 1,-1,0,0,0,0⟩,⟨a,r.hi,true,[(k:Int)],.slice (some ⟨b2,0,none⟩) 1 1,-1,0,0,0,0⟩],?_,uh HMo _ (by simp [Fresh]),?_⟩
       ·rw [absR_turn (by simpa using hPs'),absR_turn (by simpa using hPs')];rfl
       ·refine RefPost.trans (uh KU) (ExtR.refl (uh HF)) ((uh RU).grow (uh FU) (W:=W) (w3:=w3) [⟨r.lo,a,true,[(k:Int)],.slice (some ⟨b1,0,none⟩) 1 1,-1,0,0,0,0⟩,⟨a,r.hi,true,[(k:Int)],.slice (some ⟨b2,0,none⟩) 1 1,-1,0,0,0,0⟩] ((Keeps.of_below hB).mono (fun q hq hs=>absurd hs (by omega))) ?_ g cap3 (rs.length+2) (by simp) (by simpa [rowRf] using hown) hgrow hat)
        intro q hq
        simp at hq
        rcases hq with rfl | rfl
        ·exact ⟨b1,rfl,by simpa using e1,l1,by simp⟩
        ·exact ⟨b2,rfl,by simpa using e2,l2,by simp⟩
      have HRow:Hid (∀W,Below U.heap.size U W→W.ownsRow 0 73 9 (.slice (some ⟨sb,0,none⟩) rs.length cap) rs.length (rowRf (rs.set k { r with op:=false }))):=fun W hB=>by simpa using ((uh RU).keeps (Keeps.of_below hB) (fun _ hk=>Or.inr hk) (fun _ _=>rfl)).row
      have HN1:Hid (some w.heap.size≠(Value.slice (some ⟨sb,0,none⟩) rs.length cap).ownBlock):=by (unfold Hid;simp [Value.ownBlock];omega)
      have HN2:Hid (some yb≠(Value.slice (some ⟨sb,0,none⟩) rs.length cap).ownBlock):=by (unfold Hid;simp [Value.ownBlock];omega)
      clear s0 zU
      refine wp_region_but (S:=(fun w'=>w'.cell? ⟨w.heap.size,0,none⟩=some (.int .i64 r.lo)∧w'.cell? ⟨w.heap.size,1,none⟩=some (.int .i64 r.hi)∧w'.cell? ⟨yb,7,none⟩=some (.slice (some ⟨sb,0,none⟩) rs.length cap))) (z:=21) (by kernel_rfl) 22 rfl #[false,false,false,false,false,false,false,false,false,false,false,false,false,false,false,false,false,false,false,false,false,false] rfl ?_
      generalize U.drew=V at *
      refine anyBut_take (i:=0) (v:=?_) (l':=#[true,false,false,false,false,false,false,false,false,false,false,false,false,false,false,false,false,false,false,false,false,false]) rfl (by kernel_rfl) (by kernel_rfl) (by kernel_rfl) (by kernel_rfl) rfl (fun _ _ _ h=>h) rfl ?_ (uh HS _ (uh B0)) ?_
      rotate_left
      ·intro w' hSw;go_simp;try with_reducible rfl
      refine anyBut_take (i:=1) (v:=?_) (l':=#[true,true,false,false,false,false,false,false,false,false,false,false,false,false,false,false,false,false,false,false,false,false]) rfl (by kernel_rfl) (by kernel_rfl) (by kernel_rfl) (by kernel_rfl) rfl (fun _ _ _ h=>h) rfl ?_ (uh HS _ (uh B0)) ?_
      rotate_left
      ·intro w' hSw;go_simp;try with_reducible rfl
      refine anyBut_take (i:=2) (v:=?_) (l':=#[true,true,true,false,false,false,false,false,false,false,false,false,false,false,false,false,false,false,false,false,false,false]) rfl (by kernel_rfl) (by kernel_rfl) (by kernel_rfl) (by kernel_rfl) rfl (fun _ _ _ h=>h) rfl ?_ (uh HS _ (uh B0)) ?_
      rotate_left
      ·intro w' hSw;go_simp;try with_reducible rfl
      refine anyBut_take (i:=3) (v:=?_) (l':=#[true,true,true,true,false,false,false,false,false,false,false,false,false,false,false,false,false,false,false,false,false,false]) rfl (by kernel_rfl) (by kernel_rfl) (by kernel_rfl) (by kernel_rfl) rfl (fun _ _ _ h=>h) rfl ?_ (uh HS _ (uh B0)) ?_
      rotate_left
      ·intro w' hSw;go_simp;try with_reducible rfl
      refine anyBut_take (i:=4) (v:=?_) (l':=#[true,true,true,true,true,false,false,false,false,false,false,false,false,false,false,false,false,false,false,false,false,false]) rfl (by kernel_rfl) (by kernel_rfl) (by kernel_rfl) (by kernel_rfl) rfl (fun _ _ _ h=>h) rfl ?_ (uh HS _ (uh B0)) ?_
      rotate_left
      ·intro w' hSw;obtain ⟨q0,q1,q2⟩:=hSw;go_simp;try with_reducible rfl
      refine anyBut_take (i:=5) (v:=?_) (l':=#[true,true,true,true,true,true,false,false,false,false,false,false,false,false,false,false,false,false,false,false,false,false]) rfl (by kernel_rfl) (by kernel_rfl) (by kernel_rfl) (by kernel_rfl) rfl (fun _ _ _ h=>h) rfl ?_ (uh HS _ (uh B0)) ?_
      rotate_left
      ·intro w' hSw;go_simp;try with_reducible rfl
      refine anyBut_take (i:=6) (v:=?_) (l':=#[true,true,true,true,true,true,true,false,false,false,false,false,false,false,false,false,false,false,false,false,false,false]) rfl (by kernel_rfl) (by kernel_rfl) (by kernel_rfl) (by kernel_rfl) rfl (fun _ _ _ h=>h) rfl ?_ (uh HS _ (uh B0)) ?_
      rotate_left
      ·intro w' hSw;obtain ⟨q0,q1,q2⟩:=hSw;go_simp;try with_reducible rfl
      refine anyBut_take (i:=7) (v:=?_) (l':=#[true,true,true,true,true,true,true,true,false,false,false,false,false,false,false,false,false,false,false,false,false,false]) rfl (by kernel_rfl) (by kernel_rfl) (by kernel_rfl) (by kernel_rfl) rfl (fun _ _ _ h=>h) rfl ?_ (uh HS _ (uh B0)) ?_
      rotate_left
      ·intro w' hSw;go_simp;try with_reducible rfl
      refine anyBut_take (i:=8) (v:=?_) (l':=#[true,true,true,true,true,true,true,true,true,false,false,false,false,false,false,false,false,false,false,false,false,false]) rfl (by kernel_rfl) (by kernel_rfl) (by kernel_rfl) (by kernel_rfl) rfl (fun _ _ _ h=>h) rfl ?_ (uh HS _ (uh B0)) ?_
      rotate_left
      ·intro w' hSw;go_simp;try with_reducible rfl
      refine anyBut_take (i:=11) (v:=?_) (l':=#[true,true,true,true,true,true,true,true,true,false,false,true,false,false,false,false,false,false,false,false,false,false]) rfl (by kernel_rfl) (by kernel_rfl) (by kernel_rfl) (by kernel_rfl) rfl (fun _ _ _ h=>h) rfl ?_ (uh HS _ (uh B0)) ?_
      rotate_left
      ·intro w' hSw;go_simp;try with_reducible rfl
      refine anyBut_take (i:=12) (v:=?_) (l':=#[true,true,true,true,true,true,true,true,true,false,false,true,true,false,false,false,false,false,false,false,false,false]) rfl (by kernel_rfl) (by kernel_rfl) (by kernel_rfl) (by kernel_rfl) rfl (fun _ _ _ h=>h) rfl ?_ (uh HS _ (uh B0)) ?_
      rotate_left
      ·intro w' hSw;go_simp;try with_reducible rfl
      refine anyBut_take (i:=13) (v:=?_) (l':=#[true,true,true,true,true,true,true,true,true,false,false,true,true,true,false,false,false,false,false,false,false,false]) rfl (by kernel_rfl) (by kernel_rfl) (by kernel_rfl) (by kernel_rfl) rfl (fun _ _ _ h=>h) rfl ?_ (uh HS _ (uh B0)) ?_
      rotate_left
      ·intro w' hSw;obtain ⟨q0,q1,q2⟩:=hSw;go_simp;try with_reducible rfl
      refine anyBut_take (i:=14) (v:=?_) (l':=#[true,true,true,true,true,true,true,true,true,false,false,true,true,true,true,false,false,false,false,false,false,false]) rfl (by kernel_rfl) (by kernel_rfl) (by kernel_rfl) (by kernel_rfl) rfl (fun _ _ _ h=>h) rfl ?_ (uh HS _ (uh B0)) ?_
      rotate_left
      ·intro w' hSw;go_simp;try with_reducible rfl
      refine anyBut_two (i:=9) (j:=15) (li:=#[true,true,true,true,true,true,true,true,true,true,false,true,true,true,true,false,false,false,false,false,false,false]) (lj:=#[true,true,true,true,true,true,true,true,true,false,false,true,true,true,true,true,false,false,false,false,false,false]) (by kernel_rfl) rfl rfl rfl rfl rfl rfl (fun K hK=>?_) (fun K hK=>?_)
      ·go_simp
       have B1:Hid (Below U.heap.size U (V.alloc (Obj.cells #[Value.int .i64 k] 3))):=(uh B0).alloc (uh B0).size _
       refine hK.out _ _ (fun _=>uh HS _ (uh B1)) ?_
       clear hK K
       have ep1:Hid ((V.alloc (Obj.cells #[Value.int .i64 k] 3)).heap[V.heap.size]?=some (.cells #[.int .i64 k] 3 (0,0))):=heap_alloc_new _ _
       have lp1:Hid (U.heap.size≤V.heap.size):=(uh B0).size
       generalize V.alloc (Obj.cells #[Value.int .i64 k] 3)=W1 at *
       refine anyBut_two (i:=10) (j:=15) (li:=#[true,true,true,true,true,true,true,true,true,true,true,true,true,true,true,false,false,false,false,false,false,false]) (lj:=#[true,true,true,true,true,true,true,true,true,true,false,true,true,true,true,true,false,false,false,false,false,false]) (by kernel_rfl) rfl rfl rfl rfl rfl rfl (fun K hK=>?_) (fun K hK=>?_)
       ·go_simp
        refine (refFresh_any _ _ _ _ _ _).mono ?_;rintro e W2 ⟨rfl,hbF⟩
        have B2:Hid (Below U.heap.size U W2):=(uh B1).trans (hbF.mono (uh B1).size)
        have ep1c:Hid (W2.heap[V.heap.size]?=some (.cells #[.int .i64 k] 3 (0,0))):=(hbF.block _ (lt_of_heap (uh ep1))).trans (uh ep1)
        clear hbF
        go_wp2
        refine hK.out _ _ (fun _=>uh HS _ (uh B2)) ?_
        clear hK K
        try simp only [Act.put,List.setIfInBounds_toArray]
        refine anyBut_one (i:=15) (l':=#[true,true,true,true,true,true,true,true,true,true,true,true,true,true,true,true,false,false,false,false,false,false]) (by kernel_rfl) rfl rfl rfl (fun K hK=>?_)
        go_simp
        have B3:Hid (Below U.heap.size U (W2.alloc (Obj.cells #[Value.int .i64 k] 3))):=(uh B2).alloc (uh B2).size _
        refine hK.out _ _ (fun _=>uh HS _ (uh B3)) ?_
        clear hK K
        have eq3:Hid ((W2.alloc (Obj.cells #[Value.int .i64 k] 3)).heap[W2.heap.size]?=some (.cells #[.int .i64 k] 3 (0,0))):=heap_alloc_new _ _
        have lq3:Hid (U.heap.size≤W2.heap.size):=(uh B2).size
        have ep1cx:Hid ((W2.alloc (Obj.cells #[Value.int .i64 k] 3)).heap[V.heap.size]?=some (.cells #[.int .i64 k] 3 (0,0))):=(Below.heap_alloc _ _ _ (lt_of_heap (uh ep1c))).trans (uh ep1c)
        generalize W2.alloc (Obj.cells #[Value.int .i64 k] 3)=W3 at *
        refine anyBut_one (i:=16) (l':=#[true,true,true,true,true,true,true,true,true,true,true,true,true,true,true,true,true,false,false,false,false,false]) (by kernel_rfl) rfl rfl rfl (fun K hK=>?_)
        go_simp
        refine (refFresh_any _ _ _ _ _ _).mono ?_;rintro e W4 ⟨rfl,hbF⟩
        have B4:Hid (Below U.heap.size U W4):=(uh B3).trans (hbF.mono (uh B3).size)
        have ep1cxc:Hid (W4.heap[V.heap.size]?=some (.cells #[.int .i64 k] 3 (0,0))):=(hbF.block _ (lt_of_heap (uh ep1cx))).trans (uh ep1cx)
        have eq3c:Hid (W4.heap[W2.heap.size]?=some (.cells #[.int .i64 k] 3 (0,0))):=(hbF.block _ (lt_of_heap (uh eq3))).trans (uh eq3)
        clear hbF
        go_wp2
        refine hK.out _ _ (fun _=>uh HS _ (uh B4)) ?_
        clear hK K
        try simp only [Act.put,List.setIfInBounds_toArray]
        refine anyBut_one (i:=17) (l':=#[true,true,true,true,true,true,true,true,true,true,true,true,true,true,true,true,true,true,false,false,false,false]) (by kernel_rfl) rfl rfl rfl (fun K hK=>?_)
        go_simp
        have BZ:Hid (Below U.heap.size U (W4.alloc (Obj.cells #[.int .i64 r.lo,.int .i64 a,.bool true,.slice (some ⟨V.heap.size,0,none⟩) 1 1,.int .i64 (-1),.int .i64 0,.int .i64 0,.int .i64 0,.int .i64 0,.int .i64 a,.int .i64 r.hi,.bool true,.slice (some ⟨W2.heap.size,0,none⟩) 1 1,.int .i64 (-1),.int .i64 0,.int .i64 0,.int .i64 0,.int .i64 0] 73))):=(uh B4).alloc (uh B4).size _
        refine hK.out _ _ (fun _=>uh HS _ (uh BZ)) ?_
        clear hK K
        have eZ:=hide (heap_alloc_new W4 (Obj.cells #[.int .i64 r.lo,.int .i64 a,.bool true,.slice (some ⟨V.heap.size,0,none⟩) 1 1,.int .i64 (-1),.int .i64 0,.int .i64 0,.int .i64 0,.int .i64 0,.int .i64 a,.int .i64 r.hi,.bool true,.slice (some ⟨W2.heap.size,0,none⟩) 1 1,.int .i64 (-1),.int .i64 0,.int .i64 0,.int .i64 0,.int .i64 0] 73))
        have e1:Hid ((W4.alloc (Obj.cells #[.int .i64 r.lo,.int .i64 a,.bool true,.slice (some ⟨V.heap.size,0,none⟩) 1 1,.int .i64 (-1),.int .i64 0,.int .i64 0,.int .i64 0,.int .i64 0,.int .i64 a,.int .i64 r.hi,.bool true,.slice (some ⟨W2.heap.size,0,none⟩) 1 1,.int .i64 (-1),.int .i64 0,.int .i64 0,.int .i64 0,.int .i64 0] 73)).heap[V.heap.size]?=some (.cells #[.int .i64 k] 3 (0,0))):=(Below.heap_alloc _ _ _ (lt_of_heap (uh ep1cxc))).trans (uh ep1cxc)
        have e2:Hid ((W4.alloc (Obj.cells #[.int .i64 r.lo,.int .i64 a,.bool true,.slice (some ⟨V.heap.size,0,none⟩) 1 1,.int .i64 (-1),.int .i64 0,.int .i64 0,.int .i64 0,.int .i64 0,.int .i64 a,.int .i64 r.hi,.bool true,.slice (some ⟨W2.heap.size,0,none⟩) 1 1,.int .i64 (-1),.int .i64 0,.int .i64 0,.int .i64 0,.int .i64 0] 73)).heap[W2.heap.size]?=some (.cells #[.int .i64 k] 3 (0,0))):=(Below.heap_alloc _ _ _ (lt_of_heap (uh eq3c))).trans (uh eq3c)
        generalize W4.alloc (Obj.cells #[.int .i64 r.lo,.int .i64 a,.bool true,.slice (some ⟨V.heap.size,0,none⟩) 1 1,.int .i64 (-1),.int .i64 0,.int .i64 0,.int .i64 0,.int .i64 0,.int .i64 a,.int .i64 r.hi,.bool true,.slice (some ⟨W2.heap.size,0,none⟩) 1 1,.int .i64 (-1),.int .i64 0,.int .i64 0,.int .i64 0,.int .i64 0] 73)=Z at *
        refine anyBut_one (i:=18) (l':=#[true,true,true,true,true,true,true,true,true,true,true,true,true,true,true,true,true,true,true,false,false,false]) (by kernel_rfl) rfl rfl rfl (fun K hK=>?_)
        refine wp_append_lies _ _ _ _ rfl 0 73 i0 _ 9 88 Tryz.underlying75 hi0 hz0 hz1 hz2 rfl (by omega) _ rs.length (rowRf (rs.set k { r with op:=false })) rfl (uh HRow _ (uh BZ)) ⟨W4.heap.size,0,none⟩ 2 2 (rfCells ⟨r.lo,a,true,[(k:Int)],.slice (some ⟨V.heap.size,0,none⟩) 1 1,-1,0,0,0,0⟩ ++ rfCells ⟨a,r.hi,true,[(k:Int)],.slice (some ⟨W2.heap.size,0,none⟩) 1 1,-1,0,0,0,0⟩) rfl rfl (World.news_of_block (uh eZ)) (by intro u hu;rcases List.mem_append.1 hu with h | h <;> exact rf_one _ ⟨_,_,_,rfl⟩ u h) (by omega) (by unfold maxLen;omega) (by omega) (Nat.zero_le _) Z.heap.size rfl ?_
        intro g3 cap3 w3 hown3 hgrow3 hat3 hlt3
        have HS3:(fun w'=>w'.cell? ⟨w.heap.size,0,none⟩=some (.int .i64 r.lo)∧w'.cell? ⟨w.heap.size,1,none⟩=some (.int .i64 r.hi)∧w'.cell? ⟨yb,7,none⟩=some (.slice (some ⟨sb,0,none⟩) rs.length cap)) w3:=⟨hgrow3.cell (uh HS _ (uh BZ)).1 (uh HN1),hgrow3.cell (uh HS _ (uh BZ)).2.1 (uh HN1),hgrow3.cell (uh HS _ (uh BZ)).2.2 (uh HN2)⟩
        have z7:=HS3.2.2
        have zf:w3.frozen? ⟨yb,7,none⟩=false:=(hgrow3.frozen_far _ (Nat.lt_of_lt_of_le hybU (uh BZ).size) (uh HN2)).trans (((uh BZ).frozen hybU).trans fy7)
        have HF3:=hide (uh HFin Z w3 V.heap.size W2.heap.size g3 cap3 (uh BZ) (uh e1) (uh e2) (uh lp1) (uh lq3) hown3 hgrow3 hat3)
        have HS4:=hide HS3
        clear hown3 hgrow3 hat3 hlt3 HS3
        refine hK.out _ _ (fun _=>uh HS4) ?_
        clear hK K
        simp only [Act.put,List.setIfInBounds_toArray]
        refine anyBut_one (i:=19) (l':=#[true,true,true,true,true,true,true,true,true,true,true,true,true,true,true,true,true,true,true,true,false,false]) (by kernel_rfl) rfl rfl rfl (fun K hK=>?_)
        go_simp
        refine hK.out _ _ (fun _=>uh HS4) ?_
        clear hK K
        refine anyBut_one (i:=20) (l':=#[true,true,true,true,true,true,true,true,true,true,true,true,true,true,true,true,true,true,true,true,true,false]) (by kernel_rfl) rfl rfl rfl (fun K hK=>?_)
        go_simp
        refine hK.out _ _ (fun _=>uh HS4) ?_
        clear hK K
        refine anyBut_one (i:=21) (l':=#[true,true,true,true,true,true,true,true,true,true,true,true,true,true,true,true,true,true,true,true,true,true]) (by kernel_rfl) rfl rfl rfl (fun K hK=>?_)
        go_simp
        refine hK.out _ _ (fun h=>absurd rfl h) (anyBut_done (by kernel_rfl) ?_ _)
        clear hK K
        go_wp2
        go_ret2
        exact uh HF3
       ·go_simp
        have B2:Hid (Below U.heap.size U (W1.alloc (Obj.cells #[Value.int .i64 k] 3))):=(uh B1).alloc (uh B1).size _
        refine hK.out _ _ (fun _=>uh HS _ (uh B2)) ?_
        clear hK K
        have eq2:Hid ((W1.alloc (Obj.cells #[Value.int .i64 k] 3)).heap[W1.heap.size]?=some (.cells #[.int .i64 k] 3 (0,0))):=heap_alloc_new _ _
        have lq2:Hid (U.heap.size≤W1.heap.size):=(uh B1).size
        have ep1x:Hid ((W1.alloc (Obj.cells #[Value.int .i64 k] 3)).heap[V.heap.size]?=some (.cells #[.int .i64 k] 3 (0,0))):=(Below.heap_alloc _ _ _ (lt_of_heap (uh ep1))).trans (uh ep1)
        generalize W1.alloc (Obj.cells #[Value.int .i64 k] 3)=W2 at *
        refine anyBut_one (i:=10) (l':=#[true,true,true,true,true,true,true,true,true,true,true,true,true,true,true,true,false,false,false,false,false,false]) (by kernel_rfl) rfl rfl rfl (fun K hK=>?_)
        go_simp
        refine (refFresh_any _ _ _ _ _ _).mono ?_;rintro e W3 ⟨rfl,hbF⟩
        have B3:Hid (Below U.heap.size U W3):=(uh B2).trans (hbF.mono (uh B2).size)
        have ep1xc:Hid (W3.heap[V.heap.size]?=some (.cells #[.int .i64 k] 3 (0,0))):=(hbF.block _ (lt_of_heap (uh ep1x))).trans (uh ep1x)
        have eq2c:Hid (W3.heap[W1.heap.size]?=some (.cells #[.int .i64 k] 3 (0,0))):=(hbF.block _ (lt_of_heap (uh eq2))).trans (uh eq2)
        clear hbF
        go_wp2
        refine hK.out _ _ (fun _=>uh HS _ (uh B3)) ?_
        clear hK K
        try simp only [Act.put,List.setIfInBounds_toArray]
        refine anyBut_one (i:=16) (l':=#[true,true,true,true,true,true,true,true,true,true,true,true,true,true,true,true,true,false,false,false,false,false]) (by kernel_rfl) rfl rfl rfl (fun K hK=>?_)
        go_simp
        refine (refFresh_any _ _ _ _ _ _).mono ?_;rintro e W4 ⟨rfl,hbF⟩
        have B4:Hid (Below U.heap.size U W4):=(uh B3).trans (hbF.mono (uh B3).size)
        have ep1xcc:Hid (W4.heap[V.heap.size]?=some (.cells #[.int .i64 k] 3 (0,0))):=(hbF.block _ (lt_of_heap (uh ep1xc))).trans (uh ep1xc)
        have eq2cc:Hid (W4.heap[W1.heap.size]?=some (.cells #[.int .i64 k] 3 (0,0))):=(hbF.block _ (lt_of_heap (uh eq2c))).trans (uh eq2c)
        clear hbF
        go_wp2
        refine hK.out _ _ (fun _=>uh HS _ (uh B4)) ?_
        clear hK K
        try simp only [Act.put,List.setIfInBounds_toArray]
        refine anyBut_one (i:=17) (l':=#[true,true,true,true,true,true,true,true,true,true,true,true,true,true,true,true,true,true,false,false,false,false]) (by kernel_rfl) rfl rfl rfl (fun K hK=>?_)
        go_simp
        have BZ:Hid (Below U.heap.size U (W4.alloc (Obj.cells #[.int .i64 r.lo,.int .i64 a,.bool true,.slice (some ⟨V.heap.size,0,none⟩) 1 1,.int .i64 (-1),.int .i64 0,.int .i64 0,.int .i64 0,.int .i64 0,.int .i64 a,.int .i64 r.hi,.bool true,.slice (some ⟨W1.heap.size,0,none⟩) 1 1,.int .i64 (-1),.int .i64 0,.int .i64 0,.int .i64 0,.int .i64 0] 73))):=(uh B4).alloc (uh B4).size _
        refine hK.out _ _ (fun _=>uh HS _ (uh BZ)) ?_
        clear hK K
        have eZ:=hide (heap_alloc_new W4 (Obj.cells #[.int .i64 r.lo,.int .i64 a,.bool true,.slice (some ⟨V.heap.size,0,none⟩) 1 1,.int .i64 (-1),.int .i64 0,.int .i64 0,.int .i64 0,.int .i64 0,.int .i64 a,.int .i64 r.hi,.bool true,.slice (some ⟨W1.heap.size,0,none⟩) 1 1,.int .i64 (-1),.int .i64 0,.int .i64 0,.int .i64 0,.int .i64 0] 73))
        have e1:Hid ((W4.alloc (Obj.cells #[.int .i64 r.lo,.int .i64 a,.bool true,.slice (some ⟨V.heap.size,0,none⟩) 1 1,.int .i64 (-1),.int .i64 0,.int .i64 0,.int .i64 0,.int .i64 0,.int .i64 a,.int .i64 r.hi,.bool true,.slice (some ⟨W1.heap.size,0,none⟩) 1 1,.int .i64 (-1),.int .i64 0,.int .i64 0,.int .i64 0,.int .i64 0] 73)).heap[V.heap.size]?=some (.cells #[.int .i64 k] 3 (0,0))):=(Below.heap_alloc _ _ _ (lt_of_heap (uh ep1xcc))).trans (uh ep1xcc)
        have e2:Hid ((W4.alloc (Obj.cells #[.int .i64 r.lo,.int .i64 a,.bool true,.slice (some ⟨V.heap.size,0,none⟩) 1 1,.int .i64 (-1),.int .i64 0,.int .i64 0,.int .i64 0,.int .i64 0,.int .i64 a,.int .i64 r.hi,.bool true,.slice (some ⟨W1.heap.size,0,none⟩) 1 1,.int .i64 (-1),.int .i64 0,.int .i64 0,.int .i64 0,.int .i64 0] 73)).heap[W1.heap.size]?=some (.cells #[.int .i64 k] 3 (0,0))):=(Below.heap_alloc _ _ _ (lt_of_heap (uh eq2cc))).trans (uh eq2cc)
        generalize W4.alloc (Obj.cells #[.int .i64 r.lo,.int .i64 a,.bool true,.slice (some ⟨V.heap.size,0,none⟩) 1 1,.int .i64 (-1),.int .i64 0,.int .i64 0,.int .i64 0,.int .i64 0,.int .i64 a,.int .i64 r.hi,.bool true,.slice (some ⟨W1.heap.size,0,none⟩) 1 1,.int .i64 (-1),.int .i64 0,.int .i64 0,.int .i64 0,.int .i64 0] 73)=Z at *
        refine anyBut_one (i:=18) (l':=#[true,true,true,true,true,true,true,true,true,true,true,true,true,true,true,true,true,true,true,false,false,false]) (by kernel_rfl) rfl rfl rfl (fun K hK=>?_)
        refine wp_append_lies _ _ _ _ rfl 0 73 i0 _ 9 88 Tryz.underlying75 hi0 hz0 hz1 hz2 rfl (by omega) _ rs.length (rowRf (rs.set k { r with op:=false })) rfl (uh HRow _ (uh BZ)) ⟨W4.heap.size,0,none⟩ 2 2 (rfCells ⟨r.lo,a,true,[(k:Int)],.slice (some ⟨V.heap.size,0,none⟩) 1 1,-1,0,0,0,0⟩ ++ rfCells ⟨a,r.hi,true,[(k:Int)],.slice (some ⟨W1.heap.size,0,none⟩) 1 1,-1,0,0,0,0⟩) rfl rfl (World.news_of_block (uh eZ)) (by intro u hu;rcases List.mem_append.1 hu with h | h <;> exact rf_one _ ⟨_,_,_,rfl⟩ u h) (by omega) (by unfold maxLen;omega) (by omega) (Nat.zero_le _) Z.heap.size rfl ?_
        intro g3 cap3 w3 hown3 hgrow3 hat3 hlt3
        have HS3:(fun w'=>w'.cell? ⟨w.heap.size,0,none⟩=some (.int .i64 r.lo)∧w'.cell? ⟨w.heap.size,1,none⟩=some (.int .i64 r.hi)∧w'.cell? ⟨yb,7,none⟩=some (.slice (some ⟨sb,0,none⟩) rs.length cap)) w3:=⟨hgrow3.cell (uh HS _ (uh BZ)).1 (uh HN1),hgrow3.cell (uh HS _ (uh BZ)).2.1 (uh HN1),hgrow3.cell (uh HS _ (uh BZ)).2.2 (uh HN2)⟩
        have z7:=HS3.2.2
        have zf:w3.frozen? ⟨yb,7,none⟩=false:=(hgrow3.frozen_far _ (Nat.lt_of_lt_of_le hybU (uh BZ).size) (uh HN2)).trans (((uh BZ).frozen hybU).trans fy7)
        have HF3:=hide (uh HFin Z w3 V.heap.size W1.heap.size g3 cap3 (uh BZ) (uh e1) (uh e2) (uh lp1) (uh lq2) hown3 hgrow3 hat3)
        have HS4:=hide HS3
        clear hown3 hgrow3 hat3 hlt3 HS3
        refine hK.out _ _ (fun _=>uh HS4) ?_
        clear hK K
        simp only [Act.put,List.setIfInBounds_toArray]
        refine anyBut_one (i:=19) (l':=#[true,true,true,true,true,true,true,true,true,true,true,true,true,true,true,true,true,true,true,true,false,false]) (by kernel_rfl) rfl rfl rfl (fun K hK=>?_)
        go_simp
        refine hK.out _ _ (fun _=>uh HS4) ?_
        clear hK K
        refine anyBut_one (i:=20) (l':=#[true,true,true,true,true,true,true,true,true,true,true,true,true,true,true,true,true,true,true,true,true,false]) (by kernel_rfl) rfl rfl rfl (fun K hK=>?_)
        go_simp
        refine hK.out _ _ (fun _=>uh HS4) ?_
        clear hK K
        refine anyBut_one (i:=21) (l':=#[true,true,true,true,true,true,true,true,true,true,true,true,true,true,true,true,true,true,true,true,true,true]) (by kernel_rfl) rfl rfl rfl (fun K hK=>?_)
        go_simp
        refine hK.out _ _ (fun h=>absurd rfl h) (anyBut_done (by kernel_rfl) ?_ _)
        clear hK K
        go_wp2
        go_ret2
        exact uh HF3
      ·go_simp
       have B1:Hid (Below U.heap.size U (V.alloc (Obj.cells #[Value.int .i64 k] 3))):=(uh B0).alloc (uh B0).size _
       refine hK.out _ _ (fun _=>uh HS _ (uh B1)) ?_
       clear hK K
       have eq1:Hid ((V.alloc (Obj.cells #[Value.int .i64 k] 3)).heap[V.heap.size]?=some (.cells #[.int .i64 k] 3 (0,0))):=heap_alloc_new _ _
       have lq1:Hid (U.heap.size≤V.heap.size):=(uh B0).size
       generalize V.alloc (Obj.cells #[Value.int .i64 k] 3)=W1 at *
       refine anyBut_one (i:=9) (l':=#[true,true,true,true,true,true,true,true,true,true,false,true,true,true,true,true,false,false,false,false,false,false]) (by kernel_rfl) rfl rfl rfl (fun K hK=>?_)
       go_simp
       have B2:Hid (Below U.heap.size U (W1.alloc (Obj.cells #[Value.int .i64 k] 3))):=(uh B1).alloc (uh B1).size _
       refine hK.out _ _ (fun _=>uh HS _ (uh B2)) ?_
       clear hK K
       have ep2:Hid ((W1.alloc (Obj.cells #[Value.int .i64 k] 3)).heap[W1.heap.size]?=some (.cells #[.int .i64 k] 3 (0,0))):=heap_alloc_new _ _
       have lp2:Hid (U.heap.size≤W1.heap.size):=(uh B1).size
       have eq1x:Hid ((W1.alloc (Obj.cells #[Value.int .i64 k] 3)).heap[V.heap.size]?=some (.cells #[.int .i64 k] 3 (0,0))):=(Below.heap_alloc _ _ _ (lt_of_heap (uh eq1))).trans (uh eq1)
       generalize W1.alloc (Obj.cells #[Value.int .i64 k] 3)=W2 at *
       refine anyBut_one (i:=10) (l':=#[true,true,true,true,true,true,true,true,true,true,true,true,true,true,true,true,false,false,false,false,false,false]) (by kernel_rfl) rfl rfl rfl (fun K hK=>?_)
       go_simp
       refine (refFresh_any _ _ _ _ _ _).mono ?_;rintro e W3 ⟨rfl,hbF⟩
       have B3:Hid (Below U.heap.size U W3):=(uh B2).trans (hbF.mono (uh B2).size)
       have eq1xc:Hid (W3.heap[V.heap.size]?=some (.cells #[.int .i64 k] 3 (0,0))):=(hbF.block _ (lt_of_heap (uh eq1x))).trans (uh eq1x)
       have ep2c:Hid (W3.heap[W1.heap.size]?=some (.cells #[.int .i64 k] 3 (0,0))):=(hbF.block _ (lt_of_heap (uh ep2))).trans (uh ep2)
       clear hbF
       go_wp2
       refine hK.out _ _ (fun _=>uh HS _ (uh B3)) ?_
       clear hK K
       try simp only [Act.put,List.setIfInBounds_toArray]
       refine anyBut_one (i:=16) (l':=#[true,true,true,true,true,true,true,true,true,true,true,true,true,true,true,true,true,false,false,false,false,false]) (by kernel_rfl) rfl rfl rfl (fun K hK=>?_)
       go_simp
       refine (refFresh_any _ _ _ _ _ _).mono ?_;rintro e W4 ⟨rfl,hbF⟩
       have B4:Hid (Below U.heap.size U W4):=(uh B3).trans (hbF.mono (uh B3).size)
       have eq1xcc:Hid (W4.heap[V.heap.size]?=some (.cells #[.int .i64 k] 3 (0,0))):=(hbF.block _ (lt_of_heap (uh eq1xc))).trans (uh eq1xc)
       have ep2cc:Hid (W4.heap[W1.heap.size]?=some (.cells #[.int .i64 k] 3 (0,0))):=(hbF.block _ (lt_of_heap (uh ep2c))).trans (uh ep2c)
       clear hbF
       go_wp2
       refine hK.out _ _ (fun _=>uh HS _ (uh B4)) ?_
       clear hK K
       try simp only [Act.put,List.setIfInBounds_toArray]
       refine anyBut_one (i:=17) (l':=#[true,true,true,true,true,true,true,true,true,true,true,true,true,true,true,true,true,true,false,false,false,false]) (by kernel_rfl) rfl rfl rfl (fun K hK=>?_)
       go_simp
       have BZ:Hid (Below U.heap.size U (W4.alloc (Obj.cells #[.int .i64 r.lo,.int .i64 a,.bool true,.slice (some ⟨W1.heap.size,0,none⟩) 1 1,.int .i64 (-1),.int .i64 0,.int .i64 0,.int .i64 0,.int .i64 0,.int .i64 a,.int .i64 r.hi,.bool true,.slice (some ⟨V.heap.size,0,none⟩) 1 1,.int .i64 (-1),.int .i64 0,.int .i64 0,.int .i64 0,.int .i64 0] 73))):=(uh B4).alloc (uh B4).size _
       refine hK.out _ _ (fun _=>uh HS _ (uh BZ)) ?_
       clear hK K
       have eZ:=hide (heap_alloc_new W4 (Obj.cells #[.int .i64 r.lo,.int .i64 a,.bool true,.slice (some ⟨W1.heap.size,0,none⟩) 1 1,.int .i64 (-1),.int .i64 0,.int .i64 0,.int .i64 0,.int .i64 0,.int .i64 a,.int .i64 r.hi,.bool true,.slice (some ⟨V.heap.size,0,none⟩) 1 1,.int .i64 (-1),.int .i64 0,.int .i64 0,.int .i64 0,.int .i64 0] 73))
       have e1:Hid ((W4.alloc (Obj.cells #[.int .i64 r.lo,.int .i64 a,.bool true,.slice (some ⟨W1.heap.size,0,none⟩) 1 1,.int .i64 (-1),.int .i64 0,.int .i64 0,.int .i64 0,.int .i64 0,.int .i64 a,.int .i64 r.hi,.bool true,.slice (some ⟨V.heap.size,0,none⟩) 1 1,.int .i64 (-1),.int .i64 0,.int .i64 0,.int .i64 0,.int .i64 0] 73)).heap[W1.heap.size]?=some (.cells #[.int .i64 k] 3 (0,0))):=(Below.heap_alloc _ _ _ (lt_of_heap (uh ep2cc))).trans (uh ep2cc)
       have e2:Hid ((W4.alloc (Obj.cells #[.int .i64 r.lo,.int .i64 a,.bool true,.slice (some ⟨W1.heap.size,0,none⟩) 1 1,.int .i64 (-1),.int .i64 0,.int .i64 0,.int .i64 0,.int .i64 0,.int .i64 a,.int .i64 r.hi,.bool true,.slice (some ⟨V.heap.size,0,none⟩) 1 1,.int .i64 (-1),.int .i64 0,.int .i64 0,.int .i64 0,.int .i64 0] 73)).heap[V.heap.size]?=some (.cells #[.int .i64 k] 3 (0,0))):=(Below.heap_alloc _ _ _ (lt_of_heap (uh eq1xcc))).trans (uh eq1xcc)
       generalize W4.alloc (Obj.cells #[.int .i64 r.lo,.int .i64 a,.bool true,.slice (some ⟨W1.heap.size,0,none⟩) 1 1,.int .i64 (-1),.int .i64 0,.int .i64 0,.int .i64 0,.int .i64 0,.int .i64 a,.int .i64 r.hi,.bool true,.slice (some ⟨V.heap.size,0,none⟩) 1 1,.int .i64 (-1),.int .i64 0,.int .i64 0,.int .i64 0,.int .i64 0] 73)=Z at *
       refine anyBut_one (i:=18) (l':=#[true,true,true,true,true,true,true,true,true,true,true,true,true,true,true,true,true,true,true,false,false,false]) (by kernel_rfl) rfl rfl rfl (fun K hK=>?_)
       refine wp_append_lies _ _ _ _ rfl 0 73 i0 _ 9 88 Tryz.underlying75 hi0 hz0 hz1 hz2 rfl (by omega) _ rs.length (rowRf (rs.set k { r with op:=false })) rfl (uh HRow _ (uh BZ)) ⟨W4.heap.size,0,none⟩ 2 2 (rfCells ⟨r.lo,a,true,[(k:Int)],.slice (some ⟨W1.heap.size,0,none⟩) 1 1,-1,0,0,0,0⟩ ++ rfCells ⟨a,r.hi,true,[(k:Int)],.slice (some ⟨V.heap.size,0,none⟩) 1 1,-1,0,0,0,0⟩) rfl rfl (World.news_of_block (uh eZ)) (by intro u hu;rcases List.mem_append.1 hu with h | h <;> exact rf_one _ ⟨_,_,_,rfl⟩ u h) (by omega) (by unfold maxLen;omega) (by omega) (Nat.zero_le _) Z.heap.size rfl ?_
       intro g3 cap3 w3 hown3 hgrow3 hat3 hlt3
       have HS3:(fun w'=>w'.cell? ⟨w.heap.size,0,none⟩=some (.int .i64 r.lo)∧w'.cell? ⟨w.heap.size,1,none⟩=some (.int .i64 r.hi)∧w'.cell? ⟨yb,7,none⟩=some (.slice (some ⟨sb,0,none⟩) rs.length cap)) w3:=⟨hgrow3.cell (uh HS _ (uh BZ)).1 (uh HN1),hgrow3.cell (uh HS _ (uh BZ)).2.1 (uh HN1),hgrow3.cell (uh HS _ (uh BZ)).2.2 (uh HN2)⟩
       have z7:=HS3.2.2
       have zf:w3.frozen? ⟨yb,7,none⟩=false:=(hgrow3.frozen_far _ (Nat.lt_of_lt_of_le hybU (uh BZ).size) (uh HN2)).trans (((uh BZ).frozen hybU).trans fy7)
       have HF3:=hide (uh HFin Z w3 W1.heap.size V.heap.size g3 cap3 (uh BZ) (uh e1) (uh e2) (uh lp2) (uh lq1) hown3 hgrow3 hat3)
       have HS4:=hide HS3
       clear hown3 hgrow3 hat3 hlt3 HS3
       refine hK.out _ _ (fun _=>uh HS4) ?_
       clear hK K
       simp only [Act.put,List.setIfInBounds_toArray]
       refine anyBut_one (i:=19) (l':=#[true,true,true,true,true,true,true,true,true,true,true,true,true,true,true,true,true,true,true,true,false,false]) (by kernel_rfl) rfl rfl rfl (fun K hK=>?_)
       go_simp
       refine hK.out _ _ (fun _=>uh HS4) ?_
       clear hK K
       refine anyBut_one (i:=20) (l':=#[true,true,true,true,true,true,true,true,true,true,true,true,true,true,true,true,true,true,true,true,true,false]) (by kernel_rfl) rfl rfl rfl (fun K hK=>?_)
       go_simp
       refine hK.out _ _ (fun _=>uh HS4) ?_
       clear hK K
       refine anyBut_one (i:=21) (l':=#[true,true,true,true,true,true,true,true,true,true,true,true,true,true,true,true,true,true,true,true,true,true]) (by kernel_rfl) rfl rfl rfl (fun K hK=>?_)
       go_simp
       refine hK.out _ _ (fun h=>absurd rfl h) (anyBut_done (by kernel_rfl) ?_ _)
       clear hK K
       go_wp2
       go_ret2
       exact uh HF3
 ·have d:decide (0≤n∧n<rs.length)=false:=by simp;omega
  rw [d] at HTh
  have HE:=hide (uh HSame 5 w (Below.refl _ _) (by unfold aSplit;rw [if_neg (by rw [absR_len];exact hn)]))
  clear h hf hcell d HSame hn
  go_enter Tryz.func101,Tryz.ntmps101
  go_wp2_with (go_at_call 49;refine (uh HTh).mono ?_;rintro e w' ⟨rfl,rfl⟩)
  go_ret2
  exact uh HE
end Go.Proofs.YtpnkmnmchdabkaaGreat
