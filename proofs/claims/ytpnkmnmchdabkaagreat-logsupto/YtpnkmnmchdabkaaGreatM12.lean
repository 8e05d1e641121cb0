import Derived.Test.YtpnkmnmchdabkaaGreatRefMerge
import Derived.Test.YtpnkmnmchdabkaaGreatM01
namespace Go.Proofs.YtpnkmnmchdabkaaGreat
open Go.RowKit
attribute [local go_sem ↓] Go.wp_at_zero Go.wp_at_succ
theorem info109:(Tryz.prog.info? 84).map (fun i=>(i.zero,i.size,i.bytes))=some (some (.agg #[.slice none 0 0,.slice none 0 0]),2,48):=by kernel_rfl
set_option maxRecDepth 100000 in
set_option maxHeartbeats 1000000 in
theorem refNew_bad (C:Cfg) (w:World) (hv:validB C.a C.l C.b C.n C.s C.t=false) :
 Calls Tryz.prog 9 #[.agg C.arr] w fun e w'=>e=.returned (.tuple #[.pointer none,.int .i64 1])∧Below w.heap.size w w':=by
 have HV:=fun w=>hide (refProper_any C w)
 rw [hv] at HV
 unfold Cfg.arr at *
 go_enter Tryz.func9,Tryz.ntmps9
 go_wp2_with (go_at_call 18;refine (uh (HV _)).mono ?_;rintro e w1 ⟨rfl,hb⟩)
 go_ret2
 exact ⟨rfl,((Below.refl _ w).alloc (Nat.le_refl _) _).trans (hb.mono (by simp))⟩
def rfirst:Rf:=⟨0,256,true,[],.slice none 0 0,-1,0,0,0,0⟩
def rowWk:Nat→List Value
 | 0=>[]
 | n+1=>rowWk n ++ [.slice none 0 0,.slice none 0 0]
structure NewAt (w:World) (C:Cfg) (yb g:Nat) (n:Nat) (wv:Value) (w':World):Prop where
 blk:w'.heap[yb]?=some (.cells (refArr C 0 (.slice (some ⟨g,0,none⟩) 1 1) wv (.slice none 0 0) (.slice none 0 0)) 80 (0,0))
 row:w'.heap[g]?=some (.cells (rfCells rfirst).toArray 73 (0,0))
 wk:w'.ownsRow (yb+1) 84 2 wv n (rowWk n)
 below:Below w.heap.size w w'
 conf:w'.cell? ⟨w.heap.size,0,none⟩=some (.int .i64 C.a)
 g1:w.heap.size<g
 g2:g<yb
set_option maxRecDepth 100000 in
set_option maxHeartbeats 2000000 in
theorem refNew_good (C:Cfg) (w:World) (hv:validB C.a C.l C.b C.n C.s C.t=true) (hC:1≤C.a∧C.a≤4) :
 Calls Tryz.prog 9 #[.agg C.arr] w fun e w'=>∃yb g wv,e=.returned (.tuple #[.pointer (some ⟨yb,0,none⟩),.int .i64 0])∧NewAt w C yb g C.a.toNat wv w':=by
 have HV:=fun w=>hide (refProper_any C w)
 rw [hv] at HV
 unfold Cfg.arr at *
 clear hv
 obtain ⟨i0,hi0,hz0,hz1,hz2⟩:=info_parts info109
 go_enter Tryz.func9,Tryz.ntmps9
 go_wp2_with (go_at_call 18;refine (uh (HV _)).mono ?_;rintro e w1 ⟨rfl,hb⟩)
 obtain ⟨h1,hB1,hsz⟩:=below_new hb
 clear hb HV
 have k0:=cell_of h1 0
 have k1:=cell_of h1 1
 have k2:=cell_of h1 2
 have k3:=cell_of h1 3
 have k4:=cell_of h1 4
 have k5:=cell_of h1 5
 simp at k0 k1 k2 k3 k4 k5
 clear h1
 go_region_held3 (fun w'=>w'.cell? ⟨w.heap.size,0,none⟩=some (.int .i64 C.a)∧w'.cell? ⟨w.heap.size,1,none⟩=some (.int .i64 C.l)∧w'.cell? ⟨w.heap.size,2,none⟩=some (.int .i64 C.b)∧w'.cell? ⟨w.heap.size,3,none⟩=some (.int .i64 C.n)∧w'.cell? ⟨w.heap.size,4,none⟩=some (.int .i64 C.s)∧w'.cell? ⟨w.heap.size,5,none⟩=some (.int .i64 C.t))
  (first | go_keep | (go_split_ands;refine ⟨?_,?_,?_,?_,?_,?_⟩ <;> (rw [hb2.cell (by simp;omega)];assumption)))
  ((go_at_call 19;refine (refFresh_any _ _ _ _ _ _).mono ?_;rintro e w2 ⟨rfl,hb2⟩))
 have hs2:=hb2.size
 have hbb:Below w.heap.size w w2:=hB1.drew.trans (hb2.mono (show w.heap.size≤w1.heap.size by omega))
 have kk:w2.cell? ⟨w.heap.size,0,none⟩=some (.int .i64 C.a):=(hb2.cell (p:=⟨w.heap.size,0,none⟩) (by show w.heap.size<w1.heap.size;omega)).trans k0
 have hlt2:w.heap.size<w2.heap.size:=by simp at hs2;omega
 have HN0:Hid (NewAt w C (w2.heap.size+1) w2.heap.size 0 (.slice none 0 0) ((w2.alloc (.cells #[.int .i64 0,.int .i64 256,.bool true,.slice none 0 0,.int .i64 (-1),.int .i64 0,.int .i64 0,.int .i64 0,.int .i64 0] 73)).alloc (.cells #[.int .i64 C.a,.int .i64 C.l,.int .i64 C.b,.int .i64 C.n,.int .i64 C.s,.int .i64 C.t,.int .i64 0,.slice (some ⟨w2.heap.size,0,none⟩) 1 1,.slice none 0 0,.slice none 0 0,.slice none 0 0] 80))):=by
  refine ⟨?_,?_,World.ownsRow_nil _ _ _ _,(hbb.alloc hbb.size _).alloc (by simp;omega) _,?_,hlt2,by omega⟩
  ·have:=heap_alloc_new (w2.alloc (.cells #[.int .i64 0,.int .i64 256,.bool true,.slice none 0 0,.int .i64 (-1),.int .i64 0,.int .i64 0,.int .i64 0,.int .i64 0] 73)) (.cells #[.int .i64 C.a,.int .i64 C.l,.int .i64 C.b,.int .i64 C.n,.int .i64 C.s,.int .i64 C.t,.int .i64 0,.slice (some ⟨w2.heap.size,0,none⟩) 1 1,.slice none 0 0,.slice none 0 0,.slice none 0 0] 80)
   rw [show (w2.alloc (.cells #[.int .i64 0,.int .i64 256,.bool true,.slice none 0 0,.int .i64 (-1),.int .i64 0,.int .i64 0,.int .i64 0,.int .i64 0] 73)).heap.size=w2.heap.size+1 by simp] at this
   exact this
  ·rw [Below.heap_alloc _ _ _ (by simp)];exact heap_alloc_new w2 _
  ·rw [World.cell?_of_block (w:=w2) ((Below.heap_alloc _ _ _ (by simp;omega)).trans (Below.heap_alloc _ _ _ (by simpa using hlt2)))];exact kk
 generalize (w2.alloc (.cells #[.int .i64 0,.int .i64 256,.bool true,.slice none 0 0,.int .i64 (-1),.int .i64 0,.int .i64 0,.int .i64 0,.int .i64 0] 73)).alloc (.cells #[.int .i64 C.a,.int .i64 C.l,.int .i64 C.b,.int .i64 C.n,.int .i64 C.s,.int .i64 C.t,.int .i64 0,.slice (some ⟨w2.heap.size,0,none⟩) 1 1,.slice none 0 0,.slice none 0 0,.slice none 0 0] 80)=V at *
 generalize w2.heap.size+1=yb at *
 clear k0 k1 k2 k3 k4 k5 hb2 hbb hs2 hB1 hsz kk hlt2
 go_wp2
 go_loopw [6] (fun i wr=>∃(j:Nat) (wv:Value),(j:Int)≤C.a∧i=.int .i64 j∧NewAt w C yb w2.heap.size j wv wr) (fun i _=>C.a.toNat - (intOf i).toNat)
 case atStart=>exact ⟨0,_,by omega,rfl,uh HN0⟩
 case round =>
  obtain ⟨j,wv,hj,rfl,hN⟩:=hrel
  have c0:=hN.conf
  obtain ⟨pa,pc,rfl⟩:=ownsRow_len hN.wk
  have c8:wr.cell? ⟨yb,8,none⟩=some (.slice pa j pc):=cell_of hN.blk 8
  have f8:=frozen_of hN.blk 8
  have hyb:=lt_of_heap hN.blk
  have hgl:=lt_of_heap hN.row
  have hwl:=hN.below.size
  have HN:=hide hN
  clear hN HN0
  by_cases hlt:(j:Int)<C.a
  ·have HGL:=hide (fun q hq=>(uh HN).wk.lt q hq)
   go_wp2_with (at_builtin;go_must (refine wpList_append_lies _ rfl _ _ _ rfl (yb+1) 84 i0 _ 2 48 Tryz.underlying76 hi0 hz0 hz1 hz2 rfl (by omega) _ j (rowWk j) rfl ?own ⟨wr.heap.size,0,none⟩ 1 1 [.slice none 0 0,.slice none 0 0] rfl rfl ?news ?one (by omega) ?h63 ?bytes ?base (wr.heap.size+1) ?hH ?next))
   case own=>exact (uh HN).wk.alloc _
   case news=>exact World.news_of_block (cs:=#[.slice none 0 0,.slice none 0 0]) (heap_alloc_new wr _)
   case one=>simp [Value.oneCell']
   case h63=>unfold maxLen;omega
   case bytes=>omega
   case base=>simp;omega
   case hH=>simp
   case next =>
    intro g3 cap3 w3 hown3 hgrow3 hat3 hlt3
    have nb:∀q,q≤yb→some q≠(Value.slice pa j pc).ownBlock:=fun q hq e=>by have:=(uh HGL q e.symm).1;omega
    have z8:w3.cell? ⟨yb,8,none⟩=some (.slice pa j pc):=(hgrow3.cell_far _ (by simp;omega) (nb yb (Nat.le_refl _))).trans ((World.cell?_of_block (w:=wr) (Below.heap_alloc _ _ _ hyb)).trans c8)
    have zf:w3.frozen? ⟨yb,8,none⟩=false:=(hgrow3.frozen_far _ (by simp;omega) (nb yb (Nat.le_refl _))).trans ((World.frozen?_of_block (w:=wr) (Below.heap_alloc _ _ _ hyb)).trans f8)
    have hg3:yb+1≤g3:=(hown3.lt g3 rfl).1
    have HNew:Hid (NewAt w C yb w2.heap.size (j+1) (.slice (some ⟨g3,0,none⟩) (j+1) cap3) (w3.setCell ⟨yb,8,none⟩ (.slice (some ⟨g3,0,none⟩) (j+1) cap3))):=by
     have hg:=(uh HN).g2
     have hg1:=(uh HN).g1
     have blkO:∀q,q≤yb→q<wr.heap.size→w3.heap[q]?=wr.heap[q]?:=fun q hq hl=>(hgrow3.block q (by simp;omega) (nb q hq)).trans (Below.heap_alloc _ _ _ hl)
     refine ⟨?_,?_,?_,?_,?_,hg1,hg⟩
     ·have hb:w3.heap[yb]?=_:=(blkO yb (Nat.le_refl _) hyb).trans (uh HN).blk
      rw [heap_setCell_same hb];rfl
     ·rw [Below.heap_setCell _ _ _ _ (by show w2.heap.size≠yb;omega),blkO _ (by omega) hgl];exact (uh HN).row
     ·refine ownsRow_of_block hown3 fun q hq=>Below.heap_setCell _ _ _ _ ?_
      simp [Value.ownBlock] at hq
      show q≠yb
      omega
     ·refine ⟨?_,?_,?_,?_,?_⟩
      ·show w3.os=w.os;rw [hgrow3.os];exact (uh HN).below.os
      ·show w3.tape=w.tape;rw [hgrow3.tape];exact (uh HN).below.tape
      ·show w3.output=w.output;rw [hgrow3.output];exact (uh HN).below.output
      ·have:=hgrow3.size;simp [World.setCell] at this ⊢;omega
      ·intro q hq
       rw [Below.heap_setCell _ _ _ _ (by show q≠yb;omega),blkO q (by omega) (by omega)]
       exact (uh HN).below.block q hq
     ·rw [World.cell?_of_block (w:=wr) (a:=⟨w.heap.size,0,none⟩) ((Below.heap_setCell _ _ _ _ (by show w.heap.size≠yb;omega)).trans (blkO w.heap.size (by omega) (by omega)))]
      exact c0
    clear hown3 hgrow3 hat3 nb hg3
    go_wp2
    go_roundw
    case rel=>exact ⟨j+1,_,by omega,by go_num,uh HNew⟩
    case measure=>simp [intOf];omega
  ·have hja:Hid (j=C.a.toNat):=by (unfold Hid;omega)
   go_wp2
   go_ret2
   have hq:=uh HN
   rw [uh hja] at hq
   exact ⟨yb,by rfl,w2.heap.size,_,hq⟩
set_option maxRecDepth 100000 in
set_option maxHeartbeats 1000000 in
theorem mark_any (w:World) (wb:Nat) (last:Int) (c7:w.cell? ⟨wb,7,none⟩=some (.int .i64 last)) (f7:w.frozen? ⟨wb,7,none⟩=false) (h1:-9000000000000000000≤last) (h2:last≤0) :
 Calls Tryz.prog 71 #[.pointer (some ⟨wb,0,none⟩)] w fun e w'=>e=.returned (.int .i64 (last - 1))∧w.setCell ⟨wb,7,none⟩ (.int .i64 (last - 1))=w':=by
 go_enter Tryz.func71,Tryz.ntmps71
 go_wp2
 go_ret
 exact ⟨rfl,rfl⟩
set_option maxRecDepth 100000 in
set_option maxHeartbeats 1000000 in
theorem sameInts_any (w:World) (va vb:Value) (xs ys:List Int) (ha:w.ownsRow 0 3 1 va xs.length (xs.map (Value.int .i64))) (hb:w.ownsRow 0 3 1 vb ys.length (ys.map (Value.int .i64))) (hx:xs.length≤2000000) :
 Calls Tryz.prog 33 #[va,vb] w fun e w'=>e=.returned (.bool (decide (xs=ys)))∧Below w.heap.size w w':=by
 obtain ⟨pa,ca,rfl⟩:=ownsRow_len ha
 obtain ⟨pb,cb,rfl⟩:=ownsRow_len hb
 by_cases hl:xs.length=ys.length
 ·have HA:Hid (∀i x,xs[i]?=some x→∃g,pa=some ⟨g,0,none⟩∧g<w.heap.size∧w.cell? ⟨g,i,none⟩=some (.int .i64 x)):=by
   intro i x hi
   have hlt:=(List.getElem?_eq_some_iff.1 hi).1
   obtain ⟨g,cap,cur,hv,_,hg,_,_,_,ht⟩:=ownsRow_shape ha (by omega)
   injection hv with e1
   refine ⟨g,e1,lt_of_heap hg,?_⟩
   have:=ha.cells (g:=g) (by rw [e1];rfl) i (.int .i64 x) (by simp [hi])
   rwa [show (⟨g,0,none⟩:Addr).add i=⟨g,i,none⟩ by unfold Addr.add;split <;> simp_all] at this
  have HB:Hid (∀i x,ys[i]?=some x→∃g,pb=some ⟨g,0,none⟩∧g<w.heap.size∧w.cell? ⟨g,i,none⟩=some (.int .i64 x)):=by
   intro i x hi
   have hlt:=(List.getElem?_eq_some_iff.1 hi).1
   obtain ⟨g,cap,cur,hv,_,hg,_,_,_,ht⟩:=ownsRow_shape hb (by omega)
   injection hv with e1
   refine ⟨g,e1,lt_of_heap hg,?_⟩
   have:=hb.cells (g:=g) (by rw [e1];rfl) i (.int .i64 x) (by simp [hi])
   rwa [show (⟨g,0,none⟩:Addr).add i=⟨g,i,none⟩ by unfold Addr.add;split <;> simp_all] at this
  have HL:=hide hl
  rw [←hl]
  clear ha hb hl
  go_enter Tryz.func33,Tryz.ntmps33
  go_wp2
  go_loopw [5] (fun i wr=>∃j:Nat,j≤xs.length∧i=.int .i64 j∧xs.take j=ys.take j∧Below w.heap.size w wr) (fun i _=>xs.length - (intOf i).toNat)
  case atStart=>exact ⟨0,Nat.zero_le _,rfl,by simp,Below.refl _ _⟩
  case round =>
   obtain ⟨j,hj,rfl,heq,hB⟩:=hrel
   have HE:=hide heq
   have HW:=hide hB
   clear heq hB
   by_cases hlt:j<xs.length
   ·obtain ⟨x,hx1⟩:∃x,xs[j]?=some x:=⟨xs[j],List.getElem?_eq_getElem hlt⟩
    obtain ⟨y,hy1⟩:∃y,ys[j]?=some y:=⟨ys[j]'(by have:=uh HL;omega),List.getElem?_eq_getElem _⟩
    obtain ⟨g,rfl,hg,hc⟩:=uh HA j x hx1
    obtain ⟨g',rfl,hg',hc'⟩:=uh HB j y hy1
    have k1:=((uh HW).cell (p:=⟨g,j,none⟩) hg).trans hc
    have k2:=((uh HW).cell (p:=⟨g',j,none⟩) hg').trans hc'
    have HX:=hide hx1
    have HY:=hide hy1
    clear hc hc' hx1 hy1 HA HB
    by_cases hxy:x=y
    ·have hne:(x != y)=false:=by rw [hxy];simp
     have HQ:=hide hxy
     clear hxy
     go_wp2
     go_quiet (fail)
     go_wp2
     go_roundw
     case rel =>
      refine ⟨j+1,by omega,by go_num,?_,?_⟩
      ·have e1:=(List.getElem?_eq_some_iff.1 (uh HX))
       have e2:=(List.getElem?_eq_some_iff.1 (uh HY))
       rw [List.take_succ_eq_append_getElem e1.1,List.take_succ_eq_append_getElem e2.1,uh HE,e1.2,e2.2,uh HQ]
      ·exact (uh HW).trans ⟨rfl,rfl,rfl,Nat.le_refl _,fun _ _=>rfl⟩
     case measure=>simp [intOf];omega
    ·have hne:(x != y)=true:=by rw [bne_iff_ne];exact hxy
     have HQ:Hid (decide (xs=ys)=false):=by
      refine hide ?_
      rw [decide_eq_false_iff_not]
      rintro rfl
      have h1:=uh HX
      rw [uh HY] at h1
      injection h1 with h1
      exact hxy h1.symm
     clear hxy
     go_wp2
     go_quiet (fail)
     go_wp2
     go_ret
     exact ⟨ret_bool (by rw [uh HQ]),(uh HW).trans ⟨rfl,rfl,rfl,Nat.le_refl _,fun _ _=>rfl⟩⟩
   ·have HQ:Hid (decide (xs=ys)=true):=by
     refine hide ?_
     rw [decide_eq_true_eq]
     have h1:=uh HE
     rwa [List.take_of_length_le (by omega),List.take_of_length_le (by have:=uh HL;omega)] at h1
    go_wp2
    go_ret
    exact ⟨ret_bool (by rw [uh HQ]),uh HW⟩
 ·have hne:((xs.length:Int) != (ys.length:Int))=true:=by rw [bne_iff_ne];omega
  have HQ:Hid (decide (xs=ys)=false):=by
   refine hide ?_
   rw [decide_eq_false_iff_not]
   rintro rfl
   exact hl rfl
  clear ha hb hl
  go_enter Tryz.func33,Tryz.ntmps33
  go_wp2
  go_ret
  exact ⟨ret_bool (by rw [uh HQ]),Below.refl _ _⟩
structure Ke where
 a:Option Addr
 n:Nat
 cap:Nat
 m:Int
def entV (x:Ke):Value:=.slice x.a x.n x.cap
def entM (x:Ke):Value:=.int .i64 x.m
def HoldsAll (w:World) (size:Nat) (pat:Int→List Value) (x:Ke):Prop:=∀k,k<x.n→∃b,x.a=some ⟨b,0,none⟩∧b<w.heap.size∧∀j u,(pat x.m)[j]?=some u→w.cell? ⟨b,k*size+j,none⟩=some u
structure KRows (w:World) (te:TypeId) (size:Nat) (pat:Int→List Value) (v mv:Value) (L:List Ke):Prop where
 row:w.ownsRow 0 te 1 v L.length (L.map entV)
 ms:w.ownsRow 0 3 1 mv L.length (L.map entM)
 all:∀x ∈ L,HoldsAll w size pat x∧x.n≤1000000000
 len:L.length≤1000000000
theorem row_at {w:World} {te:TypeId} {v:Value} {n:Nat} {xs:List Value} (h:w.ownsRow 0 te 1 v n xs) (i:Nat) (u:Value) (hi:xs[i]?=some u):∃g cap,v=.slice (some ⟨g,0,none⟩) n cap∧g<w.heap.size∧w.cell? ⟨g,i,none⟩=some u:=by
 have hlt:=(List.getElem?_eq_some_iff.1 hi).1
 have h1:=h.1
 obtain ⟨g,cap,cur,hv,_,hg,_,_,_,ht⟩:=ownsRow_shape h (by omega)
 refine ⟨g,cap,hv,lt_of_heap hg,?_⟩
 have:=h.cells (g:=g) (by rw [hv];rfl) i u hi
 rwa [show (⟨g,0,none⟩:Addr).add i=⟨g,i,none⟩ by unfold Addr.add;split <;> simp_all] at this
theorem KRows.at {w:World} {te:TypeId} {size:Nat} {pat:Int→List Value} {v mv:Value} {L:List Ke} (h:KRows w te size pat v mv L) (i:Nat) (x:Ke) (hi:L[i]?=some x) :
 ∃g c g' c',v=.slice (some ⟨g,0,none⟩) L.length c∧g<w.heap.size∧w.cell? ⟨g,i,none⟩=some (.slice x.a x.n x.cap)∧mv=.slice (some ⟨g',0,none⟩) L.length c'∧g'<w.heap.size∧w.cell? ⟨g',i,none⟩=some (.int .i64 x.m)∧HoldsAll w size pat x∧x.n≤1000000000:=by
 obtain ⟨g,c,e1,e2,e3⟩:=row_at h.row i (entV x) (by simp [hi])
 obtain ⟨g',c',e4,e5,e6⟩:=row_at h.ms i (entM x) (by simp [hi])
 have hx:=h.all x (List.mem_of_getElem? hi)
 exact ⟨g,c,g',c',e1,e2,e3,e4,e5,e6,hx.1,hx.2⟩
def patI (m:Int):List Value:=[.int .i64 m]
def patS (m:Int):List Value:=[.int .i64 m,.int .i64 0,.bool false,.slice none 0 0,.int .i64 0]
def patH (m:Int):List Value:=[.int .i64 m,.int .i64 0,.int .i64 0,.int .i64 0]
set_option maxRecDepth 100000 in
set_option maxHeartbeats 4000000 in
theorem kept_any {w:World} {wb:Nat} {sv iv hv m1 m2 m3:Value} {Ls Li Lh:List Ke} (hwb:wb<w.heap.size) (hS:KRows w 98 5 patS sv m2 Ls) (hI:KRows w 34 1 patI iv m1 Li) (hH:KRows w 81 4 patH hv m3 Lh)
 (c1:w.cell? ⟨wb,1,none⟩=some sv) (c2:w.cell? ⟨wb,2,none⟩=some iv) (c3:w.cell? ⟨wb,3,none⟩=some hv) (c4:w.cell? ⟨wb,4,none⟩=some m1) (c5:w.cell? ⟨wb,5,none⟩=some m2) (c6:w.cell? ⟨wb,6,none⟩=some m3) :
 Calls Tryz.prog 11 #[.pointer (some ⟨wb,0,none⟩)] w fun e w'=>e=.returned (.bool true)∧Below w.heap.size w w':=by
 obtain ⟨ia,ic,rfl⟩:=ownsRow_len hI.row
 obtain ⟨sa,sc,rfl⟩:=ownsRow_len hS.row
 obtain ⟨ha,hc,rfl⟩:=ownsRow_len hH.row
 obtain ⟨ia',ic',rfl⟩:=ownsRow_len hI.ms
 obtain ⟨sa',sc',rfl⟩:=ownsRow_len hS.ms
 obtain ⟨ha',hc',rfl⟩:=ownsRow_len hH.ms
 have hlI:=hI.len
 have hlS:=hS.len
 have hlH:=hH.len
 have HI:=hide hI
 have HS:=hide hS
 have HH:=hide hH
 clear hI hS hH
 go_enter Tryz.func11,Tryz.ntmps11
 go_wp2
 go_loopw [3] (fun i wr=>∃j:Nat,j≤Li.length∧i=.int .i64 j∧Below w.heap.size w wr) (fun i _=>Li.length - (intOf i).toNat)
 case atStart=>exact ⟨0,Nat.zero_le _,rfl,Below.refl _ _⟩
 case round =>
  obtain ⟨j,hj,rfl,hB⟩:=hrel
  have k2:=(hB.cell (p:=⟨wb,2,none⟩) hwb).trans c2
  have HB:=hide hB
  clear hB
  by_cases hlt:j<Li.length
  ·obtain ⟨x,hx⟩:∃x,Li[j]?=some x:=⟨Li[j],List.getElem?_eq_getElem hlt⟩
   obtain ⟨g,cc,g',cc',e1,hg,hc1,e2,hg',hc2,hall,hxn⟩:=(uh HI).at j x hx
   injection e1 with e1 e1'
   injection e2 with e2 e2'
   subst e1 e2
   have HX:=hide hall
   clear hall hx e1' e2'
   go_wp2
   go_loopw [4] (fun i wq=>∃t:Nat,t≤x.n∧i=.int .i64 t∧Below w.heap.size w wq) (fun i _=>x.n - (intOf i).toNat)
   case atStart=>exact ⟨0,Nat.zero_le _,rfl,uh HB⟩
   case round =>
    obtain ⟨t,ht,rfl,hBq⟩:=hrel
    have q2:=(hBq.cell (p:=⟨wb,2,none⟩) hwb).trans c2
    have q4:=(hBq.cell (p:=⟨wb,4,none⟩) hwb).trans c4
    have qg:=(hBq.cell (p:=⟨g,j,none⟩) hg).trans hc1
    have qm:=(hBq.cell (p:=⟨g',j,none⟩) hg').trans hc2
    by_cases hlt2:t<x.n
    ·obtain ⟨b,hb1,hb2,hb3⟩:=uh HX t hlt2
     have qb:=(hBq.cell (p:=⟨b,t,none⟩) hb2).trans (by simpa using hb3 0 (.int .i64 x.m) rfl)
     rw [hb1] at qg
     have HQ:=hide hBq
     clear hb3 hBq k2 hb1
     go_wp2
     go_quiet (fail)
     go_wp2
     go_roundw
     case rel=>exact ⟨t+1,by omega,by go_num,(uh HQ).trans ⟨rfl,rfl,rfl,Nat.le_refl _,fun _ _=>rfl⟩⟩
     case measure=>simp [intOf];omega
    ·have HQ:=hide hBq
     clear hBq k2
     go_wp2
     go_roundw
     case rel=>exact ⟨j+1,by omega,by go_num,uh HQ⟩
     case measure=>simp [intOf];omega
  ·go_wp2
   clear k2
   go_loopw [5] (fun i wr=>∃j:Nat,j≤Ls.length∧i=.int .i64 j∧Below w.heap.size w wr) (fun i _=>Ls.length - (intOf i).toNat)
   case atStart=>exact ⟨0,Nat.zero_le _,rfl,uh HB⟩
   case round =>
    obtain ⟨j,hj,rfl,hB⟩:=hrel
    have k2:=(hB.cell (p:=⟨wb,1,none⟩) hwb).trans c1
    clear HB
    have HB:=hide hB
    clear hB
    by_cases hlt:j<Ls.length
    ·obtain ⟨x,hx⟩:∃x,Ls[j]?=some x:=⟨Ls[j],List.getElem?_eq_getElem hlt⟩
     obtain ⟨g,cc,g',cc',e1,hg,hc1,e2,hg',hc2,hall,hxn⟩:=(uh HS).at j x hx
     injection e1 with e1 e1'
     injection e2 with e2 e2'
     subst e1 e2
     have HX:=hide hall
     clear hall hx e1' e2'
     go_wp2
     go_loopw [6] (fun i wq=>∃t:Nat,t≤x.n∧i=.int .i64 t∧Below w.heap.size w wq) (fun i _=>x.n - (intOf i).toNat)
     case atStart=>exact ⟨0,Nat.zero_le _,rfl,uh HB⟩
     case round =>
      obtain ⟨t,ht,rfl,hBq⟩:=hrel
      have q2:=(hBq.cell (p:=⟨wb,1,none⟩) hwb).trans c1
      have q4:=(hBq.cell (p:=⟨wb,5,none⟩) hwb).trans c5
      have qg:=(hBq.cell (p:=⟨g,j,none⟩) hg).trans hc1
      have qm:=(hBq.cell (p:=⟨g',j,none⟩) hg').trans hc2
      by_cases hlt2:t<x.n
      ·obtain ⟨b,hb1,hb2,hb3⟩:=uh HX t hlt2
       have qb0:=(hBq.cell (p:=⟨b,t*5,none⟩) hb2).trans (by simpa using hb3 0 (.int .i64 x.m) rfl)
       have qb1:=(hBq.cell (p:=⟨b,t*5+1,none⟩) hb2).trans (hb3 1 (.int .i64 0) rfl)
       have qb2:=(hBq.cell (p:=⟨b,t*5+2,none⟩) hb2).trans (hb3 2 (.bool false) rfl)
       have qb3:=(hBq.cell (p:=⟨b,t*5+3,none⟩) hb2).trans (hb3 3 (.slice none 0 0) rfl)
       have qb4:=(hBq.cell (p:=⟨b,t*5+4,none⟩) hb2).trans (hb3 4 (.int .i64 0) rfl)
       rw [hb1] at qg
       have hwl:=hBq.size
       have n1:wb<wr.heap.size:=by omega
       have n2:g'<wr.heap.size:=by omega
       have HQ:=hide hBq
       clear hb3 hBq k2 hb1
       go_wp2
       have hnew:=heap_alloc_new wr (.cells #[.int .i64 x.m,.int .i64 0,.bool false,.slice none 0 0,.int .i64 0] 100)
       have HZ:Hid (Below w.heap.size w (wr.alloc (.cells #[.int .i64 x.m,.int .i64 0,.bool false,.slice none 0 0,.int .i64 0] 100))):=(uh HQ).alloc hwl _
       have z5:(wr.alloc (.cells #[.int .i64 x.m,.int .i64 0,.bool false,.slice none 0 0,.int .i64 0] 100)).cell? ⟨wb,5,none⟩=_:=(World.cell?_of_block (w:=wr) (Below.heap_alloc _ _ _ n1)).trans q4
       have zm:(wr.alloc (.cells #[.int .i64 x.m,.int .i64 0,.bool false,.slice none 0 0,.int .i64 0] 100)).cell? ⟨g',j,none⟩=_:=(World.cell?_of_block (w:=wr) (Below.heap_alloc _ _ _ n2)).trans qm
       generalize wr.alloc (.cells #[.int .i64 x.m,.int .i64 0,.bool false,.slice none 0 0,.int .i64 0] 100)=Z at *
       have z0:=cell_of hnew 0
       have z1:=cell_of hnew 1
       have z2:=cell_of hnew 2
       have z3:=cell_of hnew 3
       have z4:=cell_of hnew 4
       simp at z0 z1 z2 z3 z4
       generalize wr.heap.size=nb at *
       clear hnew q2 q4 qg qm qb0 qb1 qb2 qb3 qb4 HQ
       go_quiet (fail)
       go_wp2
       go_roundw
       case rel=>exact ⟨t+1,by omega,by go_num,(uh HZ).trans ⟨rfl,rfl,rfl,Nat.le_refl _,fun _ _=>rfl⟩⟩
       case measure=>simp [intOf];omega
      ·have HQ:=hide hBq
       clear hBq k2
       go_wp2
       go_roundw
       case rel=>exact ⟨j+1,by omega,by go_num,uh HQ⟩
       case measure=>simp [intOf];omega
    ·go_wp2
     clear k2
     go_loopw [8] (fun i wr=>∃j:Nat,j≤Lh.length∧i=.int .i64 j∧Below w.heap.size w wr) (fun i _=>Lh.length - (intOf i).toNat)
     case atStart=>exact ⟨0,Nat.zero_le _,rfl,uh HB⟩
     case round =>
      obtain ⟨j,hj,rfl,hB⟩:=hrel
      have k2:=(hB.cell (p:=⟨wb,3,none⟩) hwb).trans c3
      clear HB
      have HB:=hide hB
      clear hB
      by_cases hlt:j<Lh.length
      ·obtain ⟨x,hx⟩:∃x,Lh[j]?=some x:=⟨Lh[j],List.getElem?_eq_getElem hlt⟩
       obtain ⟨g,cc,g',cc',e1,hg,hc1,e2,hg',hc2,hall,hxn⟩:=(uh HH).at j x hx
       injection e1 with e1 e1'
       injection e2 with e2 e2'
       subst e1 e2
       have HX:=hide hall
       clear hall hx e1' e2'
       go_wp2
       go_loopw [9] (fun i wq=>∃t:Nat,t≤x.n∧i=.int .i64 t∧Below w.heap.size w wq) (fun i _=>x.n - (intOf i).toNat)
       case atStart=>exact ⟨0,Nat.zero_le _,rfl,uh HB⟩
       case round =>
        obtain ⟨t,ht,rfl,hBq⟩:=hrel
        have q2:=(hBq.cell (p:=⟨wb,3,none⟩) hwb).trans c3
        have q4:=(hBq.cell (p:=⟨wb,6,none⟩) hwb).trans c6
        have qg:=(hBq.cell (p:=⟨g,j,none⟩) hg).trans hc1
        have qm:=(hBq.cell (p:=⟨g',j,none⟩) hg').trans hc2
        by_cases hlt2:t<x.n
        ·obtain ⟨b,hb1,hb2,hb3⟩:=uh HX t hlt2
         have qb0:=(hBq.cell (p:=⟨b,t*4,none⟩) hb2).trans (by simpa using hb3 0 (.int .i64 x.m) rfl)
         have qb1:=(hBq.cell (p:=⟨b,t*4+1,none⟩) hb2).trans (hb3 1 (.int .i64 0) rfl)
         have qb2:=(hBq.cell (p:=⟨b,t*4+2,none⟩) hb2).trans (hb3 2 (.int .i64 0) rfl)
         have qb3:=(hBq.cell (p:=⟨b,t*4+3,none⟩) hb2).trans (hb3 3 (.int .i64 0) rfl)
         rw [hb1] at qg
         have hwl:=hBq.size
         have n1:wb<wr.heap.size:=by omega
         have n2:g'<wr.heap.size:=by omega
         have HQ:=hide hBq
         clear hb3 hBq k2 hb1
         go_wp2
         have hnew:=heap_alloc_new wr (.cells #[.int .i64 x.m,.int .i64 0,.int .i64 0,.int .i64 0] 102)
         have HZ:Hid (Below w.heap.size w (wr.alloc (.cells #[.int .i64 x.m,.int .i64 0,.int .i64 0,.int .i64 0] 102))):=(uh HQ).alloc hwl _
         have z5:(wr.alloc (.cells #[.int .i64 x.m,.int .i64 0,.int .i64 0,.int .i64 0] 102)).cell? ⟨wb,6,none⟩=_:=(World.cell?_of_block (w:=wr) (Below.heap_alloc _ _ _ n1)).trans q4
         have zm:(wr.alloc (.cells #[.int .i64 x.m,.int .i64 0,.int .i64 0,.int .i64 0] 102)).cell? ⟨g',j,none⟩=_:=(World.cell?_of_block (w:=wr) (Below.heap_alloc _ _ _ n2)).trans qm
         generalize wr.alloc (.cells #[.int .i64 x.m,.int .i64 0,.int .i64 0,.int .i64 0] 102)=Z at *
         have z0:=cell_of hnew 0
         have z1:=cell_of hnew 1
         have z2:=cell_of hnew 2
         have z3:=cell_of hnew 3
         simp at z0 z1 z2 z3
         generalize wr.heap.size=nb at *
         clear hnew q2 q4 qg qm qb0 qb1 qb2 qb3 HQ
         go_quiet (fail)
         go_wp2
         go_roundw
         case rel=>exact ⟨t+1,by omega,by go_num,(uh HZ).trans ⟨rfl,rfl,rfl,Nat.le_refl _,fun _ _=>rfl⟩⟩
         case measure=>simp [intOf];omega
        ·have HQ:=hide hBq
         clear hBq k2
         go_wp2
         go_roundw
         case rel=>exact ⟨j+1,by omega,by go_num,uh HQ⟩
         case measure=>simp [intOf];omega
      ·go_wp2
       go_ret
       exact ⟨rfl,uh HB⟩
end Go.Proofs.YtpnkmnmchdabkaaGreat
namespace Go.Proofs.YtpnkmnmchdabkaaGreat
open Go.RowKit
def repP (pat:Int→List Value) (m:Int):Nat→List Value
 | 0=>[]
 | n+1=>repP pat m n ++ pat m
theorem repP_len {pat:Int→List Value} {m:Int} {size:Nat} (hp:(pat m).length=size) (n:Nat):(repP pat m n).length=n*size:=by
 induction n with
 | zero=>simp [repP]
 | succ n ih=>simp only [repP,List.length_append,ih,hp,Nat.succ_mul]
theorem repP_get {pat:Int→List Value} {m:Int} {size:Nat} (hp:(pat m).length=size) (n k j:Nat) (u:Value) (hk:k<n) (hj:(pat m)[j]?=some u):(repP pat m n)[k*size+j]?=some u:=by
 have hjs:j<size:=hp ▸ (List.getElem?_eq_some_iff.1 hj).1
 induction n with
 | zero=>omega
 | succ n ih =>
   have hl:=repP_len hp n
   have hmul:k*size+size≤(n+1)*size:=by rw [←Nat.succ_mul];exact Nat.mul_le_mul_right _ hk
   by_cases h:k<n
   ·have:k*size+size≤n*size:=by rw [←Nat.succ_mul];exact Nat.mul_le_mul_right _ h
    rw [repP,List.getElem?_append_left (by omega)]
    exact ih h
   ·have e:k=n:=by omega
    subst e
    rw [repP,List.getElem?_append_right (by omega),hl,Nat.add_sub_cancel_left]
    exact hj
theorem HoldsAll.same {w w':World} {size:Nat} {pat:Int→List Value} {x:Ke} (h:HoldsAll w size pat x) (hs:w.heap.size≤w'.heap.size) (hb:∀b,x.a=some ⟨b,0,none⟩→b<w.heap.size→w'.heap[b]?=w.heap[b]?):HoldsAll w' size pat x:=by
 intro k hk
 obtain ⟨b,e1,e2,e3⟩:=h k hk
 refine ⟨b,e1,by omega,fun j u hj=>?_⟩
 rw [World.cell?_of_block (w:=w) (a:=⟨b,k*size+j,none⟩) (hb b e1 e2)]
 exact e3 j u hj
theorem HoldsAll.grown {w w':World} {size:Nat} {pat:Int→List Value} {x:Ke} {e:TypeId} {g cap n:Nat} {m:Int} (h:HoldsAll w size pat x) (hp:∀m,(pat m).length=size)
 (hown:w'.ownsRow 0 e size (.slice (some ⟨g,0,none⟩) (n+1) cap) (n+1) (repP pat m n ++ pat m)) (hg:w.grownBy w' (some g)) (hin:x.a=some ⟨g,0,none⟩→x.m=m∧x.n≤n):HoldsAll w' size pat x:=by
 intro k hk
 obtain ⟨b,e1,e2,e3⟩:=h k hk
 have hsz:=hg.size
 refine ⟨b,e1,by omega,fun j u hj=>?_⟩
 by_cases hbg:b=g
 ·subst hbg
  obtain ⟨hm,hn⟩:=hin e1
  have:=hown.cells (g:=b) rfl (k*size+j) u (by
   have hq:=repP_get (hp m) (n+1) k j u (by omega) (hm ▸ hj)
   exact hq)
  rwa [show (⟨b,0,none⟩:Addr).add (k*size+j)=⟨b,k*size+j,none⟩ by unfold Addr.add;split <;> simp_all] at this
 ·rw [World.cell?_of_block (w:=w) (a:=⟨b,k*size+j,none⟩) (hg.block b e2 (fun e=>hbg (by injection e)))]
  exact e3 j u hj
theorem HoldsAll.new {w:World} {size:Nat} {pat:Int→List Value} {e:TypeId} {x:Ke} (hp:∀m,(pat m).length=size) (h:w.ownsRow 0 e size (entV x) x.n (repP pat x.m x.n)):HoldsAll w size pat x:=by
 intro k hk
 obtain ⟨g,cap,cur,hv,_,hg,_⟩:=ownsRow_shape h (by omega)
 have ha:x.a=some ⟨g,0,none⟩:=by
  unfold entV at hv
  injection hv
 refine ⟨g,ha,lt_of_heap hg,fun j u hj=>?_⟩
 have:=h.cells (g:=g) (by rw [hv];rfl) (k*size+j) u (repP_get (hp x.m) x.n k j u hk hj)
 rwa [show (⟨g,0,none⟩:Addr).add (k*size+j)=⟨g,k*size+j,none⟩ by unfold Addr.add;split <;> simp_all] at this
theorem patI_len (m:Int):(patI m).length=1:=rfl
theorem patS_len (m:Int):(patS m).length=5:=rfl
theorem patH_len (m:Int):(patH m).length=4:=rfl
structure LawAt (w:World) (ρ:Nat→Nat) (wb:Nat) (sdv:Value) (last:Int) (sv iv hv m1 m2 m3:Value) (Ls Li Lh:List Ke):Prop where
 blk:w.heap[wb]?=some (.cells #[sdv,sv,iv,hv,m1,m2,m3,.int .i64 last] 36 (0,0))
 tag:ρ wb=300
 kS:KRows w 98 5 patS sv m2 Ls
 kI:KRows w 34 1 patI iv m1 Li
 kH:KRows w 81 4 patH hv m3 Lh
 tS:∀k,sv.ownBlock=some k→ρ k=302
 tI:∀k,iv.ownBlock=some k→ρ k=303
 tH:∀k,hv.ownBlock=some k→ρ k=304
 t1:∀k,m1.ownBlock=some k→ρ k=305
 t2:∀k,m2.ownBlock=some k→ρ k=306
 t3:∀k,m3.ownBlock=some k→ρ k=307
 tL:∀x,(x ∈ Ls∨x ∈ Li∨x ∈ Lh)→∀b,x.a=some ⟨b,0,none⟩→ρ b=310∧b<w.heap.size
def laws (ρ:Nat→Nat) (k:Nat):Prop:=300≤ρ k
theorem KRows.same {w w':World} {te:TypeId} {size:Nat} {pat:Int→List Value} {v mv:Value} {L:List Ke} (h:KRows w te size pat v mv L) (hs:w.heap.size≤w'.heap.size)
 (h1:∀k,v.ownBlock=some k→w'.heap[k]?=w.heap[k]?) (h2:∀k,mv.ownBlock=some k→w'.heap[k]?=w.heap[k]?) (h3:∀x ∈ L,∀b,x.a=some ⟨b,0,none⟩→b<w.heap.size→w'.heap[b]?=w.heap[b]?):KRows w' te size pat v mv L :=
 ⟨ownsRow_of_block h.row h1,ownsRow_of_block h.ms h2,fun x hx=>⟨(h.all x hx).1.same hs (h3 x hx),(h.all x hx).2⟩,h.len⟩
theorem LawAt.keeps {S:Nat→Prop} {w w':World} {ρ ρ':Nat→Nat} {wb:Nat} {sdv:Value} {last:Int} {sv iv hv m1 m2 m3:Value} {Ls Li Lh:List Ke} (h:LawAt w ρ wb sdv last sv iv hv m1 m2 m3 Ls Li Lh) (hk:Keeps S w w')
 (hS:∀k,S k→¬laws ρ k∨w.heap.size≤k) (he:∀k,k<w.heap.size→300≤ρ k→ρ' k=ρ k):LawAt w' ρ' wb sdv last sv iv hv m1 m2 m3 Ls Li Lh:=by
 have hlt:=lt_of_heap h.blk
 have hsz:=hk.size
 have st:∀k,k<w.heap.size→300≤ρ k→w'.heap[k]?=w.heap[k]?:=fun k h1 h2=>hk.block k h1 (fun hs=>by
  rcases hS k hs with h3 | h3
  ·exact h3 h2
  ·omega)
 have row:∀{te:TypeId} {size n:Nat} {v:Value} {xs:List Value} {t:Nat},w.ownsRow 0 te size v n xs→(∀k,v.ownBlock=some k→ρ k=t)→300≤t→∀k,v.ownBlock=some k→w'.heap[k]?=w.heap[k]? :=
  fun ho ht h3 k hk'=>st k (ho.lt k hk').2 (by rw [ht k hk'];exact h3)
 have tg:∀{te:TypeId} {size n:Nat} {v:Value} {xs:List Value} {t:Nat},w.ownsRow 0 te size v n xs→(∀k,v.ownBlock=some k→ρ k=t)→300≤t→∀k,v.ownBlock=some k→ρ' k=t :=
  fun ho ht h3 k hk'=>by rw [he k (ho.lt k hk').2 (by rw [ht k hk'];exact h3)];exact ht k hk'
 have ent:∀x,(x ∈ Ls∨x ∈ Li∨x ∈ Lh)→∀b,x.a=some ⟨b,0,none⟩→b<w.heap.size→w'.heap[b]?=w.heap[b]?:=fun x hx b hb hl=>st b hl (by rw [(h.tL x hx b hb).1];omega)
 refine ⟨?_,by rw [he wb hlt (by rw [h.tag];omega)];exact h.tag,?_,?_,?_,tg h.kS.row h.tS (by omega),tg h.kI.row h.tI (by omega),tg h.kH.row h.tH (by omega),tg h.kI.ms h.t1 (by omega),tg h.kS.ms h.t2 (by omega),tg h.kH.ms h.t3 (by omega),?_⟩
 ·rw [st wb hlt (by rw [h.tag];omega)];exact h.blk
 ·exact h.kS.same hsz (row h.kS.row h.tS (by omega)) (row h.kS.ms h.t2 (by omega)) (fun x hx=>ent x (Or.inl hx))
 ·exact h.kI.same hsz (row h.kI.row h.tI (by omega)) (row h.kI.ms h.t1 (by omega)) (fun x hx=>ent x (Or.inr (Or.inl hx)))
 ·exact h.kH.same hsz (row h.kH.row h.tH (by omega)) (row h.kH.ms h.t3 (by omega)) (fun x hx=>ent x (Or.inr (Or.inr hx)))
 ·intro x hx b hb
  have h1:=h.tL x hx b hb
  exact ⟨by rw [he b h1.2 (by rw [h1.1];omega)];exact h1.1,by omega⟩
theorem LawAt.kept {w:World} {ρ:Nat→Nat} {wb:Nat} {sdv:Value} {last:Int} {sv iv hv m1 m2 m3:Value} {Ls Li Lh:List Ke} (h:LawAt w ρ wb sdv last sv iv hv m1 m2 m3 Ls Li Lh) :
 Calls Tryz.prog 11 #[.pointer (some ⟨wb,0,none⟩)] w fun e w'=>e=.returned (.bool true)∧Below w.heap.size w w' :=
 kept_any (lt_of_heap h.blk) h.kS h.kI h.kH (cell_of h.blk 1) (cell_of h.blk 2) (cell_of h.blk 3) (cell_of h.blk 4) (cell_of h.blk 5) (cell_of h.blk 6)
theorem field_append {W B:World} {o:Obj} {wb f:Nat} {cs:Array Value} {tb:TypeId} {v:Value} {g n cap:Nat} {e:TypeId} {size:Nat} {xs:List Value} (hb:W.heap[wb]?=some (.cells cs tb (0,0))) (hv:v.ownBlock≠some wb)
 (hown:B.ownsRow 0 e size (.slice (some ⟨g,0,none⟩) n cap) n xs) (hgrow:(W.alloc o).grownBy B v.ownBlock) (hat:v.ownBlock=some g∨g=(W.alloc o).heap.size) :
 (B.setCell ⟨wb,f,none⟩ (.slice (some ⟨g,0,none⟩) n cap)).heap[wb]?=some (.cells (cs.setIfInBounds f (.slice (some ⟨g,0,none⟩) n cap)) tb (0,0)) ∧
  (B.setCell ⟨wb,f,none⟩ (.slice (some ⟨g,0,none⟩) n cap)).ownsRow 0 e size (.slice (some ⟨g,0,none⟩) n cap) n xs ∧
  Keeps (fun k=>k=wb∨v.ownBlock=some k) W (B.setCell ⟨wb,f,none⟩ (.slice (some ⟨g,0,none⟩) n cap))∧(g<W.heap.size→v.ownBlock=some g)∧g<(B.setCell ⟨wb,f,none⟩ (.slice (some ⟨g,0,none⟩) n cap)).heap.size:=by
 have hwl:=lt_of_heap hb
 have hgs:=hgrow.size
 have hal:(W.alloc o).heap.size=W.heap.size+1:=by simp
 have hbB:B.heap[wb]?=some (.cells cs tb (0,0)):=(hgrow.block wb (by omega) (fun e=>hv e.symm)).trans ((Below.heap_alloc _ _ _ hwl).trans hb)
 have hgw:g≠wb:=by
  rintro rfl
  rcases hat with e | e
  ·exact hv e
  ·omega
 have hgB:=(hown.lt g rfl).2
 refine ⟨heap_setCell_same hbB _,ownsRow_of_block hown fun k hk=>Below.heap_setCell _ _ _ _ ?_,⟨?_,?_,?_,?_,?_⟩,?_,by simpa [World.setCell] using hgB⟩
 ·simp [Value.ownBlock] at hk
  subst hk
  exact hgw
 ·show B.os=W.os;rw [hgrow.os];rfl
 ·show B.tape=W.tape;rw [hgrow.tape];rfl
 ·show B.output=W.output;rw [hgrow.output];rfl
 ·simp [World.setCell];omega
 ·intro k hk hs
  rw [Below.heap_setCell _ _ _ _ (fun e=>hs (Or.inl e)),hgrow.block k (by omega) (fun e=>hs (Or.inr e.symm)),Below.heap_alloc _ _ _ hk]
 ·intro hlt
  rcases hat with e | e
  ·exact e
  ·omega
theorem list_append {W B:World} {o:Obj} {v:Value} {g:Nat} (hgrow:(W.alloc o).grownBy B v.ownBlock) (hst:(W.alloc o).grownBy B (some g)) (hat:v.ownBlock=some g∨g=(W.alloc o).heap.size) :
 Keeps (fun k=>v.ownBlock=some k) W B∧W.grownBy B (some g)∧(g<W.heap.size→v.ownBlock=some g):=by
 have hgs:=hgrow.size
 have hal:(W.alloc o).heap.size=W.heap.size+1:=by simp
 refine ⟨⟨by rw [hgrow.os];rfl,by rw [hgrow.tape];rfl,by rw [hgrow.output];rfl,by omega,fun k hk hs=>?_⟩,⟨by rw [hgrow.os];rfl,by rw [hgrow.tape];rfl,by rw [hgrow.output];rfl,by omega,fun k hk hs=>?_⟩,fun hlt=>?_⟩
 ·rw [hgrow.block k (by omega) (fun e=>hs e.symm),Below.heap_alloc _ _ _ hk]
 ·rw [hst.block k (by omega) hs,Below.heap_alloc _ _ _ hk]
 ·rcases hat with e | e
  ·exact e
  ·omega
theorem LawAt.moreInts {W C1 C2 D:World} {ρ:Nat→Nat} {wb:Nat} {sdv:Value} {last:Int} {sv iv hv m1 m2 m3:Value} {Ls Li Lh:List Ke} (h:LawAt W ρ wb sdv last sv iv hv m1 m2 m3 Ls Li Lh) (hf:Fits W ρ) (x:Ke)
 (hxl:W.ownsRow 0 3 1 (entV x) x.n (repP patI x.m x.n)) (hxn:x.n≤3000000) (hlen:Li.length≤100000000) (hxt:∀b,(entV x).ownBlock=some b→ρ b=310)
 (hin:∀y ∈ Li,∀b,(entV x).ownBlock=some b→y.a=some ⟨b,0,none⟩→y.m=x.m∧y.n≤x.n) (hout:∀y,(y ∈ Ls∨y ∈ Lh)→∀b,(entV x).ownBlock=some b→y.a≠some ⟨b,0,none⟩)
 {g1 c1 g2 c2 g3 c3:Nat}
 (b1:C1.heap[wb]?=some (.cells #[sdv,sv,.slice (some ⟨g1,0,none⟩) (Li.length+1) c1,hv,m1,m2,m3,.int .i64 last] 36 (0,0))) (r1:C1.ownsRow 0 34 1 (.slice (some ⟨g1,0,none⟩) (Li.length+1) c1) (Li.length+1) (Li.map entV ++ [entV x])) (k1:Keeps (fun k=>k=wb∨iv.ownBlock=some k) W C1) (o1:g1<W.heap.size→iv.ownBlock=some g1)
 (b2:C2.heap[wb]?=some (.cells #[sdv,sv,.slice (some ⟨g1,0,none⟩) (Li.length+1) c1,hv,.slice (some ⟨g2,0,none⟩) (Li.length+1) c2,m2,m3,.int .i64 last] 36 (0,0))) (r2:C2.ownsRow 0 3 1 (.slice (some ⟨g2,0,none⟩) (Li.length+1) c2) (Li.length+1) (Li.map entM ++ [entM x])) (k2:Keeps (fun k=>k=wb∨m1.ownBlock=some k) C1 C2) (o2:g2<C1.heap.size→m1.ownBlock=some g2)
 (r3:D.ownsRow 0 3 1 (.slice (some ⟨g3,0,none⟩) (x.n+1) c3) (x.n+1) (repP patI x.m x.n ++ patI x.m)) (k3:Keeps (fun k=>(entV x).ownBlock=some k) C2 D) (s3:C2.grownBy D (some g3)) (o3:g3<C2.heap.size→(entV x).ownBlock=some g3) :
 ∃ρ',LawAt D ρ' wb sdv last sv (.slice (some ⟨g1,0,none⟩) (Li.length+1) c1) hv (.slice (some ⟨g2,0,none⟩) (Li.length+1) c2) m2 m3 Ls (Li ++ [x]) Lh∧(∀k,k<W.heap.size→ρ' k=ρ k)∧(∀k,W.heap.size≤k→ρ' k=0∨300≤ρ' k)∧Fits D ρ'∧ρ' g3=310∧Keeps (laws ρ) W D ∧
  (∀y ∈ Li ++ [x],y.a=some ⟨g3,0,none⟩→y.m=x.m∧y.n≤x.n+1)∧(∀y,(y ∈ Ls∨y ∈ Lh)→y.a≠some ⟨g3,0,none⟩):=by
 have hwl:=lt_of_heap h.blk
 have z1:=k1.size
 have z2:=k2.size
 have z3:=k3.size
 have g1l:=(r1.lt g1 rfl).2
 have g2l:=(r2.lt g2 rfl).2
 have g3l:=(r3.lt g3 rfl).2
 have iT:∀k,iv.ownBlock=some k→k<W.heap.size∧ρ k=303:=fun k hk=>⟨(h.kI.row.lt k hk).2,h.tI k hk⟩
 have mT:∀k,m1.ownBlock=some k→k<W.heap.size∧ρ k=305:=fun k hk=>⟨(h.kI.ms.lt k hk).2,h.t1 k hk⟩
 have xT:∀k,(entV x).ownBlock=some k→k<W.heap.size∧ρ k=310:=fun k hk=>⟨(hxl.lt k hk).2,hxt k hk⟩
 have q1:g1<W.heap.size→ρ g1=303:=fun hh=>(iT g1 (o1 hh)).2
 have q2:g2<C1.heap.size→g2<W.heap.size∧ρ g2=305:=fun hh=>mT g2 (o2 hh)
 have q3:g3<C2.heap.size→g3<W.heap.size∧ρ g3=310:=fun hh=>xT g3 (o3 hh)
 have d12:g1≠g2:=by
  rintro rfl
  have a:=q2 g1l
  have b:=q1 a.1
  omega
 have d13:g1≠g3:=by
  rintro rfl
  have a:=q3 (by omega)
  have b:=q1 a.1
  omega
 have d23:g2≠g3:=by
  rintro rfl
  have a:=q3 g2l
  have b:=q2 (by omega)
  omega
 have tg:∀k,k<W.heap.size→(if k=g1 then 303 else if k=g2 then 305 else if k=g3 then 310 else ρ k)=ρ k:=by
  intro k hk
  split
  ·rename_i e;subst e;exact (q1 hk).symm
  ·split
   ·rename_i e;subst e;exact ((q2 (by omega)).2).symm
   ·split
    ·rename_i e;subst e;exact ((q3 (by omega)).2).symm
    ·rfl
 have st:∀k,k<W.heap.size→k≠wb→ρ k≠303→ρ k≠305→ρ k≠310→D.heap[k]?=W.heap[k]?:=by
  intro k hk hw h3 h5 h10
  rw [k3.block k (by omega) (fun e=>h10 (xT k e).2),k2.block k (by omega) (fun e=>by rcases e with e | e;exact hw e;exact h5 (mT k e).2),k1.block k hk (fun e=>by rcases e with e | e;exact hw e;exact h3 (iT k e).2)]
 have stL:∀k,k<W.heap.size→ρ k=310→C2.heap[k]?=W.heap[k]?:=by
  intro k hk h10
  have hw:k≠wb:=by rintro rfl;have:=h.tag;omega
  rw [k2.block k (by omega) (fun e=>by rcases e with e | e;exact hw e;have:=(mT k e).2;omega),k1.block k hk (fun e=>by rcases e with e | e;exact hw e;have:=(iT k e).2;omega)]
 have ent:∀y,(y ∈ Ls∨y ∈ Lh)→∀b,y.a=some ⟨b,0,none⟩→b<W.heap.size→D.heap[b]?=W.heap[b]?:=by
  intro y hy b hb hl
  have hy':y ∈ Ls∨y ∈ Li∨y ∈ Lh:=by rcases hy with hy | hy;exact Or.inl hy;exact Or.inr (Or.inr hy)
  have h10:=(h.tL y hy' b hb).1
  rw [k3.block b (by omega) (fun e=>hout y hy b e hb),stL b hl h10]
 have row:∀{te:TypeId} {size n:Nat} {v:Value} {xs:List Value} {t:Nat},W.ownsRow 0 te size v n xs→(∀k,v.ownBlock=some k→ρ k=t)→t≠300→t≠303→t≠305→t≠310→∀k,v.ownBlock=some k→D.heap[k]?=W.heap[k]?:=by
  intro te size n v xs t ho ht a0 a1 a2 a3 k hk
  have:=ht k hk
  exact st k (ho.lt k hk).2 (by rintro rfl;have:=h.tag;omega) (by omega) (by omega) (by omega)
 have tgv:∀{te:TypeId} {size n:Nat} {v:Value} {xs:List Value} {t:Nat},W.ownsRow 0 te size v n xs→(∀k,v.ownBlock=some k→ρ k=t)→∀k,v.ownBlock=some k→(if k=g1 then 303 else if k=g2 then 305 else if k=g3 then 310 else ρ k)=t :=
  fun ho ht k hk=>by rw [tg k (ho.lt k hk).2];exact ht k hk
 have hg3w:∀b,(entV x).ownBlock=some b→b<W.heap.size:=fun b hb=>(xT b hb).1
 refine ⟨fun k=>if k=g1 then 303 else if k=g2 then 305 else if k=g3 then 310 else ρ k,⟨?_,?_,?_,?_,?_,tgv h.kS.row h.tS,?_,tgv h.kH.row h.tH,?_,tgv h.kS.ms h.t2,tgv h.kH.ms h.t3,?_⟩,tg,?_,?_,?_,?_,?_,?_⟩
 ·rw [k3.block wb (by omega) (fun e=>by have:=(xT wb e).2;have:=h.tag;omega)];exact b2
 ·show (if wb=g1 then _ else _)=300
  rw [tg wb hwl];exact h.tag
 ·exact h.kS.same (by omega) (row h.kS.row h.tS (by omega) (by omega) (by omega) (by omega)) (row h.kS.ms h.t2 (by omega) (by omega) (by omega) (by omega)) (fun y hy=>ent y (Or.inl hy))
 ·refine ⟨?_,?_,?_,by simp;omega⟩
  ·rw [List.length_append,List.map_append]
   refine ownsRow_of_block r1 fun k hk=>?_
   simp [Value.ownBlock] at hk
   subst hk
   rw [k3.block _ (by omega) (fun e=>by have a:=xT _ e;have b:=q1 a.1;omega),k2.block _ g1l (fun e=>by
    rcases e with e | e
    ·have:=q1 (by omega);have:=h.tag;rw [e] at *;omega
    ·have a:=mT _ e;have b:=q1 a.1;omega)]
  ·rw [List.length_append,List.map_append]
   refine ownsRow_of_block r2 fun k hk=>?_
   simp [Value.ownBlock] at hk
   subst hk
   rw [k3.block _ g2l (fun e=>by have a:=xT _ e;have b:=q2 (by omega);omega)]
  ·intro y hy
   rcases List.mem_append.1 hy with hy | hy
   ·refine ⟨?_,(h.kI.all y hy).2⟩
    have hC2:HoldsAll C2 1 patI y:=(h.kI.all y hy).1.same (by omega) (fun b hb hl=>stL b hl (h.tL y (Or.inr (Or.inl hy)) b hb).1)
    exact hC2.grown patI_len r3 s3 (fun e=>by
     have hb:=h.tL y (Or.inr (Or.inl hy)) g3 e
     exact hin y hy g3 (o3 (by omega)) e)
   ·rw [List.mem_singleton] at hy
    subst hy
    refine ⟨?_,by omega⟩
    have hW:HoldsAll W 1 patI y:=HoldsAll.new patI_len hxl
    have hC2:HoldsAll C2 1 patI y:=hW.same (by omega) (fun b hb hl=>stL b hl (hxt b (by unfold entV;rw [hb];rfl)))
    exact hC2.grown patI_len r3 s3 (fun _=>⟨rfl,Nat.le_refl _⟩)
 ·exact h.kH.same (by omega) (row h.kH.row h.tH (by omega) (by omega) (by omega) (by omega)) (row h.kH.ms h.t3 (by omega) (by omega) (by omega) (by omega)) (fun y hy=>ent y (Or.inr hy))
 ·intro k hk
  simp [Value.ownBlock] at hk
  subst hk
  simp
 ·intro k hk
  simp [Value.ownBlock] at hk
  subst hk
  simp [Ne.symm d12]
 ·intro y hy b hb
  have:(y ∈ Ls∨y ∈ Li∨y ∈ Lh)∨y=x:=by
   rcases hy with hy | hy | hy
   ·exact Or.inl (Or.inl hy)
   ·rcases List.mem_append.1 hy with hy | hy
    ·exact Or.inl (Or.inr (Or.inl hy))
    ·exact Or.inr (List.mem_singleton.1 hy)
   ·exact Or.inl (Or.inr (Or.inr hy))
  rcases this with hy | rfl
  ·have h1:=h.tL y hy b hb
   exact ⟨by show (if b=g1 then _ else _)=_;rw [tg b h1.2];exact h1.1,by omega⟩
  ·have hbb:(entV y).ownBlock=some b:=by unfold entV;rw [hb];rfl
   have h1:=xT b hbb
   exact ⟨by show (if b=g1 then _ else _)=_;rw [tg b h1.1];exact h1.2,by omega⟩
 ·intro k hk
  show (if k=g1 then 303 else if k=g2 then 305 else if k=g3 then 310 else ρ k)=0∨300≤(if k=g1 then 303 else if k=g2 then 305 else if k=g3 then 310 else ρ k)
  split
  ·right;omega
  ·split
   ·right;omega
   ·split
    ·right;omega
    ·left;exact hf k hk
 ·intro k hk
  show (if k=g1 then 303 else if k=g2 then 305 else if k=g3 then 310 else ρ k)=0
  rw [if_neg (by omega),if_neg (by omega),if_neg (by omega)]
  exact hf k (by omega)
 ·show (if g3=g1 then 303 else if g3=g2 then 305 else if g3=g3 then 310 else ρ g3)=310
  rw [if_neg (Ne.symm d13),if_neg (Ne.symm d23),if_pos rfl]
 ·refine ⟨by rw [k3.os,k2.os,k1.os],by rw [k3.tape,k2.tape,k1.tape],by rw [k3.output,k2.output,k1.output],by omega,fun k hk hs=>?_⟩
  unfold laws at hs
  exact st k hk (by rintro rfl;have:=h.tag;omega) (by omega) (by omega) (by omega)
 ·intro y hy hya
  rcases List.mem_append.1 hy with hy | hy
  ·have hb:=h.tL y (Or.inr (Or.inl hy)) g3 hya
   have:=hin y hy g3 (o3 (by omega)) hya
   exact ⟨this.1,by omega⟩
  ·rw [List.mem_singleton] at hy
   subst hy
   exact ⟨rfl,by omega⟩
 ·intro y hy hya
  have hy':y ∈ Ls∨y ∈ Li∨y ∈ Lh:=by rcases hy with hy | hy;exact Or.inl hy;exact Or.inr (Or.inr hy)
  have hb:=h.tL y hy' g3 hya
  exact hout y hy g3 (o3 (by omega)) hya
end Go.Proofs.YtpnkmnmchdabkaaGreat
