import Derived.Test.YtpnkmnmchdabkaaGreatM00
import Derived.Deep.DeepMust
import Derived.Deep.RegionLaw
import Derived.Deep.DrawnRows
import Derived.Test.YtpnkmnmchdabkaaGreatRefPut
namespace Go.Proofs.YtpnkmnmchdabkaaGreat
open Go.RowKit
attribute [local go_sem ↓] Go.wp_at_zero Go.wp_at_succ
theorem info3:(Tryz.prog.info? 3).map (fun i=>(i.zero,i.size,i.bytes))=some (some (.int .i64 0),1,8):=by kernel_rfl
theorem take_map_succ (l:List Int) (k:Nat) (hk:k<l.length):((l.take (k+1)).map (Value.int .i64))=(l.take k).map (Value.int .i64) ++ [.int .i64 l[k]]:=by
 rw [List.take_succ_eq_append_getElem hk,List.map_append];rfl
def set5 (w:World) (b:Nat) (v0 v1 v2 v3 v4:Value):World :=
 ((((w.setCell ⟨b,0,none⟩ v0).setCell ⟨b,1,none⟩ v1).setCell ⟨b,2,none⟩ v2).setCell ⟨b,3,none⟩ v3).setCell ⟨b,4,none⟩ v4
theorem set5_heap {w:World} {b:Nat} {u0 u1 u2 u3 u4:Value} {e:TypeId} (h:w.heap[b]?=some (.cells #[u0,u1,u2,u3,u4] e (0,0))) (v0 v1 v2 v3 v4:Value) :
 (set5 w b v0 v1 v2 v3 v4).heap[b]?=some (.cells #[v0,v1,v2,v3,v4] e (0,0)):=by
 unfold set5
 have h:=heap_setCell_same (i:=0) h v0
 have h:=heap_setCell_same (i:=1) h v1
 have h:=heap_setCell_same (i:=2) h v2
 have h:=heap_setCell_same (i:=3) h v3
 have h:=heap_setCell_same (i:=4) h v4
 rw [h]
 simp
theorem set5_other {w:World} {b k:Nat} (hk:k≠b) (v0 v1 v2 v3 v4:Value):(set5 w b v0 v1 v2 v3 v4).heap[k]?=w.heap[k]?:=by
 unfold set5
 rw [Below.heap_setCell _ _ _ _ hk,Below.heap_setCell _ _ _ _ hk,Below.heap_setCell _ _ _ _ hk,Below.heap_setCell _ _ _ _ hk,Below.heap_setCell _ _ _ _ hk]
theorem set5_below {B:Nat} {a w:World} {b:Nat} (h:Below B a w) (hb:B≤b) (v0 v1 v2 v3 v4:Value):Below B a (set5 w b v0 v1 v2 v3 v4) :=
 ((((h.setCell (p:=⟨b,0,none⟩) hb _).setCell (p:=⟨b,1,none⟩) hb _).setCell (p:=⟨b,2,none⟩) hb _).setCell (p:=⟨b,3,none⟩) hb _).setCell (p:=⟨b,4,none⟩) hb _
theorem load5 {w:World} {b:Nat} {v0 v1 v2 v3 v4:Value} {e:TypeId} {f:Nat × Nat} (h:w.heap[b]?=some (.cells #[v0,v1,v2,v3,v4] e f)) :
 w.cell? ⟨b,0,none⟩=some v0∧w.cell? ⟨b,1,none⟩=some v1∧w.cell? ⟨b,2,none⟩=some v2∧w.cell? ⟨b,3,none⟩=some v3∧w.cell? ⟨b,4,none⟩=some v4 :=
 ⟨cell_of h 0,cell_of h 1,cell_of h 2,cell_of h 3,cell_of h 4⟩
def CopyPost (w:World) (par:List Int) (e:Ending) (w':World):Prop :=
 ∃g cap,e=.returned (.slice (some ⟨g,0,none⟩) par.length cap)∧w'.ownsRow w.heap.size 3 1 (.slice (some ⟨g,0,none⟩) par.length cap) par.length (par.map (Value.int .i64))∧Below w.heap.size w w'
set_option maxRecDepth 100000 in
set_option maxHeartbeats 2000000 in
theorem copyParents_any (b o:Nat) (par:List Int) (pcap:Nat) (pa:Option Addr) (w:World) (hp:par.length≤2) (hb:b<w.heap.size)
 (c3:w.cell? ⟨b,o+3,none⟩=some (.slice pa par.length pcap))
 (hpar:∀j (hj:j<par.length),∃pb,pa=some ⟨pb,0,none⟩∧pb<w.heap.size∧w.cell? ⟨pb,j,none⟩=some (.int .i64 par[j])) :
 Calls Tryz.prog 128 #[.pointer (some ⟨b,o,none⟩)] w (CopyPost w par):=by
 obtain ⟨i0,hi0,hz0,hz1,hz2⟩:=info_parts info3
 have HP:=hide hpar
 clear hpar
 go_enter Tryz.func128,Tryz.ntmps128
 go_wp2_with (at_make;refine wpList_make_own _ rfl _ _ 34 rfl w.heap.size 3 i0 _ 1 Tryz.underlying34 hi0 hz0 hz1 _ _ _ par.length rfl rfl rfl ?bytes ?maxLen ?base ?mk)
 case bytes=>rw [hz2];omega
 case maxLen=>unfold maxLen;omega
 case base=>simp
 case mk =>
  intro w1 hown hgrow
  have hB:Below w.heap.size w w1:=(Below.refl _ w).grown hgrow (by simp) (fun k h=>by cases h)
  have hsz:w.heap.size<w1.heap.size:=by
   have:=(hown.lt _ rfl).2
   simpa using this
  have k3:=(hB.cell (p:=⟨b,o+3,none⟩) hb).trans c3
  have HO:=hide hown
  have HB:=hide hB
  clear hown hgrow hB
  go_wp2
  clear k3
  go_loopw [3,4] (fun p i wr=>∃k g cap:Nat,k≤par.length∧i=.int .i64 k∧p=.slice (some ⟨g,0,none⟩) k cap∧wr.ownsRow w.heap.size 3 1 (.slice (some ⟨g,0,none⟩) k cap) k ((par.take k).map (Value.int .i64))∧Below w.heap.size w wr) (fun _ i _=>par.length - (intOf i).toNat)
  case atStart=>exact ⟨0,_,_,Nat.zero_le _,rfl,rfl,uh HO,uh HB⟩
  case round =>
   obtain ⟨k,g,cap,hk,rfl,rfl,hown,hB⟩:=hrel
   have k3:=(hB.cell (p:=⟨b,o+3,none⟩) hb).trans c3
   by_cases hlt:k<par.length
   ·obtain ⟨pb,hpa,hpb,hc⟩:=uh HP k hlt
    subst hpa
    have hck:=(hB.cell (p:=⟨pb,k,none⟩) hpb).trans hc
    have HOw:=hide hown
    have HBw:=hide hB
    have hgl:=(hown.lt g rfl)
    have HGL:=hide hgl
    have hwr:=hB.size
    clear hc hown hB hgl
    go_wp2_with (at_builtin;go_must (refine wpList_append_lies _ rfl _ _ _ rfl w.heap.size 3 i0 _ 1 8 Tryz.underlying34 hi0 hz0 hz1 hz2 rfl (by omega) _ k ((par.take k).map (Value.int .i64)) rfl ?own ⟨wr.heap.size,0,none⟩ 1 1 [.int .i64 par[k]] rfl rfl ?news ?one (by omega) ?h63 ?bytes ?base wr.heap.size.succ ?hH ?next))
    case own=>exact (uh HOw).alloc _
    case news=>exact World.news_of_block (cs:=#[.int .i64 par[k]]) (heap_alloc_new wr _)
    case one=>intro u hu;simp at hu;subst hu;rfl
    case h63=>unfold maxLen;omega
    case bytes=>omega
    case base=>have:=(uh HGL).2;simp;omega
    case hH=>simp
    case next =>
     intro g2 cap2 w2 hown2 hgrow2 hat hlt2
     have hB2:Hid (Below w.heap.size w w2):=((uh HBw).alloc hwr _).grown hgrow2 (by simp;omega) (fun q h=>by simp [Value.ownBlock] at h;have:=(uh HGL).1;omega)
     have HN:=hide hown2
     clear hown2 hgrow2 hat
     go_wp2
     go_roundw
     case rel =>
      refine ⟨k+1,g2,cap2,by omega,by go_num,rfl,?_,uh hB2⟩
      rw [take_map_succ par k hlt,List.map_take];exact uh HN
     case measure=>simp [intOf];omega
   ·have hkl:k=par.length:=by omega
    subst hkl
    rw [List.take_length] at hown
    have HOw:=hide hown
    have HBw:=hide hB
    clear hown hB c3 HP HO HB
    go_wp2
    go_ret
    exact ⟨g,cap,rfl,uh HOw,uh HBw⟩
def ToldPost (w:World) (lo hi:Int) (op:Bool) (par:List Int) (cnt:Nat) (e:Ending) (w':World):Prop :=
 ∃g cap,e=.returned (.agg #[.int .i64 lo,.int .i64 hi,.bool op,.slice (some ⟨g,0,none⟩) par.length cap,.int .i64 cnt])∧w'.ownsRow w.heap.size 3 1 (.slice (some ⟨g,0,none⟩) par.length cap) par.length (par.map (Value.int .i64))∧Below w.heap.size w w'
set_option maxRecDepth 100000 in
set_option maxHeartbeats 2000000 in
theorem tell_any (b o:Nat) (lo hi:Int) (op:Bool) (par:List Int) (cnt rcap pcap:Nat) (pa ra:Option Addr) (w:World) (hp:par.length≤2) (hb:b<w.heap.size)
 (c0:w.cell? ⟨b,o,none⟩=some (.int .i64 lo)) (c1:w.cell? ⟨b,o+1,none⟩=some (.int .i64 hi)) (c2:w.cell? ⟨b,o+2,none⟩=some (.bool op)) (c3:w.cell? ⟨b,o+3,none⟩=some (.slice pa par.length pcap)) (c4:w.cell? ⟨b,o+4,none⟩=some (.slice ra cnt rcap))
 (hpar:∀j (hj:j<par.length),∃pb,pa=some ⟨pb,0,none⟩∧pb<w.heap.size∧w.cell? ⟨pb,j,none⟩=some (.int .i64 par[j])) :
 Calls Tryz.prog 106 #[.pointer (some ⟨b,o,none⟩)] w (ToldPost w lo hi op par cnt):=by
 have HC:Hid (∀W,Below w.heap.size w W→Calls Tryz.prog 128 #[.pointer (some ⟨b,o,none⟩)] W (CopyPost W par)):=fun W hB =>
  copyParents_any b o par pcap pa W hp (Nat.lt_of_lt_of_le hb hB.size) ((hB.cell (p:=⟨b,o+3,none⟩) hb).trans c3) (fun j hj=>by
   obtain ⟨pb,e1,e2,e3⟩:=hpar j hj
   exact ⟨pb,e1,Nat.lt_of_lt_of_le e2 hB.size,(hB.cell (p:=⟨pb,j,none⟩) e2).trans e3⟩)
 clear hpar c3
 go_enter Tryz.func106,Tryz.ntmps106
 go_wp2_with (go_at_call 128;refine (uh HC _ ((Below.refl _ w).alloc (Nat.le_refl _) _)).mono ?_;rintro e wr ⟨g,cap,rfl,hown,hBr⟩)
 have hB:Below w.heap.size w wr:=((Below.refl _ w).alloc (Nat.le_refl _) _).trans (hBr.mono (by simp))
 have hR:wr.heap[w.heap.size]?=some (.cells #[.int .i64 0,.int .i64 0,.bool false,.slice none 0 0,.int .i64 0] 100 (0,0)):=by
  rw [hBr.block _ (by simp)];exact heap_alloc_new w _
 have hown:wr.ownsRow (w.heap.size+1) 3 1 (.slice (some ⟨g,0,none⟩) par.length cap) par.length (par.map (Value.int .i64)):=by simpa using hown
 have k0:=(hB.cell (p:=⟨b,o,none⟩) hb).trans c0
 have k1:=(hB.cell (p:=⟨b,o+1,none⟩) hb).trans c1
 have k2:=(hB.cell (p:=⟨b,o+2,none⟩) hb).trans c2
 have k4:=(hB.cell (p:=⟨b,o+4,none⟩) hb).trans c4
 have hfr:=fun i=>frozen_of hR i
 have r0:=cell_of hR 0
 have r1:=cell_of hR 1
 have r2:=cell_of hR 2
 have r3:=cell_of hR 3
 have r4:=cell_of hR 4
 have hne:b≠w.heap.size:=by omega
 have hne2:¬w.heap.size=b:=by omega
 have HOw:=hide hown
 have HBw:=hide hB
 have HRw:=hide hR
 clear hown hB hR c0 c1 c2 c4 HC hBr
 go_wp2
 go_region_held3 (fun w'=>w'.cell? ⟨b,o,none⟩=some (.int .i64 lo)∧w'.cell? ⟨b,o+1,none⟩=some (.int .i64 hi)∧w'.cell? ⟨b,o+2,none⟩=some (.bool op)∧w'.cell? ⟨b,o+4,none⟩=some (.slice ra cnt rcap)) (go_keep) (fail)
 go_wp2
 have hN:=set5_heap (w:=wr) (uh HRw) (.int .i64 lo) (.int .i64 hi) (.bool op) (.slice (some ⟨g,0,none⟩) par.length cap) (.int .i64 cnt)
 have hBB:=set5_below (uh HBw) (Nat.le_refl _) (.int .i64 lo) (.int .i64 hi) (.bool op) (.slice (some ⟨g,0,none⟩) par.length cap) (.int .i64 cnt)
 have hOO:(set5 wr w.heap.size (.int .i64 lo) (.int .i64 hi) (.bool op) (.slice (some ⟨g,0,none⟩) par.length cap) (.int .i64 cnt)).ownsRow w.heap.size 3 1 (.slice (some ⟨g,0,none⟩) par.length cap) par.length (par.map (Value.int .i64)):=by
  refine ownsRow_base (ownsRow_of_block (uh HOw) fun q hq=>set5_other ?_ _ _ _ _ _) (by omega)
  have:=((uh HOw).lt q hq).1
  omega
 unfold set5 at hN hBB hOO
 generalize World.setCell _ _ _=W8 at *
 obtain ⟨m0,m1,m2,m3,m4⟩:=load5 hN
 refine bodyPost_ret (v:=.agg #[.int .i64 lo,.int .i64 hi,.bool op,.slice (some ⟨g,0,none⟩) par.length cap,.int .i64 cnt]) (by simp [results,Tryz.results106,go_sem,m0,m1,m2,m3,m4]) rfl ?_
 exact ⟨g,cap,rfl,hOO.drew,hBB.drew⟩
theorem info82:(Tryz.prog.info? 100).map (fun i=>(i.zero,i.size,i.bytes))=some (some (.agg #[.int .i64 0,.int .i64 0,.bool false,.slice none 0 0,.int .i64 0]),5,56):=by kernel_rfl
def outCells (x:Sh × Value):List Value:=[.int .i64 x.1.lo,.int .i64 x.1.hi,.bool x.1.op,x.2,.int .i64 x.1.cnt]
def listCells:List (Sh × Value)→List Value
 | []=>[]
 | s :: r=>outCells s ++ listCells r
theorem listCells_append (l k:List (Sh × Value)):listCells (l ++ k)=listCells l ++ listCells k:=by
 induction l with
 | nil=>rfl
 | cons s r ih=>simp [listCells,ih]
theorem listCells_get (l:List (Sh × Value)) (i j:Nat) (hj:j<5) (s:Sh × Value) (h:l[i]?=some s):(listCells l)[i*5+j]?=(outCells s)[j]?:=by
 induction l generalizing i with
 | nil=>simp at h
 | cons x r ih =>
   cases i with
   | zero =>
     simp at h;subst h
     simp only [listCells,Nat.zero_mul,Nat.zero_add]
     rw [List.getElem?_append_left (by simpa [outCells] using hj)]
   | succ i =>
     simp at h
     simp only [listCells]
     rw [List.getElem?_append_right (by simp only [outCells,List.length_cons,List.length_nil];omega),←ih i h]
     congr 1
     simp only [outCells,List.length_cons,List.length_nil];omega
structure ListAt (w:World) (B:Nat) (v:Value) (l:List (Sh × Value)):Prop where
 row:w.ownsRow B 100 5 v l.length (listCells l)
 blk:∃g,v.ownBlock=some g
 par:∀(i:Nat) (x:Sh × Value),l[i]?=some x→w.ownsRow B 3 1 x.2 x.1.par.length (x.1.par.map (Value.int .i64))
 parS:∀(i:Nat) (x:Sh × Value),l[i]?=some x→∃g,x.2.ownBlock=some g
 apart:∀(i j:Nat) (x y:Sh × Value),i<j→l[i]?=some x→l[j]?=some y→x.2.ownBlock≠y.2.ownBlock
 vapart:∀(i:Nat) (x:Sh × Value),l[i]?=some x→x.2.ownBlock≠v.ownBlock
theorem ListAt.more {wr w2 w3 W:World} {B:Nat} {v:Value} {l:List (Sh × Value)} (h:ListAt wr B v l) (s:Sh) (g cap:Nat)
 (hp:w2.ownsRow wr.heap.size 3 1 (.slice (some ⟨g,0,none⟩) s.par.length cap) s.par.length (s.par.map (Value.int .i64))) (hb:Below wr.heap.size wr w2) (hB:B≤wr.heap.size)
 (hW:Below w2.heap.size w2 W) (g3 cap3:Nat) (hown:w3.ownsRow B 100 5 (.slice (some ⟨g3,0,none⟩) (l.length+1) cap3) (l.length+1) (listCells l ++ outCells (s,.slice (some ⟨g,0,none⟩) s.par.length cap)))
 (hgrow:W.grownBy w3 v.ownBlock) (hat:v.ownBlock=some g3∨g3=W.heap.size) :
 ListAt w3 B (.slice (some ⟨g3,0,none⟩) (l.length+1) cap3) (l ++ [(s,.slice (some ⟨g,0,none⟩) s.par.length cap)]):=by
 have hgl:=hp.lt g rfl
 have hv:∀q,v.ownBlock=some q→q<wr.heap.size:=fun q hq=>(h.row.lt q hq).2
 have hWs:=hW.size
 have hbs:=hb.size
 have g3ge:∀q,q<wr.heap.size→v.ownBlock≠some q→g3≠q:=by
  rintro q hq hne rfl
  rcases hat with e | e
  ·exact hne e
  ·omega
 have g3g:g3≠g:=by
  rintro rfl
  rcases hat with e | e
  ·have:=hv _ e;omega
  ·omega
 have old:∀q,q<w2.heap.size→v.ownBlock≠some q→w3.heap[q]?=w2.heap[q]?:=fun q hq hne=>by
  rw [hgrow.block q (by omega) (fun e=>hne e.symm),hW.block q hq]
 have lt:∀{i:Nat} {x:Sh × Value},l[i]?=some x→i<l.length:=fun hi=>(List.getElem?_eq_some_iff.1 hi).1
 have at_:∀{i:Nat} {x:Sh × Value},(l ++ [(s,Value.slice (some ⟨g,0,none⟩) s.par.length cap)])[i]?=some x→l[i]?=some x∨(i=l.length∧x=(s,Value.slice (some ⟨g,0,none⟩) s.par.length cap)):=by
  intro i x hi
  by_cases hlt:i<l.length
  ·rw [List.getElem?_append_left hlt] at hi;exact Or.inl hi
  ·rw [List.getElem?_append_right (by omega)] at hi
   have hz:i - l.length=0:=by
    have:=(List.getElem?_eq_some_iff.1 hi).1
    simp at this;omega
   rw [hz] at hi
   simp at hi
   exact Or.inr ⟨by omega,hi.symm⟩
 refine ⟨?_,⟨g3,rfl⟩,?_,?_,?_,?_⟩
 ·rw [listCells_append];simp only [listCells,List.append_nil,List.length_append,List.length_cons,List.length_nil];exact hown
 ·intro i x hi
  rcases at_ hi with hi | ⟨_,rfl⟩
  ·refine ownsRow_of_block (h.par i x hi) fun q hq=>?_
   have hq2:=((h.par i x hi).lt q hq).2
   rw [old q (by omega) (fun e=>h.vapart i x hi (by rw [hq,e])),hb.block q hq2]
  ·refine ownsRow_base (ownsRow_of_block hp fun q hq=>?_) hB
   simp [Value.ownBlock] at hq
   subst hq
   exact old _ hgl.2 (fun e=>by have:=hv _ e;omega)
 ·intro i x hi
  rcases at_ hi with hi | ⟨_,rfl⟩
  ·exact h.parS i x hi
  ·exact ⟨g,rfl⟩
 ·intro i j x y hij hi hj
  rcases at_ hj with hj | ⟨rfl,rfl⟩
  ·rcases at_ hi with hi | ⟨rfl,rfl⟩
   ·exact h.apart i j x y hij hi hj
   ·have:=lt hj;omega
  ·rcases at_ hi with hi | ⟨rfl,rfl⟩
   ·intro e
    have:=((h.par i x hi).lt g e).2
    omega
   ·omega
 ·intro i x hi
  rcases at_ hi with hi | ⟨_,rfl⟩
  ·intro e
   have e':x.2.ownBlock=Option.some g3:=e
   exact g3ge g3 ((h.par i x hi).lt g3 e').2 (fun e2=>h.vapart i x hi (by rw [e',e2])) rfl
  ·intro e
   simp [Value.ownBlock] at e
   exact g3g e.symm
def ListPost (w:World) (l:List Sh) (e:Ending) (w':World):Prop :=
 ∃v k,e=.returned v∧k.map (·.1)=l∧ListAt w' w.heap.size v k∧Below w.heap.size w w'
theorem take_last {m:List Cs} {k:Nat} {s:Cs} (h:m[k]?=some s):(m.map (·.s)).take (k+1)=(m.map (·.s)).take k ++ [s.s]:=by
 have hk:=(List.getElem?_eq_some_iff.1 h).1
 rw [List.take_succ_eq_append_getElem (by simpa using hk)]
 congr 1
 simp [(List.getElem?_eq_some_iff.1 h).2]
set_option maxRecDepth 100000 in
set_option maxHeartbeats 2000000 in
theorem list_any (w:World) (ρ:Nat→Nat) (gb:Nat) (C:Cfg) (now:Rest) (sv:Value) (m:List Cs) (h:GrpAt w ρ gb C now sv m) (hm0:0<m.length) (hm:m.length≤16) (hp:∀(i:Nat) (s:Cs),m[i]?=some s→s.s.par.length≤2) :
 Calls Tryz.prog 70 #[.pointer (some ⟨gb,7,none⟩)] w (ListPost w (m.map (·.s))):=by
 obtain ⟨c6,f6,_,_,hgb⟩:=h.cells
 obtain ⟨bs,cap,rfl,hbs,hbsl,hcap,hcm,ff,cc⟩:=h.log.shape hm0
 obtain ⟨i0,hi0,hz0,hz1,hz2⟩:=info_parts info82
 have HT:Hid (∀(i:Nat) (s:Cs) (wr:World),m[i]?=some s→Below w.heap.size w wr→Calls Tryz.prog 106 #[.pointer (some ⟨bs,i*5,none⟩)] wr (ToldPost wr s.s.lo s.s.hi s.s.op s.s.par s.s.cnt)):=by
  intro i s wr hi hb
  obtain ⟨a0,a1,a2,a3,a4⟩:=cc i s hi
  obtain ⟨pa,pcap,hpv⟩:=ownsRow_len (h.log.par i s hi)
  obtain ⟨xs,hx⟩:=h.log.rcs i s hi
  obtain ⟨ra,rcap,hrv⟩:=ownsRow_len hx
  have kk:∀j,wr.cell? ⟨bs,j,none⟩=w.cell? ⟨bs,j,none⟩:=fun j=>hb.cell (p:=⟨bs,j,none⟩) hbsl
  have hws:=hb.size
  refine tell_any bs (i*5) s.s.lo s.s.hi s.s.op s.s.par s.s.cnt rcap pcap pa ra wr (hp i s hi) (by omega) ((kk _).trans a0) ((kk _).trans a1) ((kk _).trans a2) ((kk _).trans (by rw [a3,hpv])) ((kk _).trans (by rw [a4,hrv])) ?_
  intro j hj
  obtain ⟨g,cap',cur,hv,_,hg,_⟩:=ownsRow_shape (h.log.par i s hi) (by omega)
  rw [hpv] at hv
  injection hv with e1 e2 e3
  refine ⟨g,e1,by have:=lt_of_heap hg;omega,?_⟩
  rw [hb.cell (p:=⟨g,j,none⟩) (lt_of_heap hg)]
  have hrow:=h.log.par i s hi
  rw [hpv,e1] at hrow
  rw [World.ownsRow.cellAt hrow j (by omega)]
  simp [hj]
 have HM:Hid (∀i,i<m.length→∃s,m[i]?=some s):=fun i hi=>⟨m[i],List.getElem?_eq_getElem hi⟩
 clear h cc ff hp
 go_enter Tryz.func70,Tryz.ntmps70
 go_wp2_with (at_make;refine wpList_make_own _ rfl _ _ 98 rfl w.heap.size 100 i0 _ 5 Tryz.underlying98 hi0 hz0 hz1 _ _ _ m.length rfl rfl rfl ?bytes ?maxLen ?base ?mk)
 case bytes=>rw [hz2];omega
 case maxLen=>unfold maxLen;omega
 case base=>exact Nat.le_refl _
 case mk =>
  intro w1 hown hgrow
  have hB:Below w.heap.size w w1:=(Below.refl _ w).grown hgrow (by simp) (fun k h=>by cases h)
  have HB:=hide hB
  have HO:Hid (ListAt w1 w.heap.size (.slice (some ⟨w.heap.size,0,none⟩) 0 m.length) []) :=
   ⟨hown,⟨_,rfl⟩,fun i x hi=>by simp at hi,fun i x hi=>by simp at hi,fun i j x y _ hi=>by simp at hi,fun i x hi=>by simp at hi⟩
  have k6:=(hB.cell (p:=⟨gb,7,none⟩) hgb).trans c6
  clear hown hgrow hB
  go_wp2
  clear k6
  go_loopw [3,4] (fun p i wr=>∃(k cap:Nat) (a:Option Addr) (l:List (Sh × Value)),k≤m.length∧i=.int .i64 k∧p=.slice a k cap∧l.map (·.1)=(m.map (·.s)).take k∧l.length=k∧ListAt wr w.heap.size (.slice a k cap) l∧Below w.heap.size w wr) (fun _ i _=>m.length - (intOf i).toNat)
  case atStart=>exact ⟨0,_,_,[],Nat.zero_le _,rfl,rfl,by simp,rfl,uh HO,uh HB⟩
  case round =>
   obtain ⟨k,cap',a,l,hk,rfl,rfl,hl,hlen,hat,hB⟩:=hrel
   have k6:=(hB.cell (p:=⟨gb,7,none⟩) hgb).trans c6
   by_cases hlt:k<m.length
   ·obtain ⟨s,hs⟩:=uh HM k hlt
    have HT1:=hide (uh HT k s wr hs hB)
    have HL:=hide hl
    have HLe:=hide hlen
    have HA:=hide hat
    have HBw:=hide hB
    have HS:=hide hs
    clear hl hlen hat hB hs
    go_wp2_with fail
    refine (uh HT1).mono ?_
    rintro e w2 ⟨g,pcap,rfl,hp2,hb2⟩
    have HP2:=hide hp2
    have HB2:=hide hb2
    have hgs:=hp2.lt g rfl
    have HGS:=hide hgs
    clear hp2 hb2 hgs
    go_wp2_with (at_builtin;go_must (refine wpList_append_lies _ rfl _ _ _ rfl w.heap.size 100 i0 _ 5 56 Tryz.underlying98 hi0 hz0 hz1 hz2 rfl (by omega) _ k (listCells l) rfl ?own ⟨w2.heap.size+1,0,none⟩ 1 1 (outCells (s.s,.slice (some ⟨g,0,none⟩) s.s.par.length pcap)) rfl rfl ?news ?one (by omega) ?h63 ?bytes ?base (w2.heap.size+2) ?hH ?next))
    case own =>
     have h1:=(uh HA).row
     rw [uh HLe] at h1
     exact ((ownsRow_of_block h1 fun q hq=>(uh HB2).block q (h1.lt q hq).2).alloc _).alloc _
    case news =>
     have h1:=heap_alloc_new (w2.alloc (.cells #[.int .i64 s.s.lo,.int .i64 s.s.hi,.bool s.s.op,.slice (some ⟨g,0,none⟩) s.s.par.length pcap,.int .i64 s.s.cnt] 100)) (.cells #[.int .i64 s.s.lo,.int .i64 s.s.hi,.bool s.s.op,.slice (some ⟨g,0,none⟩) s.s.par.length pcap,.int .i64 s.s.cnt] 100)
     rw [show (w2.alloc (.cells #[.int .i64 s.s.lo,.int .i64 s.s.hi,.bool s.s.op,.slice (some ⟨g,0,none⟩) s.s.par.length pcap,.int .i64 s.s.cnt] 100)).heap.size=w2.heap.size+1 by simp] at h1
     exact World.news_of_block h1
    case one =>
     intro u hu
     simp [outCells] at hu
     rcases hu with rfl | rfl | rfl | rfl | rfl <;> rfl
    case h63=>unfold maxLen;omega
    case bytes=>omega
    case base=>have:=(uh HB2).size;have:=(uh HBw).size;simp;omega
    case hH=>simp
    case next =>
     intro g3 cap3 w3 hown3 hgrow3 hat3 hlt3
     have hW:Below w2.heap.size w2 ((w2.alloc (.cells #[.int .i64 s.s.lo,.int .i64 s.s.hi,.bool s.s.op,.slice (some ⟨g,0,none⟩) s.s.par.length pcap,.int .i64 s.s.cnt] 100)).alloc (.cells #[.int .i64 s.s.lo,.int .i64 s.s.hi,.bool s.s.op,.slice (some ⟨g,0,none⟩) s.s.par.length pcap,.int .i64 s.s.cnt] 100)):=((Below.refl _ w2).alloc (Nat.le_refl _) _).alloc (by simp) _
     have HLL:=uh HLe
     subst HLL
     have HN:Hid (ListAt w3 w.heap.size (.slice (some ⟨g3,0,none⟩) (l.length+1) cap3) (l ++ [(s.s,.slice (some ⟨g,0,none⟩) s.s.par.length pcap)])) :=
      (uh HA).more s.s g pcap (uh HP2) (uh HB2) (uh HBw).size hW g3 cap3 hown3 hgrow3 (by simpa using hat3)
     have HB3:Hid (Below w.heap.size w w3) :=
      ((uh HBw).trans ((uh HB2).mono (uh HBw).size)).trans ((hW.mono (by have:=(uh HB2).size;have:=(uh HBw).size;omega)).trans ((Below.refl w.heap.size _).grown hgrow3 (by have:=(uh HB2).size;have:=(uh HBw).size;simp;omega) (fun q hq=>((uh HA).row.lt q hq).1)))
     clear hown3 hgrow3 hat3 hW
     go_wp2
     go_roundw
     case rel =>
      refine ⟨l.length+1,cap3,_,_,by omega,by go_num,rfl,?_,by simp,uh HN,uh HB3⟩
      rw [take_last (uh HS),←uh HL];simp
     case measure=>simp [intOf];omega
   ·have hkl:k=m.length:=by omega
    have HL:=hide hl
    have HA:=hide hat
    have HBw:=hide hB
    clear hl hat hB
    go_wp2
    go_ret
    refine ⟨_,l,rfl,?_,uh HA,uh HBw⟩
    rw [uh HL,List.take_of_length_le (by simp;omega)]
def refOut (rs:List Rf) (P:List Pt):List (Sh × Value):=rs.mapIdx (fun i r=>(⟨r.lo,r.hi,r.op,r.par,rcsOf P i⟩,r.pv))
theorem refOut_len (rs:List Rf) (P:List Pt):(refOut rs P).length=rs.length:=by simp [refOut]
theorem refOut_get {rs:List Rf} {P:List Pt} {i:Nat} {r:Rf} (h:rs[i]?=some r):(refOut rs P)[i]?=some (⟨r.lo,r.hi,r.op,r.par,rcsOf P i⟩,r.pv):=by simp [refOut,h]
theorem refOut_take {rs:List Rf} {P:List Pt} {i:Nat} {r:Rf} (h:rs[i]?=some r):(refOut rs P).take (i+1)=(refOut rs P).take i ++ [(⟨r.lo,r.hi,r.op,r.par,rcsOf P i⟩,r.pv)]:=by
 have h1:=refOut_get (P:=P) h
 have hi:=(List.getElem?_eq_some_iff.1 h1).1
 rw [List.take_succ_eq_append_getElem hi]
 congr 1
 rw [(List.getElem?_eq_some_iff.1 h1).2]
set_option maxHeartbeats 400000 in
theorem refTick_any {w:World} {ρ:Nat→Nat} {yb:Nat} {C:Cfg} {time:Int} {rs:List Rf} {P:List Pt} {wv:Wks} {fv sv lv:Value} (h:RefAt w ρ yb C time rs P wv fv sv lv) (hf:Fits w ρ) :
 Calls Tryz.prog 105 #[.pointer (some ⟨yb,0,none⟩)] w fun e w'=>e=.returned (.tuple #[])∧RefPost w ρ yb C (wrap64 (time+1)) rs P wv fv w':=by
 have c6:w.cell? ⟨yb,6,none⟩=some (.int .i64 time):=cell_of h.blk 6
 have f6:=frozen_of h.blk 6
 have hk:Keeps (fun k=>k=yb) w (w.setCell ⟨yb,6,none⟩ (.int .i64 (wrap64 (time+1)))):=(Keeps.refl (fun k=>k=yb) w).setCell (p:=⟨yb,6,none⟩) (Or.inl rfl) _
 have HP:Hid (RefPost w ρ yb C (wrap64 (time+1)) rs P wv fv (w.setCell ⟨yb,6,none⟩ (.int .i64 (wrap64 (time+1))))):=by
  have ok:∀{e:TypeId} {size:Nat} {v:Value} {n:Nat} {xs:List Value} {t:Nat},w.ownsRow 0 e size v n xs→(∀k,v.ownBlock=some k→ρ k=t)→t≠200→(w.setCell ⟨yb,6,none⟩ (.int .i64 (wrap64 (time+1)))).ownsRow 0 e size v n xs:=by
   intro e size v n xs t ho ht h1
   refine ownsRow_keeps ho hk fun k hkk hs=>?_
   subst hs
   have:=ht _ hkk;have:=h.tag;omega
  refine ⟨ρ,sv,lv,⟨?_,h.tag,ok h.row h.rowT (by omega),h.rowT,ok h.log h.logT (by omega),h.logT,fun i r hi=>ok (h.par i r hi) (h.parT i r hi) (by omega),h.parT,h.wk.same fun k h1 h2 h3=>⟨hk.block k h1 (fun hs=>by subst hs;have:=h.tag;omega),rfl⟩⟩,hk.mono (fun k _ e=>by subst e;unfold theirs;rw [h.tag];omega),ExtR.refl hf,fun k hkk=>hf k (by simpa [World.setCell] using hkk)⟩
  rw [heap_setCell_same h.blk];rfl
 clear h hk
 go_enter Tryz.func105,Tryz.ntmps105
 go_wp2
 go_end0
 exact ⟨rfl,uh HP⟩
set_option maxRecDepth 100000 in
set_option maxHeartbeats 1000000 in
theorem refList_any {w:World} {ρ:Nat→Nat} {yb:Nat} {C:Cfg} {time:Int} {rs:List Rf} {P:List Pt} {wv:Wks} {fv sv lv:Value} (h:RefAt w ρ yb C time rs P wv fv sv lv) (hP:P.length≤1000000) (hpos:0<rs.length) (hrs:rs.length≤16) :
 Calls Tryz.prog 32 #[.pointer (some ⟨yb,0,none⟩)] w fun e w'=>∃a cap,e=.returned (.slice a rs.length cap)∧w'.ownsRow w.heap.size 100 5 (.slice a rs.length cap) rs.length (listCells (refOut rs P))∧Below w.heap.size w w':=by
 obtain ⟨sb,cap,rfl,hsb,_,_,hcell⟩:=h.shards hpos
 have c7:w.cell? ⟨yb,7,none⟩=some (.slice (some ⟨sb,0,none⟩) rs.length cap):=cell_of h.blk 7
 have hyb:=lt_of_heap h.blk
 obtain ⟨i0,hi0,hz0,hz1,hz2⟩:=info_parts info82
 have HRc:Hid (∀(wr:World) (k:Nat),Below w.heap.size w wr→Calls Tryz.prog 43 #[.pointer (some ⟨yb,0,none⟩),.int .i64 k] wr fun e w'=>∃a cap,e=.returned (.slice a (ofShard P k).length cap)∧w'.ownsRow wr.heap.size 144 4 (.slice a (ofShard P k).length cap) (ofShard P k).length (rowPt (ofShard P k))∧Below wr.heap.size wr w'):=fun wr k hb =>
  records_any (h.keeps (Keeps.of_below hb) (fun _ hk=>Or.inr hk) (fun _ _=>rfl)) hP k
 have HPv:Hid (∀(i:Nat) (r:Rf),rs[i]?=some r→∃pa pc,r.pv=.slice pa r.par.length pc):=fun i r hi=>ownsRow_len (h.par i r hi)
 have HC:=hide hcell
 have HEx:Hid (∀j,j<rs.length→∃q,rs[j]?=some q):=fun j hj=>⟨rs[j],List.getElem?_eq_getElem hj⟩
 clear h hcell
 go_enter Tryz.func32,Tryz.ntmps32
 go_wp2
 go_loopw [3,4] (fun p i wr=>∃(j cap:Nat) (a:Option Addr),j≤rs.length∧i=.int .i64 j∧p=.slice a j cap∧wr.ownsRow w.heap.size 100 5 (.slice a j cap) j (listCells ((refOut rs P).take j))∧Below w.heap.size w wr) (fun _ i _=>rs.length - (intOf i).toNat)
 case atStart=>exact ⟨0,0,none,Nat.zero_le _,rfl,rfl,World.ownsRow_nil _ _ _ _,Below.refl _ _⟩
 case round =>
  obtain ⟨j,cap1,a,hj,rfl,rfl,hown,hB⟩:=hrel
  have d7:=(hB.cell (p:=⟨yb,7,none⟩) hyb).trans c7
  by_cases hlt:j<rs.length
  ·obtain ⟨r,hr⟩:=uh HEx j hlt
   obtain ⟨pa,pc,hpv⟩:=uh HPv j r hr
   have hc:∀i,i<9→wr.cell? ⟨sb,j*9+i,none⟩=(rfCells r)[i]?:=fun i hi=>(hB.cell (p:=⟨sb,j*9+i,none⟩) hsb).trans (uh HC j r hr i hi)
   have b0:wr.cell? ⟨sb,j*9,none⟩=some (.int .i64 r.lo):=hc 0 (by omega)
   have b1:wr.cell? ⟨sb,j*9+1,none⟩=some (.int .i64 r.hi):=hc 1 (by omega)
   have b2:wr.cell? ⟨sb,j*9+2,none⟩=some (.bool r.op):=hc 2 (by omega)
   have b3:wr.cell? ⟨sb,j*9+3,none⟩=some (.slice pa r.par.length pc):=by rw [←hpv];exact hc 3 (by omega)
   have b4:wr.cell? ⟨sb,j*9+4,none⟩=some (.int .i64 r.own):=hc 4 (by omega)
   have b5:wr.cell? ⟨sb,j*9+5,none⟩=some (.int .i64 r.ctr):=hc 5 (by omega)
   have b6:wr.cell? ⟨sb,j*9+6,none⟩=some (.int .i64 r.lep):=hc 6 (by omega)
   have b7:wr.cell? ⟨sb,j*9+7,none⟩=some (.int .i64 r.done):=hc 7 (by omega)
   have b8:wr.cell? ⟨sb,j*9+8,none⟩=some (.int .i64 r.ep):=hc 8 (by omega)
   have HTk:=hide (refOut_take (P:=P) hr)
   have hbox:Below w.heap.size w (wr.alloc (.cells #[.int .i64 r.lo,.int .i64 r.hi,.bool r.op,.slice pa r.par.length pc,.int .i64 r.own,.int .i64 r.ctr,.int .i64 r.lep,.int .i64 r.done,.int .i64 r.ep] 73)):=hB.alloc hB.size _
   have HR1:=hide (uh HRc _ j hbox)
   have HO:=hide hown
   have HB:=hide hB
   have HPV:=hide hpv
   have hws:=hB.size
   have HGL:=hide (fun q hq=>hown.lt q hq)
   clear hc hr hown hB hbox hpv
   go_wp2_with fail
   refine (uh HR1).mono ?_
   rintro e w2 ⟨ra,rcap,rfl,_,hb2⟩
   obtain ⟨g1,hB2,hsz2⟩:=below_new hb2
   have e0:=cell_of g1 0
   have e1:=cell_of g1 1
   have e2:=cell_of g1 2
   have e3:=cell_of g1 3
   simp at e0 e1 e2 e3
   have HB2:=hide hB2
   obtain ⟨rl,hrl,hrn⟩:∃rl,rcsOf P j=rl∧(ofShard P j).length=rl.length:=⟨_,rfl,(rcsOf_len P j).symm⟩
   rw [hrl] at HTk
   clear hrl
   generalize (ofShard P j).length=cn at *
   subst hrn
   clear hb2 g1 hB2 b0 b1 b2 b3 b4 b5 b6 b7 b8 d7
   go_wp2_with (at_builtin;go_must (refine wpList_append_lies _ rfl _ _ _ rfl w.heap.size 100 i0 _ 5 56 Tryz.underlying98 hi0 hz0 hz1 hz2 rfl (by omega) _ j (listCells ((refOut rs P).take j)) rfl ?own ⟨w2.heap.size,0,none⟩ 1 1 (outCells (⟨r.lo,r.hi,r.op,r.par,rl⟩,.slice pa r.par.length pc)) rfl rfl ?news ?one (by omega) ?h63 ?bytes ?base (w2.heap.size+1) ?hH ?next))
   case own=>exact (ownsRow_of_block (uh HO) fun q hq=>(uh HB2).block q ((uh HGL) q hq).2).alloc _
   case news=>exact World.news_of_block (cs:=#[.int .i64 r.lo,.int .i64 r.hi,.bool r.op,.slice pa r.par.length pc,.int .i64 rl.length]) (heap_alloc_new w2 _)
   case one =>
    intro u hu
    simp [outCells] at hu
    rcases hu with rfl | rfl | rfl | rfl | rfl <;> rfl
   case h63=>unfold maxLen;omega
   case bytes=>omega
   case base=>simp;omega
   case hH=>simp
   case next =>
    intro g2 cap2 w3 hown3 hgrow3 hat hlt2
    have hB3:Hid (Below w.heap.size w w3):=(((uh HB).trans ((uh HB2).mono hws)).alloc (by omega) _).grown hgrow3 (by simp;omega) (fun q hq=>(uh HGL q hq).1)
    have HN:=hide hown3
    clear hown3 hgrow3 hat
    go_wp2
    go_roundw
    case rel =>
     refine ⟨j+1,cap2,some ⟨g2,0,none⟩,by omega,by go_num,rfl,?_,uh hB3⟩
     rw [uh HTk,listCells_append,uh HPV]
     simp only [listCells,List.append_nil]
     exact uh HN
    case measure=>simp [intOf];omega
  ·have hjj:j=rs.length:=by omega
   subst hjj
   rw [List.take_of_length_le (by rw [refOut_len];omega)] at hown
   have HO:=hide hown
   have HB:=hide hB
   clear hown hB
   go_wp2
   go_ret
   exact ⟨a,cap1,rfl,uh HO,uh HB⟩
end Go.Proofs.YtpnkmnmchdabkaaGreat
namespace Go.Proofs.YtpnkmnmchdabkaaGreat
open Go.RowKit
def isNew (ns:List Rf) (j:Nat):Bool:=ns.any (fun r=>r.pv.ownBlock == some j)
theorem isNew_iff (ns:List Rf) (j:Nat):isNew ns j=true ↔ ∃r ∈ ns,r.pv.ownBlock=some j:=by simp [isNew]
def NewRf (U W:World) (r:Rf):Prop:=∃b,r.pv=.slice (some ⟨b,0,none⟩) r.par.length r.par.length∧W.heap[b]?=some (.cells (r.par.map (Value.int .i64)).toArray 3 (0,0))∧U.heap.size≤b∧r.par.length≤2
theorem RefAt.grow {U W w3:World} {ρ:Nat→Nat} {yb:Nat} {C:Cfg} {time:Int} {rs:List Rf} {P:List Pt} {wv:Wks} {fv sv lv:Value} (h:RefAt U ρ yb C time rs P wv fv sv lv) (hf:Fits U ρ) (ns:List Rf) (hWk:Keeps (fun _=>False) U W)
 (hns:∀r ∈ ns,NewRf U W r) (g cap n:Nat) (hn:n=rs.length+ns.length) (hown:w3.ownsRow 0 73 9 (.slice (some ⟨g,0,none⟩) n cap) n (rowRf rs ++ rowRf ns)) (hgrow:W.grownBy w3 sv.ownBlock) (hat:sv.ownBlock=some g∨g=W.heap.size) :
 RefPost U ρ yb C time (rs ++ ns) P wv fv (w3.setCell ⟨yb,7,none⟩ (.slice (some ⟨g,0,none⟩) n cap)):=by
 subst hn
 have hyb:=lt_of_heap h.blk
 have hWs:=hWk.size
 have hgs:=hgrow.size
 have hg2:g<w3.heap.size:=(hown.lt g rfl).2
 have hgT:g<U.heap.size→ρ g=201:=fun hlt=>by
  rcases hat with e | e
  ·exact h.rowT g e
  ·omega
 have hgy:g≠yb:=by rintro rfl;have:=hgT hyb;have:=h.tag;omega
 have newB:∀j,isNew ns j=true→U.heap.size≤j∧j<W.heap.size∧j≠g:=by
  intro j hj
  obtain ⟨r,hr,hb⟩:=(isNew_iff ns j).1 hj
  obtain ⟨b,e,hh,hub,_⟩:=hns r hr
  rw [e] at hb
  simp [Value.ownBlock] at hb
  subst hb
  have hlt:=lt_of_heap hh
  refine ⟨hub,hlt,?_⟩
  rintro rfl
  rcases hat with e | e
  ·have:=(h.row.lt _ e).2;omega
  ·omega
 have hkeep:Keeps (fun k=>k=yb∨sv.ownBlock=some k) U (w3.setCell ⟨yb,7,none⟩ (.slice (some ⟨g,0,none⟩) (rs.length+ns.length) cap)):=by
  refine ⟨?_,?_,?_,?_,?_⟩
  ·show w3.os=U.os;rw [hgrow.os,hWk.os]
  ·show w3.tape=U.tape;rw [hgrow.tape,hWk.tape]
  ·show w3.output=U.output;rw [hgrow.output,hWk.output]
  ·simp [World.setCell];omega
  ·intro k hk hs
   rw [Below.heap_setCell _ _ _ _ (fun e=>hs (Or.inl e)),hgrow.block k (by omega) (fun e=>hs (Or.inr e.symm)),hWk.block k hk (fun h=>h)]
 have tagOf:∀k,k<U.heap.size→(if k=g then 201 else if isNew ns k=true then 203 else ρ k)=ρ k:=by
  intro k hk
  split
  ·rename_i e;subst e;exact (hgT hk).symm
  ·split
   ·rename_i e;have:=(newB k e).1;omega
   ·rfl
 have ok:∀{e:TypeId} {size:Nat} {v:Value} {n:Nat} {xs:List Value} {t:Nat},U.ownsRow 0 e size v n xs→(∀k,v.ownBlock=some k→ρ k=t)→t≠200→t≠201→(w3.setCell ⟨yb,7,none⟩ (.slice (some ⟨g,0,none⟩) (rs.length+ns.length) cap)).ownsRow 0 e size v n xs:=by
  intro e size v n xs t ho ht h1 h2
  refine ownsRow_keeps ho hkeep fun k hkk hs=>?_
  have h3:=ht k hkk
  rcases hs with rfl | hs
  ·have:=h.tag;omega
  ·have:=h.rowT k hs;omega
 have at_:∀{i:Nat} {r:Rf},(rs ++ ns)[i]?=some r→rs[i]?=some r∨r ∈ ns:=by
  intro i r hi
  by_cases hlt:i<rs.length
  ·rw [List.getElem?_append_left hlt] at hi;exact Or.inl hi
  ·rw [List.getElem?_append_right (by omega)] at hi;exact Or.inr (List.mem_of_getElem? hi)
 refine ⟨fun k=>if k=g then 201 else if isNew ns k=true then 203 else ρ k,.slice (some ⟨g,0,none⟩) (rs.length+ns.length) cap,lv,⟨?_,?_,?_,?_,ok h.log h.logT (by omega) (by omega),?_,?_,?_,h.wk.same fun k h1 h2 h3=>⟨hkeep.block k h1 (fun hs=>by rcases hs with rfl | hs;have:=h.tag;omega;have:=h.rowT k hs;omega),tagOf k h1⟩⟩,?_,?_,?_⟩
 ·have hb:w3.heap[yb]?=some (.cells (refArr C time sv wv.v lv fv) 80 (0,0)):=by
   rw [hgrow.block yb (by omega) (fun e=>by have:=h.rowT yb e.symm;have:=h.tag;omega),hWk.block yb hyb (fun h=>h),h.blk]
  rw [heap_setCell_same hb];rfl
 ·show (if yb=g then _ else _)=200
  rw [tagOf yb hyb];exact h.tag
 ·rw [rowRf_append,List.length_append]
  refine ownsRow_of_block hown fun k hk=>Below.heap_setCell _ _ _ _ ?_
  simp [Value.ownBlock] at hk
  subst hk
  exact hgy
 ·intro k hk
  simp [Value.ownBlock] at hk
  subst hk
  show (if g=g then 201 else _)=201
  rw [if_pos rfl]
 ·intro k hk
  show (if k=g then _ else _)=202
  rw [tagOf k (h.log.lt k hk).2];exact h.logT k hk
 ·intro i r hi
  rcases at_ hi with hi | hi
  ·exact ok (h.par i r hi) (h.parT i r hi) (by omega) (by omega)
  ·obtain ⟨b,e,hh,hub,hp2⟩:=hns r hi
   have hnb:=newB b ((isNew_iff ns b).2 ⟨r,hi,by rw [e];rfl⟩)
   rw [e]
   refine ⟨by simp,.inr ⟨b,r.par.length,(r.par.map (Value.int .i64)).toArray,rfl,Nat.zero_le _,?_,Nat.le_refl _,by unfold maxLen;omega,by simp,by simp [List.take_of_length_le]⟩⟩
   rw [Below.heap_setCell _ _ _ _ (by show b≠yb;omega),hgrow.block b hnb.2.1 (fun e=>by have:=(h.row.lt b e.symm).2;omega),hh]
 ·intro i r hi k hk
  show (if k=g then 201 else if isNew ns k=true then 203 else ρ k)=203
  rcases at_ hi with hi | hi
  ·rw [tagOf k ((h.par i r hi).lt k hk).2];exact h.parT i r hi k hk
  ·have hnw:=(isNew_iff ns k).2 ⟨r,hi,hk⟩
   rw [if_neg (newB k hnw).2.2,if_pos hnw]
 ·refine hkeep.mono fun k _ hs=>?_
  unfold theirs
  rcases hs with rfl | hs
  ·rw [h.tag];omega
  ·rw [h.rowT k hs];omega
 ·refine ⟨tagOf,fun k hk=>?_⟩
  show (if k=g then 201 else if isNew ns k=true then 203 else ρ k)=0∨(200≤(if k=g then 201 else if isNew ns k=true then 203 else ρ k)∧(if k=g then 201 else if isNew ns k=true then 203 else ρ k)<300)
  split
  ·right;omega
  ·split
   ·right;omega
   ·left;exact hf k hk
 ·intro k hk
  have hk':w3.heap.size≤k:=by simpa [World.setCell] using hk
  show (if k=g then 201 else if isNew ns k=true then 203 else ρ k)=0
  rw [if_neg (by omega),if_neg (fun e=>by have:=(newB k e).2.1;omega)]
  exact hf k (by omega)
theorem RefAt.close {w:World} {ρ:Nat→Nat} {yb:Nat} {C:Cfg} {time:Int} {rs:List Rf} {P:List Pt} {wv:Wks} {fv lv:Value} {sb cap:Nat} (h:RefAt w ρ yb C time rs P wv fv (.slice (some ⟨sb,0,none⟩) rs.length cap) lv) (i:Nat) (r:Rf) (hi:rs[i]?=some r) :
 RefAt (w.setCell ⟨sb,i*9+2,none⟩ (.bool false)) ρ yb C time (rs.set i { r with op:=false }) P wv fv (.slice (some ⟨sb,0,none⟩) rs.length cap) lv:=by
 have hsb:ρ sb=201:=h.rowT sb rfl
 have ok:∀{e:TypeId} {size:Nat} {v:Value} {n:Nat} {xs:List Value} {t:Nat},w.ownsRow 0 e size v n xs→(∀k,v.ownBlock=some k→ρ k=t)→t≠201→(w.setCell ⟨sb,i*9+2,none⟩ (.bool false)).ownsRow 0 e size v n xs:=by
  intro e size v n xs t ho ht h1
  refine ownsRow_of_block ho fun k hkk=>Below.heap_setCell _ _ _ _ ?_
  rintro rfl
  have:=ht _ hkk;omega
 have at_:∀{j:Nat} {q:Rf},(rs.set i { r with op:=false })[j]?=some q→∃q',rs[j]?=some q'∧q.pv=q'.pv∧q.par=q'.par:=by
  intro j q hj
  rw [List.getElem?_set] at hj
  split at hj
  ·rename_i e;subst e
   split at hj
   ·cases hj;exact ⟨r,hi,rfl,rfl⟩
   ·cases hj
  ·exact ⟨q,hj,rfl,rfl⟩
 refine ⟨?_,h.tag,?_,h.rowT,ok h.log h.logT (by omega),h.logT,?_,?_,h.wk.same fun k h1 h2 h3=>⟨Below.heap_setCell _ _ _ _ (by rintro rfl;omega),rfl⟩⟩
 ·rw [Below.heap_setCell _ _ _ _ (by rintro rfl;have:=h.tag;omega)];exact h.blk
 ·have:=(World.ownsRow.stored h.row (i*9+2) (.bool false)).1
  rw [rowRf_set rs i 2 (by omega) r { r with op:=false } hi _ rfl] at this
  simpa using this
 ·intro j q hj
  obtain ⟨q',h1,h2,h3⟩:=at_ hj
  rw [h2,h3]
  exact ok (h.par j q' h1) (h.parT j q' h1) (by omega)
 ·intro j q hj k hk
  obtain ⟨q',h1,h2,h3⟩:=at_ hj
  rw [h2] at hk
  exact h.parT j q' h1 k hk
theorem absR_turn {rs:List Rf} {P:List Pt} (hP:∀e ∈ P,e.shard<rs.length) (ns:List Rf):absR (rs ++ ns) P=absR rs P ++ ns.map (fun r=>⟨r.lo,r.hi,r.op,r.par,[]⟩):=by
 have hz:∀i,rs.length≤i→ofShard P i=[]:=by
  intro i hi
  unfold ofShard
  rw [List.filter_eq_nil_iff]
  intro e he
  have:=hP e he
  simp;omega
 apply List.ext_getElem?
 intro i
 by_cases hlt:i<rs.length
 ·obtain ⟨q,hq⟩:∃q,rs[i]?=some q:=⟨rs[i],List.getElem?_eq_getElem hlt⟩
  rw [List.getElem?_append_left (by rw [absR_len];exact hlt),absR_get hq,absR_get (by rw [List.getElem?_append_left hlt];exact hq)]
 ·rw [List.getElem?_append_right (by rw [absR_len];omega),absR_len]
  by_cases hl2:i - rs.length<ns.length
  ·obtain ⟨q,hq⟩:∃q,ns[i - rs.length]?=some q:=⟨ns[i - rs.length],List.getElem?_eq_getElem hl2⟩
   rw [absR_get (r:=q) (by rw [List.getElem?_append_right (by omega)];exact hq),show rcsOf P i=[] by unfold rcsOf;rw [hz i (by omega)];rfl]
   simp [hq]
  ·rw [List.getElem?_eq_none (by rw [absR_len,List.length_append];omega),List.getElem?_eq_none (by simp;omega)]
theorem absR_close {rs:List Rf} {P:List Pt} {k:Nat} {r:Rf} (hr:rs[k]?=some r):absR (rs.set k { r with op:=false }) P=(absR rs P).set k ⟨r.lo,r.hi,false,r.par,rcsOf P k⟩:=by
 apply List.ext_getElem?
 intro i
 have hkl:=(List.getElem?_eq_some_iff.1 hr).1
 by_cases hi:i<rs.length
 ·by_cases hki:k=i
  ·subst hki
   rw [List.getElem?_set_self (by rw [absR_len];exact hi),absR_get (r:={ r with op:=false }) (by rw [List.getElem?_set_self hkl])]
  ·obtain ⟨q,hq⟩:∃q,rs[i]?=some q:=⟨rs[i],List.getElem?_eq_getElem hi⟩
   rw [List.getElem?_set_ne hki,absR_get hq,absR_get (by rw [List.getElem?_set_ne hki];exact hq)]
 ·rw [List.getElem?_eq_none (by rw [absR_len];simp;omega),List.getElem?_eq_none (by simp [absR_len];omega)]
/-! A region whose last operation (number z: a store behind all others) writes what its loads read: the condition S is kept up to it,and not behind it. -/
section
variable {P:Program} {ops:Array Oper} {Q:Exit→Act→World→Prop} {md:Region.Mode} {S:World→Prop} {z:Nat}
def AnyBut (P:Program) (md:Region.Mode) (ops:Array Oper) (Q:Exit→Act→World→Prop) (S:World→Prop) (z:Nat):Nat→Array Bool→Act→World→Prop
 | 0,l,a,w=>Region.ready md ops l=[]∧Q .normal a w
 | n+1,l,a,w=>(Region.ready md ops l=[]→Q .normal a w)∧∀i ∈ Region.ready md ops l,wpOp P ops Q i (fun a' w'=>(i≠z→S w')∧AnyBut P md ops Q S z n (l.setIfInBounds i true) a' w') a w
theorem AnyBut.any:∀(n:Nat) (l:Array Bool) (a:Act) (w:World),AnyBut P md ops Q S z n l a w→wpAny P md ops Q n l a w
 | 0,_,_,_,h=>h
 | n+1,_,_,_,h=>⟨h.1,fun i hi=>wpOp_mono (fun a' w' h'=>AnyBut.any n _ a' w' h'.2) (h.2 i hi)⟩
def waitsFor (md:Region.Mode) (ops:Array Oper) (z i:Nat):Bool:=((ops[z]?).map (·.after.any fun e=>Region.binds md e && e.on == i)).getD false
theorem not_ready_z {i:Nat} {l:Array Bool} (hz:waitsFor md ops z i=true) (hi:i ∈ Region.ready md ops l):z ∉ Region.ready md ops l:=by
 intro hj
 obtain ⟨-,oz,hoz,hall⟩:=mem_ready.1 hj
 have h0:=(mem_ready.1 hi).1
 unfold waitsFor at hz
 rw [hoz] at hz
 simp only [Option.map_some,Option.getD_some,Array.any_eq_true'] at hz
 obtain ⟨e,he,hb⟩:=hz
 simp only [Bool.and_eq_true,beq_iff_eq] at hb
 have h1:=hall e he hb.1
 rw [hb.2] at h1
 rcases Nat.lt_or_ge i l.size with h' | h'
 ·simp [h'] at h0 h1;rw [h0] at h1;cases h1
 ·simp [Array.getElem?_eq_none h'] at h1
theorem anyBut_first {i:Nat} {oi:Oper} {v:Value} (hi:ops[i]?=some oi) (hsel:∀(j:Nat) (o:Oper) cs b,ops[j]?=some o→o.op≠.select cs b)
 (hQ:∀c a w,Q (.panic c) (a.put oi.dst v) w→Q (.panic c) a w) (hz:waitsFor md ops z i=true) :
 ∀(n:Nat) (l:Array Bool) (a:Act) (w:World),
  (∀j oj,ops[j]?=some oj→j≠i→l.getD j true=false→(∀e ∈ oj.after,Region.binds md e=true→e.on≠i)→oi.apart ops oj=true) →
  i ∈ Region.ready md ops l→YieldsIf P ops S oi v a→S w →
  AnyBut P md ops Q S z n (l.setIfInBounds i true) (a.put oi.dst v) w→AnyBut P md ops Q S z (n+1) l a w:=by
 intro n
 induction n with
 | zero =>
   intro l a w _ hr hy hS H
   refine ⟨fun h=>absurd (h ▸ hr) (by simp),fun j hj=>?_⟩
   by_cases e:j=i
   ·subst e;exact hy.wpOp hi hS ⟨fun _=>hS,H⟩
   ·exact absurd (H.1 ▸ ready_mono hj e) (by simp)
 | succ n ih =>
   intro l a w hfree hr hy hS H
   refine ⟨fun h=>absurd (h ▸ hr) (by simp),fun j hj=>?_⟩
   by_cases e:j=i
   ·subst e;exact hy.wpOp hi hS ⟨fun _=>hS,H⟩
   ·have hjz:j≠z:=fun h=>not_ready_z hz hr (h ▸ hj)
    obtain ⟨hjun,oj,hoj,hall⟩:=mem_ready.1 hj
    have hnot:∀x ∈ oj.after,Region.binds md x=true→x.on≠i:=by
     intro x hx hb heq
     have h1:=hall x hx hb
     have h0:=(mem_ready.1 hr).1
     rw [heq] at h1
     rcases Nat.lt_or_ge i l.size with h' | h'
     ·simp [h'] at h0 h1;rw [h0] at h1;cases h1
     ·simp [Array.getElem?_eq_none h'] at h1
    refine wpOp_mono (fun a' w' h3=>⟨fun _=>h3.2.1 hjz,ih (l.setIfInBounds j true) a' w' ?_ (ready_mono hr (Ne.symm e)) h3.1 (h3.2.1 hjz) ?_⟩)
     (wpOp_putIf hoj (hfree j oj hoj e hjun hnot) (fun cs b=>hsel i oi cs b hi) (fun cs b=>hsel j oj cs b hoj) hQ hy (H.2 j (ready_mono hj e)))
    ·intro k ok hk hki hun hno
     refine hfree k ok hk hki ?_ hno
     by_cases hjk:j=k
     ·subst hjk;exact hjun
     ·rwa [getD_set_ne true hjk] at hun
    ·rw [Array.setIfInBounds_comm _ _ e]
     exact h3.2.2
theorem anyBut_take {i:Nat} {oi:Oper} {v:Value} {n:Nat} {l l':Array Bool} {a:Act} {w:World} (hi:ops[i]?=some oi)
 (hs:Region.noSelect ops=true) (hf:Region.free md ops l i=true) (hr:(Region.ready md ops l).contains i=true) (hz:waitsFor md ops z i=true) (hl:l.setIfInBounds i true=l')
 (hQ:∀c a w,Q (.panic c) (a.put oi.dst v) w→Q (.panic c) a w) (hg:oi.guard=none) (hy:∀w,S w→(execOp a.eval oi).run P w=.ok (.value v) w) (hS:S w)
 (h:AnyBut P md ops Q S z n l' (a.put oi.dst v) w):AnyBut P md ops Q S z (n+1) l a w :=
 anyBut_first hi (Region.noSelect_spec hs) hQ hz n l a w (Region.free_spec hi hf) (by simpa using hr) (Or.inl ⟨by simp [Region.wanted,hg],hy⟩) hS (hl ▸ h)
theorem anyBut_one {i:Nat} {o:Oper} {n:Nat} {l l':Array Bool} {a:Act} {w:World} (hr:Region.ready md ops l=[i]) (ho:ops[i]?=some o) (hg:o.guard=none) (hl:l.setIfInBounds i true=l')
 (h:∀K':Act→World→Prop,Shut (∀a w,(i≠z→S w)→AnyBut P md ops Q S z n l' a w→K' a w)→Oper.wp P o a w K' Q):AnyBut P md ops Q S z (n+1) l a w:=by
 subst hl
 refine ⟨fun h0=>absurd (hr ▸ h0) (by simp),fun j hj=>?_⟩
 rw [hr,List.mem_singleton] at hj
 subst hj
 refine wpOp_step ho fun K' hK=>?_
 rw [if_pos (by simp [Region.wanted,hg])]
 exact h K' fun a w h1 h2=>hK a w ⟨h1,h2⟩
theorem anyBut_two {i j:Nat} {oi oj:Oper} {n:Nat} {l li lj:Array Bool} {a:Act} {w:World} (hr:Region.ready md ops l=[i,j]) (ho:ops[i]?=some oi) (hg:oi.guard=none) (ho':ops[j]?=some oj) (hg':oj.guard=none)
 (hl:l.setIfInBounds i true=li) (hl':l.setIfInBounds j true=lj)
 (h:∀K':Act→World→Prop,Shut (∀a w,(i≠z→S w)→AnyBut P md ops Q S z n li a w→K' a w)→Oper.wp P oi a w K' Q)
 (h':∀K':Act→World→Prop,Shut (∀a w,(j≠z→S w)→AnyBut P md ops Q S z n lj a w→K' a w)→Oper.wp P oj a w K' Q):AnyBut P md ops Q S z (n+1) l a w:=by
 subst hl hl'
 refine ⟨fun h0=>absurd (hr ▸ h0) (by simp),fun k hk=>?_⟩
 rw [hr,List.mem_cons,List.mem_singleton] at hk
 rcases hk with rfl | rfl
 ·refine wpOp_step ho fun K' hK=>?_
  rw [if_pos (by simp [Region.wanted,hg])]
  exact h K' fun a w h1 h2=>hK a w ⟨h1,h2⟩
 ·refine wpOp_step ho' fun K' hK=>?_
  rw [if_pos (by simp [Region.wanted,hg'])]
  exact h' K' fun a w h1 h2=>hK a w ⟨h1,h2⟩
theorem anyBut_done {l:Array Bool} {a:Act} {w:World} (hr:Region.ready md ops l=[]) (h:Q .normal a w):∀n,AnyBut P md ops Q S z n l a w
 | 0=>⟨hr,h⟩
 | _+1=>⟨fun _=>h,by rw [hr];simp⟩
theorem wp_region_but {id:Nat} {a:Act} {w:World} (hm:P.follows .mixedOrders=true) (n:Nat) (hn:ops.size=n) (l:Array Bool) (hl:Array.replicate n false=l)
 (h:AnyBut P .any ops Q S z n l a w.drew):(Code.region id ops true).wp P Q a w :=
 wp_region_any hm (by subst hl hn;exact AnyBut.any _ _ _ _ h)
end
end Go.Proofs.YtpnkmnmchdabkaaGreat
