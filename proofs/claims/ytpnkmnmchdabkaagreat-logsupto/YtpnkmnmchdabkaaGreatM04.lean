import Derived.Test.YtpnkmnmchdabkaaGreatRefLeaf
import Derived.Test.YtpnkmnmchdabkaaGreatM01
import Derived.Test.YtpnkmnmchdabkaaGreatM00
import Derived.Deep.DeepMust
namespace Go.Proofs.YtpnkmnmchdabkaaGreat
open Go.RowKit
attribute [local go_sem ↓] Go.wp_at_zero Go.wp_at_succ
structure Rf where
 lo:Int
 hi:Int
 op:Bool
 par:List Int
 pv:Value
 own:Int
 ctr:Int
 lep:Int
 done:Int
 ep:Int
def rfCells (r:Rf):List Value:=[.int .i64 r.lo,.int .i64 r.hi,.bool r.op,r.pv,.int .i64 r.own,.int .i64 r.ctr,.int .i64 r.lep,.int .i64 r.done,.int .i64 r.ep]
def rowRf:List Rf→List Value
 | []=>[]
 | s :: r=>rfCells s ++ rowRf r
theorem rowRf_append (l k:List Rf):rowRf (l ++ k)=rowRf l ++ rowRf k:=by
 induction l with
 | nil=>rfl
 | cons s r ih=>simp [rowRf,ih]
theorem rowRf_get (l:List Rf) (i j:Nat) (hj:j<9) (s:Rf) (h:l[i]?=some s):(rowRf l)[i*9+j]?=(rfCells s)[j]?:=by
 induction l generalizing i with
 | nil=>simp at h
 | cons x r ih =>
   cases i with
   | zero =>
     simp at h;subst h
     simp only [rowRf,Nat.zero_mul,Nat.zero_add]
     rw [List.getElem?_append_left (by simpa [rfCells] using hj)]
   | succ i =>
     simp at h
     simp only [rowRf]
     rw [List.getElem?_append_right (by simp only [rfCells,List.length_cons,List.length_nil];omega),←ih i h]
     congr 1
     simp only [rfCells,List.length_cons,List.length_nil];omega
theorem rowRf_set (l:List Rf) (i j:Nat) (hj:j<9) (s s':Rf) (h:l[i]?=some s) (v:Value) (hs:(rfCells s).set j v=rfCells s') :
 (rowRf l).set (i*9+j) v=rowRf (l.set i s'):=by
 induction l generalizing i with
 | nil=>simp at h
 | cons x r ih =>
   cases i with
   | zero =>
     simp at h;subst h
     simp only [rowRf,Nat.zero_mul,Nat.zero_add,List.set_cons_zero]
     rw [List.set_append_left _ _ (by simpa [rfCells] using hj),hs]
   | succ i =>
     simp at h
     simp only [rowRf,List.set_cons_succ]
     rw [List.set_append_right _ _ (by simp only [rfCells,List.length_cons,List.length_nil];omega),←ih i h]
     congr 2
     simp only [rfCells,List.length_cons,List.length_nil];omega
structure Pt where
 shard:Nat
 key:ByteArray
 value:Int
 time:Int
def ptCells (e:Pt):List Value:=[.int .i64 e.shard,.string e.key,.int .i64 e.value,.int .i64 e.time]
def rowPt:List Pt→List Value
 | []=>[]
 | s :: r=>ptCells s ++ rowPt r
theorem rowPt_append (l k:List Pt):rowPt (l ++ k)=rowPt l ++ rowPt k:=by
 induction l with
 | nil=>rfl
 | cons s r ih=>simp [rowPt,ih]
theorem rowPt_get (l:List Pt) (i j:Nat) (hj:j<4) (s:Pt) (h:l[i]?=some s):(rowPt l)[i*4+j]?=(ptCells s)[j]?:=by
 induction l generalizing i with
 | nil=>simp at h
 | cons x r ih =>
   cases i with
   | zero =>
     simp at h;subst h
     simp only [rowPt,Nat.zero_mul,Nat.zero_add]
     rw [List.getElem?_append_left (by simpa [ptCells] using hj)]
   | succ i =>
     simp at h
     simp only [rowPt]
     rw [List.getElem?_append_right (by simp only [ptCells,List.length_cons,List.length_nil];omega),←ih i h]
     congr 1
     simp only [ptCells,List.length_cons,List.length_nil];omega
def refArr (C:Cfg) (time:Int) (sv wv lv fv:Value):Array Value:=#[.int .i64 C.a,.int .i64 C.l,.int .i64 C.b,.int .i64 C.n,.int .i64 C.s,.int .i64 C.t,.int .i64 time,sv,wv,lv,fv]
structure Nt where
 sh:Int
 c:Int
 s:Int
structure Wk where
 hs:List Hd
 hv:Value
 ns:List Nt
 nv:Value
structure Fo where
 sh:Int
 pl:Int
def ntCells (x:Nt):List Value:=[.int .i64 x.sh,.int .i64 x.c,.int .i64 x.s]
def rowNt:List Nt→List Value
 | []=>[]
 | s :: r=>ntCells s ++ rowNt r
def rowWks:List Wk→List Value
 | []=>[]
 | s :: r=>s.hv :: s.nv :: rowWks r
def rowFo:List Fo→List Value
 | []=>[]
 | s :: r=>.int .i64 s.sh :: .int .i64 s.pl :: rowFo r
structure Wks where
 v:Value
 l:List Wk
 fo:List Fo
structure WkAt (w:World) (ρ:Nat→Nat) (x:Wks) (fv:Value):Prop where
 row:w.ownsRow 0 84 2 x.v x.l.length (rowWks x.l)
 rowT:∀k,x.v.ownBlock=some k→ρ k=204
 hd:∀(i:Nat) (y:Wk),x.l[i]?=some y→w.ownsRow 0 102 4 y.hv y.hs.length (rowHd y.hs)
 hdT:∀(i:Nat) (y:Wk),x.l[i]?=some y→∀k,y.hv.ownBlock=some k→ρ k=205+2*i
 nt:∀(i:Nat) (y:Wk),x.l[i]?=some y→w.ownsRow 0 199 3 y.nv y.ns.length (rowNt y.ns)
 ntT:∀(i:Nat) (y:Wk),x.l[i]?=some y→∀k,y.nv.ownBlock=some k→ρ k=206+2*i
 fold:w.ownsRow 0 124 2 fv x.fo.length (rowFo x.fo)
 foldT:∀k,fv.ownBlock=some k→ρ k=220
 four:x.l.length≤4
theorem WkAt.same {w w':World} {ρ ρ':Nat→Nat} {x:Wks} {fv:Value} (h:WkAt w ρ x fv) (hs:∀k,k<w.heap.size→204≤ρ k→ρ k≤220→w'.heap[k]?=w.heap[k]?∧ρ' k=ρ k):WkAt w' ρ' x fv:=by
 have lt:∀{i:Nat} {y:Wk},x.l[i]?=some y→i<4:=fun hi=>by have:=(List.getElem?_eq_some_iff.1 hi).1;have:=h.four;omega
 have ok:∀{e:TypeId} {size:Nat} {v:Value} {n:Nat} {xs:List Value} {t:Nat},w.ownsRow 0 e size v n xs→(∀k,v.ownBlock=some k→ρ k=t)→204≤t→t≤220→w'.ownsRow 0 e size v n xs∧∀k,v.ownBlock=some k→ρ' k=t:=by
  intro e size v n xs t ho ht h1 h2
  refine ⟨ownsRow_of_block ho fun k hk=>(hs k (ho.lt k hk).2 (by rw [ht k hk];exact h1) (by rw [ht k hk];exact h2)).1,fun k hk=>?_⟩
  rw [(hs k (ho.lt k hk).2 (by rw [ht k hk];exact h1) (by rw [ht k hk];exact h2)).2];exact ht k hk
 exact ⟨(ok h.row h.rowT (by omega) (by omega)).1,(ok h.row h.rowT (by omega) (by omega)).2,
  fun i y hi=>(ok (h.hd i y hi) (h.hdT i y hi) (by omega) (by have:=lt hi;omega)).1,fun i y hi=>(ok (h.hd i y hi) (h.hdT i y hi) (by omega) (by have:=lt hi;omega)).2,
  fun i y hi=>(ok (h.nt i y hi) (h.ntT i y hi) (by omega) (by have:=lt hi;omega)).1,fun i y hi=>(ok (h.nt i y hi) (h.ntT i y hi) (by omega) (by have:=lt hi;omega)).2,
  (ok h.fold h.foldT (by omega) (by omega)).1,(ok h.fold h.foldT (by omega) (by omega)).2,h.four⟩
structure RefAt (w:World) (ρ:Nat→Nat) (yb:Nat) (C:Cfg) (time:Int) (rs:List Rf) (P:List Pt) (wv:Wks) (fv sv lv:Value):Prop where
 blk:w.heap[yb]?=some (.cells (refArr C time sv wv.v lv fv) 80 (0,0))
 tag:ρ yb=200
 row:w.ownsRow 0 73 9 sv rs.length (rowRf rs)
 rowT:∀k,sv.ownBlock=some k→ρ k=201
 log:w.ownsRow 0 144 4 lv P.length (rowPt P)
 logT:∀k,lv.ownBlock=some k→ρ k=202
 par:∀(i:Nat) (r:Rf),rs[i]?=some r→w.ownsRow 0 3 1 r.pv r.par.length (r.par.map (Value.int .i64))
 parT:∀(i:Nat) (r:Rf),rs[i]?=some r→∀k,r.pv.ownBlock=some k→ρ k=203
 wk:WkAt w ρ wv fv
def theirs (ρ:Nat→Nat) (k:Nat):Prop:=200≤ρ k∧ρ k<300
theorem RefAt.keeps {S:Nat→Prop} {w w':World} {ρ ρ':Nat→Nat} {yb:Nat} {C:Cfg} {time:Int} {rs:List Rf} {P:List Pt} {wv:Wks} {fv sv lv:Value} (h:RefAt w ρ yb C time rs P wv fv sv lv) (hk:Keeps S w w') (hS:∀k,S k→¬theirs ρ k∨w.heap.size≤k) (he:∀k,k<w.heap.size→ρ' k=ρ k):RefAt w' ρ' yb C time rs P wv fv sv lv:=by
 have hlt:=lt_of_heap h.blk
 have ok:∀{e:TypeId} {size:Nat} {v:Value} {n:Nat} {xs:List Value} {t:Nat},w.ownsRow 0 e size v n xs→(∀k,v.ownBlock=some k→ρ k=t)→200≤t→t<300→w'.ownsRow 0 e size v n xs:=by
  intro e size v n xs t ho ht h1 h2
  refine ownsRow_keeps ho hk fun k hkk hs=>?_
  have:=ht k hkk;have:=(ho.lt k hkk).2
  rcases hS k hs with h3 | h3
  ·exact h3 ⟨by omega,by omega⟩
  ·omega
 refine ⟨?_,?_,ok h.row h.rowT (by omega) (by omega),?_,ok h.log h.logT (by omega) (by omega),?_,fun i r hi=>ok (h.par i r hi) (h.parT i r hi) (by omega) (by omega),?_,h.wk.same fun k h1 h2 h3=>⟨hk.block k h1 (fun hs=>by have:=hS k hs;unfold theirs at this;omega),he k h1⟩⟩
 ·rw [hk.block yb hlt fun hs=>?_]
  ·exact h.blk
  ·rcases hS yb hs with h1 | h1
   ·exact h1 (by unfold theirs;rw [h.tag];omega)
   ·omega
 ·rw [he yb hlt];exact h.tag
 ·intro k hkk;rw [he k (h.row.lt k hkk).2];exact h.rowT k hkk
 ·intro k hkk;rw [he k (h.log.lt k hkk).2];exact h.logT k hkk
 ·intro i r hi k hkk;rw [he k ((h.par i r hi).lt k hkk).2];exact h.parT i r hi k hkk
theorem RefAt.shards {w:World} {ρ:Nat→Nat} {yb:Nat} {C:Cfg} {time:Int} {rs:List Rf} {P:List Pt} {wv:Wks} {fv sv lv:Value} (h:RefAt w ρ yb C time rs P wv fv sv lv) (hpos:0<rs.length) :
 ∃sb cap,sv=.slice (some ⟨sb,0,none⟩) rs.length cap∧sb<w.heap.size∧ρ sb=201∧(∀j,w.frozen? ⟨sb,j,none⟩=false)∧∀(i:Nat) (r:Rf),rs[i]?=some r→∀j,j<9→w.cell? ⟨sb,i*9+j,none⟩=(rfCells r)[j]?:=by
 obtain ⟨g,cap,cur,hv,_,hg,_⟩:=ownsRow_shape h.row hpos
 subst hv
 refine ⟨g,cap,rfl,lt_of_heap hg,h.rowT g rfl,fun j=>frozen_of hg j,fun i r hi j hj=>?_⟩
 have hlt:=(List.getElem?_eq_some_iff.1 hi).1
 rw [World.ownsRow.cellAt h.row (i*9+j) (by omega),rowRf_get rs i j hj r hi]
theorem RefAt.logs {w:World} {ρ:Nat→Nat} {yb:Nat} {C:Cfg} {time:Int} {rs:List Rf} {P:List Pt} {wv:Wks} {fv sv lv:Value} (h:RefAt w ρ yb C time rs P wv fv sv lv) :
 ∃la lcap,lv=.slice la P.length lcap∧(0<P.length→∃pb,la=some ⟨pb,0,none⟩∧pb<w.heap.size∧∀(i:Nat) (e:Pt),P[i]?=some e→∀j,j<4→w.cell? ⟨pb,i*4+j,none⟩=(ptCells e)[j]?):=by
 obtain ⟨la,lcap,hl⟩:=ownsRow_len h.log
 refine ⟨la,lcap,hl,fun hpos=>?_⟩
 obtain ⟨g,cap,cur,hv,_,hg,_⟩:=ownsRow_shape h.log hpos
 rw [hl] at hv
 injection hv with e1 e2 e3
 refine ⟨g,e1,lt_of_heap hg,fun i e hi j hj=>?_⟩
 have hrow:=h.log
 rw [hl,e1] at hrow
 have hlt:=(List.getElem?_eq_some_iff.1 hi).1
 rw [World.ownsRow.cellAt hrow (i*4+j) (by omega),rowPt_get P i j hj e hi]
def ofShard (P:List Pt) (k:Nat):List Pt:=P.filter (fun e=>e.shard == k)
def Pt.rc (e:Pt):Rc:=⟨e.key.data.toList,e.value,e.time⟩
def rcsOf (P:List Pt) (k:Nat):List Rc:=(ofShard P k).map Pt.rc
theorem rcsOf_len (P:List Pt) (k:Nat):(rcsOf P k).length=(ofShard P k).length:=by unfold rcsOf;simp
@[simp] theorem Sh.cnt_rcs (a b:Int) (o:Bool) (p:List Int) (P:List Pt) (k:Nat):(⟨a,b,o,p,rcsOf P k⟩:Sh).cnt=(ofShard P k).length:=rcsOf_len P k
theorem ofShard_take (P:List Pt) (k i:Nat) (e:Pt) (h:P[i]?=some e):ofShard (P.take (i+1)) k=ofShard (P.take i) k ++ if e.shard=k then [e] else []:=by
 have hi:=(List.getElem?_eq_some_iff.1 h).1
 have he:P[i]=e:=(List.getElem?_eq_some_iff.1 h).2
 unfold ofShard
 rw [List.take_succ_eq_append_getElem hi,List.filter_append,he]
 by_cases hk:e.shard=k <;> simp [hk]
theorem ofShard_le (P:List Pt) (k:Nat):(ofShard P k).length≤P.length:=List.length_filter_le _ _
theorem info144:(Tryz.prog.info? 144).map (fun i=>(i.zero,i.size,i.bytes))=some (some (.agg #[.int .i64 0,.string ByteArray.empty,.int .i64 0,.int .i64 0]),4,40):=by kernel_rfl
set_option maxRecDepth 100000 in
set_option maxHeartbeats 1000000 in
theorem records_any {w:World} {ρ:Nat→Nat} {yb:Nat} {C:Cfg} {time:Int} {rs:List Rf} {P:List Pt} {wv:Wks} {fv sv lv:Value} (h:RefAt w ρ yb C time rs P wv fv sv lv) (hP:P.length≤1000000) (k:Nat) :
 Calls Tryz.prog 43 #[.pointer (some ⟨yb,0,none⟩),.int .i64 k] w fun e w'=>∃a cap,e=.returned (.slice a (ofShard P k).length cap)∧w'.ownsRow w.heap.size 144 4 (.slice a (ofShard P k).length cap) (ofShard P k).length (rowPt (ofShard P k))∧Below w.heap.size w w':=by
 obtain ⟨la,lcap,rfl,hcell⟩:=h.logs
 have c9:w.cell? ⟨yb,9,none⟩=some (.slice la P.length lcap):=cell_of h.blk 9
 have hyb:=lt_of_heap h.blk
 obtain ⟨i0,hi0,hz0,hz1,hz2⟩:=info_parts info144
 have HC:=hide hcell
 clear h hcell
 go_enter Tryz.func43,Tryz.ntmps43
 go_wp2
 go_loopw [5,6] (fun p i wr=>∃(j cap:Nat) (a:Option Addr),j≤P.length∧i=.int .i64 j∧p=.slice a (ofShard (P.take j) k).length cap∧wr.ownsRow w.heap.size 144 4 (.slice a (ofShard (P.take j) k).length cap) (ofShard (P.take j) k).length (rowPt (ofShard (P.take j) k))∧Below w.heap.size w wr) (fun _ i _=>P.length - (intOf i).toNat)
 case atStart=>exact ⟨0,0,none,Nat.zero_le _,rfl,rfl,World.ownsRow_nil _ _ _ _,Below.refl _ _⟩
 case round =>
  obtain ⟨j,cap,a,hj,rfl,rfl,hown,hB⟩:=hrel
  have d9:=(hB.cell (p:=⟨yb,9,none⟩) hyb).trans c9
  by_cases hlt:j<P.length
  ·obtain ⟨pb,hla,hpb,hcc⟩:=uh HC (by omega)
   subst hla
   obtain ⟨e,he⟩:∃e,P[j]?=some e:=⟨P[j],List.getElem?_eq_getElem hlt⟩
   have hc:∀i,i<4→wr.cell? ⟨pb,j*4+i,none⟩=(ptCells e)[i]?:=fun i hi=>(hB.cell (p:=⟨pb,j*4+i,none⟩) hpb).trans (hcc j e he i hi)
   have b0:wr.cell? ⟨pb,j*4,none⟩=some (.int .i64 e.shard):=hc 0 (by omega)
   have b1:wr.cell? ⟨pb,j*4+1,none⟩=some (.string e.key):=hc 1 (by omega)
   have b2:wr.cell? ⟨pb,j*4+2,none⟩=some (.int .i64 e.value):=hc 2 (by omega)
   have b3:wr.cell? ⟨pb,j*4+3,none⟩=some (.int .i64 e.time):=hc 3 (by omega)
   have HS:=hide (ofShard_take P k j e he)
   have hle:(ofShard (P.take j) k).length≤1000000:=by have:=ofShard_le (P.take j) k;rw [List.length_take] at this;omega
   have HO:=hide hown
   have HB:=hide hB
   have hws:=hB.size
   have HGL:=hide (fun q hq=>hown.lt q hq)
   clear hcc hc he hown hB
   by_cases hk:e.shard=k
   ·have dk:((e.shard:Int) == (k:Int))=true:=by simp [hk]
    have HK:=hide hk
    clear hk
    generalize hFF:ofShard (P.take j) k=F at *
    have HFF:=hide hFF
    clear hFF
    go_wp2_with (at_builtin;go_must (refine wpList_append_lies _ rfl _ _ _ rfl w.heap.size 144 i0 _ 4 40 Tryz.underlying77 hi0 hz0 hz1 hz2 rfl (by omega) _ F.length (rowPt F) rfl ?own ⟨wr.heap.size,0,none⟩ 1 1 (ptCells e) rfl rfl ?news ?one (by omega) ?h63 ?bytes ?base (wr.heap.size+1) ?hH ?next))
    case own=>exact (uh HO).alloc _
    case news=>exact World.news_of_block (cs:=#[.int .i64 e.shard,.string e.key,.int .i64 e.value,.int .i64 e.time]) (heap_alloc_new wr _)
    case one =>
     intro u hu
     simp [ptCells] at hu
     rcases hu with rfl | rfl | rfl | rfl <;> rfl
    case h63=>unfold maxLen;omega
    case bytes=>omega
    case base=>simp;omega
    case hH=>simp
    case next =>
     intro g2 cap2 w2 hown2 hgrow2 hat hlt2
     have hB2:Hid (Below w.heap.size w w2):=((uh HB).alloc hws _).grown hgrow2 (by simp;omega) (fun q hq=>(uh HGL q hq).1)
     have HN:=hide hown2
     clear hown2 hgrow2 hat
     go_wp2
     go_roundw
     case rel =>
      refine ⟨j+1,cap2,some ⟨g2,0,none⟩,by omega,by go_num,?_,?_,uh hB2⟩
      ·rw [uh HS,if_pos (uh HK),List.length_append];rfl
      ·rw [uh HS,if_pos (uh HK),List.length_append,rowPt_append]
       simp only [rowPt,List.append_nil,List.length_cons,List.length_nil]
       exact uh HN
     case measure=>simp [intOf];omega
   ·have dk:((e.shard:Int) == (k:Int))=false:=by rw [beq_eq_false_iff_ne];omega
    have HK:=hide hk
    clear hk
    go_wp2
    go_roundw
    case rel =>
     refine ⟨j+1,cap,a,by omega,by go_num,?_,?_,uh HB⟩
     ·rw [uh HS,if_neg (uh HK),List.append_nil]
     ·rw [uh HS,if_neg (uh HK),List.append_nil];exact uh HO
    case measure=>simp [intOf];omega
  ·have hjj:P.take j=P:=List.take_of_length_le (by omega)
   rw [hjj] at hown ⊢
   have HO:=hide hown
   have HB:=hide hB
   clear hown hB
   go_wp2
   go_ret
   exact ⟨a,cap,rfl,uh HO,uh HB⟩
end Go.Proofs.YtpnkmnmchdabkaaGreat
namespace Go.Proofs.YtpnkmnmchdabkaaGreat
open Go.RowKit
set_option maxHeartbeats 400000 in
theorem accepts_any (b off:Nat) (lo hi h:Int) (o:Bool) (w:World)
 (c0:w.cell? ⟨b,off,none⟩=some (.int .i64 lo)) (c1:w.cell? ⟨b,off+1,none⟩=some (.int .i64 hi)) (c2:w.cell? ⟨b,off+2,none⟩=some (.bool o)) :
 Calls Tryz.prog 135 #[.pointer (some ⟨b,off,none⟩),.int .i64 h] w fun e w'=>e=.returned (.bool (accB o lo hi h))∧w=w':=by
 cases o
 ·go_enter Tryz.func135,Tryz.ntmps135
  go_wp2
  go_ret
  exact ⟨by simp [accB],rfl⟩
 ·by_cases h1:lo≤h
  ·by_cases h2:h<hi
   all_goals
    go_enter Tryz.func135,Tryz.ntmps135
    go_wp2
    go_ret
    exact ⟨by simp [accB,h1,h2],rfl⟩
  ·go_enter Tryz.func135,Tryz.ntmps135
   go_wp2
   go_ret
   exact ⟨by simp [accB];omega,rfl⟩
set_option maxHeartbeats 400000 in
theorem has_any (b off n cap:Nat) (sa:Option Addr) (k:Int) (w:World)
 (c0:w.cell? ⟨b,off,none⟩=some (.slice sa n cap)) :
 Calls Tryz.prog 47 #[.pointer (some ⟨b,off,none⟩),.int .i64 k] w fun e w'=>e=.returned (.bool (decide (0≤k∧k<n)))∧w=w':=by
 by_cases h1:0≤k
 ·by_cases h2:k<n
  all_goals
   go_enter Tryz.func47,Tryz.ntmps47
   go_wp2
   go_ret
   exact ⟨by simp [h1,h2],rfl⟩
 ·go_enter Tryz.func47,Tryz.ntmps47
  go_wp2
  go_ret
  exact ⟨by simp;omega,rfl⟩
set_option maxHeartbeats 400000 in
theorem hasRoom_any (b off n cap:Nat) (sa:Option Addr) (k:Int) (w:World) (hn:n≤100) (hk:0≤k) (hk2:k≤100)
 (c0:w.cell? ⟨b,off,none⟩=some (.slice sa n cap)) :
 Calls Tryz.prog 134 #[.pointer (some ⟨b,off,none⟩),.int .i64 k] w fun e w'=>e=.returned (.bool (decide ((n:Int)+k≤16)))∧w=w':=by
 go_enter Tryz.func134,Tryz.ntmps134
 go_wp2
 go_ret
 exact ⟨by simp,rfl⟩
theorem info138:(Tryz.prog.info? 113).map (fun i=>(i.zero,i.size,i.bytes))=some (some (.agg #[.int .i64 0,.int .i64 0,.bool false,.slice none 0 0,.slice none 0 0]),5,72):=by kernel_rfl
def aSplit (l:List Sh) (n at_:Int):List Sh × Int × Int :=
 if 0≤n∧n<l.length then
  match l[n.toNat]? with
  | none=>(l,0,5)
  | some s =>
    if s.op=false then (l,0,6)
    else if at_≤s.lo∨s.hi≤at_ then (l,0,7)
    else if 14<l.length then (l,0,8)
    else (l.set n.toNat { s with op:=false } ++ [⟨s.lo,at_,true,[n],[]⟩,⟨at_,s.hi,true,[n],[]⟩],l.length,0)
 else (l,0,5)
theorem GrpPost.same {w w':World} {ρ:Nat→Nat} {gb:Nat} {C:Cfg} {now:Rest} {sv:Value} {m:List Cs} (h:GrpAt w ρ gb C now sv m) (hf:Fits w ρ) (hm:m.length≤16) (hk:Keeps (fun _=>False) w w') (hz:w'.heap.size=w.heap.size) :
 GrpPost w ρ gb C now (m.map (·.s)) w' :=
 ⟨ρ,sv,m,rfl,h.keeps hk (fun _ h=>h.elim) (fun _ _=>rfl) hm,hk.mono (fun _ _ h=>h.elim),Ext.refl hf,fun k hk=>hf k (by omega)⟩
theorem Keeps.drewN {S:Nat→Prop} (w:World) (n:Nat):Keeps S w (w.drewN n):=⟨rfl,rfl,rfl,Nat.le_refl _,fun _ _ _=>rfl⟩
theorem wpList_append_shard {ops:Array Oper} {rest:List Oper} {o:Oper} {a:Act} {Q:Exit→Act→World→Prop} (W:World) {ρ:Nat→Nat} {gb:Nat} {C:Cfg} {now:Rest} {sv:Value} {m:List Cs} (n:Nat) (hn:m.length=n)
 (h:GrpAt W ρ gb C now sv m) (hf:Fits W ρ) (hm:n≤15) (lo hi:Int) (ps:List Int) (N p:Nat) (hN:W.heap.size=N) (hp:ps.length=p) (hp2:p≤2) (arr:Array Value) (harr:arr=(ps.map (Value.int .i64)).toArray)
 (hgd:o.guard=none) (s x:Operand) (ho:o.op=.call { callee:=.builtin .append,args:=#[s,x],argTypes:=#[54,54] })
 (hs:a.eval s=sv) (hx:a.eval x=.slice (some ⟨N+1,0,none⟩) 1 1)
 (H:∀g cap w2,w2.cell? ⟨gb,7,none⟩=some sv→w2.frozen? ⟨gb,7,none⟩=false →
  GrpPostV W ρ gb C now (.slice (some ⟨g,0,none⟩) (n+1) cap) (m.map (·.s) ++ [⟨lo,hi,true,ps,[]⟩]) (w2.setCell ⟨gb,7,none⟩ (.slice (some ⟨g,0,none⟩) (n+1) cap)) →
  wpList Tryz.prog ops Q rest (a.put o.dst (.slice (some ⟨g,0,none⟩) (n+1) cap)) w2) :
 wpList Tryz.prog ops Q (o :: rest) a ((W.alloc (.cells arr 3)).alloc (.cells #[.int .i64 lo,.int .i64 hi,.bool true,.slice (some ⟨N,0,none⟩) p p,.slice none 0 0] 113)):=by
 subst hn hp harr hN
 obtain ⟨i0,hi0,hz0,hz1,hz2⟩:=info_parts info138
 have hsz1:(W.alloc (.cells (ps.map (Value.int .i64)).toArray 3)).heap.size=W.heap.size+1:=by simp
 refine wpList_append_lies _ hgd s x 54 ho 0 113 i0 _ 5 72 Tryz.underlying54 hi0 hz0 hz1 hz2 rfl (by omega) sv m.length (logCells m) hs ((h.log.row.alloc _).alloc _) ⟨W.heap.size+1,0,none⟩ 1 1
  [.int .i64 lo,.int .i64 hi,.bool true,.slice (some ⟨W.heap.size,0,none⟩) ps.length ps.length,.slice none 0 0] hx rfl ?_ ?_ (by omega) (by unfold maxLen;omega) (by omega) (Nat.zero_le _) (W.heap.size+2) (by simp) ?_
 ·have:=heap_alloc_new (W.alloc (.cells (ps.map (Value.int .i64)).toArray 3)) (.cells #[.int .i64 lo,.int .i64 hi,.bool true,.slice (some ⟨W.heap.size,0,none⟩) ps.length ps.length,.slice none 0 0] 113)
  rw [hsz1] at this
  exact World.news_of_block this
 ·intro u hu
  simp at hu
  rcases hu with rfl | rfl | rfl | rfl | rfl <;> rfl
 ·intro g cap w2 hown hgrow hat _
  have hgb:=lt_of_heap h.blk
  have hne:some gb≠sv.ownBlock:=fun e=>by have:=h.log.rowT gb e.symm;rw [h.tag] at this;omega
  have e1:((W.alloc (.cells (ps.map (Value.int .i64)).toArray 3)).alloc (.cells #[.int .i64 lo,.int .i64 hi,.bool true,.slice (some ⟨W.heap.size,0,none⟩) ps.length ps.length,.slice none 0 0] 113)).heap[gb]?=W.heap[gb]?:=by
   rw [Below.heap_alloc _ _ _ (by simp;omega),Below.heap_alloc _ _ _ hgb]
  have hb:w2.heap[gb]?=some (.cells (grpArr C sv now) 71 (0,0)):=by
   rw [hgrow.block gb (by simp;omega) hne,e1,h.blk]
  refine H g cap w2 (cell_of hb 7) (frozen_of hb 7) ?_
  refine h.grow hf hm lo hi ps hp2 g cap W.heap.size rfl hown _ ?_ (((Keeps.refl _ W).alloc _).alloc _) (by simp;omega) hgrow (by simpa using hat)
  rw [Below.heap_alloc _ _ _ (by simp)]
  exact heap_alloc_new W _
theorem aSplit_at {l:List Sh} {k:Nat} {s:Sh} (hs:l[k]?=some s) (a:Int) :
 aSplit l k a=if s.op=false then (l,0,6) else if a≤s.lo∨s.hi≤a then (l,0,7) else if 14<l.length then (l,0,8)
  else (l.set k { s with op:=false } ++ [⟨s.lo,a,true,[(k:Int)],[]⟩,⟨a,s.hi,true,[(k:Int)],[]⟩],(l.length:Int),0):=by
 have:=(List.getElem?_eq_some_iff.1 hs).1
 unfold aSplit
 rw [if_pos (by omega)]
 simp only [Int.toNat_natCast,hs]
theorem map_get {m:List Cs} {k:Nat} {s:Cs} (h:m[k]?=some s):(m.map (·.s))[k]?=some s.s:=by simp [h]
set_option maxRecDepth 100000 in
set_option maxHeartbeats 1000000 in
theorem split_any (w:World) (ρ:Nat→Nat) (gb:Nat) (C:Cfg) (now:Rest) (sv:Value) (m:List Cs) (n a:Int) (h:GrpAt w ρ gb C now sv m) (hf:Fits w ρ) (hm0:0<m.length) (hm:m.length≤16) :
 Calls Tryz.prog 126 #[.pointer (some ⟨gb,7,none⟩),.int .i64 n,.int .i64 a] w fun e w' =>
  e=.returned (.tuple #[.int .i64 (aSplit (m.map (·.s)) n a).2.1,.int .i64 (aSplit (m.map (·.s)) n a).2.2])∧GrpPost w ρ gb C now (aSplit (m.map (·.s)) n a).1 w':=by
 obtain ⟨c6,f6,_,_,hgb⟩:=h.cells
 obtain ⟨bs,cap,rfl,hbs,hbsl,hcap,hcm,ff,cc⟩:=h.log.shape hm0
 by_cases hn:0≤n∧n<m.length
 ·obtain ⟨k,rfl⟩:=Int.eq_ofNat_of_zero_le hn.1
  have hk:k<m.length:=by omega
  obtain ⟨s,hs⟩:∃s,m[k]?=some s:=⟨m[k],List.getElem?_eq_getElem hk⟩
  obtain ⟨c0,c1,c2,_,_⟩:=cc k s hs
  have HH:=hide (has_any gb 7 m.length cap (some ⟨bs,0,none⟩) k w c6)
  have d:decide (0≤(k:Int)∧(k:Int)<m.length)=true:=by simp;omega
  rw [d] at HH
  have HA:=hide (aSplit_at (map_get hs) a)
  have HP:=fun n=>hide (GrpPost.same h hf hm (Keeps.drewN w n) rfl)
  cases hop:s.s.op
  ·rw [hop] at c2 HA
   clear hop h hf hs cc d
   go_enter Tryz.func126,Tryz.ntmps126
   go_wp2_with (go_at_call 47;refine (uh HH).mono ?_;rintro e w' ⟨rfl,rfl⟩)
   go_quiet (fail)
   go_wp2
   go_ret2
   rw [uh HA]
   exact ⟨rfl,uh (HP _)⟩
  ·rw [hop] at c2 HA
   by_cases ha:a≤s.s.lo
   ·have HB:Hid (aSplit (m.map (·.s)) k a=(m.map (·.s),0,7)):=by
     refine hide ?_;rw [uh HA,if_neg (by simp),if_pos (Or.inl ha)]
    clear hop h hf hs cc d HA
    go_enter Tryz.func126,Tryz.ntmps126
    go_wp2_with (go_at_call 47;refine (uh HH).mono ?_;rintro e w' ⟨rfl,rfl⟩)
    go_quiet (fail)
    go_wp2
    go_ret2
    rw [uh HB]
    exact ⟨rfl,uh (HP _)⟩
   ·by_cases ha2:s.s.hi≤a
    ·have HB:Hid (aSplit (m.map (·.s)) k a=(m.map (·.s),0,7)):=by
      refine hide ?_;rw [uh HA,if_neg (by simp),if_pos (Or.inr ha2)]
     clear hop h hf hs cc d HA
     go_enter Tryz.func126,Tryz.ntmps126
     go_wp2_with (go_at_call 47;refine (uh HH).mono ?_;rintro e w' ⟨rfl,rfl⟩)
     go_quiet (fail)
     go_wp2
     go_ret2
     rw [uh HB]
     exact ⟨rfl,uh (HP _)⟩
    ·have HR:=fun (q:Nat)=>hide (hasRoom_any gb 7 m.length cap (some ⟨bs,0,none⟩) 2 (w.drewN q) (by omega) (by omega) (by omega) c6)
     by_cases hl:14<m.length
     ·have HB:Hid (aSplit (m.map (·.s)) k a=(m.map (·.s),0,8)):=by
       refine hide ?_;rw [uh HA,if_neg (by simp),if_neg (by omega),if_pos (by simpa using hl)]
      have d2:decide ((m.length:Int)+2≤16)=false:=by simp;omega
      rw [d2] at HR
      clear hop h hf hs cc d HA d2
      go_enter Tryz.func126,Tryz.ntmps126
      go_wp2_with (go_at_call 47;refine (uh HH).mono ?_;rintro e w' ⟨rfl,rfl⟩)
      go_quiet (fail)
      go_wp2_with (go_at_call 134;refine (uh (HR _)).mono ?_;rintro e w' ⟨rfl,rfl⟩)
      go_ret2
      rw [uh HB]
      exact ⟨rfl,uh (HP _)⟩
     ·have HB:Hid (aSplit (m.map (·.s)) k a=((m.map (·.s)).set k { s.s with op:=false } ++ [⟨s.s.lo,a,true,[(k:Int)],[]⟩,⟨a,s.s.hi,true,[(k:Int)],[]⟩],((m.map (·.s)).length:Int),0)):=by
       refine hide ?_;rw [uh HA,if_neg (by simp),if_neg (by omega),if_neg (by simpa using hl)]
      have d2:decide ((m.length:Int)+2≤16)=true:=by simp;omega
      rw [d2] at HR
      have f2:=ff (k*5+2)
      have hne:bs≠gb:=by rintro rfl;have:=h.tag;omega
      have H1:=fun q:Nat=>hide ((h.keeps (Keeps.drewN w q) (fun _ (h:False)=>h.elim) (fun _ _=>rfl) hm).close k s hs)
      have HF:=hide hf
      have HM:Hid ((m.set k { s with s:={ s.s with op:=false } }).map (·.s)=(m.map (·.s)).set k { s.s with op:=false }):=by
       refine hide ?_;rw [List.map_set]
      have HL:Hid ((m.set k { s with s:={ s.s with op:=false } }).length=m.length):=by refine hide ?_;simp
      generalize m.set k { s with s:={ s.s with op:=false } }=m1 at *
      have HB2:Hid (aSplit (m.map (·.s)) k a=(m1.map (·.s) ++ [⟨s.s.lo,a,true,[(k:Int)],[]⟩] ++ [⟨a,s.s.hi,true,[(k:Int)],[]⟩],(m.length:Int),0)):=by
       refine hide ?_;rw [uh HB,uh HM];simp
      have hf1:Hid (∀q:Nat,Fits ((w.drewN q).setCell ⟨bs,k*5+2,none⟩ (.bool false)) ρ):=fun q j hj=>hf j (by simpa [World.setCell] using hj)
      have hK1:Hid (∀q:Nat,Keeps (mine ρ) w ((w.drewN q).setCell ⟨bs,k*5+2,none⟩ (.bool false))):=fun q=>(Keeps.drewN w q).setCell (Or.inl (show mine ρ bs by unfold mine;omega)) _
      have hE1:Hid (Ext w.heap.size ρ ρ):=Ext.refl hf
      clear hop h hf hs cc d HA d2 HP ff HB HM
      go_enter Tryz.func126,Tryz.ntmps126
      go_wp2_with (go_at_call 47;refine (uh HH).mono ?_;rintro e w' ⟨rfl,rfl⟩)
      go_quiet (fail)
      have HH1:=H1 nq
      rw [uh HL] at HH1
      go_wp2_with (first | (go_at_call 134;refine (uh (HR _)).mono ?_;rintro e w' ⟨rfl,rfl⟩) | (at_builtin;refine wpList_append_shard _ m.length (uh HL) (uh HH1) (uh hf1 nq) (by omega) s.s.lo a [(k:Int)] w.heap.size 1 (by simp) rfl (by omega) _ rfl rfl _ _ rfl rfl rfl ?next))
      intro g2 cap2 w2 k6 e6 hpost
      have K1:=hide (uh hK1 nq)
      generalize World.setCell (World.drewN w nq) _ _=W1 at hpost K1
      obtain ⟨ρ3,m3,hm3,G3,K3,E3,F3⟩:=hpost
      have hl3:m3.length=m.length+1:=by
       have:=congrArg List.length hm3
       simpa [uh HL] using this
      have EE:=hide ((uh hE1).trans E3 (uh K1).size)
      have KK:=hide ((uh K1).mineTrans K3 (uh hE1))
      have HL3:=hide hl3
      have HM3:=hide hm3
      have HG3:=hide G3
      have HF3:=hide F3
      have hs3:(w2.setCell ⟨gb,7,none⟩ (.slice (some ⟨g2,0,none⟩) (m.length+1) cap2)).heap.size=w2.heap.size:=by simp [World.setCell]
      have HS3:=hide hs3
      clear hm3 G3 K3 E3 F3 hl3 hs3 HH1 K1
      go_wp2_with (at_builtin;go_must (refine wpList_append_shard _ (m.length+1) (uh HL3) (uh HG3) (uh HF3) (by omega) a s.s.hi [(k:Int)] w2.heap.size 1 (uh HS3) rfl (by omega) _ rfl rfl _ _ rfl rfl rfl ?next2))
      intro g4 cap4 w4 k7 e7 hpost4
      have HP4:=hide hpost4
      clear hpost4
      go_wp2
      go_ret2
      rw [uh HB2]
      refine ⟨rfl,GrpPost.trans (uh KK) (uh EE) ?_⟩
      have:=(uh HP4).post
      rw [uh HM3] at this
      exact this
 ·have HH:=hide (has_any gb 7 m.length cap (some ⟨bs,0,none⟩) n w c6)
  have d:decide (0≤n∧n<m.length)=false:=by simp;omega
  rw [d] at HH
  have HA:Hid (aSplit (m.map (·.s)) n a=(m.map (·.s),0,5)):=by
   unfold aSplit;rw [if_neg (by simpa using hn)];trivial
  have HG:=hide (GrpPost.same h hf hm (Keeps.refl _ w) rfl)
  clear cc h d hn
  go_enter Tryz.func126,Tryz.ntmps126
  go_wp2_with (go_at_call 47;refine (uh HH).mono ?_;rintro e w' ⟨rfl,rfl⟩)
  go_ret2
  rw [uh HA]
  exact ⟨rfl,uh HG⟩
def aMerge (l:List Sh) (a b:Int):List Sh × Int × Int :=
 if (0≤a∧a<l.length)∧(0≤b∧b<l.length) then
  match l[a.toNat]?,l[b.toNat]? with
  | some s,some t =>
    if s.op=false∨t.op=false then (l,0,6)
    else if s.hi≠t.lo then (l,0,7)
    else if 15<l.length then (l,0,8)
    else ((l.set a.toNat { s with op:=false }).set b.toNat { t with op:=false } ++ [⟨s.lo,t.hi,true,[a,b],[]⟩],l.length,0)
  | _,_=>(l,0,5)
 else (l,0,5)
theorem aMerge_at {l:List Sh} {j k:Nat} {s t:Sh} (hs:l[j]?=some s) (ht:l[k]?=some t) :
 aMerge l j k=if s.op=false∨t.op=false then (l,0,6) else if s.hi≠t.lo then (l,0,7) else if 15<l.length then (l,0,8)
  else ((l.set j { s with op:=false }).set k { t with op:=false } ++ [⟨s.lo,t.hi,true,[(j:Int),(k:Int)],[]⟩],(l.length:Int),0):=by
 have:=(List.getElem?_eq_some_iff.1 hs).1
 have:=(List.getElem?_eq_some_iff.1 ht).1
 unfold aMerge
 rw [if_pos (by omega)]
 simp only [Int.toNat_natCast,hs,ht]
set_option maxRecDepth 100000 in
set_option maxHeartbeats 1000000 in
theorem merge_any (w:World) (ρ:Nat→Nat) (gb:Nat) (C:Cfg) (now:Rest) (sv:Value) (m:List Cs) (n a:Int) (h:GrpAt w ρ gb C now sv m) (hf:Fits w ρ) (hm0:0<m.length) (hm:m.length≤16) (hlh:∀(i:Nat) (s:Cs),m[i]?=some s→s.s.lo<s.s.hi) :
 Calls Tryz.prog 127 #[.pointer (some ⟨gb,7,none⟩),.int .i64 n,.int .i64 a] w fun e w' =>
  e=.returned (.tuple #[.int .i64 (aMerge (m.map (·.s)) n a).2.1,.int .i64 (aMerge (m.map (·.s)) n a).2.2])∧GrpPost w ρ gb C now (aMerge (m.map (·.s)) n a).1 w':=by
 obtain ⟨c6,f6,_,_,hgb⟩:=h.cells
 obtain ⟨bs,cap,rfl,hbs,hbsl,hcap,hcm,ff,cc⟩:=h.log.shape hm0
 have HP:=fun q=>hide (GrpPost.same h hf hm (Keeps.drewN w q) rfl)
 have HH:=hide (has_any gb 7 m.length cap (some ⟨bs,0,none⟩) n w c6)
 have HJ:=hide (has_any gb 7 m.length cap (some ⟨bs,0,none⟩) a w c6)
 by_cases hn:0≤n∧n<m.length
 ·by_cases hna:0≤a∧a<m.length
  ·obtain ⟨j,rfl⟩:=Int.eq_ofNat_of_zero_le hn.1
   obtain ⟨k,rfl⟩:=Int.eq_ofNat_of_zero_le hna.1
   have hj:j<m.length:=by omega
   have hk:k<m.length:=by omega
   obtain ⟨s,hs⟩:∃s,m[j]?=some s:=⟨m[j],List.getElem?_eq_getElem hj⟩
   obtain ⟨t,ht⟩:∃t,m[k]?=some t:=⟨m[k],List.getElem?_eq_getElem hk⟩
   obtain ⟨c0,c1,c2,_,_⟩:=cc j s hs
   obtain ⟨d0,d1,d2,_,_⟩:=cc k t ht
   have e1:decide (0≤(j:Int)∧(j:Int)<m.length)=true:=by simp;omega
   have e2:decide (0≤(k:Int)∧(k:Int)<m.length)=true:=by simp;omega
   rw [e1] at HH
   rw [e2] at HJ
   have HA:=hide (aMerge_at (map_get hs) (map_get ht))
   cases hop:s.s.op
   ·have HB:Hid (aMerge (m.map (·.s)) j k=(m.map (·.s),0,6)):=by
     refine hide ?_;rw [uh HA,if_pos (Or.inl hop)]
    rw [hop] at c2
    clear hop h hf hs ht cc HA e1 e2
    go_enter Tryz.func127,Tryz.ntmps127
    go_wp2_with fail
    refine (uh HH).mono ?_;rintro e w' ⟨rfl,rfl⟩
    go_wp2_with fail
    refine (uh HJ).mono ?_;rintro e w' ⟨rfl,rfl⟩
    go_wp2
    go_ret2
    rw [uh HB]
    exact ⟨rfl,uh (HP 0)⟩
   ·cases hot:t.s.op
    ·have HB:Hid (aMerge (m.map (·.s)) j k=(m.map (·.s),0,6)):=by
      refine hide ?_;rw [uh HA,if_pos (Or.inr hot)]
     rw [hop] at c2
     rw [hot] at d2
     clear hop hot h hf hs ht cc HA e1 e2
     go_enter Tryz.func127,Tryz.ntmps127
     go_wp2_with fail
     refine (uh HH).mono ?_;rintro e w' ⟨rfl,rfl⟩
     go_wp2_with fail
     refine (uh HJ).mono ?_;rintro e w' ⟨rfl,rfl⟩
     go_wp2
     go_ret2
     rw [uh HB]
     exact ⟨rfl,uh (HP 0)⟩
    ·by_cases hr:s.s.hi=t.s.lo
     ·have hjk:j≠k:=by
       rintro rfl
       rw [hs] at ht
       cases ht
       have:=hlh j s hs
       omega
      have hrb:(s.s.hi != t.s.lo)=false:=by rw [hr];simp
      have HR:=fun (q:Nat)=>hide (hasRoom_any gb 7 m.length cap (some ⟨bs,0,none⟩) 1 (w.drewN q) (by omega) (by omega) (by omega) c6)
      by_cases hl:15<m.length
      ·have HB:Hid (aMerge (m.map (·.s)) j k=(m.map (·.s),0,8)):=by
        refine hide ?_;rw [uh HA,if_neg (by simp [hop,hot]),if_neg (by simpa using hr),if_pos (by simpa using hl)]
       have d5:decide ((m.length:Int)+1≤16)=false:=by simp;omega
       rw [d5] at HR
       rw [hop] at c2
       rw [hot] at d2
       clear hop hot h hf hs ht cc HA e1 e2 d5 hr
       go_enter Tryz.func127,Tryz.ntmps127
       go_wp2_with fail
       refine (uh HH).mono ?_;rintro e w' ⟨rfl,rfl⟩
       go_wp2_with fail
       refine (uh HJ).mono ?_;rintro e w' ⟨rfl,rfl⟩
       go_wp2
       go_quiet (fail)
       go_wp2_with (go_at_call 134;refine (uh (HR _)).mono ?_;rintro e w' ⟨rfl,rfl⟩)
       go_ret2
       rw [uh HB]
       exact ⟨rfl,uh (HP _)⟩
      ·have HB:Hid (aMerge (m.map (·.s)) j k=(((m.map (·.s)).set j { s.s with op:=false }).set k { t.s with op:=false } ++ [⟨s.s.lo,t.s.hi,true,[(j:Int),(k:Int)],[]⟩],((m.map (·.s)).length:Int),0)):=by
        refine hide ?_;rw [uh HA,if_neg (by simp [hop,hot]),if_neg (by simpa using hr),if_neg (by simpa using hl)]
       have d5:decide ((m.length:Int)+1≤16)=true:=by simp;omega
       rw [d5] at HR
       rw [hop] at c2
       rw [hot] at d2
       have f2:=ff (j*5+2)
       have g2:=ff (k*5+2)
       have hne:bs≠gb:=by rintro rfl;have:=h.tag;omega
       have ht1:(m.set j { s with s:={ s.s with op:=false } })[k]?=some t:=by
        rw [List.getElem?_set_ne hjk];exact ht
       have H1:=fun q:Nat=>hide (((h.keeps (Keeps.drewN w q) (fun _ (h:False)=>h.elim) (fun _ _=>rfl) hm).close j s hs).close k t ht1)
       have HM:Hid (((m.set j { s with s:={ s.s with op:=false } }).set k { t with s:={ t.s with op:=false } }).map (·.s)=((m.map (·.s)).set j { s.s with op:=false }).set k { t.s with op:=false }):=by
        refine hide ?_;rw [List.map_set,List.map_set]
       have HL:Hid (((m.set j { s with s:={ s.s with op:=false } }).set k { t with s:={ t.s with op:=false } }).length=m.length):=by refine hide ?_;simp
       clear ht1
       generalize (m.set j { s with s:={ s.s with op:=false } }).set k { t with s:={ t.s with op:=false } }=m1 at *
       have HB2:Hid (aMerge (m.map (·.s)) j k=(m1.map (·.s) ++ [⟨s.s.lo,t.s.hi,true,[(j:Int),(k:Int)],[]⟩],(m.length:Int),0)):=by
        refine hide ?_;rw [uh HB,uh HM];simp
       have H2:Hid (∀q:Nat,GrpAt (((w.drewN q).setCell ⟨bs,j*5+2,none⟩ (.bool false)).setCell ⟨bs,k*5+2,none⟩ (.bool false)) ρ gb C now (.slice (some ⟨bs,0,none⟩) m.length cap) m1):=fun q=>by
        have:=uh (H1 q)
        rw [uh HL] at this
        exact this
       clear H1
       have hf1:Hid (∀q:Nat,Fits (((w.drewN q).setCell ⟨bs,j*5+2,none⟩ (.bool false)).setCell ⟨bs,k*5+2,none⟩ (.bool false)) ρ):=fun q j hj=>hf j (by simpa [World.setCell] using hj)
       have hK1:Hid (∀q:Nat,Keeps (mine ρ) w (((w.drewN q).setCell ⟨bs,j*5+2,none⟩ (.bool false)).setCell ⟨bs,k*5+2,none⟩ (.bool false))):=fun q=>((Keeps.drewN w q).setCell (Or.inl (show mine ρ bs by unfold mine;omega)) _).setCell (Or.inl (show mine ρ bs by unfold mine;omega)) _
       have hE1:Hid (Ext w.heap.size ρ ρ):=Ext.refl hf
       clear hop hot h hf hs ht cc HA e1 e2 d5 HP ff HB HM hr
       go_enter Tryz.func127,Tryz.ntmps127
       go_wp2_with fail
       refine (uh HH).mono ?_;rintro e w' ⟨rfl,rfl⟩
       go_wp2_with fail
       refine (uh HJ).mono ?_;rintro e w' ⟨rfl,rfl⟩
       go_wp2
       go_quiet (fail)
       go_wp2_with (go_at_call 134;refine (uh (HR _)).mono ?_;rintro e w' ⟨rfl,rfl⟩)
       go_quiet (fail)
       go_wp2_with (at_builtin;go_must (refine wpList_append_shard (ρ:=ρ) (gb:=gb) (C:=C) (now:=now) (m:=m1) _ m.length (uh HL) ?G ?F (by omega) s.s.lo t.s.hi [(j:Int),(k:Int)] w.heap.size 2 ?S rfl (by omega) _ rfl rfl _ _ rfl rfl rfl ?next))
       case G=>exact uh H2 _
       case F=>exact uh hf1 _
       case S=>simp [World.setCell]
       case next =>
        intro g4 cap4 w4 k7 e7 hpost4
        have HK:=hide (GrpPost.trans (uh hK1 _) (uh hE1) hpost4.post)
        clear hpost4
        go_wp2
        go_ret2
        rw [uh HB2]
        exact ⟨rfl,uh HK⟩
     ·have hrb:(s.s.hi != t.s.lo)=true:=by rw [bne_iff_ne];exact hr
      have HB:Hid (aMerge (m.map (·.s)) j k=(m.map (·.s),0,7)):=by
       refine hide ?_;rw [uh HA,if_neg (by simp [hop,hot]),if_pos (by simpa using hr)]
      rw [hop] at c2
      rw [hot] at d2
      clear hop hot h hf hs ht cc HA e1 e2 hr
      go_enter Tryz.func127,Tryz.ntmps127
      go_wp2_with fail
      refine (uh HH).mono ?_;rintro e w' ⟨rfl,rfl⟩
      go_wp2_with fail
      refine (uh HJ).mono ?_;rintro e w' ⟨rfl,rfl⟩
      go_wp2
      go_quiet (fail)
      go_wp2
      go_ret2
      rw [uh HB]
      exact ⟨rfl,uh (HP _)⟩
  ·have e1:decide (0≤n∧n<m.length)=true:=by simp;omega
   have e2:decide (0≤a∧a<m.length)=false:=by simp;omega
   rw [e1] at HH
   rw [e2] at HJ
   have HA:Hid (aMerge (m.map (·.s)) n a=(m.map (·.s),0,5)):=by
    unfold aMerge;rw [if_neg (by simp;omega)];trivial
   clear cc h e1 e2 hn hna
   go_enter Tryz.func127,Tryz.ntmps127
   go_wp2_with fail
   refine (uh HH).mono ?_;rintro e w' ⟨rfl,rfl⟩
   go_wp2_with fail
   refine (uh HJ).mono ?_;rintro e w' ⟨rfl,rfl⟩
   go_wp2
   go_ret2
   rw [uh HA]
   exact ⟨rfl,uh (HP 0)⟩
 ·have e1:decide (0≤n∧n<m.length)=false:=by simp;omega
  rw [e1] at HH
  generalize decide (0≤a∧a<(m.length:Int))=qa at HJ
  have HA:Hid (aMerge (m.map (·.s)) n a=(m.map (·.s),0,5)):=by
   unfold aMerge;rw [if_neg (by simp;omega)];trivial
  clear cc h e1 hn
  go_enter Tryz.func127,Tryz.ntmps127
  go_wp2_with fail
  refine (uh HH).mono ?_;rintro e w' ⟨rfl,rfl⟩
  go_wp2_with fail
  refine (uh HJ).mono ?_;rintro e w' ⟨rfl,rfl⟩
  go_wp2
  go_ret2
  rw [uh HA]
  exact ⟨rfl,uh (HP 0)⟩
theorem GrpAt.addRec {w w2:World} {ρ:Nat→Nat} {gb:Nat} {C:Cfg} {now:Rest} {bs cap:Nat} {m:List Cs} (h:GrpAt w ρ gb C now (.slice (some ⟨bs,0,none⟩) m.length cap) m) (hf:Fits w ρ) (hm:m.length≤16)
 (k:Nat) (s:Cs) (hk:m[k]?=some s) (W:World) (hWk:Keeps (fun _=>False) w W) (hgrow:W.grownBy w2 s.rv.ownBlock) (g cap2:Nat) (r:Rc)
 (hown:w2.ownsRow 0 137 10 (.slice (some ⟨g,0,none⟩) (s.s.cnt+1) cap2) (s.s.cnt+1) (rcRow (s.s.rl ++ [r]))) (hat:s.rv.ownBlock=some g∨g=W.heap.size) :
 GrpPost w ρ gb C now ((m.map (·.s)).set k { s.s with rl:=s.s.rl ++ [r] }) (w2.setCell ⟨bs,k*5+4,none⟩ (.slice (some ⟨g,0,none⟩) (s.s.cnt+1) cap2)):=by
 have hgb:=lt_of_heap h.blk
 have hbs:ρ bs=2:=h.log.rowT bs rfl
 have hbsl:bs<w.heap.size:=(h.log.row.lt bs rfl).2
 have hkl:k<m.length:=(List.getElem?_eq_some_iff.1 hk).1
 have hWs:=hWk.size
 have hg2:g<w2.heap.size:=by
  obtain ⟨g',cap',cur,hv,_,hg,_⟩:=ownsRow_shape hown (by omega)
  cases hv;exact lt_of_heap hg
 have hrv:∀j,s.rv.ownBlock=some j→ρ j=4+2*k∧j<w.heap.size:=fun j hj=>by
  obtain ⟨xs,hx⟩:=h.log.rcs k s hk
  exact ⟨h.log.rcT k s hk j hj,(hx.lt j hj).2⟩
 -- what was there,and is not the records' row
 have old:∀j,j<w.heap.size→ρ j≠4+2*k→w2.heap[j]?=w.heap[j]?:=by
  intro j hj hne
  rw [hgrow.block j (by omega) (fun e=>hne (hrv j e.symm).1),hWk.block j hj (fun h=>h)]
 have gtag:g<w.heap.size→ρ g=4+2*k:=by
  intro hlt
  rcases hat with e | e
  ·exact (hrv g e).1
  ·omega
 have tagOf:∀j,j<w.heap.size→(if j=g then 4+2*k else ρ j)=ρ j:=by
  intro j hj
  split
  ·rename_i e;subst e;exact (gtag hj).symm
  ·rfl
 have keepO:∀{e:TypeId} {size:Nat} {u:Value} {n:Nat} {ys:List Value} {t:Nat},w.ownsRow 0 e size u n ys→(∀j,u.ownBlock=some j→ρ j=t)→t≠4+2*k→t≠2 →
  (w2.setCell ⟨bs,k*5+4,none⟩ (.slice (some ⟨g,0,none⟩) (s.s.cnt+1) cap2)).ownsRow 0 e size u n ys:=by
  intro e size u n ys t ho ht h3 h4
  refine ownsRow_of_block ho fun j hj=>?_
  rw [Below.heap_setCell _ _ _ _ (by rintro rfl;have:=ht _ hj;omega),old j (ho.lt j hj).2 (by rw [ht j hj];exact h3)]
 have hrow:w2.ownsRow 0 113 5 (.slice (some ⟨bs,0,none⟩) m.length cap) m.length (logCells m):=by
  refine ownsRow_of_block h.log.row fun j hj=>?_
  have:=h.log.rowT j hj
  exact old j (h.log.row.lt j hj).2 (by omega)
 have hgbs:g≠bs:=by
  rintro rfl
  have:=gtag hbsl
  omega
 refine ⟨fun j=>if j=g then 4+2*k else ρ j,.slice (some ⟨bs,0,none⟩) m.length cap,m.set k ⟨{ s.s with rl:=s.s.rl ++ [r] },s.pv,.slice (some ⟨g,0,none⟩) (s.s.cnt+1) cap2⟩,by rw [List.map_set],⟨?_,?_,⟨?_,?_,?_,?_,?_,?_⟩,keepO h.wk h.wkT (by omega) (by omega),fun j hj=>(tagOf j (h.wk.lt j hj).2).trans (h.wkT j hj),h.dnL,h.lsL⟩,?_,?_,?_⟩
 ·rw [Below.heap_setCell _ _ _ _ (by rintro rfl;have:=h.tag;omega),old gb hgb (by rw [h.tag];omega)]
  exact h.blk
 ·show (if gb=g then _ else ρ gb)=1
  rw [tagOf gb hgb];exact h.tag
 ·have:=(World.ownsRow.stored hrow (k*5+4) (.slice (some ⟨g,0,none⟩) (s.s.cnt+1) cap2)).1
  rw [logCells_set m k 4 (by omega) s ⟨{ s.s with rl:=s.s.rl ++ [r] },s.pv,.slice (some ⟨g,0,none⟩) (s.s.cnt+1) cap2⟩ hk _ rfl] at this
  simpa using this
 ·intro j hj
  simp [Value.ownBlock] at hj
  subst hj
  show (if bs=g then _ else ρ bs)=2
  rw [tagOf bs hbsl];exact hbs
 ·intro i t ht
  rw [List.getElem?_set] at ht
  split at ht
  ·rename_i e;subst e
   cases ht
   exact keepO (h.log.par k s hk) (h.log.parT k s hk) (by omega) (by omega)
  ·exact keepO (h.log.par i t ht) (h.log.parT i t ht) (by omega) (by omega)
 ·intro i t ht j hj
  rw [List.getElem?_set] at ht
  show (if j=g then _ else ρ j)=_
  split at ht
  ·rename_i e;subst e
   cases ht
   rw [tagOf j ((h.log.par k s hk).lt j hj).2];exact h.log.parT k s hk j hj
  ·rw [tagOf j ((h.log.par i t ht).lt j hj).2];exact h.log.parT i t ht j hj
 ·intro i t ht
  rw [List.getElem?_set] at ht
  split at ht
  ·rename_i e;subst e
   cases ht
   rw [Sh.cnt_add]
   refine ownsRow_of_block hown fun j hj=>Below.heap_setCell _ _ _ _ ?_
   simp [Value.ownBlock] at hj
   subst hj
   exact hgbs
  ·exact keepO (h.log.rcv i t ht) (h.log.rcT i t ht) (by omega) (by omega)
 ·intro i t ht j hj
  rw [List.getElem?_set] at ht
  show (if j=g then _ else ρ j)=_
  split at ht
  ·rename_i e;subst e
   cases ht
   simp [Value.ownBlock] at hj
   subst hj
   rw [if_pos rfl]
  ·obtain ⟨ys,hy⟩:=h.log.rcs i t ht
   rw [tagOf j (hy.lt j hj).2];exact h.log.rcT i t ht j hj
 ·refine ⟨?_,?_,?_,?_,?_⟩
  ·show w2.os=w.os;rw [hgrow.os,hWk.os]
  ·show w2.tape=w.tape;rw [hgrow.tape,hWk.tape]
  ·show w2.output=w.output;rw [hgrow.output,hWk.output]
  ·have:=hgrow.size;simp [World.setCell];omega
  ·intro j hj hs
   rw [Below.heap_setCell _ _ _ _ (by rintro rfl;exact hs (by unfold mine;omega)),old j hj (fun e=>hs (by unfold mine;omega))]
 ·refine ⟨fun j hj=>tagOf j hj,fun j hj=>?_⟩
  show (if j=g then _ else ρ j)<100
  split
  ·omega
  ·rw [hf j hj];omega
 ·intro j hj
  have hj':w2.heap.size≤j:=by simpa [World.setCell] using hj
  show (if j=g then _ else ρ j)=0
  have:=hgrow.size
  rw [if_neg (by omega)]
  exact hf j (by omega)
set_option maxHeartbeats 400000 in
theorem home_any (b off bs n cap:Nat) (lo hi:Nat→Int) (op:Nat→Bool) (h:Int) (w:World) (hn0:0<n) (hn:n≤100)
 (c:w.cell? ⟨b,off,none⟩=some (.slice (some ⟨bs,0,none⟩) n cap))
 (c0:∀i,i<n→w.cell? ⟨bs,i*5,none⟩=some (.int .i64 (lo i))) (c1:∀i,i<n→w.cell? ⟨bs,i*5+1,none⟩=some (.int .i64 (hi i))) (c2:∀i,i<n→w.cell? ⟨bs,i*5+2,none⟩=some (.bool (op i))) :
 Calls Tryz.prog 133 #[.pointer (some ⟨b,off,none⟩),.int .i64 h] w fun e w'=>∃k:Nat,e=.returned (.int .i64 k)∧w=w'∧k<n∧(k=0∨accB (op k) (lo k) (hi k) h=true)∧∀j,k<j→j<n→accB (op j) (lo j) (hi j) h=false:=by
 go_enter Tryz.func133,Tryz.ntmps133
 go_wp2_with fail
 go_loop [5] (fun t=>∃k:Nat,t=.int .i64 k∧k<n∧∀j,k<j→j<n→accB (op j) (lo j) (hi j) h=false) (fun t=>(intOf t).toNat)
 case atStart=>exact ⟨n - 1,by go_num,by omega,fun j h1 h2=>by omega⟩
 case round =>
  obtain ⟨k,rfl,hk,hj⟩:=hrel
  have Hj:=hj
  clear hj
  by_cases hk0:0<k
  ·have hh:=accepts_any bs (k*5) (lo k) (hi k) h (op k) w (c0 k hk) (c1 k hk) (c2 k hk)
   cases hB:accB (op k) (lo k) (hi k) h
   ·rw [hB] at hh
    have HB:=hide hB
    have HH:=hide hh
    have HJ:=hide Hj
    clear hB hh Hj
    go_wp2_with (go_at_call 135;refine (uh HH).mono ?_;rintro e w' ⟨rfl,rfl⟩)
    go_round
    case rel =>
     refine ⟨k - 1,by go_num,by omega,fun j h1 h2=>?_⟩
     by_cases e:j=k
     ·subst e;exact uh HB
     ·exact uh HJ j (by omega) h2
    case measure=>simp [intOf];omega
   ·rw [hB] at hh
    have HB:=hide hB
    have HH:=hide hh
    have HJ:=hide Hj
    clear hB hh Hj
    go_wp2_with (go_at_call 135;refine (uh HH).mono ?_;rintro e w' ⟨rfl,rfl⟩)
    go_ret
    exact ⟨k,rfl,rfl,hk,Or.inr (uh HB),uh HJ⟩
  ·have HJ:=hide Hj
   clear Hj
   go_wp2
   go_ret
   exact ⟨k,rfl,rfl,hk,Or.inl (by omega),uh HJ⟩
end Go.Proofs.YtpnkmnmchdabkaaGreat
