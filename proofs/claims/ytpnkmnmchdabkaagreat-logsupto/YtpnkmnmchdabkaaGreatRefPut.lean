import Derived.Test.YtpnkmnmchdabkaaGreatM04
import Derived.Test.YtpnkmnmchdabkaaGreatInv
namespace Go.Proofs.YtpnkmnmchdabkaaGreat
open Go.RowKit
attribute [local go_sem ↓] Go.wp_at_zero Go.wp_at_succ
def ExtR (N:Nat) (ρ ρ':Nat→Nat):Prop:=(∀k,k<N→ρ' k=ρ k)∧∀k,N≤k→ρ' k=0∨(200≤ρ' k∧ρ' k<300)
theorem ExtR.refl {w:World} {ρ:Nat→Nat} (hf:Fits w ρ):ExtR w.heap.size ρ ρ:=⟨fun _ _=>rfl,fun k hk=>Or.inl (hf k hk)⟩
theorem ExtR.trans {N M:Nat} {ρ ρ' ρ'':Nat→Nat} (h:ExtR N ρ ρ') (h':ExtR M ρ' ρ'') (hN:N≤M):ExtR N ρ ρ'' :=
 ⟨fun k hk=>(h'.1 k (by omega)).trans (h.1 k hk),fun k hk=>by
  by_cases hM:k<M
  ·rw [h'.1 k hM];exact h.2 k hk
  ·exact h'.2 k (by omega)⟩
theorem Keeps.theirsTrans {w w1 w2:World} {ρ ρ':Nat→Nat} (h:Keeps (theirs ρ) w w1) (h':Keeps (theirs ρ') w1 w2) (he:ExtR w.heap.size ρ ρ'):Keeps (theirs ρ) w w2 :=
 ⟨h'.os.trans h.os,h'.tape.trans h.tape,h'.output.trans h.output,Nat.le_trans h.size h'.size,fun k hk hs =>
  (h'.block k (Nat.lt_of_lt_of_le hk h.size) (fun hm=>hs (by unfold theirs at hm ⊢;rw [he.1 k hk] at hm;exact hm))).trans (h.block k hk hs)⟩
def RefPost (w:World) (ρ:Nat→Nat) (yb:Nat) (C:Cfg) (time:Int) (rs':List Rf) (P':List Pt) (wv:Wks) (fv:Value) (w':World):Prop :=
 ∃ρ' sv lv,RefAt w' ρ' yb C time rs' P' wv fv sv lv∧Keeps (theirs ρ) w w'∧ExtR w.heap.size ρ ρ'∧Fits w' ρ'
theorem RefPost.trans {w w1 w2:World} {ρ ρ1:Nat→Nat} {yb:Nat} {C:Cfg} {time:Int} {rs:List Rf} {P:List Pt} {wv:Wks} {fv:Value} (hk:Keeps (theirs ρ) w w1) (he:ExtR w.heap.size ρ ρ1) (h:RefPost w1 ρ1 yb C time rs P wv fv w2):RefPost w ρ yb C time rs P wv fv w2:=by
 obtain ⟨ρ',sv',lv',a,b,c,d⟩:=h
 exact ⟨ρ',sv',lv',a,hk.theirsTrans b he,he.trans c hk.size,d⟩
theorem RefPost.below {w w':World} {ρ:Nat→Nat} {yb:Nat} {C:Cfg} {time:Int} {rs:List Rf} {P:List Pt} {wv:Wks} {fv sv lv:Value} (h:RefAt w ρ yb C time rs P wv fv sv lv) (hf:Fits w ρ) (hb:Below w.heap.size w w'):RefPost w ρ yb C time rs P wv fv w' :=
 ⟨ρ,sv,lv,h.keeps (Keeps.of_below hb) (fun _ hk=>Or.inr hk) (fun _ _=>rfl),(Keeps.of_below hb).mono (fun _ _ _=>by omega),ExtR.refl hf,fun k hk=>hf k (by have:=hb.size;omega)⟩
def absR (rs:List Rf) (P:List Pt):List Sh:=rs.mapIdx (fun i r=>⟨r.lo,r.hi,r.op,r.par,rcsOf P i⟩)
theorem absR_len (rs:List Rf) (P:List Pt):(absR rs P).length=rs.length:=by simp [absR]
theorem absR_get {rs:List Rf} {P:List Pt} {i:Nat} {r:Rf} (h:rs[i]?=some r):(absR rs P)[i]?=some ⟨r.lo,r.hi,r.op,r.par,rcsOf P i⟩:=by simp [absR,h]
theorem absR_of {rs:List Rf} {P:List Pt} {i:Nat} {s:Sh} (h:(absR rs P)[i]?=some s):∃r,rs[i]?=some r∧s=⟨r.lo,r.hi,r.op,r.par,rcsOf P i⟩:=by
 simp [absR] at h
 obtain ⟨r,h1,h2⟩:=h
 exact ⟨r,h1,h2.symm⟩
theorem rcsOf_snoc (P:List Pt) (e:Pt) (k:Nat):rcsOf (P ++ [e]) k=rcsOf P k ++ if e.shard=k then [e.rc] else []:=by
 unfold rcsOf ofShard
 rw [List.filter_append,List.map_append]
 by_cases hk:e.shard=k <;> simp [hk]
theorem absR_put {rs:List Rf} {P:List Pt} {k:Nat} {x:Sh} (hx:(absR rs P)[k]?=some x) (s:ByteArray) (v t:Int):absR rs (P ++ [⟨k,s,v,t⟩])=(absR rs P).set k { x with rl:=x.rl ++ [⟨s.data.toList,v,t⟩] }:=by
 apply List.ext_getElem?
 intro i
 obtain ⟨r,hr,rfl⟩:=absR_of hx
 by_cases hi:i<rs.length
 ·obtain ⟨q,hq⟩:∃q,rs[i]?=some q:=⟨rs[i],List.getElem?_eq_getElem hi⟩
  rw [absR_get hq,List.getElem?_set,rcsOf_snoc]
  by_cases hki:k=i
  ·subst hki
   rw [hr] at hq;cases hq
   rw [if_pos rfl,if_pos rfl,if_pos (by rw [absR_len];exact hi)]
   rfl
  ·rw [if_neg hki,if_neg hki,absR_get hq,List.append_nil]
 ·rw [List.getElem?_eq_none (by rw [absR_len];omega),List.getElem?_eq_none (by simp [absR_len];omega)]
theorem refArr_set9 (C:Cfg) (time:Int) (sv wv lv fv v:Value):(refArr C time sv wv lv fv).setIfInBounds 9 v=refArr C time sv wv v fv:=rfl
theorem RefAt.addPut {w w2 W:World} {ρ:Nat→Nat} {yb:Nat} {C:Cfg} {time:Int} {rs:List Rf} {P:List Pt} {wv:Wks} {fv sv lv:Value} (h:RefAt w ρ yb C time rs P wv fv sv lv) (hf:Fits w ρ) (hWk:Keeps (fun _=>False) w W) (e:Pt) (g cap:Nat)
 (hown:w2.ownsRow 0 144 4 (.slice (some ⟨g,0,none⟩) (P.length+1) cap) (P.length+1) (rowPt P ++ ptCells e)) (hgrow:W.grownBy w2 lv.ownBlock) (hat:lv.ownBlock=some g∨g=W.heap.size) :
 RefPost w ρ yb C time rs (P ++ [e]) wv fv (w2.setCell ⟨yb,9,none⟩ (.slice (some ⟨g,0,none⟩) (P.length+1) cap)):=by
 have hyb:=lt_of_heap h.blk
 have hWs:=hWk.size
 have hgs:=hgrow.size
 have hg2:g<w2.heap.size:=(hown.lt g rfl).2
 have hgT:g<w.heap.size→ρ g=202:=fun hlt=>by
  rcases hat with e | e
  ·exact h.logT g e
  ·omega
 have hgy:g≠yb:=by rintro rfl;have:=hgT hyb;have:=h.tag;omega
 have hkeep:Keeps (fun k=>k=yb∨lv.ownBlock=some k) w (w2.setCell ⟨yb,9,none⟩ (.slice (some ⟨g,0,none⟩) (P.length+1) cap)):=by
  refine ⟨?_,?_,?_,?_,?_⟩
  ·show w2.os=w.os;rw [hgrow.os,hWk.os]
  ·show w2.tape=w.tape;rw [hgrow.tape,hWk.tape]
  ·show w2.output=w.output;rw [hgrow.output,hWk.output]
  ·simp [World.setCell];omega
  ·intro k hk hs
   rw [Below.heap_setCell _ _ _ _ (fun e=>hs (Or.inl e)),hgrow.block k (by omega) (fun e=>hs (Or.inr e.symm)),hWk.block k hk (fun h=>h)]
 have tagOf:∀k,k<w.heap.size→(if k=g then 202 else ρ k)=ρ k:=by
  intro k hk
  split
  ·rename_i e;subst e;exact (hgT hk).symm
  ·rfl
 have ok:∀{e:TypeId} {size:Nat} {v:Value} {n:Nat} {xs:List Value} {t:Nat},w.ownsRow 0 e size v n xs→(∀k,v.ownBlock=some k→ρ k=t)→t≠200→t≠202→(w2.setCell ⟨yb,9,none⟩ (.slice (some ⟨g,0,none⟩) (P.length+1) cap)).ownsRow 0 e size v n xs:=by
  intro e size v n xs t ho ht h1 h2
  refine ownsRow_keeps ho hkeep fun k hkk hs=>?_
  have h3:=ht k hkk
  rcases hs with rfl | hs
  ·have:=h.tag;omega
  ·have:=h.logT k hs;omega
 refine ⟨fun k=>if k=g then 202 else ρ k,sv,.slice (some ⟨g,0,none⟩) (P.length+1) cap,⟨?_,?_,ok h.row h.rowT (by omega) (by omega),?_,?_,?_,fun i r hi=>ok (h.par i r hi) (h.parT i r hi) (by omega) (by omega),?_,h.wk.same fun k h1 h2 h3=>⟨hkeep.block k h1 (fun hs=>by rcases hs with rfl | hs;have:=h.tag;omega;have:=h.logT k hs;omega),tagOf k h1⟩⟩,?_,?_,?_⟩
 ·have hb:w2.heap[yb]?=some (.cells (refArr C time sv wv.v lv fv) 80 (0,0)):=by
   rw [hgrow.block yb (by omega) (fun e=>by have:=h.logT yb e.symm;have:=h.tag;omega),hWk.block yb hyb (fun h=>h),h.blk]
  rw [heap_setCell_same hb,refArr_set9]
 ·show (if yb=g then 202 else ρ yb)=200
  rw [tagOf yb hyb];exact h.tag
 ·intro k hk
  show (if k=g then 202 else ρ k)=201
  rw [tagOf k (h.row.lt k hk).2];exact h.rowT k hk
 ·rw [rowPt_append,List.length_append]
  simp only [rowPt,List.append_nil,List.length_cons,List.length_nil]
  refine ownsRow_of_block hown fun k hk=>Below.heap_setCell _ _ _ _ ?_
  simp [Value.ownBlock] at hk
  subst hk
  exact hgy
 ·intro k hk
  simp [Value.ownBlock] at hk
  subst hk
  show (if g=g then 202 else _)=202
  rw [if_pos rfl]
 ·intro i r hi k hk
  show (if k=g then 202 else ρ k)=203
  rw [tagOf k ((h.par i r hi).lt k hk).2];exact h.parT i r hi k hk
 ·refine hkeep.mono fun k _ hs=>?_
  unfold theirs
  rcases hs with rfl | hs
  ·rw [h.tag];omega
  ·rw [h.logT k hs];omega
 ·refine ⟨tagOf,fun k hk=>?_⟩
  show (if k=g then 202 else ρ k)=0∨_
  by_cases e:k=g
  ·right;simp [e]
  ·left;simp [e,hf k hk]
 ·intro k hk
  have hk':w2.heap.size≤k:=by simpa [World.setCell] using hk
  show (if k=g then 202 else ρ k)=0
  rw [if_neg (by omega)]
  exact hf k (by omega)
def RefPutPost (w:World) (ρ:Nat→Nat) (yb:Nat) (C:Cfg) (time:Int) (rs:List Rf) (P:List Pt) (wv:Wks) (fv:Value) (s:ByteArray) (v t:Int) (e:Ending) (w':World):Prop :=
 (makeR s v t≠0∧e=.returned (.tuple #[.int .i64 0,.int .i64 0,.int .i64 (makeR s v t)])∧RefPost w ρ yb C time rs P wv fv w') ∨
 (makeR s v t=0∧∃k x,Home (absR rs P) (hashL s.data.toList) k x∧e=.returned (putV k x.cnt)∧((32≤x.cnt∧RefPost w ρ yb C time rs P wv fv w')∨(¬32≤x.cnt∧RefPost w ρ yb C time rs (P ++ [⟨k,s,v,t⟩]) wv fv w')))
set_option maxRecDepth 100000 in
set_option maxHeartbeats 2000000 in
theorem refPut_any {w:World} {ρ:Nat→Nat} {yb:Nat} {C:Cfg} {time:Int} {rs:List Rf} {P:List Pt} {wv:Wks} {fv sv lv:Value} (h:RefAt w ρ yb C time rs P wv fv sv lv) (hf:Fits w ρ) (hI:Inv (absR rs P)) (hP:P.length≤1000000) (s:ByteArray) (v t:Int) (hs:s.size≤maxLen) :
 Calls Tryz.prog 99 #[.pointer (some ⟨yb,0,none⟩),.string s,.int .i64 v,.int .i64 t] w (RefPutPost w ρ yb C time rs P wv fv s v t):=by
 have HK:=hide (refIsKey_any s w hs)
 have HSame:=hide (RefPost.below h hf (Below.refl _ w))
 have noErr:∀(q:Int),q≠0→makeR s v t=q→RefPutPost w ρ yb C time rs P wv fv s v t (.returned (.tuple #[.int .i64 0,.int .i64 0,.int .i64 q])) w:=by
  intro q hq hm
  refine Or.inl ⟨by rw [hm];exact hq,by rw [hm],uh HSame⟩
 cases hk:keyB s
 ·have HE:=hide (noErr 2 (by omega) (by simp [makeR,hk]))
  rw [hk] at HK
  clear h hf hI noErr
  go_enter Tryz.func99,Tryz.ntmps99
  go_wp2_with (go_at_call 56;refine (uh HK).mono ?_;rintro e w' ⟨rfl,rfl⟩)
  go_ret3
  exact uh HE
 ·rw [hk] at HK
  by_cases hv:1000000<v∨v < -1000000
  ·have HE:=hide (noErr 3 (by omega) (by simp only [makeR,hk];rw [if_neg (by simp),if_pos hv]))
   clear h hf hI noErr
   rcases hv with hv | hv
   ·go_enter Tryz.func99,Tryz.ntmps99
    go_wp2_with (go_at_call 56;refine (uh HK).mono ?_;rintro e w' ⟨rfl,rfl⟩)
    go_ret3
    exact uh HE
   ·have hv2:¬1000000<v:=by omega
    go_enter Tryz.func99,Tryz.ntmps99
    go_wp2_with (go_at_call 56;refine (uh HK).mono ?_;rintro e w' ⟨rfl,rfl⟩)
    go_ret3
    exact uh HE
  ·by_cases ht:t<0∨1000000<t
   ·have HE:=hide (noErr 4 (by omega) (by simp only [makeR,hk];rw [if_neg (by simp),if_neg hv,if_pos ht]))
    have hv1:¬1000000<v:=by omega
    have hv2:¬v < -1000000:=by omega
    clear h hf hI noErr hv
    rcases ht with ht | ht
    ·go_enter Tryz.func99,Tryz.ntmps99
     go_wp2_with (go_at_call 56;refine (uh HK).mono ?_;rintro e w' ⟨rfl,rfl⟩)
     go_ret3
     exact uh HE
    ·have ht2:¬t<0:=by omega
     go_enter Tryz.func99,Tryz.ntmps99
     go_wp2_with (go_at_call 56;refine (uh HK).mono ?_;rintro e w' ⟨rfl,rfl⟩)
     go_ret3
     exact uh HE
   ·have hmz:makeR s v t=0:=by simp only [makeR,hk];rw [if_neg (by simp),if_neg hv,if_neg ht]
    have hv1:¬1000000<v:=by omega
    have hv2:¬v < -1000000:=by omega
    have ht1:¬t<0:=by omega
    have ht2:¬1000000<t:=by omega
    have HH:=hide (refHash_any s w hs)
    obtain ⟨hb0,hb1⟩:=hashL_bd s.data.toList
    obtain ⟨k,x,hx⟩:=hI.part _ hb0 hb1
    obtain ⟨r,hr,hxr⟩:=absR_of hx.1
    have hkl:=(List.getElem?_eq_some_iff.1 hr).1
    have hlen:=hI.len
    rw [absR_len] at hlen
    obtain ⟨sb,cap,rfl,hsb,hsbT,_,hcell⟩:=h.shards (by omega)
    obtain ⟨la,lcap,rfl,_⟩:=h.logs
    have c9:w.cell? ⟨yb,9,none⟩=some (.slice la P.length lcap):=cell_of h.blk 9
    have f9:=frozen_of h.blk 9
    obtain ⟨i0,hi0,hz0,hz1,hz2⟩:=info_parts info144
    have c7:w.cell? ⟨yb,7,none⟩=some (.slice (some ⟨sb,0,none⟩) rs.length cap):=cell_of h.blk 7
    have hyb:=lt_of_heap h.blk
    have HRc:=hide (records_any h hP k)
    have hcnt:x.cnt=(ofShard P k).length:=by rw [hxr];exact rcsOf_len P k
    have hacc:r.op=true∧r.lo≤hashL s.data.toList∧hashL s.data.toList<r.hi:=by
     have:=hx.2.1
     rw [hxr,acc_iff] at this
     exact this
    have HNo:Hid (∀(j:Nat) (q:Rf),j<k→rs[j]?=some q→accB q.op q.lo q.hi (hashL s.data.toList)=false):=by
     intro j q hj hq
     cases hh:accB q.op q.lo q.hi (hashL s.data.toList)
     ·rfl
     ·have:=hx.2.2 j _ (absR_get hq) hh
      omega
    have HEx:Hid (∀j,j<rs.length→∃q,rs[j]?=some q):=fun j hj=>⟨rs[j],List.getElem?_eq_getElem hj⟩
    have HG:=hide h
    have HF:=hide hf
    have HX:=hide hx
    have HMZ:=hide hmz
    have HCell:=hide hcell
    have HCnt:=hide hcnt
    have HRr:=hide hr
    obtain ⟨ro,rlo,rhi⟩:=hacc
    clear h hf hI noErr hv ht hx hxr hmz hcell hcnt hr HSame
    generalize hhe:hashL s.data.toList=hh at *
    have HHE:=hide hhe
    clear hhe
    go_enter Tryz.func99,Tryz.ntmps99
    go_wp2_with (first | (go_at_call 56;refine (uh HK).mono ?_;rintro e w' ⟨rfl,rfl⟩) | (go_at_call 125;refine (uh HH).mono ?_;rintro e w' ⟨rfl,rfl⟩))
    go_loop [13] (fun i=>∃j:Nat,j≤k∧i=.int .i64 j) (fun i=>k - (intOf i).toNat)
    case atStart=>exact ⟨0,Nat.zero_le _,rfl⟩
    case round =>
     obtain ⟨j,hj,rfl⟩:=hrel
     by_cases hjk:j=k
     ·subst hjk
      have b0:w.cell? ⟨sb,j*9,none⟩=some (.int .i64 r.lo):=uh HCell j r (uh HRr) 0 (by omega)
      have b1:w.cell? ⟨sb,j*9+1,none⟩=some (.int .i64 r.hi):=uh HCell j r (uh HRr) 1 (by omega)
      have b2:w.cell? ⟨sb,j*9+2,none⟩=some (.bool true):=by rw [←ro];exact uh HCell j r (uh HRr) 2 (by omega)
      clear ro
      go_wp2_with fail
      refine (uh HRc).mono ?_
      rintro e w2 ⟨ra,rcap,rfl,hrow,hB2⟩
      rw [←uh HCnt]
      have G2:=(uh HG).keeps (Keeps.of_below hB2) (fun _ hk=>Or.inr hk) (fun _ _=>rfl)
      have hyb2:=lt_of_heap G2.blk
      have d9:w2.cell? ⟨yb,9,none⟩=some (.slice la P.length lcap):=cell_of G2.blk 9
      have HG2:=hide G2
      have HB2:=hide hB2
      clear G2 hB2 hrow b0 b1 b2 c7 c9 f9
      by_cases hc:32≤x.cnt
      ·have HFin:Hid (RefPutPost w ρ yb C time rs P wv fv s v t (.returned (.tuple #[.int .i64 0,.int .i64 0,.int .i64 8])) w2) :=
        Or.inr ⟨uh HMZ,j,x,by rw [uh HHE];exact uh HX,by rw [putV,if_pos hc],Or.inl ⟨hc,RefPost.below (uh HG) (uh HF) (uh HB2)⟩⟩
       go_wp2
       go_ret3
       exact uh HFin
      ·have HN:Hid (some yb≠(Value.slice la P.length lcap).ownBlock):=fun e=>by have:=(uh HG2).logT yb e.symm;have:=(uh HG2).tag;omega
       go_wp2_with (at_builtin;go_must (refine wpList_append_lies _ rfl _ _ _ rfl 0 144 i0 _ 4 40 Tryz.underlying77 hi0 hz0 hz1 hz2 rfl (by omega) _ P.length (rowPt P) rfl ?own ⟨w2.heap.size,0,none⟩ 1 1 (ptCells ⟨j,s,v,t⟩) rfl rfl ?news ?one (by omega) ?h63 ?bytes ?base (w2.heap.size+1) ?hH ?next))
       case own=>exact (uh HG2).log.alloc _
       case news=>exact World.news_of_block (cs:=#[.int .i64 j,.string s,.int .i64 v,.int .i64 t]) (heap_alloc_new w2 _)
       case one =>
        intro u hu
        simp [ptCells] at hu
        rcases hu with rfl | rfl | rfl | rfl <;> rfl
       case h63=>unfold maxLen;omega
       case bytes=>omega
       case base=>exact Nat.zero_le _
       case hH=>simp
       case next =>
        intro g3 cap3 w3 hown3 hgrow3 hat3 hlt3
        have z9:w3.cell? ⟨yb,9,none⟩=some (.slice la P.length lcap):=(hgrow3.cell_far _ (by simp;omega) (uh HN)).trans ((World.cell?_of_block (w:=w2) (Below.heap_alloc _ _ _ hyb2)).trans d9)
        have zf:w3.frozen? ⟨yb,9,none⟩=false:=(hgrow3.frozen_far _ (by simp;omega) (uh HN)).trans ((World.frozen?_of_block (w:=w2) (Below.heap_alloc _ _ _ hyb2)).trans (frozen_of (uh HG2).blk 9))
        have HPp:=hide ((uh HG2).addPut (fun q hq=>uh HF q (by have:=(uh HB2).size;omega)) ((Keeps.refl _ w2).alloc _) ⟨j,s,v,t⟩ g3 cap3 hown3 hgrow3 (by simpa using hat3))
        have HFin:Hid (RefPutPost w ρ yb C time rs P wv fv s v t (.returned (.tuple #[.int .i64 j,.int .i64 x.cnt,.int .i64 0])) (w3.setCell ⟨yb,9,none⟩ (.slice (some ⟨g3,0,none⟩) (P.length+1) cap3))) :=
         Or.inr ⟨uh HMZ,j,x,by rw [uh HHE];exact uh HX,by rw [putV,if_neg hc],Or.inr ⟨hc,RefPost.trans ((Keeps.of_below (uh HB2)).mono (fun _ _ _=>by omega)) (ExtR.refl (uh HF)) (uh HPp)⟩⟩
        clear hown3 hgrow3 hat3
        go_wp2
        go_ret3
        exact uh HFin
     ·obtain ⟨q,hq⟩:=uh HEx j (by omega)
      have hno:=uh HNo j q (by omega) hq
      have b0:w.cell? ⟨sb,j*9,none⟩=some (.int .i64 q.lo):=uh HCell j q hq 0 (by omega)
      have b1:w.cell? ⟨sb,j*9+1,none⟩=some (.int .i64 q.hi):=uh HCell j q hq 1 (by omega)
      have b2:w.cell? ⟨sb,j*9+2,none⟩=some (.bool q.op):=uh HCell j q hq 2 (by omega)
      have hjl:j<rs.length:=by omega
      clear hq
      cases qo:q.op
      ·rw [qo] at b2
       clear qo hno ro
       go_wp2
       go_round
       case rel=>exact ⟨j+1,by omega,by go_num⟩
       case measure=>simp [intOf];omega
      ·rw [qo] at b2 hno
       by_cases hl:q.lo≤hh
       ·have hhi:¬hh<q.hi:=by
         intro hc
         simp [accB,hl,hc] at hno
        clear qo hno ro
        go_wp2
        go_round
        case rel=>exact ⟨j+1,by omega,by go_num⟩
        case measure=>simp [intOf];omega
       ·clear qo hno ro
        go_wp2
        go_round
        case rel=>exact ⟨j+1,by omega,by go_num⟩
        case measure=>simp [intOf];omega
end Go.Proofs.YtpnkmnmchdabkaaGreat
