import Derived.Test.YtpnkmnmchdabkaaGreatM35
import Derived.Test.YtpnkmnmchdabkaaGreatM08
import Derived.Test.YtpnkmnmchdabkaaGreatM25
import Derived.Test.YtpnkmnmchdabkaaGreatM15
namespace Go.Proofs.YtpnkmnmchdabkaaGreat
open Go.RowKit
attribute [local go_sem ↓] Go.wp_at_zero Go.wp_at_succ
theorem plc_same {L:List Int} {x:Int} (hL:Ris L) {j:Nat} (hj:L[j]?=some x):ins x (L.take (j+1))=ins x (L.take j):=by
 rw [take_next hj]
 have hall:∀z ∈ L.take j,z<x:=fun z hz=>by
  obtain ⟨i,hi⟩:=List.getElem?_of_mem hz
  rw [List.getElem?_take] at hi
  split at hi
  ·rename_i hij
   exact ris_at hL hij hi hj
  ·cases hi
 rw [ins_last _ hall]
 refine ins_same _ ?_ (by simp)
 rw [←take_next hj]
 exact List.Pairwise.sublist (List.take_sublist _ _) hL
theorem plc_more {L:List Int} {x y:Int} (hL:Ris L) {j:Nat} (hj:L[j]?=some y) (hy:x<y):ins x (L.take (j+1))=ins x (L.take j) ++ [y]:=by
 rw [take_next hj]
 by_cases hz:∃z ∈ L.take j,x≤z
 ·refine ins_snoc _ ?_ hz
  rw [←take_next hj]
  exact List.Pairwise.sublist (List.take_sublist _ _) hL
 ·have hall:∀z ∈ L.take j,z<x:=fun z h=>by
   by_cases h2:z<x
   ·exact h2
   ·exact (hz ⟨z,h,by omega⟩).elim
  rw [ins_two hy _ hall,ins_last _ hall]
theorem ins_len (x:Int):∀(K:List Int),(ins x K).length≤K.length+1:=by
 intro K
 induction K with
 | nil=>simp [ins]
 | cons a r ih=>unfold ins;split;simp;split;simp;simp;omega
set_option maxRecDepth 100000 in
set_option maxHeartbeats 2000000 in
theorem refPlaced_any (L:List Int) (x:Int) (la:Option Addr) (lc:Nat) (w:World) (hL:Sts L) (hrow:w.ownsRow 0 3 1 (.slice la L.length lc) L.length (L.map (Value.int .i64))) :
 Calls Tryz.prog 75 #[.slice la L.length lc,.int .i64 x] w fun e w'=>∃v,e=.returned v∧w'.ownsRow w.heap.size 3 1 v (ins x L).length ((ins x L).map (Value.int .i64))∧Below w.heap.size w w':=by
 obtain ⟨i0,hi0,hz0,hz1,hz2⟩:=info_parts info3
 have hlen:=hL.len
 have HC:Hid (∀(j:Nat) (y:Int),L[j]?=some y→∃lb,la=some ⟨lb,0,none⟩∧lb<w.heap.size∧w.cell? ⟨lb,j,none⟩=some (.int .i64 y)):=fun j y hj=>by
  have hl:=(List.getElem?_eq_some_iff.1 hj).1
  obtain ⟨g2,c2,cur,e,_,hg,_⟩:=ownsRow_shape hrow (by omega)
  injection e with e
  subst e
  refine ⟨g2,rfl,lt_of_heap hg,?_⟩
  rw [World.ownsRow.cellAt hrow j (by omega)]
  simp [hj]
 have HL:=hide hL.1
 clear hrow hL
 go_enter Tryz.func75,Tryz.ntmps75
 go_wp2
 go_loopw [5,6] (fun o i wr=>∃(j cp:Nat) (M:List Int) (a:Option Addr),j≤L.length∧i=.int .i64 j∧o=.slice a M.length cp∧M=L.take j∧(∀z ∈ L.take j,z<x)∧wr.ownsRow w.heap.size 3 1 (.slice a M.length cp) M.length (M.map (Value.int .i64))∧Below w.heap.size w wr) (fun _ i _=>L.length - (intOf i).toNat)
 case atStart=>exact ⟨0,0,[],none,Nat.zero_le _,rfl,rfl,by simp,by simp,World.ownsRow_nil _ _ _ _,Below.refl _ _⟩
 case round =>
  obtain ⟨j,cp,M,a,hj,rfl,rfl,hM,hall,hown,hB⟩:=hrel
  have hML:M.length≤1000001:=by rw [hM,List.length_take];omega
  have HM:=hide hM
  have HA:=hide hall
  have HO:=hide hown
  have HB:=hide hB
  have hzr:=hB.size
  clear hM hall hown
  by_cases hstep:∃y,L[j]?=some y∧y<x
  ·obtain ⟨y,hy,hyx⟩:=hstep
   obtain ⟨lb,rfl,hlb,cy⟩:=uh HC j y hy
   have cy1:=(hB.cell (p:=⟨lb,j,none⟩) hlb).trans cy
   have hlt:=(List.getElem?_eq_some_iff.1 hy).1
   have HY:=hide hy
   clear hy hB cy
   go_wp2_with (at_builtin;go_must (refine wpList_append_lies _ rfl _ _ _ rfl w.heap.size 3 i0 _ 1 8 Tryz.underlying34 hi0 hz0 hz1 hz2 rfl (by omega) _ M.length (M.map (Value.int .i64)) rfl ((uh HO).alloc _) ⟨wr.heap.size,0,none⟩ 1 1 [.int .i64 y] rfl rfl (World.news_of_block (cs:=#[.int .i64 y]) (heap_alloc_new wr _)) (by simp [Value.oneCell']) (by omega) (by unfold maxLen;omega) (by omega) (by simp;omega) (wr.heap.size+1) (by simp) ?nextA))
   case nextA =>
    intro g2 cap2 w6 hown6 hgrow6 hat hlt6
    have hB6:Hid (Below w.heap.size w w6):=((uh HB).alloc hzr _).grown hgrow6 (by simp;omega) (fun q hq=>((uh HO).lt q hq).1)
    have HN:Hid (w6.ownsRow w.heap.size 3 1 (.slice (some ⟨g2,0,none⟩) (M ++ [y]).length cap2) (M ++ [y]).length ((M ++ [y]).map (Value.int .i64))):=by
     unfold Hid
     rw [List.length_append,List.map_append]
     exact hown6
    clear hown6 hgrow6 hat
    go_wp2
    go_roundw
    case rel =>
     refine ⟨j+1,cap2,M ++ [y],some ⟨g2,0,none⟩,by omega,by go_num,by simp,by rw [uh HM,take_next (uh HY)],fun z hz=>?_,uh HN,uh hB6⟩
     rw [take_next (uh HY)] at hz
     rcases List.mem_append.1 hz with hz | hz
     ·exact uh HA z hz
     ·simp at hz;omega
    case measure=>simp [intOf];omega
  ·have HP:Hid (∀(i:Nat) (y:Int),j≤i→L[i]?=some y→x≤y):=fun i y hi hy=>by
    by_cases e:i=j
    ·subst e
     by_cases h:y<x
     ·exact (hstep ⟨y,hy,h⟩).elim
     ·omega
    ·have hlj:j<L.length:=by have:=(List.getElem?_eq_some_iff.1 hy).1;omega
     have h1:=ris_at (uh HL) (show j<i by omega) (List.getElem?_eq_getElem hlj) hy
     by_cases h:L[j]<x
     ·exact (hstep ⟨_,List.getElem?_eq_getElem hlj,h⟩).elim
     ·omega
   have HPn:Hid (ins x (L.take j)=M ++ [x]):=by unfold Hid;rw [ins_last _ (uh HA),uh HM]
   have hends:(∃(y:Int) (lb:Nat),la=some ⟨lb,0,none⟩∧wr.cell? ⟨lb,j,none⟩=some (.int .i64 y)∧x≤y∧j<L.length)∨j=L.length:=by
    by_cases e:j<L.length
    ·left
     obtain ⟨lb,e1,hlb,cy⟩:=uh HC j _ (List.getElem?_eq_getElem e)
     exact ⟨_,lb,e1,(hB.cell (p:=⟨lb,j,none⟩) hlb).trans cy,uh HP j _ (Nat.le_refl _) (List.getElem?_eq_getElem e),e⟩
    ·right;omega
   clear hstep hB
   rcases hends with ⟨y0,lb0,rfl,cy0,hy0,hj0⟩ | hj0
   all_goals
    first
     | (have hn0:¬y0<x:=by omega)
     | (have hn1:¬(j:Int)<(L.length:Int):=by omega
        clear hj0)
    go_wp2_with (at_builtin;go_must (refine wpList_append_lies _ rfl _ _ _ rfl w.heap.size 3 i0 _ 1 8 Tryz.underlying34 hi0 hz0 hz1 hz2 rfl (by omega) _ M.length (M.map (Value.int .i64)) rfl ((uh HO).alloc _) ⟨wr.heap.size,0,none⟩ 1 1 [.int .i64 x] rfl rfl (World.news_of_block (cs:=#[.int .i64 x]) (heap_alloc_new wr _)) (by simp [Value.oneCell']) (by omega) (by unfold maxLen;omega) (by omega) (by simp;omega) (wr.heap.size+1) (by simp) ?nextB))
    case nextB =>
     intro g2 cap2 w6 hown6 hgrow6 hat hlt6
     have hB6:Hid (Below w.heap.size w w6):=((uh HB).alloc hzr _).grown hgrow6 (by simp;omega) (fun q hq=>((uh HO).lt q hq).1)
     have HN:Hid (w6.ownsRow w.heap.size 3 1 (.slice (some ⟨g2,0,none⟩) (ins x (L.take j)).length cap2) (ins x (L.take j)).length ((ins x (L.take j)).map (Value.int .i64))):=by
      unfold Hid
      rw [uh HPn,List.length_append,List.map_append]
      exact hown6
     have hMl:M.length+1=(ins x (L.take j)).length:=by rw [uh HPn];simp
     rw [hMl]
     clear hown6 hgrow6 hat hMl HPn HO HM HA
     first
      | clear hn1
      | skip
     go_wp2
     go_loopw [5,6] (fun o i wr=>∃(q cp:Nat) (a:Option Addr),j≤q∧q≤L.length∧i=.int .i64 q∧o=.slice a (ins x (L.take q)).length cp∧wr.ownsRow w.heap.size 3 1 (.slice a (ins x (L.take q)).length cp) (ins x (L.take q)).length ((ins x (L.take q)).map (Value.int .i64))∧Below w.heap.size w wr) (fun _ i _=>L.length - (intOf i).toNat)
     case atStart=>exact ⟨j,cap2,some ⟨g2,0,none⟩,Nat.le_refl _,hj,rfl,rfl,uh HN,uh hB6⟩
     case round =>
      obtain ⟨q,cp2,a2,hjq,hq,rfl,rfl,hown2,hB2⟩:=hrel
      by_cases hlt:q<L.length
      ·obtain ⟨y,hy⟩:∃y,L[q]?=some y:=⟨L[q],List.getElem?_eq_getElem hlt⟩
       have hxy:=uh HP q y hjq hy
       obtain ⟨lb,hla,hlb,cy⟩:=uh HC q y hy
       first
        | subst hla
        | (injection hla with hla;injection hla with hla;have hla:=hla.symm;subst hla)
       have cy1:=(hB2.cell (p:=⟨lb,q,none⟩) hlb).trans cy
       have HB2:=hide hB2
       have HO2:=hide hown2
       have hzr2:=hB2.size
       by_cases he:y=x
       ·have HS:Hid (ins x (L.take (q+1))=ins x (L.take q)):=plc_same (uh HL) (by rw [he] at hy;exact hy)
        have hne:(y != x)=false:=by simp [he]
        clear he hB2 hown2 cy hy
        go_wp2
        go_roundw
        case rel=>exact ⟨q+1,cp2,a2,by omega,by omega,by go_num,by rw [uh HS],by rw [uh HS];exact uh HO2,uh HB2⟩
        case measure=>simp [intOf];omega
       ·have HS:Hid (ins x (L.take (q+1))=ins x (L.take q) ++ [y]):=plc_more (uh HL) hy (by omega)
        have hne:(y != x)=true:=by rw [bne_iff_ne];exact he
        have hil:(ins x (L.take q)).length≤1000003:=by have:=ins_len x (L.take q);rw [List.length_take] at this;omega
        generalize ins x (L.take q)=K at *
        clear he hB2 hown2 cy hy
        go_wp2_with (at_builtin;go_must (refine wpList_append_lies _ rfl _ _ _ rfl w.heap.size 3 i0 _ 1 8 Tryz.underlying34 hi0 hz0 hz1 hz2 rfl (by omega) _ K.length (K.map (Value.int .i64)) rfl ((uh HO2).alloc _) ⟨wr.heap.size,0,none⟩ 1 1 [.int .i64 y] rfl rfl (World.news_of_block (cs:=#[.int .i64 y]) (heap_alloc_new wr _)) (by simp [Value.oneCell']) (by omega) (by unfold maxLen;omega) (by omega) (by simp;omega) (wr.heap.size+1) (by simp) ?nextC))
        case nextC =>
         intro g3 cap3 w7 hown7 hgrow7 hat7 hlt7
         have hB7:Hid (Below w.heap.size w w7):=((uh HB2).alloc hzr2 _).grown hgrow7 (by simp;omega) (fun q hq=>((uh HO2).lt q hq).1)
         have HN7:Hid (w7.ownsRow w.heap.size 3 1 (.slice (some ⟨g3,0,none⟩) (ins x (L.take (q+1))).length cap3) (ins x (L.take (q+1))).length ((ins x (L.take (q+1))).map (Value.int .i64))):=by
          unfold Hid
          rw [uh HS,List.length_append,List.map_append]
          exact hown7
         clear hown7 hgrow7 hat7
         go_wp2
         go_roundw
         case rel=>exact ⟨q+1,cap3,some ⟨g3,0,none⟩,by omega,by omega,by go_num,by rw [uh HS];simp,uh HN7,uh hB7⟩
         case measure=>simp [intOf];omega
      ·have e:q=L.length:=by omega
       subst e
       rw [List.take_length] at hown2 ⊢
       have HO2:=hide hown2
       have HB2:=hide hB2
       clear hown2 hB2
       go_wp2
       go_ret
       exact ⟨_,rfl,uh HO2,uh HB2⟩
end Go.Proofs.YtpnkmnmchdabkaaGreat
namespace Go.Proofs.YtpnkmnmchdabkaaGreat
def fstW (wd sl t:Int):Int:=if wd+sl<t then (t - wd - sl) / sl*sl else 0
def wF (wd sl t:Int):Nat→List Int→List Int
 | 0,L=>L
 | q+1,L=>if t<fstW wd sl t+q*sl+wd then ins (fstW wd sl t+q*sl) (wF wd sl t q L) else wF wd sl t q L
theorem fstW_is {wd sl t:Int} (hs:1≤sl) (hw:1≤wd) (ht:0≤t):0≤fstW wd sl t∧fstW wd sl t≤t∧fstW wd sl t % sl=0∧(fstW wd sl t=0∨fstW wd sl t+wd≤t):=by
 unfold fstW
 split
 ·rename_i h
  have h1:0≤(t - wd - sl) / sl:=Int.ediv_nonneg (by omega) (by omega)
  have h2:(t - wd - sl) / sl*sl≤t - wd - sl:=Int.ediv_mul_le _ (by omega)
  refine ⟨Int.mul_nonneg h1 (by omega),by omega,Int.mul_emod_left _ _,Or.inr (by omega)⟩
 ·exact ⟨by omega,by omega,by simp,Or.inl rfl⟩
theorem mem_wF {wd sl t:Int} (y:Int):∀(q:Nat) (L:List Int),y ∈ wF wd sl t q L ↔ y ∈ L∨∃i:Nat,i<q∧y=fstW wd sl t+i*sl∧t<y+wd:=by
 intro q L
 induction q with
 | zero=>simp [wF]
 | succ q ih =>
   rw [wF]
   constructor
   ·intro h
    split at h
    ·rename_i hc
     rcases mem_ins.1 h with rfl | h
     ·exact Or.inr ⟨q,by omega,rfl,hc⟩
     ·rcases ih.1 h with h | ⟨i,a,b⟩
      ·exact Or.inl h
      ·exact Or.inr ⟨i,by omega,b⟩
    ·rcases ih.1 h with h | ⟨i,a,b⟩
     ·exact Or.inl h
     ·exact Or.inr ⟨i,by omega,b⟩
   ·intro h
    rcases h with h | ⟨i,a,b,c⟩
    ·split
     ·exact mem_ins.2 (Or.inr (ih.2 (Or.inl h)))
     ·exact ih.2 (Or.inl h)
    ·by_cases e:i=q
     ·subst e
      subst b
      rw [if_pos c]
      exact mem_ins.2 (Or.inl rfl)
     ·split
      ·exact mem_ins.2 (Or.inr (ih.2 (Or.inr ⟨i,by omega,b,c⟩)))
      ·exact ih.2 (Or.inr ⟨i,by omega,b,c⟩)
theorem Sts.wF {wd sl t:Int} (hs:1≤sl) (hw:1≤wd) (ht:0≤t∧t≤1000000) {L:List Int} (h:Sts L):∀q:Nat,(∀i:Nat,i<q→fstW wd sl t+i*sl≤t)→Sts (Go.Proofs.YtpnkmnmchdabkaaGreat.wF wd sl t q L)
 | 0,_=>h
 | q+1,hq=>by
   have ih:=Sts.wF hs hw ht h q (fun i hi=>hq i (by omega))
   rw [Go.Proofs.YtpnkmnmchdabkaaGreat.wF]
   split
   ·refine ih.ins ⟨?_,by have:=hq q (by omega);omega⟩
    have:=(fstW_is hs hw ht.1).1
    have:0≤(q:Int)*sl:=Int.mul_nonneg (by omega) (by omega)
    omega
   ·exact ih
theorem mul_gap {sl y s:Int} (hs:1≤sl) (hy:y % sl=0) (h:s % sl=0) (hlt:y<s):y≤s - sl:=by
 obtain ⟨a,rfl⟩:=Int.dvd_of_emod_eq_zero hy
 obtain ⟨b,rfl⟩:=Int.dvd_of_emod_eq_zero h
 have hab:a<b:=Int.lt_of_mul_lt_mul_left hlt (by omega)
 have:=Int.mul_le_mul_of_nonneg_left (show a≤b - 1 by omega) (show 0≤sl by omega)
 rw [Int.mul_sub,Int.mul_one] at this
 exact this
theorem mem_addO {wd sl t:Int} (hs:1≤sl) (y:Int):∀(f:Nat) (s:Int) (L:List Int),s % sl=0→s≤t→s<f→(y ∈ addO wd sl t f s L ↔ y ∈ L∨(hldW wd y t=true∧y % sl=0∧y≤s)):=by
 intro f
 induction f with
 | zero =>
   intro s L h1 h2 h4
   rw [addO]
   constructor
   ·exact Or.inl
   ·rintro (h | ⟨h,_,h5⟩)
    ·exact h
    ·unfold hldW at h
     simp only [decide_eq_true_eq] at h
     omega
 | succ f ih =>
   intro s L h1 h2 h4
   rw [addO]
   split
   ·rename_i hh
    have hm:(s - sl) % sl=0:=by rw [Int.sub_emod,h1,Int.emod_self];simp
    rw [ih (s - sl) (ins s L) hm (by omega) (by omega),mem_ins]
    constructor
    ·rintro ((rfl | h) | ⟨a,b,c⟩)
     ·exact Or.inr ⟨hh,h1,Int.le_refl _⟩
     ·exact Or.inl h
     ·exact Or.inr ⟨a,b,by omega⟩
    ·rintro (h | ⟨a,b,c⟩)
     ·exact Or.inl (Or.inr h)
     ·by_cases e:y=s
      ·exact Or.inl (Or.inl e)
      ·exact Or.inr ⟨a,b,mul_gap hs b h1 (by omega)⟩
   ·rename_i hh
    constructor
    ·exact Or.inl
    ·rintro (h | ⟨a,b,c⟩)
     ·exact h
     ·unfold hldW at a hh
      simp only [decide_eq_true_eq] at a hh
      omega
theorem mem_addT {wd sl t:Int} (hs:1≤sl) (ht:0≤t) (y:Int) (L:List Int):y ∈ addT wd sl t L ↔ y ∈ L∨(hldW wd y t=true∧y % sl=0):=by
 unfold addT
 have h0:=Int.emod_nonneg t (show sl≠0 by omega)
 have h1:=Int.emod_lt_of_pos t (show 0<sl by omega)
 have hm:(t - t % sl) % sl=0:=by rw [Int.sub_emod,Int.emod_emod_of_dvd _ (Int.dvd_refl _)];simp
 rw [mem_addO hs y _ _ L hm (by omega) (by omega)]
 constructor
 ·rintro (h | ⟨a,b,_⟩)
  ·exact Or.inl h
  ·exact Or.inr ⟨a,b⟩
 ·rintro (h | ⟨a,b⟩)
  ·exact Or.inl h
  ·refine Or.inr ⟨a,b,?_⟩
   unfold hldW at a
   simp only [decide_eq_true_eq] at a
   by_cases e:y≤t - t % sl
   ·exact e
   ·have:=mul_gap hs hm b (by omega)
    omega
theorem wF_is {wd sl t:Int} (hs:1≤sl) (hw:1≤wd) (ht:0≤t∧t≤1000000) {L:List Int} (h:Sts L) (q:Nat) (hq:∀i:Nat,i<q→fstW wd sl t+i*sl≤t) (he:t<fstW wd sl t+q*sl):wF wd sl t q L=addT wd sl t L:=by
 obtain ⟨f1,f2,f3,f4⟩:=fstW_is hs hw ht.1
 refine sorted_eq (r:=fun a b:Int=>a<b) (fun a b h1 h2=>by omega) _ _ (Sts.wF hs hw ht h q hq).1 (Sts.addT ht.2 h).1 fun y=>?_
 rw [mem_wF,mem_addT hs ht.1]
 constructor
 ·rintro (h | ⟨i,hi,rfl,hc⟩)
  ·exact Or.inl h
  ·have h1:=hq i hi
   have h2:0≤(i:Int)*sl:=Int.mul_nonneg (by omega) (by omega)
   refine Or.inr ⟨?_,?_⟩
   ·unfold hldW
    simp only [decide_eq_true_eq]
    omega
   ·rw [Int.add_emod,f3,Int.mul_emod_left];simp
 ·rintro (h | ⟨a,b⟩)
  ·exact Or.inl h
  ·unfold hldW at a
   simp only [decide_eq_true_eq] at a
   have hge:fstW wd sl t≤y:=by rcases f4 with f4 | f4 <;> omega
   obtain ⟨c,hc⟩:=Int.dvd_of_emod_eq_zero (show (y - fstW wd sl t) % sl=0 by rw [Int.sub_emod,b,f3];simp)
   have hc0:0≤c:=by
    by_cases h0:0≤c
    ·exact h0
    ·have:=Int.mul_le_mul_of_nonneg_left (show c≤-1 by omega) (show 0≤sl by omega)
     omega
   refine Or.inr ⟨c.toNat,?_,?_,by omega⟩
   ·by_cases h0:c.toNat<q
    ·exact h0
    ·have:=Int.mul_le_mul_of_nonneg_left (show (q:Int)≤c by omega) (show 0≤sl by omega)
     rw [Int.mul_comm (q:Int) sl] at he
     omega
   ·rw [show ((c.toNat:Nat):Int)=c by omega,Int.mul_comm c sl]
    omega
end Go.Proofs.YtpnkmnmchdabkaaGreat
namespace Go.Proofs.YtpnkmnmchdabkaaGreat
open Go.RowKit
attribute [local go_sem ↓] Go.wp_at_zero Go.wp_at_succ
theorem ahUp_next {a:Int} {rl:List Rc} {n:Nat} {x:Rc} (h:rl[n]?=some x):ahUp a rl (n+1)=lat (ahUp a rl n) x.t:=by rw [ahUp,h]
theorem recs_cell {W:World} {B:Nat} {R:List Pt} {a:Option Addr} {cp:Nat} (h:W.ownsRow B 144 4 (.slice a R.length cp) R.length (rowPt R)) {i:Nat} {x:Pt} (hi:R[i]?=some x):∃pb,a=some ⟨pb,0,none⟩∧pb<W.heap.size∧∀j,j<4→W.cell? ⟨pb,i*4+j,none⟩=(ptCells x)[j]?:=by
 have hlt:=(List.getElem?_eq_some_iff.1 hi).1
 obtain ⟨g,cap,cur,hv,_,hg,_⟩:=ownsRow_shape h (by omega)
 injection hv with e1 _ _
 subst e1
 exact ⟨g,rfl,lt_of_heap hg,fun j hj=>by rw [World.ownsRow.cellAt h (i*4+j) (by omega),rowPt_get R i j hj x hi]⟩
set_option maxRecDepth 100000 in
set_option maxHeartbeats 2000000 in
theorem refBefore_of {w:World} {ρ:Nat→Nat} {yb:Nat} {C:Cfg} {time:Int} {rs:List Rf} {P:List Pt} {wv:Wks} {fv sv lv:Value} {d:Nat→Nat} (h:RefAt w ρ yb C time rs P wv fv sv lv) (hI:Inv (absR rs P)) (hP:P.length≤1000000) (hd:∀(k:Nat) (r:Rf),rs[k]?=some r→r.done=(d k:Int)) (hd32:∀k,d k≤32) (k n:Nat) (hk:k<rs.length) (_hn:n≤1000)
 (H:∀p,p<k→∀(n:Nat) (W:World),n≤1000→Below w.heap.size w W→Calls Tryz.prog 50 #[.pointer (some ⟨yb,0,none⟩),.int .i64 p,.int .i64 n] W fun e w'=>e=.returned (.int .i64 (ahd (absR rs P) d p n))∧Below W.heap.size W w') :
 Calls Tryz.prog 50 #[.pointer (some ⟨yb,0,none⟩),.int .i64 k,.int .i64 n] w fun e w'=>e=.returned (.int .i64 (ahd (absR rs P) d k n))∧Below w.heap.size w w':=by
 obtain ⟨r,hr⟩:∃r,rs[k]?=some r:=⟨_,List.getElem?_eq_getElem hk⟩
 have hs:=absR_get (P:=P) hr
 have hp2:=(hI.parL k _ hs).1
 have HPR:=hide (hI.parR k _ hs)
 have HAh:=hide (ahd_bef hI d n hs)
 have h16:rs.length≤16:=by have:=hI.len;rw [absR_len] at this;exact this
 have HRec:=hide (records_any h hP k)
 have hyb:=lt_of_heap h.blk
 obtain ⟨sb,cap,rfl,hsb,_,_,hcell⟩:=h.shards (by omega)
 have c7:w.cell? ⟨yb,7,none⟩=some (.slice (some ⟨sb,0,none⟩) rs.length cap):=cell_of h.blk 7
 have c3:w.cell? ⟨sb,k*9+3,none⟩=some r.pv:=hcell k r hr 3 (by omega)
 have HDo:Hid (∀p,p<k→w.cell? ⟨sb,p*9+7,none⟩=some (.int .i64 (d p))):=fun p hp=>by
  have hq:rs[p]?=some rs[p]:=List.getElem?_eq_getElem (by omega)
  have:=hcell p _ hq 7 (by omega)
  rw [this]
  show some (Value.int .i64 _)=_
  rw [hd p _ hq]
 have hrp:=h.par k r hr
 obtain ⟨pa,pc,hpv⟩:=ownsRow_len hrp
 rw [hpv] at c3 hrp
 have HPv:Hid (∀i (hi:i<r.par.length),∃pb,pa=some ⟨pb,0,none⟩∧pb<w.heap.size∧w.cell? ⟨pb,i,none⟩=some (.int .i64 r.par[i])):=by
  intro i hi
  obtain ⟨pb,cp,cur,hv1,_,hcb,_⟩:=ownsRow_shape hrp (by omega)
  injection hv1 with e1 _ _
  refine ⟨pb,e1,lt_of_heap hcb,?_⟩
  subst e1
  have:=World.ownsRow.cellAt hrp i (by omega)
  rw [this];simp [hi]
 have HH:=hide H
 have HD:=hide hd32
 simp only at HAh hp2 HPR
 rw [uh HAh]
 have HLe:Hid ((ofShard P k).length≤1000000):=by have:=ofShard_le P k;unfold Hid;omega
 have HRl:Hid (∀(i:Nat) (x:Pt),(ofShard P k)[i]?=some x→(rcsOf P k)[i]?=some x.rc):=fun i x hi=>by
  unfold rcsOf
  rw [List.getElem?_map,hi]
  rfl
 have HRlen:Hid ((rcsOf P k).length=(ofShard P k).length):=rcsOf_len P k
 have HEnd:Hid (∀j,j≤(rcsOf P k).length→(j=n∨(j<n∧j=(rcsOf P k).length))→ahUp (-1) (rcsOf P k) j=ahUp (-1) (rcsOf P k) n):=fun j _ hj=>by
  rcases hj with rfl | ⟨h1,rfl⟩
  ·rfl
  ·rw [←ahUp_min (-1) (rcsOf P k) n,Nat.min_eq_right (by omega)]
 generalize absR rs P=l at *
 generalize ofShard P k=R at *
 generalize rcsOf P k=rl at *
 clear h hcell hrp hpv H hd hd32 hs hI HAh hr
 go_enter Tryz.func50,Tryz.ntmps50
 go_wp2_with fail
 refine (uh HRec).mono ?_
 rintro e w1 ⟨a,cp,rfl,hrow,hb1⟩
 have HC7:=hide c7
 have HRow:=hide (fun (W:World) (hW:Below w1.heap.size w1 W) (i:Nat) (x:Pt) (hi:R[i]?=some x)=>recs_cell (ownsRow_of_block hrow fun q hq=>hW.block q (hrow.lt q hq).2) hi)
 have HB1:=hide hb1
 have hz1:=hb1.size
 clear hrow hb1 HRec
 go_wp2
 go_loopw [7,9] (fun u i wr=>∃j:Nat,j≤R.length∧j≤n∧i=.int .i64 j∧u=.int .i64 (ahUp (-1) rl j)∧wr=w1) (fun _ i _=>R.length - (intOf i).toNat)
 case atStart=>exact ⟨0,Nat.zero_le _,Nat.zero_le _,rfl,rfl,rfl⟩
 case round =>
  obtain ⟨j,hj,hjn,rfl,rfl,rfl⟩:=hrel
  by_cases hb:j<n∧j<R.length
  ·obtain ⟨hlt,hlt2⟩:=hb
   obtain ⟨x,hx⟩:∃x,R[j]?=some x:=⟨R[j],List.getElem?_eq_getElem hlt2⟩
   obtain ⟨pb,rfl,hpb,hc⟩:=uh HRow wr (Below.refl _ _) j x hx
   have y3:wr.cell? ⟨pb,j*4+3,none⟩=some (.int .i64 x.time):=hc 3 (by omega)
   have HN:=hide (ahUp_next (a:=-1) (uh HRl j x hx))
   have ht0:x.rc.t=x.time:=rfl
   rw [ht0] at HN
   generalize ahUp (-1) rl j=mj at *
   clear hc hx ht0
   by_cases ht:mj<x.time
   ·have HV:Hid (lat mj x.time=x.time):=by unfold Hid;rw [←lat_gt,if_pos ht]
    go_wp2
    go_roundw
    case rel=>exact ⟨j+1,by omega,by omega,by go_num,by rw [uh HN,uh HV],trivial⟩
    case measure=>simp [intOf];omega
   ·have HV:Hid (lat mj x.time=mj):=by unfold Hid;rw [←lat_gt,if_neg ht]
    go_wp2
    go_roundw
    case rel=>exact ⟨j+1,by omega,by omega,by go_num,by rw [uh HN,uh HV],trivial⟩
    case measure=>simp [intOf];omega
  ·have hend:=uh HEnd j (by have:=uh HRlen;omega) (by have:=uh HRlen;omega)
   rw [hend]
   generalize ha0:ahUp (-1) rl n=a0 at *
   have HA0:=hide ha0
   clear ha0
   have c7:=((uh HB1).cell (p:=⟨yb,7,none⟩) hyb).trans c7
   have c3:=((uh HB1).cell (p:=⟨sb,k*9+3,none⟩) hsb).trans c3
   clear HRl HRow HRlen HEnd hend
   by_cases hlt:j<n
   all_goals
    first
     | have hlt2:¬(j:Int)<(R.length:Int):=by omega
     | skip
    clear hb
    go_wp2
    go_loopw [7,11] (fun u i W=>∃q:Nat,q≤r.par.length∧i=.int .i64 q∧u=.int .i64 (befP l d a0 (r.par.take q))∧Below w.heap.size w W) (fun _ i _=>r.par.length - (intOf i).toNat)
    case atStart=>exact ⟨0,Nat.zero_le _,rfl,rfl,uh HB1⟩
    case round =>
     obtain ⟨q,hq,rfl,rfl,hB2⟩:=hrel
     by_cases hlt3:q<r.par.length
     ·obtain ⟨pb,rfl,hpb,hc⟩:=uh HPv q hlt3
      obtain ⟨p,t,hpe,hpj,_⟩:=uh HPR r.par[q] (List.getElem_mem _)
      have z4:=(hB2.cell (p:=⟨pb,q,none⟩) hpb).trans hc
      rw [hpe] at z4
      have HBt:=hide (befP_take l d a0 r.par q hlt3)
      rw [hpe,show ((p:Int)).toNat=p by omega] at HBt
      have z7:=(hB2.cell (p:=⟨sb,p*9+7,none⟩) hsb).trans (uh HDo p hpj)
      have y7:=(hB2.cell (p:=⟨yb,7,none⟩) hyb).trans (uh HC7)
      have CB:=hide (uh HH p hpj (d p) wr.drew (by have:=uh HD p;omega) hB2.drew)
      have hdp:=uh HD p
      have hpl:p<rs.length:=by omega
      have HB2:=hide hB2
      have hs2:w.heap.size≤wr.heap.size:=hB2.size
      generalize befP l d a0 (r.par.take q)=b0 at *
      clear hc hpe hB2
      go_wp2_with fail
      go_region_held3 (fun w'=>w'.cell? ⟨pb,q,none⟩=some (.int .i64 p)∧w'.cell? ⟨sb,p*9+7,none⟩=some (.int .i64 (d p))∧w'.cell? ⟨yb,7,none⟩=some (.slice (some ⟨sb,0,none⟩) rs.length cap)) (first | go_keep | exact ⟨e1,e2,e3⟩) ((go_at_call 50;refine (uh CB).mono ?_;rintro e w5 ⟨rfl,hb5⟩;have e1:=(hb5.cell (p:=⟨pb,q,none⟩) (show pb<wr.heap.size by omega)).trans z4;have e2:=(hb5.cell (p:=⟨sb,p*9+7,none⟩) (show sb<wr.heap.size by omega)).trans z7;have e3:=(hb5.cell (p:=⟨yb,7,none⟩) (show yb<wr.heap.size by omega)).trans y7))
      have HB3:Hid (Below w.heap.size w w5):=(uh HB2).drew.trans (hb5.mono hs2)
      clear hb5 e1 e2 e3 z4 z7 y7
      generalize ahd l d p (d p)=v at *
      by_cases hv:b0<v
      ·have HV:Hid (lat b0 v=v):=by unfold Hid;rw [←lat_gt,if_pos hv]
       go_wp2
       go_roundw
       case rel=>exact ⟨q+1,by omega,by go_num,by rw [uh HBt,uh HV],uh HB3⟩
       case measure=>simp [intOf];omega
      ·have HV:Hid (lat b0 v=b0):=by unfold Hid;rw [←lat_gt,if_neg hv]
       go_wp2
       go_roundw
       case rel=>exact ⟨q+1,by omega,by go_num,by rw [uh HBt,uh HV],uh HB3⟩
       case measure=>simp [intOf];omega
     ·have e:q=r.par.length:=by omega
      subst e
      have HB2:=hide hB2
      clear hB2
      rw [List.take_length]
      go_wp2
      go_ret
      exact ⟨ret_int (by rw [uh HA0]),uh HB2⟩
theorem refBefore_any {C:Cfg} {time:Int} {rs:List Rf} {P:List Pt} {wv:Wks} {fv:Value} {d:Nat→Nat} {ρ:Nat→Nat} {yb:Nat} {sv lv:Value} (hI:Inv (absR rs P)) (hP:P.length≤1000000) (hd:∀(k:Nat) (r:Rf),rs[k]?=some r→r.done=(d k:Int)) (hd32:∀k,d k≤32):∀(k:Nat),k<rs.length→∀(n:Nat) (w:World),n≤1000→RefAt w ρ yb C time rs P wv fv sv lv →
 Calls Tryz.prog 50 #[.pointer (some ⟨yb,0,none⟩),.int .i64 k,.int .i64 n] w fun e w'=>e=.returned (.int .i64 (ahd (absR rs P) d k n))∧Below w.heap.size w w':=by
 intro k
 induction k using Nat.strongRecOn with
 | ind k ih =>
   intro hk n w hn h
   exact refBefore_of h hI hP hd hd32 k n hk hn (fun p hp n W hn hW=>ih p hp (by omega) n W hn (h.keeps (Keeps.of_below hW) (fun _ hk=>Or.inr hk) (fun _ _=>rfl)))
end Go.Proofs.YtpnkmnmchdabkaaGreat
