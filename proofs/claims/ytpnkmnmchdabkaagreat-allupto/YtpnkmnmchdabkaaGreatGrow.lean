import Derived.Test.YtpnkmnmchdabkaaGreatM00
namespace Go.Proofs.YtpnkmnmchdabkaaGreat
open Go.RowKit
def GrpPostV (w:World) (ρ:Nat→Nat) (gb:Nat) (C:Cfg) (now:Rest) (sv':Value) (l':List Sh) (w':World):Prop :=
 ∃ρ' m',m'.map (·.s)=l'∧GrpAt w' ρ' gb C now sv' m'∧Keeps (mine ρ) w w'∧Ext w.heap.size ρ ρ'∧Fits w' ρ'
def GrpPost (w:World) (ρ:Nat→Nat) (gb:Nat) (C:Cfg) (now:Rest) (l':List Sh) (w':World):Prop :=
 ∃ρ' sv' m',m'.map (·.s)=l'∧GrpAt w' ρ' gb C now sv' m'∧Keeps (mine ρ) w w'∧Ext w.heap.size ρ ρ'∧Fits w' ρ'
theorem GrpPostV.post {w w':World} {ρ:Nat→Nat} {gb:Nat} {C:Cfg} {now:Rest} {sv':Value} {l':List Sh} (h:GrpPostV w ρ gb C now sv' l' w'):GrpPost w ρ gb C now l' w':=by
 obtain ⟨ρ',m',a,b⟩:=h
 exact ⟨ρ',sv',m',a,b⟩
theorem Ext.refl {w:World} {ρ:Nat→Nat} (hf:Fits w ρ):Ext w.heap.size ρ ρ:=⟨fun _ _=>rfl,fun k hk=>by rw [hf k hk];omega⟩
theorem Ext.trans {N M:Nat} {ρ ρ' ρ'':Nat→Nat} (h:Ext N ρ ρ') (h':Ext M ρ' ρ'') (hN:N≤M):Ext N ρ ρ'' :=
 ⟨fun k hk=>(h'.1 k (by omega)).trans (h.1 k hk),fun k hk=>by
  by_cases hM:k<M
  ·rw [h'.1 k hM];exact h.2 k hk
  ·exact h'.2 k (by omega)⟩
theorem Keeps.mineTrans {w w1 w2:World} {ρ ρ':Nat→Nat} (h:Keeps (mine ρ) w w1) (h':Keeps (mine ρ') w1 w2) (he:Ext w.heap.size ρ ρ'):Keeps (mine ρ) w w2 :=
 ⟨h'.os.trans h.os,h'.tape.trans h.tape,h'.output.trans h.output,Nat.le_trans h.size h'.size,fun k hk hs =>
  (h'.block k (Nat.lt_of_lt_of_le hk h.size) (fun hm=>hs (by unfold mine at hm ⊢;rw [he.1 k hk] at hm;exact hm))).trans (h.block k hk hs)⟩
theorem GrpPost.trans {w w1 w2:World} {ρ ρ1:Nat→Nat} {gb:Nat} {C:Cfg} {now:Rest} {l':List Sh} (hk:Keeps (mine ρ) w w1) (he:Ext w.heap.size ρ ρ1) (h:GrpPost w1 ρ1 gb C now l' w2):GrpPost w ρ gb C now l' w2:=by
 obtain ⟨ρ',sv',m',a,b,c,d,e⟩:=h
 exact ⟨ρ',sv',m',a,b,hk.mineTrans c he,he.trans d hk.size,e⟩
theorem grpArr_set (C:Cfg) (sv sv':Value) (now:Rest):(grpArr C sv now).setIfInBounds 7 sv'=grpArr C sv' now:=by
 unfold grpArr
 rw [List.setIfInBounds_toArray]
 rfl
theorem GrpAt.cells {w:World} {ρ:Nat→Nat} {gb:Nat} {C:Cfg} {now:Rest} {sv:Value} {m:List Cs} (h:GrpAt w ρ gb C now sv m) :
 w.cell? ⟨gb,7,none⟩=some sv∧w.frozen? ⟨gb,7,none⟩=false∧w.cell? ⟨gb,6,none⟩=some (.int .i64 now.t)∧w.frozen? ⟨gb,6,none⟩=false∧gb<w.heap.size :=
 ⟨cell_of h.blk 7,frozen_of h.blk 7,cell_of h.blk 6,frozen_of h.blk 6,lt_of_heap h.blk⟩
theorem GrpAt.store {w:World} {ρ:Nat→Nat} {gb:Nat} {C:Cfg} {now:Rest} {bs cap:Nat} {m:List Cs} (h:GrpAt w ρ gb C now (.slice (some ⟨bs,0,none⟩) m.length cap) m)
 (i j:Nat) (hj:j<5) (s s':Cs) (hi:m[i]?=some s) (v:Value) (hs:(shCells s).set j v=shCells s')
 (hp:w.ownsRow 0 3 1 s'.pv s'.s.par.length (s'.s.par.map (Value.int .i64))) (hpT:∀k,s'.pv.ownBlock=some k→ρ k=3+2*i)
 (hr:w.ownsRow 0 137 10 s'.rv s'.s.cnt (rcRow s'.s.rl)) (hrT:∀k,s'.rv.ownBlock=some k→ρ k=4+2*i) :
 GrpAt (w.setCell ⟨bs,i*5+j,none⟩ v) ρ gb C now (.slice (some ⟨bs,0,none⟩) m.length cap) (m.set i s'):=by
 have hbs:ρ bs=2:=h.log.rowT bs rfl
 have keepO:∀{e:TypeId} {size:Nat} {u:Value} {n:Nat} {xs:List Value},w.ownsRow 0 e size u n xs→(∀k,u.ownBlock=some k→ρ k≠2)→(w.setCell ⟨bs,i*5+j,none⟩ v).ownsRow 0 e size u n xs:=by
  intro e size u n xs ho hne
  refine ownsRow_of_block ho fun k hk=>Below.heap_setCell _ _ _ _ ?_
  rintro rfl
  exact hne _ hk hbs
 refine ⟨?_,h.tag,⟨?_,?_,?_,?_,?_,?_⟩,keepO h.wk (fun k hk=>by rw [h.wkT k hk];omega),h.wkT,h.dnL,h.lsL⟩
 ·rw [Below.heap_setCell _ _ _ _ (by rintro rfl;have:=h.tag;omega)]
  exact h.blk
 ·have:=(World.ownsRow.stored h.log.row (i*5+j) v).1
  rw [logCells_set m i j hj s s' hi v hs] at this
  simpa using this
 ·exact h.log.rowT
 ·intro i' t ht
  rw [List.getElem?_set] at ht
  split at ht
  ·rename_i e;subst e
   split at ht
   ·cases ht
    exact keepO hp fun k hk=>by rw [hpT k hk];omega
   ·cases ht
  ·exact keepO (h.log.par i' t ht) fun k hk=>by rw [h.log.parT i' t ht k hk];omega
 ·intro i' t ht
  rw [List.getElem?_set] at ht
  split at ht
  ·rename_i e;subst e
   split at ht
   ·cases ht;exact hpT
   ·cases ht
  ·exact h.log.parT i' t ht
 ·intro i' t ht
  rw [List.getElem?_set] at ht
  split at ht
  ·rename_i e;subst e
   split at ht
   ·cases ht
    exact keepO hr fun k hk=>by rw [hrT k hk];omega
   ·cases ht
  ·exact keepO (h.log.rcv i' t ht) fun k hk=>by rw [h.log.rcT i' t ht k hk];omega
 ·intro i' t ht
  rw [List.getElem?_set] at ht
  split at ht
  ·rename_i e;subst e
   split at ht
   ·cases ht;exact hrT
   ·cases ht
  ·exact h.log.rcT i' t ht
theorem GrpAt.close {w:World} {ρ:Nat→Nat} {gb:Nat} {C:Cfg} {now:Rest} {bs cap:Nat} {m:List Cs} (h:GrpAt w ρ gb C now (.slice (some ⟨bs,0,none⟩) m.length cap) m)
 (i:Nat) (s:Cs) (hi:m[i]?=some s) :
 GrpAt (w.setCell ⟨bs,i*5+2,none⟩ (.bool false)) ρ gb C now (.slice (some ⟨bs,0,none⟩) (m.set i { s with s:={ s.s with op:=false } }).length cap) (m.set i { s with s:={ s.s with op:=false } }):=by
 have:=h.store i 2 (by omega) s { s with s:={ s.s with op:=false } } hi (.bool false) rfl (h.log.par i s hi) (h.log.parT i s hi) (h.log.rcv i s hi) (h.log.rcT i s hi)
 simpa using this
theorem GrpAt.grow {w w2:World} {ρ:Nat→Nat} {gb:Nat} {C:Cfg} {now:Rest} {sv:Value} {m:List Cs} (h:GrpAt w ρ gb C now sv m) (hf:Fits w ρ) (hm:m.length≤15)
 (lo hi:Int) (ps:List Int) (hps:ps.length≤2) (g cap N:Nat) (hN:w.heap.size=N)
 (hown:w2.ownsRow 0 113 5 (.slice (some ⟨g,0,none⟩) (m.length+1) cap) (m.length+1) (logCells m ++ [.int .i64 lo,.int .i64 hi,.bool true,.slice (some ⟨N,0,none⟩) ps.length ps.length,.slice none 0 0]))
 (W:World) (hW:W.heap[N]?=some (.cells (ps.map (Value.int .i64)).toArray 3 (0,0))) (hWk:Keeps (fun _=>False) w W) (hWs:w.heap.size<W.heap.size)
 (hgrow:W.grownBy w2 sv.ownBlock) (hat:sv.ownBlock=some g∨g=W.heap.size) :
 GrpPostV w ρ gb C now (.slice (some ⟨g,0,none⟩) (m.length+1) cap) (m.map (·.s) ++ [⟨lo,hi,true,ps,[]⟩]) (w2.setCell ⟨gb,7,none⟩ (.slice (some ⟨g,0,none⟩) (m.length+1) cap)):=by
 subst hN
 have hgb:=lt_of_heap h.blk
 have hsz:=hgrow.size
 have hsv:∀k,sv.ownBlock=some k→ρ k=2∧k<w.heap.size:=fun k hk=>⟨h.log.rowT k hk,(h.log.row.lt k hk).2⟩
 have hnew:∀k,w.heap.size≤k→ρ k=0:=hf
 have hg2:g<w2.heap.size:=by
  obtain ⟨g',cap',cur,hv,_,hg,_⟩:=ownsRow_shape hown (by omega)
  cases hv;exact lt_of_heap hg
 have hgne:g≠gb:=by
  rintro rfl
  rcases hat with e | e
  ·have:=(hsv _ e).1;rw [h.tag] at this;omega
  ·omega
 have hgP:g≠w.heap.size:=by
  rintro rfl
  rcases hat with e | e
  ·have:=(hsv _ e).2;omega
  ·omega
 have hgbne:some gb≠sv.ownBlock:=fun e=>by have:=(hsv gb e.symm).1;rw [h.tag] at this;omega
 -- what was there and is not the row stands
 have old:∀k,k<w.heap.size→sv.ownBlock≠some k→k≠gb→(w2.setCell ⟨gb,7,none⟩ (.slice (some ⟨g,0,none⟩) (m.length+1) cap)).heap[k]?=w.heap[k]?:=by
  intro k hk hne hkg
  rw [Below.heap_setCell _ _ _ _ (by simpa using hkg),hgrow.block k (by have:=hWk.size;omega) (fun e=>hne e.symm),hWk.block k hk (fun h=>h)]
 refine ⟨fun k=>if k=w.heap.size then 3+2*m.length else if k=g then 2 else ρ k,m ++ [⟨⟨lo,hi,true,ps,[]⟩,.slice (some ⟨w.heap.size,0,none⟩) ps.length ps.length,.slice none 0 0⟩],by simp,⟨?_,?_,?_,ownsRow_of_block h.wk fun k hk=>old k (h.wk.lt k hk).2 (fun e=>by have:=(hsv k e).1;have:=h.wkT k hk;omega) (by rintro rfl;have:=h.tag;have:=h.wkT _ hk;omega),fun k hk=>?_,h.dnL,h.lsL⟩,?_,?_,?_⟩
 ·have:w2.heap[gb]?=some (.cells (grpArr C sv now) 71 (0,0)):=by
   rw [hgrow.block gb (by have:=hWk.size;omega) hgbne,hWk.block gb hgb (fun h=>h),h.blk]
  rw [heap_setCell_same this,grpArr_set]
 ·show (if gb=w.heap.size then _ else if gb=g then 2 else ρ gb)=1
  rw [if_neg (by omega),if_neg (fun e=>hgne e.symm)];exact h.tag
 ·have lt:∀{i:Nat} {s:Cs},m[i]?=some s→i<m.length:=fun hi=>(List.getElem?_eq_some_iff.1 hi).1
  have tagOf:∀k,k<w.heap.size→ρ k≠2→(if k=w.heap.size then 3+2*m.length else if k=g then 2 else ρ k)=ρ k:=by
   intro k hk h2
   rw [if_neg (by omega)]
   split
   ·rename_i e;subst e
    rcases hat with e | e
    ·exact absurd (hsv _ e).1 h2
    ·have:=hWk.size;omega
   ·rfl
  have keepO:∀{e:TypeId} {size:Nat} {u:Value} {n:Nat} {xs:List Value} {t:Nat},w.ownsRow 0 e size u n xs→(∀k,u.ownBlock=some k→ρ k=t)→3≤t →
   (w2.setCell ⟨gb,7,none⟩ (.slice (some ⟨g,0,none⟩) (m.length+1) cap)).ownsRow 0 e size u n xs:=by
   intro e size u n xs t ho ht h3
   refine ownsRow_of_block ho fun k hk=>old k (ho.lt k hk).2 ?_ ?_
   ·intro e;have:=(hsv k e).1;have:=ht k hk;omega
   ·rintro rfl;have:=h.tag;have:=ht _ hk;omega
  refine ⟨?_,?_,?_,?_,?_,?_⟩
  ·have e1:logCells (m ++ [⟨⟨lo,hi,true,ps,[]⟩,.slice (some ⟨w.heap.size,0,none⟩) ps.length ps.length,.slice none 0 0⟩])=logCells m ++ [.int .i64 lo,.int .i64 hi,.bool true,.slice (some ⟨w.heap.size,0,none⟩) ps.length ps.length,.slice none 0 0]:=by
    rw [logCells_append];rfl
   rw [e1,List.length_append]
   refine ownsRow_of_block hown fun k hk=>Below.heap_setCell _ _ _ _ ?_
   rintro rfl
   simp [Value.ownBlock] at hk
   omega
  ·intro k hk
   simp [Value.ownBlock] at hk
   subst hk
   show (if g=w.heap.size then _ else if g=g then 2 else ρ g)=2
   rw [if_neg hgP,if_pos rfl]
  ·intro i s hi'
   by_cases hlt:i<m.length
   ·rw [List.getElem?_append_left hlt] at hi'
    exact keepO (h.log.par i s hi') (h.log.parT i s hi') (by omega)
   ·rw [List.getElem?_append_right (by omega)] at hi'
    obtain ⟨hz,he⟩:i - m.length=0∧_:=by
     have:=(List.getElem?_eq_some_iff.1 hi').1
     simp at this
     exact ⟨by omega,trivial⟩
    rw [hz] at hi'
    simp at hi'
    subst hi'
    refine ⟨by simp,.inr ⟨w.heap.size,ps.length,(ps.map (Value.int .i64)).toArray,rfl,Nat.zero_le _,?_,Nat.le_refl _,by unfold maxLen;omega,by simp,by simp [List.take_of_length_le]⟩⟩
    rw [Below.heap_setCell _ _ _ _ (by show w.heap.size≠gb;omega),hgrow.block _ (by omega) (fun e=>by have:=(hsv _ e.symm).2;omega),hW]
  ·intro i s hi' k hk
   by_cases hlt:i<m.length
   ·rw [List.getElem?_append_left hlt] at hi'
    have e:=h.log.parT i s hi' k hk
    rw [tagOf k ((h.log.par i s hi').lt k hk).2 (by omega)];exact e
   ·rw [List.getElem?_append_right (by omega)] at hi'
    have hz:i - m.length=0:=by
     have:=(List.getElem?_eq_some_iff.1 hi').1
     simp at this;omega
    rw [hz] at hi'
    simp at hi'
    subst hi'
    simp [Value.ownBlock] at hk
    subst hk
    show (if w.heap.size=w.heap.size then _ else _)=_
    rw [if_pos rfl];omega
  ·intro i s hi'
   by_cases hlt:i<m.length
   ·rw [List.getElem?_append_left hlt] at hi'
    exact keepO (h.log.rcv i s hi') (h.log.rcT i s hi') (by omega)
   ·rw [List.getElem?_append_right (by omega)] at hi'
    have hz:i - m.length=0:=by
     have:=(List.getElem?_eq_some_iff.1 hi').1
     simp at this;omega
    rw [hz] at hi'
    simp at hi'
    subst hi'
    exact World.ownsRow_nil _ _ _ _
  ·intro i s hi' k hk
   by_cases hlt:i<m.length
   ·rw [List.getElem?_append_left hlt] at hi'
    obtain ⟨xs,hx⟩:=h.log.rcs i s hi'
    have e:=h.log.rcT i s hi' k hk
    rw [tagOf k (hx.lt k hk).2 (by omega)];exact e
   ·rw [List.getElem?_append_right (by omega)] at hi'
    have hz:i - m.length=0:=by
     have:=(List.getElem?_eq_some_iff.1 hi').1
     simp at this;omega
    rw [hz] at hi'
    simp at hi'
    subst hi'
    simp [Value.ownBlock] at hk
 ·have a:=h.wkT k hk
  have b:=(h.wk.lt k hk).2
  show (if k=w.heap.size then _ else if k=g then 2 else ρ k)=40
  rw [if_neg (by omega),if_neg]
  ·exact a
  ·rintro rfl
   rcases hat with e | e
   ·have:=(hsv _ e).1;omega
   ·have:=hWk.size;omega
 ·refine ⟨?_,?_,?_,?_,?_⟩
  ·show w2.os=w.os;rw [hgrow.os,hWk.os]
  ·show w2.tape=w.tape;rw [hgrow.tape,hWk.tape]
  ·show w2.output=w.output;rw [hgrow.output,hWk.output]
  ·have:=hWk.size;simp [World.setCell];omega
  ·intro k hk hs
   refine old k hk ?_ ?_
   ·intro e;exact hs (by unfold mine;rw [(hsv k e).1];omega)
   ·rintro rfl;exact hs (by unfold mine;rw [h.tag];omega)
 ·refine ⟨fun k hk=>?_,fun k hk=>?_⟩
  ·show (if k=w.heap.size then _ else if k=g then 2 else ρ k)=ρ k
   rw [if_neg (by omega)]
   split
   ·rename_i e;subst e
    rcases hat with e | e
    ·exact (hsv _ e).1.symm
    ·have:=hWk.size;omega
   ·rfl
  ·show (if k=w.heap.size then _ else if k=g then 2 else ρ k)<100
   split
   ·omega
   ·split
    ·omega
    ·rw [hnew k hk];omega
 ·intro k hk
  have hk':w2.heap.size≤k:=by simpa [World.setCell] using hk
  show (if k=w.heap.size then _ else if k=g then 2 else ρ k)=0
  have:=hWk.size
  rw [if_neg (by omega),if_neg (by omega)]
  exact hnew k (by omega)
end Go.Proofs.YtpnkmnmchdabkaaGreat
