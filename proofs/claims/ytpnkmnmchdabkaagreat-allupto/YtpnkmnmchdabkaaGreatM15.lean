import Derived.Test.YtpnkmnmchdabkaaGreatInv
import Derived.Test.YtpnkmnmchdabkaaGreatM08
import Derived.Test.YtpnkmnmchdabkaaGreatM12
import Derived.Test.YtpnkmnmchdabkaaGreatM14
namespace Go.Proofs.YtpnkmnmchdabkaaGreat
open Go.RowKit
attribute [local go_sem ↓] Go.wp_at_zero Go.wp_at_succ
def Grp (w:World) (ρ:Nat→Nat) (gb:Nat) (C:Cfg) (now:Rest) (l:List Sh):Prop:=∃sv m,m.map (·.s)=l∧GrpAt w ρ gb C now sv m
theorem to_map {m:List Cs} {l:List Sh} (h:m.map (·.s)=l) {i:Nat} {s:Sh} (hi:l[i]?=some s):∃t:Cs,m[i]?=some t∧t.s=s:=by
 rw [←h] at hi
 simp at hi
 exact hi
theorem GrpPost.grp {w w':World} {ρ:Nat→Nat} {gb:Nat} {C:Cfg} {now:Rest} {l:List Sh} (h:GrpPost w ρ gb C now l w'):∃ρ',Grp w' ρ' gb C now l∧Keeps (mine ρ) w w'∧Ext w.heap.size ρ ρ'∧Fits w' ρ':=by
 obtain ⟨ρ',sv,m,a,b,c,d,e⟩:=h
 exact ⟨ρ',⟨sv,m,a,b⟩,c,d,e⟩
set_option maxHeartbeats 400000 in
theorem gSplit_any (w:World) (ρ:Nat→Nat) (gb:Nat) (C:Cfg) (now:Rest) (l:List Sh) (n a:Int) (h:Grp w ρ gb C now l) (hf:Fits w ρ) (hI:Inv l) :
 Calls Tryz.prog 100 #[.pointer (some ⟨gb,0,none⟩),.int .i64 n,.int .i64 a] w fun e w' =>
  e=.returned (.tuple #[.int .i64 (aSplit l n a).2.1,.int .i64 (aSplit l n a).2.2])∧GrpPost w ρ gb C now (aSplit l n a).1 w':=by
 obtain ⟨sv,m,rfl,G⟩:=h
 have hl:m.length≤16:=by have:=hI.len;simpa using this
 have h0:0<m.length:=by have:=hI.pos;simpa using this
 have HS:=hide (split_any w ρ gb C now sv m n a G hf h0 hl)
 obtain ⟨c6,_⟩:=G.cells
 clear G hI
 go_enter Tryz.func100,Tryz.ntmps100
 go_wp2_with (go_at_call 126;refine (uh HS).mono ?_;rintro e w1 ⟨rfl,hp⟩)
 go_ret2
 exact ⟨rfl,hp⟩
set_option maxHeartbeats 400000 in
theorem gMerge_any (w:World) (ρ:Nat→Nat) (gb:Nat) (C:Cfg) (now:Rest) (l:List Sh) (n a:Int) (h:Grp w ρ gb C now l) (hf:Fits w ρ) (hI:Inv l) :
 Calls Tryz.prog 102 #[.pointer (some ⟨gb,0,none⟩),.int .i64 n,.int .i64 a] w fun e w' =>
  e=.returned (.tuple #[.int .i64 (aMerge l n a).2.1,.int .i64 (aMerge l n a).2.2])∧GrpPost w ρ gb C now (aMerge l n a).1 w':=by
 obtain ⟨sv,m,rfl,G⟩:=h
 have hl:m.length≤16:=by have:=hI.len;simpa using this
 have h0:0<m.length:=by have:=hI.pos;simpa using this
 have HS:=hide (merge_any w ρ gb C now sv m n a G hf h0 hl (fun i s hi=>(hI.rng i s.s (by simp [hi])).2.1))
 obtain ⟨c6,_⟩:=G.cells
 clear G hI
 go_enter Tryz.func102,Tryz.ntmps102
 go_wp2_with (go_at_call 127;refine (uh HS).mono ?_;rintro e w1 ⟨rfl,hp⟩)
 go_ret2
 exact ⟨rfl,hp⟩
set_option maxHeartbeats 400000 in
theorem gShards_any (w:World) (ρ:Nat→Nat) (gb:Nat) (C:Cfg) (now:Rest) (l:List Sh) (h:Grp w ρ gb C now l) (hI:Inv l) :
 Calls Tryz.prog 31 #[.pointer (some ⟨gb,0,none⟩)] w (ListPost w l):=by
 obtain ⟨sv,m,rfl,G⟩:=h
 have hl:m.length≤16:=by have:=hI.len;simpa using this
 have h0:0<m.length:=by have:=hI.pos;simpa using this
 have HS:=hide (list_any w ρ gb C now sv m G h0 hl (fun i s hi=>(hI.parL i s.s (by simp [hi])).1))
 obtain ⟨c6,_⟩:=G.cells
 clear G hI
 go_enter Tryz.func31,Tryz.ntmps31
 go_wp2_with (go_at_call 70;refine (uh HS).mono ?_;rintro e w1 ⟨v,k,rfl,hp⟩)
 go_ret
 exact ⟨v,k,rfl,hp⟩
theorem GrpAt.tick {w:World} {ρ:Nat→Nat} {gb:Nat} {C:Cfg} {now:Rest} {sv:Value} {m:List Cs} (h:GrpAt w ρ gb C now sv m) (hf:Fits w ρ) (hm:m.length≤16) (n':Int) :
 GrpPost w ρ gb C { now with t:=n' } (m.map (·.s)) (w.setCell ⟨gb,6,none⟩ (.int .i64 n')):=by
 have hk:Keeps (fun k=>k=gb) w (w.setCell ⟨gb,6,none⟩ (.int .i64 n')):=(Keeps.refl (fun k=>k=gb) w).setCell (p:=⟨gb,6,none⟩) (Or.inl rfl) _
 refine ⟨ρ,sv,m,rfl,⟨?_,h.tag,?_,ownsRow_keeps h.wk hk (fun k hkk e=>by subst e;have:=h.wkT _ hkk;have:=h.tag;omega),h.wkT,h.dnL,h.lsL⟩,hk.mono (fun k _ e=>by subst e;unfold mine;rw [h.tag];omega),Ext.refl hf,fun k hk=>hf k (by simpa [World.setCell] using hk)⟩
 ·rw [heap_setCell_same h.blk]
  unfold grpArr
  rw [List.setIfInBounds_toArray]
  rfl
 ·have lt:∀{i:Nat} {s:Cs},m[i]?=some s→i<16:=fun hi=>by have:=(List.getElem?_eq_some_iff.1 hi).1;omega
  refine ⟨ownsRow_keeps h.log.row hk (fun k hkk e=>by subst e;have:=h.log.rowT _ hkk;have:=h.tag;omega),h.log.rowT,fun i s hi=>ownsRow_keeps (h.log.par i s hi) hk (fun k hkk e=>by subst e;have:=h.log.parT i s hi _ hkk;have:=h.tag;omega),h.log.parT,fun i s hi=>?_,h.log.rcT⟩
  exact ownsRow_keeps (h.log.rcv i s hi) hk (fun k hkk e=>by subst e;have:=h.log.rcT i s hi _ hkk;have:=h.tag;omega)
set_option maxHeartbeats 400000 in
theorem gTick_any (w:World) (ρ:Nat→Nat) (gb:Nat) (C:Cfg) (now:Rest) (l:List Sh) (h:Grp w ρ gb C now l) (hf:Fits w ρ) (hI:Inv l) :
 Calls Tryz.prog 104 #[.pointer (some ⟨gb,0,none⟩)] w fun e w'=>e=.returned (.tuple #[])∧GrpPost w ρ gb C { now with t:=wrap64 (now.t+1) } l w':=by
 obtain ⟨sv,m,rfl,G⟩:=h
 have hl:m.length≤16:=by have:=hI.len;simpa using this
 obtain ⟨_,_,c7,f7,_⟩:=G.cells
 have HG:=hide (G.tick hf hl (wrap64 (now.t+1)))
 clear G hI
 go_enter Tryz.func104,Tryz.ntmps104
 go_wp2
 go_end0
 exact ⟨rfl,uh HG⟩
theorem makeR_zero {s:ByteArray} {v t:Int} (h:makeR s v t=0):keyB s=true∧¬(1000000<v∨v < -1000000)∧¬(t<0∨1000000<t):=by
 unfold makeR at h
 split at h
 ·omega
 ·rename_i hk
  split at h
  ·omega
  ·split at h
   ·omega
   ·exact ⟨by simpa using hk,by assumption,by assumption⟩
theorem keyB_len {s:ByteArray} (h:keyB s=true):s.data.toList.length≤8∧∀b ∈ s.data.toList,b.toNat≠0:=by
 simp only [keyB,Bool.and_eq_true,decide_eq_true_eq,List.all_eq_true] at h
 refine ⟨by have:=h.1.2;simpa using this,fun b hb=>?_⟩
 have:=h.2 b hb
 simp [letter] at this
 omega
def PutPost (w:World) (ρ:Nat→Nat) (gb:Nat) (C:Cfg) (now:Rest) (l:List Sh) (s:ByteArray) (v t:Int) (e:Ending) (w':World):Prop :=
 (makeR s v t≠0∧e=.returned (.tuple #[.int .i64 0,.int .i64 0,.int .i64 (makeR s v t)])∧GrpPost w ρ gb C now l w') ∨
 (makeR s v t=0∧∃k x,Home l (hashL s.data.toList) k x∧e=.returned (putV k x.cnt)∧GrpPost w ρ gb C now (putL l k x ⟨s.data.toList,v,t⟩) w')
set_option maxRecDepth 100000 in
set_option maxHeartbeats 1000000 in
theorem gPut_any (w:World) (ρ:Nat→Nat) (gb:Nat) (C:Cfg) (now:Rest) (l:List Sh) (s:ByteArray) (v t:Int) (h:Grp w ρ gb C now l) (hf:Fits w ρ) (hI:Inv l) (hs:s.size≤maxLen) :
 Calls Tryz.prog 98 #[.pointer (some ⟨gb,0,none⟩),.string s,.int .i64 v,.int .i64 t] w (PutPost w ρ gb C now l s v t):=by
 obtain ⟨sv,m,rfl,G⟩:=h
 have hl:m.length≤16:=by have:=hI.len;simpa using this
 have HM:=hide (make_any s v t w hs)
 obtain ⟨c6,_,_,_,hgb⟩:=G.cells
 have HX:Hid (∀w1,Below w.heap.size w w1→GrpAt w1 ρ gb C now sv m):=fun w1 hb=>G.keeps (Keeps.of_below hb) (fun j hj=>Or.inr hj) (fun _ _=>rfl) hl
 have HF:=hide hf
 by_cases hr:makeR s v t=0
 ·obtain ⟨hk,_,_⟩:=makeR_zero hr
  obtain ⟨hk8,hz⟩:=keyB_len hk
  obtain ⟨hb0,hb1⟩:=hashL_bd s.data.toList
  obtain ⟨k,x,hx,hacc,hu⟩:=hI.part (hashL s.data.toList) hb0 hb1
  obtain ⟨y,hy,rfl⟩:=to_map rfl hx
  have HP:Hid (∀w1,GrpAt w1 ρ gb C now sv m→Fits w1 ρ→Calls Tryz.prog 124 #[.pointer (some ⟨gb,7,none⟩),.agg (recArr s.data.toList v t)] w1 fun e w'=>e=.returned (putV k y.s.cnt)∧GrpPost w1 ρ gb C now (putL (m.map (·.s)) k y.s ⟨s.data.toList,v,t⟩) w'):=fun w1 G1 F1 =>
   logPut_any w1 ρ gb C now sv m s.data.toList v t G1 F1 hl hk8 hz k y hy hacc (fun j t hj ha=>hu j t.s (by simp [hj]) ha) (hI.cnt k y.s hx)
  have HHome:=hide (⟨hx,hacc,hu⟩:Home (m.map (·.s)) (hashL s.data.toList) k y.s)
  have HR:=hide hr
  rw [madeR_yes hr] at HM
  unfold recArr at HM HP
  clear G hI hr hk hk8 hz hb0 hb1 hx hacc hu hy hf
  go_enter Tryz.func98,Tryz.ntmps98
  go_wp2_with (go_at_call 123;refine (uh HM).mono ?_;rintro e w1 ⟨rfl,hb⟩)
  have hN:=heap_alloc_new w1 (.cells #[.int .u8 (byteAt s.data.toList 0),.int .u8 (byteAt s.data.toList 1),.int .u8 (byteAt s.data.toList 2),.int .u8 (byteAt s.data.toList 3),.int .u8 (byteAt s.data.toList 4),.int .u8 (byteAt s.data.toList 5),.int .u8 (byteAt s.data.toList 6),.int .u8 (byteAt s.data.toList 7),.int .i64 v,.int .i64 t] 137)
  have hB:=hb.alloc hb.size (.cells #[.int .u8 (byteAt s.data.toList 0),.int .u8 (byteAt s.data.toList 1),.int .u8 (byteAt s.data.toList 2),.int .u8 (byteAt s.data.toList 3),.int .u8 (byteAt s.data.toList 4),.int .u8 (byteAt s.data.toList 5),.int .u8 (byteAt s.data.toList 6),.int .u8 (byteAt s.data.toList 7),.int .i64 v,.int .i64 t] 137)
  have hws:=hb.size
  have hZ:(w1.alloc (.cells #[.int .u8 (byteAt s.data.toList 0),.int .u8 (byteAt s.data.toList 1),.int .u8 (byteAt s.data.toList 2),.int .u8 (byteAt s.data.toList 3),.int .u8 (byteAt s.data.toList 4),.int .u8 (byteAt s.data.toList 5),.int .u8 (byteAt s.data.toList 6),.int .u8 (byteAt s.data.toList 7),.int .i64 v,.int .i64 t] 137)).heap.size=w1.heap.size+1:=by simp
  generalize w1.alloc _=W at hN hB hZ ⊢
  obtain ⟨k0,k1,k2,k3,k4,k5,k6,k7,k8,k9⟩:=load10 hN
  have HP1:=hide (uh HP W.drew (uh HX W.drew hB.drew) (fun q hq=>uh HF q (by have:W.heap.size≤q:=hq;omega)))
  have hun:Hid (¬mine ρ w1.heap.size):=fun hm=>by have:=uh HF w1.heap.size hws;unfold mine at hm;omega
  have HB:=hide hB
  have HZ:=hide hZ
  clear hN hB hZ hb
  by_cases hc:32≤y.s.cnt
  ·have HV:Hid (putV k y.s.cnt=.tuple #[.int .i64 0,.int .i64 0,.int .i64 8]):=by unfold putV;rw [if_pos hc];trivial
   rw [uh HV] at HP1
   go_region_held3 (fun w'=>w'.cell? ⟨w1.heap.size,0,none⟩=some (.int .u8 (byteAt s.data.toList 0))∧w'.cell? ⟨w1.heap.size,1,none⟩=some (.int .u8 (byteAt s.data.toList 1))∧w'.cell? ⟨w1.heap.size,2,none⟩=some (.int .u8 (byteAt s.data.toList 2))∧w'.cell? ⟨w1.heap.size,3,none⟩=some (.int .u8 (byteAt s.data.toList 3))∧w'.cell? ⟨w1.heap.size,4,none⟩=some (.int .u8 (byteAt s.data.toList 4))∧w'.cell? ⟨w1.heap.size,5,none⟩=some (.int .u8 (byteAt s.data.toList 5))∧w'.cell? ⟨w1.heap.size,6,none⟩=some (.int .u8 (byteAt s.data.toList 6))∧w'.cell? ⟨w1.heap.size,7,none⟩=some (.int .u8 (byteAt s.data.toList 7))∧w'.cell? ⟨w1.heap.size,8,none⟩=some (.int .i64 v)∧w'.cell? ⟨w1.heap.size,9,none⟩=some (.int .i64 t))
    (first | go_keep | (go_split_ands;refine ⟨?_,?_,?_,?_,?_,?_,?_,?_,?_,?_⟩ <;> (rw [hkp.cell (show w1.heap.size<W.heap.size by have:=uh HZ;omega) (uh hun)];assumption)))
    ((go_at_call 124;refine (uh HP1).mono ?_;rintro e w2 ⟨rfl,hpost⟩;have hkp:=hpost.choose_spec.choose_spec.choose_spec.2.2.1))
   go_wp2
   go_ret3
   refine Or.inr ⟨uh HR,k,y.s,uh HHome,by rw [uh HV];rfl,GrpPost.trans (w1:=W.drew) ((Keeps.of_below (uh HB).drew).mono (fun _ _ _=>by omega)) (Ext.refl (uh HF)) hpost⟩
  ·have HV:Hid (putV k y.s.cnt=.tuple #[.int .i64 k,.int .i64 y.s.cnt,.int .i64 0]):=by unfold putV;rw [if_neg hc];trivial
   rw [uh HV] at HP1
   go_region_held3 (fun w'=>w'.cell? ⟨w1.heap.size,0,none⟩=some (.int .u8 (byteAt s.data.toList 0))∧w'.cell? ⟨w1.heap.size,1,none⟩=some (.int .u8 (byteAt s.data.toList 1))∧w'.cell? ⟨w1.heap.size,2,none⟩=some (.int .u8 (byteAt s.data.toList 2))∧w'.cell? ⟨w1.heap.size,3,none⟩=some (.int .u8 (byteAt s.data.toList 3))∧w'.cell? ⟨w1.heap.size,4,none⟩=some (.int .u8 (byteAt s.data.toList 4))∧w'.cell? ⟨w1.heap.size,5,none⟩=some (.int .u8 (byteAt s.data.toList 5))∧w'.cell? ⟨w1.heap.size,6,none⟩=some (.int .u8 (byteAt s.data.toList 6))∧w'.cell? ⟨w1.heap.size,7,none⟩=some (.int .u8 (byteAt s.data.toList 7))∧w'.cell? ⟨w1.heap.size,8,none⟩=some (.int .i64 v)∧w'.cell? ⟨w1.heap.size,9,none⟩=some (.int .i64 t))
    (first | go_keep | (go_split_ands;refine ⟨?_,?_,?_,?_,?_,?_,?_,?_,?_,?_⟩ <;> (rw [hkp.cell (show w1.heap.size<W.heap.size by have:=uh HZ;omega) (uh hun)];assumption)))
    ((go_at_call 124;refine (uh HP1).mono ?_;rintro e w2 ⟨rfl,hpost⟩;have hkp:=hpost.choose_spec.choose_spec.choose_spec.2.2.1))
   go_wp2
   go_ret3
   refine Or.inr ⟨uh HR,k,y.s,uh HHome,by rw [uh HV];rfl,GrpPost.trans (w1:=W.drew) ((Keeps.of_below (uh HB).drew).mono (fun _ _ _=>by omega)) (Ext.refl (uh HF)) hpost⟩
 ·rw [madeR_no rfl hr] at HM
  have HR:=hide hr
  have hne:(makeR s v t != 0)=true:=by rw [bne_iff_ne];exact hr
  unfold recArr at HM
  clear G hI hf hr
  generalize hq:makeR s v t=q at *
  have HQ:=hide hq
  clear hq
  go_enter Tryz.func98,Tryz.ntmps98
  go_wp2_with (go_at_call 123;refine (uh HM).mono ?_;rintro e w1 ⟨rfl,hb⟩)
  go_ret3
  exact Or.inl ⟨by rw [uh HQ];exact uh HR,by rw [uh HQ];rfl,ρ,sv,m,rfl,uh HX _ (hb.alloc hb.size _),(Keeps.of_below (hb.alloc hb.size _)).mono (fun _ _ _=>by omega),Ext.refl (uh HF),fun j hj=>uh HF j (by have:=hb.size;simp at hj;omega)⟩
structure Side (w:World) (ρ:Nat→Nat) (sb gb yb:Nat) (C:Cfg) (now:Rest) (time:Int) (l:List Sh) (rs:List Rf) (P:List Pt) (wv:Wks) (fv:Value):Prop where
 blk:w.heap[sb]?=some (.cells #[.pointer (some ⟨gb,0,none⟩),.pointer (some ⟨yb,0,none⟩)] 46 (0,0))
 tag:ρ sb=150
 grp:Grp w ρ gb C now l
 ref:∃sv lv,RefAt w ρ yb C time rs P wv fv sv lv
 same:absR rs P=l
 inv:Inv l
 pin:∀e ∈ P,e.shard<rs.length
theorem Side.keeps {S:Nat→Prop} {w w':World} {ρ ρ':Nat→Nat} {sb gb yb:Nat} {C:Cfg} {now:Rest} {time:Int} {l:List Sh} {rs:List Rf} {P:List Pt} {wv:Wks} {fv:Value} (h:Side w ρ sb gb yb C now time l rs P wv fv) (hk:Keeps S w w') (hS:∀k,S k→ρ k=0∨300≤ρ k∨w.heap.size≤k) (he:∀k,k<w.heap.size→ρ' k=ρ k):Side w' ρ' sb gb yb C now time l rs P wv fv:=by
 have hlt:=lt_of_heap h.blk
 refine ⟨?_,by rw [he sb hlt];exact h.tag,?_,?_,h.same,h.inv,h.pin⟩
 ·rw [hk.block sb hlt fun hs=>?_]
  ·exact h.blk
  ·have:=hS sb hs;have:=h.tag;omega
 ·obtain ⟨sv,m,hm,G⟩:=h.grp
  exact ⟨sv,m,hm,G.keeps hk (fun k hs=>by have:=hS k hs;unfold mine;omega) he (by have:=h.inv.len;rw [←hm] at this;simpa using this)⟩
 ·obtain ⟨sv,lv,R⟩:=h.ref
  exact ⟨sv,lv,R.keeps hk (fun k hs=>by have:=hS k hs;unfold theirs;omega) he⟩
theorem Fits.below {w w':World} {ρ:Nat→Nat} (h:Fits w ρ) (hs:w.heap.size≤w'.heap.size):Fits w' ρ:=fun k hk=>h k (by omega)
theorem LawAt.below {w w':World} {ρ:Nat→Nat} {wb:Nat} {sdv:Value} {last:Int} {sv iv hv m1 m2 m3:Value} {Ls Li Lh:List Ke} (h:LawAt w ρ wb sdv last sv iv hv m1 m2 m3 Ls Li Lh) (hb:Below w.heap.size w w'):LawAt w' ρ wb sdv last sv iv hv m1 m2 m3 Ls Li Lh :=
 h.keeps (Keeps.of_below hb) (fun _ hk=>Or.inr hk) (fun _ _ _=>rfl)
theorem ListAt.below {w w':World} {B:Nat} {v:Value} {l:List (Sh × Value)} (h:ListAt w B v l) (hb:Below w.heap.size w w'):ListAt w' B v l :=
 ⟨ownsRow_of_block h.row fun k hk=>hb.block k (h.row.lt k hk).2,h.blk,fun i x hi=>ownsRow_of_block (h.par i x hi) fun k hk=>hb.block k ((h.par i x hi).lt k hk).2,h.parS,h.apart,h.vapart⟩
def Frame (w:World) (ρ:Nat→Nat) (w':World) (ρ':Nat→Nat):Prop:=Keeps (fun k=>ρ k≠0) w w'∧∀k,k<w.heap.size→ρ k=0→ρ' k=0
def AskPost (w:World) (ρ:Nat→Nat) (wb:Nat) (sdv:Value) (last:Int) (hv m3:Value) (Ls Li Lh:List Ke) (sb gb yb:Nat) (C:Cfg) (now:Rest) (time:Int) (l:List Sh) (rs:List Rf) (P:List Pt) (wv:Wks) (fv:Value) (e:Ending) (w':World):Prop :=
 e=.returned (.bool true)∧∃ρ' last' sv' iv' m1' m2' Ls' Li',LawAt w' ρ' wb sdv last' sv' iv' hv m1' m2' m3 Ls' Li' Lh∧Side w' ρ' sb gb yb C now time l rs P wv fv∧Fits w' ρ'∧Ls'.length=Ls.length+4∧Li'.length≤Li.length+64∧last - 17≤last'∧last'≤last∧Frame w ρ w' ρ'
theorem AskPost.of {w w4 w':World} {ρ:Nat→Nat} {wb:Nat} {sdv:Value} {last:Int} {hv m3:Value} {Ls Li Lh:List Ke} {sb gb yb:Nat} {C:Cfg} {now:Rest} {time:Int} {l:List Sh} {rs:List Rf} {P:List Pt} {wv:Wks} {fv:Value} (hS:Side w ρ sb gb yb C now time l rs P wv fv) {v:Value} {k:List (Sh × Value)} (hb:Below w.heap.size w w4) (hl:ListAt w4 w.heap.size v k) (hkl:k.length≤16) {e:Ending}
 (hp:KeepPostS w4 ρ wb sdv last hv m3 Ls Li Lh v k e w'):AskPost w ρ wb sdv last hv m3 Ls Li Lh sb gb yb C now time l rs P wv fv (.returned (.bool true)) w':=by
 obtain ⟨_,ρ',sv',iv',m1',m2',Lt,Ln,hL,h4,hn,t1,t2,hf,hk⟩:=hp
 have hz:=hb.size
 have out:∀q,OutB v k q→w.heap.size≤q:=by
  rintro q (h | ⟨i,x,hi,hx⟩)
  ·exact (hl.row.lt q h).1
  ·exact ((hl.par i x hi).lt q hx).1
 have tg:∀q,q<w.heap.size→ρ' q=ρ q:=fun q hq=>t1 q (by omega) (fun h=>by have:=out q h;omega)
 have kk:Keeps (fun q=>laws ρ q∨w.heap.size≤q) w w':=⟨hk.os.trans hb.os,hk.tape.trans hb.tape,hk.output.trans hb.output,Nat.le_trans hz hk.size,fun q hq hs=>by
  rw [hk.block q (by omega) (fun h=>hs (h.elim Or.inl (fun h=>Or.inr (out q h))))]
  exact hb.block q hq⟩
 refine ⟨rfl,ρ',_,sv',iv',m1',m2',Ls ++ Lt,Li ++ Ln,hL,?_,hf,by rw [List.length_append,h4],by rw [List.length_append,hn];omega,by omega,by omega,?_,fun q hq h0=>by rw [tg q hq];exact h0⟩
 ·exact hS.keeps kk (fun q hq=>by rcases hq with hq | hq;exact Or.inr (Or.inl hq);exact Or.inr (Or.inr hq)) tg
 ·exact kk.mono (fun q hq hs=>by rcases hs with hs | hs;unfold laws at hs;omega;omega)
theorem of_mapP {k:List (Sh × Value)} {l:List Sh} (h:k.map (·.1)=l):k.length=l.length:=by rw [←h];simp
set_option maxRecDepth 100000 in
set_option maxHeartbeats 8000000 in
theorem shardsAre_any {w:World} {ρ:Nat→Nat} {wb:Nat} {sdv:Value} {last:Int} {sv iv hv m1 m2 m3:Value} {Ls Li Lh:List Ke} {sb gb yb:Nat} {C:Cfg} {now:Rest} {time:Int} {l:List Sh} {rs:List Rf} {P:List Pt} {wv:Wks} {fv:Value} (hL:LawAt w ρ wb sdv last sv iv hv m1 m2 m3 Ls Li Lh) (hS:Side w ρ sb gb yb C now time l rs P wv fv) (hf:Fits w ρ)
 (h1:-8000000000000000000≤last) (h2:last≤0) (hlen:Li.length≤39999000) (hlenS:Ls.length≤40000000) (hP:P.length≤1000000) :
 Calls Tryz.prog 12 #[.pointer (some ⟨wb,0,none⟩),.pointer (some ⟨sb,0,none⟩)] w (AskPost w ρ wb sdv last hv m3 Ls Li Lh sb gb yb C now time l rs P wv fv):=by
 have hsl:=lt_of_heap hS.blk
 have s0:w.cell? ⟨sb,0,none⟩=some (.pointer (some ⟨gb,0,none⟩)):=cell_of hS.blk 0
 have s1:w.cell? ⟨sb,1,none⟩=some (.pointer (some ⟨yb,0,none⟩)):=cell_of hS.blk 1
 have HG:=hide (gShards_any w ρ gb C now l hS.grp hS.inv)
 have hrl:rs.length=l.length:=by rw [←hS.same,absR_len]
 have hl0:0<l.length:=hS.inv.pos
 have hl16:l.length≤16:=hS.inv.len
 have HR:Hid (∀w1,Below w.heap.size w w1→Calls Tryz.prog 32 #[.pointer (some ⟨yb,0,none⟩)] w1 fun e w'=>∃a cap,e=.returned (.slice a l.length cap)∧w'.ownsRow w1.heap.size 100 5 (.slice a l.length cap) l.length (listCells (refOut rs P))∧Below w1.heap.size w1 w'):=fun w1 hb=>by
  obtain ⟨sv,lv,R⟩:=hS.ref
  rw [←hrl]
  exact refList_any (R.keeps (Keeps.of_below hb) (fun _ hk=>Or.inr hk) (fun _ _=>rfl)) hP (by omega) (by omega)
 have HRP:Hid (∀w1,Below w.heap.size w w1→∀(i:Nat) (r:Rf),rs[i]?=some r→w1.ownsRow 0 3 1 r.pv r.par.length (r.par.map (Value.int .i64))):=fun w1 hb=>by
  obtain ⟨sv,lv,R⟩:=hS.ref
  exact (R.keeps (Keeps.of_below hb) (fun _ hk=>Or.inr hk) (fun _ _=>rfl)).par
 have HL:=hide hL
 have HS:=hide hS
 have HF:=hide hf
 clear hL hS hf
 go_enter Tryz.func12,Tryz.ntmps12
 have HRL:=hide hrl
 clear hrl
 go_wp2_with (go_at_call 31;refine (uh HG).mono ?_;rintro e w1 ⟨v,k,rfl,hkl,hat,hb1⟩;have s2:=(hb1.cell (p:=⟨sb,1,none⟩) hsl).trans s1;have HAT:=hide hat;have HB1:=hide hb1;have HKL:=hide hkl;have hrow:w1.ownsRow w.heap.size 100 5 v l.length (listCells k):=(by have:=hat.row;rw [←of_mapP hkl];exact this);obtain ⟨va,vc,rfl⟩:=ownsRow_len hrow;clear hat hb1 hkl hrow)
 refine (uh HR _ (uh HB1)).mono ?_
 rintro e w2 ⟨ya,yc,rfl,hown,hb2⟩
 have HOW:=hide hown
 have HB2:=hide hb2
 have hw12:=(uh HB1).size
 have hw22:=hb2.size
 have HB12:Hid (Below w.heap.size w w2):=(uh HB1).trans (hb2.mono hw12)
 have HAT2:=hide ((uh HAT).below hb2)
 clear hown hb2 s0 s1 s2 HAT
 go_wp2
 go_loopw [7] (fun i wr=>∃j:Nat,j≤l.length∧i=.int .i64 j∧Below w2.heap.size w2 wr) (fun i _=>l.length - (intOf i).toNat)
 case atStart=>exact ⟨0,Nat.zero_le _,rfl,Below.refl _ _⟩
 case round =>
  obtain ⟨j,hj,rfl,hbr⟩:=hrel
  have hwr:=hbr.size
  by_cases hlt:j<l.length
  ·obtain ⟨x,hx⟩:∃x,k[j]?=some x:=⟨_,List.getElem?_eq_getElem (by rw [of_mapP (uh HKL)];exact hlt)⟩
   obtain ⟨r,hr⟩:∃r,rs[j]?=some r:=⟨_,List.getElem?_eq_getElem (by rw [uh HRL];exact hlt)⟩
   have hls:l[j]?=some x.1:=by rw [←uh HKL];simp [hx]
   have hlr:(⟨r.lo,r.hi,r.op,r.par,rcsOf P j⟩:Sh)=x.1:=by
    have:=absR_get (P:=P) hr
    rw [(uh HS).same,hls] at this
    injection this with this
    exact this.symm
   have hro:=refOut_get (P:=P) hr
   rw [hlr] at hro
   have hpar:r.par=x.1.par:=by rw [←hlr]
   obtain ⟨s,pv⟩:=x
   simp only at hls hro hpar
   have hp2:s.par.length≤2:=((uh HS).inv.parL j s hls).1
   have hat3:=(uh HAT2).below hbr
   have row3:wr.ownsRow w.heap.size 100 5 (.slice va l.length vc) l.length (listCells k):=by have:=hat3.row;rw [of_mapP (uh HKL)] at this;exact this
   obtain ⟨lb,cp,cur,hv1,_,hcb,_⟩:=ownsRow_shape row3 (by omega)
   injection hv1 with e1 _ e3
   subst e1 e3
   have out3:wr.ownsRow w1.heap.size 100 5 (.slice ya l.length yc) l.length (listCells (refOut rs P)):=ownsRow_of_block (uh HOW) fun q hq=>hbr.block q ((uh HOW).lt q hq).2
   obtain ⟨mb,cp2,cur2,hv2,_,hcb2,_⟩:=ownsRow_shape out3 (by omega)
   injection hv2 with e4 _ e5
   subst e4 e5
   have hlbl:=lt_of_heap hcb
   have hmbl:=lt_of_heap hcb2
   have ca:∀q,q<5→wr.cell? ⟨lb,j*5+q,none⟩=(outCells (s,pv))[q]?:=fun q hq=>(World.ownsRow.cellAt row3 (j*5+q) (by omega)).trans (listCells_get k j q hq _ hx)
   have cb:∀q,q<5→wr.cell? ⟨mb,j*5+q,none⟩=(outCells (s,r.pv))[q]?:=fun q hq=>(World.ownsRow.cellAt out3 (j*5+q) (by omega)).trans (listCells_get _ j q hq _ hro)
   have hpa:=ownsRow_base (hat3.par j (s,pv) hx) (Nat.zero_le _)
   have hpb:=uh HRP wr ((uh HB12).trans (hbr.mono (by omega))) j r hr
   rw [hpar] at hpb
   have HSI:Hid (∀W,Below wr.heap.size wr W→Calls Tryz.prog 33 #[pv,r.pv] W fun e w'=>e=.returned (.bool true)∧Below W.heap.size W w'):=fun W hW=>by
    have:=sameInts_any W pv r.pv s.par s.par (ownsRow_of_block hpa fun q hq=>hW.block q (hpa.lt q hq).2) (ownsRow_of_block hpb fun q hq=>hW.block q (hpb.lt q hq).2) (by omega)
    simpa using this
   have a0:wr.cell? ⟨lb,j*5,none⟩=some (.int .i64 s.lo):=ca 0 (by omega)
   have a1:wr.cell? ⟨lb,j*5+1,none⟩=some (.int .i64 s.hi):=ca 1 (by omega)
   have a2:wr.cell? ⟨lb,j*5+2,none⟩=some (.bool s.op):=ca 2 (by omega)
   have a3:wr.cell? ⟨lb,j*5+3,none⟩=some pv:=ca 3 (by omega)
   have a4:wr.cell? ⟨lb,j*5+4,none⟩=some (.int .i64 s.cnt):=ca 4 (by omega)
   have b0:wr.cell? ⟨mb,j*5,none⟩=some (.int .i64 s.lo):=cb 0 (by omega)
   have b1:wr.cell? ⟨mb,j*5+1,none⟩=some (.int .i64 s.hi):=cb 1 (by omega)
   have b2:wr.cell? ⟨mb,j*5+2,none⟩=some (.bool s.op):=cb 2 (by omega)
   have b3:wr.cell? ⟨mb,j*5+3,none⟩=some r.pv:=cb 3 (by omega)
   have b4:wr.cell? ⟨mb,j*5+4,none⟩=some (.int .i64 s.cnt):=cb 4 (by omega)
   have HBR:=hide hbr
   generalize r.pv=rv at *
   clear hat3 row3 out3 ca cb hpa hpb hls hlr hro hpar hx hr hcb hcb2 hbr
   go_wp2
   go_region_held3 (fun w'=>w'.cell? ⟨lb,j*5+3,none⟩=some pv∧w'.cell? ⟨mb,j*5+3,none⟩=some rv)
    (first | go_keep | (go_split_ands;refine ⟨?_,?_⟩ <;> (rw [hb5.cell (by simp;omega)];assumption)))
    ((go_at_call 33;refine (uh HSI _ (by first | exact (Below.refl _ _).drew | exact Below.refl _ _)).mono ?_;rintro e w5 ⟨rfl,hb5⟩))
   have hs5:wr.heap.size≤w5.heap.size:=hb5.size
   have a0:=(hb5.cell (p:=⟨lb,j*5,none⟩) hlbl).trans a0
   have a1:=(hb5.cell (p:=⟨lb,j*5+1,none⟩) hlbl).trans a1
   have a2:=(hb5.cell (p:=⟨lb,j*5+2,none⟩) hlbl).trans a2
   have a4:=(hb5.cell (p:=⟨lb,j*5+4,none⟩) hlbl).trans a4
   have b0:=(hb5.cell (p:=⟨mb,j*5,none⟩) hmbl).trans b0
   have b1:=(hb5.cell (p:=⟨mb,j*5+1,none⟩) hmbl).trans b1
   have b2:=(hb5.cell (p:=⟨mb,j*5+2,none⟩) hmbl).trans b2
   have b4:=(hb5.cell (p:=⟨mb,j*5+4,none⟩) hmbl).trans b4
   have HB5:Hid (Below w2.heap.size w2 w5):=(uh HBR).drew.trans (hb5.mono (show w2.heap.size≤wr.heap.size from hwr))
   clear hb5
   go_wp2
   go_quiet (fail)
   go_wp2
   go_roundw
   case rel=>exact ⟨j+1,by omega,by go_num,⟨(uh HB5).os,(uh HB5).tape,(uh HB5).output,(uh HB5).size,(uh HB5).block⟩⟩
   case measure=>simp [intOf];omega
  ·have HB3:Hid (Below w.heap.size w wr):=(uh HB12).trans (hbr.mono (by omega))
   have HAT3:=hide ((uh HAT2).below hbr)
   have HK:=hide (((uh HL).below (uh HB3)).kept)
   have HKS:Hid (∀W,Below wr.heap.size wr W→Calls Tryz.prog 34 #[.pointer (some ⟨wb,0,none⟩),.slice va l.length vc] W (KeepPostS W ρ wb sdv last hv m3 Ls Li Lh (.slice va l.length vc) k)):=fun W hW=>by
    have hBW:Below w.heap.size w W:=(uh HB3).trans (hW.mono (by have:=(uh HB3).size;omega))
    refine keepShards_any ((uh HL).below hBW) ((uh HF).below hBW.size) h1 h2 _ k (((uh HAT3).below hW).outAt ρ (fun q hq=>uh HF q hq)) (by rw [of_mapP (uh HKL)];exact hl16) (fun i x hi=>?_) hlen hlenS
    exact ((uh HS).inv.parL i x.1 (by rw [←uh HKL];simp [hi])).1
   clear hbr
   go_wp2_with (go_at_call 11;refine (uh HK).mono ?_;rintro e w6 ⟨rfl,hb6⟩;have HB6:=hide hb6;clear hb6)
   refine (uh HKS _ (uh HB6)).mono ?_
   rintro e w7 hp
   have HPP:=hide (AskPost.of (uh HS) ((uh HB3).trans ((uh HB6).mono (uh HB3).size)) ((uh HAT3).below (uh HB6)) (by rw [of_mapP (uh HKL)];exact hl16) hp)
   obtain ⟨rfl,-⟩:=hp
   go_wp2
   go_ret
   exact uh HPP
end Go.Proofs.YtpnkmnmchdabkaaGreat
namespace Go.Proofs.YtpnkmnmchdabkaaGreat
def finB (l:List Sh) (dn:Nat→Int):Nat→Nat→Bool
 | 0,_=>false
 | f+1,k=>match l[k]? with
   | none=>false
   | some s=>s.par.all (fun p=>finB l dn f p.toNat) && (!s.op && decide (dn k=s.cnt))
def fin (l:List Sh) (dn:Nat→Int) (k:Nat):Bool:=finB l dn (k+1) k
def rdy (l:List Sh) (dn:Nat→Int) (k:Nat):Bool:=match l[k]? with
 | none=>true
 | some s=>s.par.all (fun p=>fin l dn p.toNat)
theorem all_same {l:List Int} {f g:Int→Bool} (h:∀p ∈ l,f p=g p):l.all f=l.all g:=by
 induction l with
 | nil=>rfl
 | cons p r ih =>
   simp only [List.all_cons]
   rw [h p (by simp),ih (fun q hq=>h q (by simp [hq]))]
theorem finB_fuel {l:List Sh} (hI:Inv l) (dn:Nat→Int):∀(k f:Nat),k<f→finB l dn f k=finB l dn (k+1) k:=by
 intro k
 induction k using Nat.strongRecOn with
 | ind k ih =>
   intro f hf
   cases f with
   | zero=>omega
   | succ f =>
     cases hk:l[k]? with
     | none=>simp only [finB,hk]
     | some s =>
       simp only [finB,hk]
       congr 1
       have:∀p ∈ s.par,finB l dn f p.toNat=finB l dn k p.toNat:=by
        intro p hp
        obtain ⟨q,t,rfl,hq,_⟩:=hI.parR k s hk p hp
        rw [show ((q:Int)).toNat=q by omega,ih q hq f (by omega),ih q hq k hq]
       exact all_same this
theorem fin_is {l:List Sh} (hI:Inv l) (dn:Nat→Int) {k:Nat} {s:Sh} (hk:l[k]?=some s):fin l dn k=(rdy l dn k && (!s.op && decide (dn k=s.cnt))):=by
 unfold fin rdy
 simp only [finB,hk]
 congr 1
 have:∀p ∈ s.par,finB l dn k p.toNat=fin l dn p.toNat:=by
  intro p hp
  obtain ⟨q,t,rfl,hq,_⟩:=hI.parR k s hk p hp
  rw [show ((q:Int)).toNat=q by omega]
  exact finB_fuel hI dn q k hq
 exact all_same this
theorem rdy_is {l:List Sh} (dn:Nat→Int) {k:Nat} {s:Sh} (hk:l[k]?=some s):rdy l dn k=s.par.all (fun p=>fin l dn p.toNat):=by
 unfold rdy;simp only [hk]
end Go.Proofs.YtpnkmnmchdabkaaGreat
namespace Go.Proofs.YtpnkmnmchdabkaaGreat
open Go.RowKit
attribute [local go_sem ↓] Go.wp_at_zero Go.wp_at_succ
def dnR (rs:List Rf) (k:Nat):Int:=(rs[k]?.map (·.done)).getD 0
theorem all_take_snoc (ps:List Int) (f:Int→Bool) (k:Nat) (h:k<ps.length):(ps.take (k+1)).all f=((ps.take k).all f && f ps[k]):=by
 rw [List.take_succ_eq_append_getElem h,List.all_append];simp
theorem all_not (ps:List Int) (f:Int→Bool) (k:Nat) (h:k<ps.length) (hf:f ps[k]=false):ps.all f=false:=by
 rw [List.all_eq_false]
 exact ⟨ps[k],List.getElem_mem _,by simp [hf]⟩
set_option maxRecDepth 100000 in
set_option maxHeartbeats 2000000 in
theorem refReady_of {w:World} {ρ:Nat→Nat} {yb:Nat} {C:Cfg} {time:Int} {rs:List Rf} {P:List Pt} {wv:Wks} {fv sv lv:Value} (h:RefAt w ρ yb C time rs P wv fv sv lv) (hI:Inv (absR rs P)) (k:Nat) (hk:k<rs.length)
 (ih:∀q,q<k→∀W,Below w.heap.size w W→Calls Tryz.prog 88 #[.pointer (some ⟨yb,0,none⟩),.int .i64 q] W fun e w'=>e=.returned (.bool (fin (absR rs P) (dnR rs) q))∧Below W.heap.size W w') :
 ∀W,Below w.heap.size w W→Calls Tryz.prog 93 #[.pointer (some ⟨yb,0,none⟩),.int .i64 k] W fun e w'=>e=.returned (.bool (rdy (absR rs P) (dnR rs) k))∧Below W.heap.size W w':=by
 intro W hW
 obtain ⟨r,hr⟩:∃r,rs[k]?=some r:=⟨_,List.getElem?_eq_getElem hk⟩
 have hrd:=rdy_is (dnR rs) (absR_get (P:=P) hr)
 simp only at hrd
 have hpr:=hI.parR k _ (absR_get (P:=P) hr)
 simp only at hpr
 have hpl:=(hI.parL k _ (absR_get (P:=P) hr)).1
 simp only at hpl
 have hR:=h.keeps (Keeps.of_below hW) (fun _ hk=>Or.inr hk) (fun _ _=>rfl)
 obtain ⟨sb,cap,rfl,hsb,_,_,hcell⟩:=hR.shards (by omega)
 have c7:W.cell? ⟨yb,7,none⟩=some (.slice (some ⟨sb,0,none⟩) rs.length cap):=cell_of hR.blk 7
 have c3:W.cell? ⟨sb,k*9+3,none⟩=some r.pv:=hcell k r hr 3 (by omega)
 have hrp:=hR.par k r hr
 obtain ⟨pa,pc,hpv⟩:=ownsRow_len hrp
 rw [hpv] at c3 hrp
 have HPv:Hid (∀i (hi:i<r.par.length),∃pb,pa=some ⟨pb,0,none⟩∧pb<W.heap.size∧W.cell? ⟨pb,i,none⟩=some (.int .i64 r.par[i])):=by
  intro i hi
  obtain ⟨pb,cp,cur,hv1,_,hcb,_⟩:=ownsRow_shape hrp (by omega)
  injection hv1 with e1 _ _
  refine ⟨pb,e1,lt_of_heap hcb,?_⟩
  subst e1
  have:=World.ownsRow.cellAt hrp i (by omega)
  rw [this];simp [hi]
 have HIh:=hide ih
 have HRd:=hide hrd
 have HPr:=hide hpr
 have HW:=hide hW
 have hWz:=hW.size
 clear hR hcell hrp hrd hpr hpv ih h hW hI
 go_enter Tryz.func93,Tryz.ntmps93
 go_wp2
 go_loopw [6] (fun i wr=>∃j:Nat,j≤r.par.length∧i=.int .i64 j∧(r.par.take j).all (fun p=>fin (absR rs P) (dnR rs) p.toNat)=true∧Below W.heap.size W wr) (fun i _=>r.par.length - (intOf i).toNat)
 case atStart=>exact ⟨0,Nat.zero_le _,rfl,by simp,Below.refl _ _⟩
 case round =>
  obtain ⟨j,hj,rfl,hall,hb⟩:=hrel
  by_cases hlt:j<r.par.length
  ·obtain ⟨pb,rfl,hpb,hc⟩:=uh HPv j hlt
   obtain ⟨q,t,hq,hqk,_⟩:=uh HPr r.par[j] (List.getElem_mem _)
   have hc:=(hb.cell (p:=⟨pb,j,none⟩) hpb).trans hc
   rw [hq] at hc
   have HC:=hide (uh HIh q hqk wr ((uh HW).trans (hb.mono (by omega))))
   have HA:=hide hall
   have HB:=hide hb
   have HQ:=hide hq
   have hbz:=hb.size
   clear hall hb hq
   cases hf:fin (absR rs P) (dnR rs) q
   ·have HF:=hide hf
    rw [hf] at HC
    clear hf
    go_wp2_with (go_at_call 88;refine (uh HC).mono ?_;rintro e w2 ⟨rfl,hb2⟩;have HB2:=hide hb2;clear hb2)
    go_ret
    refine ⟨ret_bool ?_,(uh HB).trans ((uh HB2).mono (by omega))⟩
    rw [uh HRd,all_not r.par _ j hlt]
    show fin (absR rs P) (dnR rs) r.par[j].toNat=false
    rw [uh HQ];exact uh HF
   ·have HF:=hide hf
    rw [hf] at HC
    clear hf
    go_wp2_with (go_at_call 88;refine (uh HC).mono ?_;rintro e w2 ⟨rfl,hb2⟩;have HB2:=hide hb2;clear hb2)
    go_roundw
    case rel =>
     refine ⟨j+1,by omega,by go_num,?_,(uh HB).trans ((uh HB2).mono (by omega))⟩
     rw [all_take_snoc _ _ _ hlt,uh HA,uh HQ]
     exact uh HF
    case measure=>simp [intOf];omega
  ·have ej:j=r.par.length:=by omega
   subst ej
   rw [List.take_length] at hall
   have HA:=hide hall
   have HB:=hide hb
   clear hall hb
   go_wp2
   go_ret
   exact ⟨ret_bool (by rw [uh HRd,uh HA]),uh HB⟩
set_option maxRecDepth 100000 in
set_option maxHeartbeats 2000000 in
theorem refFinished_of {w:World} {ρ:Nat→Nat} {yb:Nat} {C:Cfg} {time:Int} {rs:List Rf} {P:List Pt} {wv:Wks} {fv sv lv:Value} (h:RefAt w ρ yb C time rs P wv fv sv lv) (hI:Inv (absR rs P)) (hP:P.length≤1000000) (k:Nat) (hk:k<rs.length)
 (ih:∀W,Below w.heap.size w W→Calls Tryz.prog 93 #[.pointer (some ⟨yb,0,none⟩),.int .i64 k] W fun e w'=>e=.returned (.bool (rdy (absR rs P) (dnR rs) k))∧Below W.heap.size W w') :
 ∀W,Below w.heap.size w W→Calls Tryz.prog 88 #[.pointer (some ⟨yb,0,none⟩),.int .i64 k] W fun e w'=>e=.returned (.bool (fin (absR rs P) (dnR rs) k))∧Below W.heap.size W w':=by
 intro W hW
 obtain ⟨r,hr⟩:∃r,rs[k]?=some r:=⟨_,List.getElem?_eq_getElem hk⟩
 have hfi:=fin_is hI (dnR rs) (absR_get (P:=P) hr)
 simp only at hfi
 have hdn:dnR rs k=r.done:=by unfold dnR;rw [hr];rfl
 have hR:=h.keeps (Keeps.of_below hW) (fun _ hk=>Or.inr hk) (fun _ _=>rfl)
 have HRec:=hide (records_any hR hP k)
 obtain ⟨sb,cap,rfl,hsb,_,_,hcell⟩:=hR.shards (by omega)
 have c7:W.cell? ⟨yb,7,none⟩=some (.slice (some ⟨sb,0,none⟩) rs.length cap):=cell_of hR.blk 7
 have c2:W.cell? ⟨sb,k*9+2,none⟩=some (.bool r.op):=hcell k r hr 2 (by omega)
 have c8:W.cell? ⟨sb,k*9+7,none⟩=some (.int .i64 r.done):=hcell k r hr 7 (by omega)
 have hyb:=lt_of_heap hR.blk
 have HIh:=hide ih
 have HFi:=hide hfi
 have HDn:=hide hdn
 have HW:=hide hW
 have hWz:=hW.size
 clear hR hcell hfi hdn ih h hW hI
 go_enter Tryz.func88,Tryz.ntmps88
 go_wp2_with (go_at_call 43;refine (uh HRec).mono ?_;rintro e w1 ⟨a,cp,rfl,_,hb1⟩;have HB1:=hide hb1;clear hb1)
 have hz1:=(uh HB1).size
 have c7:=((uh HB1).cell (p:=⟨yb,7,none⟩) hyb).trans c7
 have c2:=((uh HB1).cell (p:=⟨sb,k*9+2,none⟩) hsb).trans c2
 have c8:=((uh HB1).cell (p:=⟨sb,k*9+7,none⟩) hsb).trans c8
 refine (uh HIh _ ((uh HW).trans ((uh HB1).mono hWz))).mono ?_
 rintro e w2 ⟨rfl,hb2⟩
 have HB2:Hid (Below W.heap.size W w2):=(uh HB1).trans (hb2.mono hz1)
 have c7:=(hb2.cell (p:=⟨yb,7,none⟩) (show yb<w1.heap.size by omega)).trans c7
 have c2:=(hb2.cell (p:=⟨sb,k*9+2,none⟩) (show sb<w1.heap.size by omega)).trans c2
 have c8:=(hb2.cell (p:=⟨sb,k*9+7,none⟩) (show sb<w1.heap.size by omega)).trans c8
 clear hb2
 cases hrd:rdy (absR rs P) (dnR rs) k
 ·have HRd:=hide hrd
  clear hrd
  go_wp2
  go_ret
  exact ⟨ret_bool (by rw [uh HFi,uh HRd];rfl),uh HB2⟩
 ·have HRd:=hide hrd
  clear hrd
  cases hop:r.op
  ·rw [hop] at c2 HFi
   go_wp2
   go_ret
   exact ⟨ret_bool (by rw [uh HFi,uh HRd,uh HDn];simp only [Bool.true_and,Bool.not_false];rw [Bool.eq_iff_iff];simp),uh HB2⟩
  ·rw [hop] at c2 HFi
   go_wp2
   go_ret
   exact ⟨ret_bool (by rw [uh HFi,uh HRd];rfl),uh HB2⟩
theorem refFin_any {w:World} {ρ:Nat→Nat} {yb:Nat} {C:Cfg} {time:Int} {rs:List Rf} {P:List Pt} {wv:Wks} {fv sv lv:Value} (h:RefAt w ρ yb C time rs P wv fv sv lv) (hI:Inv (absR rs P)) (hP:P.length≤1000000):∀(k:Nat),k<rs.length →
 (∀W,Below w.heap.size w W→Calls Tryz.prog 88 #[.pointer (some ⟨yb,0,none⟩),.int .i64 k] W fun e w'=>e=.returned (.bool (fin (absR rs P) (dnR rs) k))∧Below W.heap.size W w') ∧
 ∀W,Below w.heap.size w W→Calls Tryz.prog 93 #[.pointer (some ⟨yb,0,none⟩),.int .i64 k] W fun e w'=>e=.returned (.bool (rdy (absR rs P) (dnR rs) k))∧Below W.heap.size W w':=by
 intro k
 induction k using Nat.strongRecOn with
 | ind k ih =>
   intro hk
   have hr:=refReady_of h hI k hk (fun q hq=>(ih q hq (by omega)).1)
   exact ⟨refFinished_of h hI hP k hk hr,hr⟩
theorem rowNt_get (l:List Nt) (i j:Nat) (hj:j<3) (s:Nt) (h:l[i]?=some s):(rowNt l)[i*3+j]?=(ntCells s)[j]?:=by
 induction l generalizing i with
 | nil=>simp at h
 | cons x r ih =>
   cases i with
   | zero =>
     simp at h;subst h
     simp only [rowNt,Nat.zero_mul,Nat.zero_add]
     rw [List.getElem?_append_left (by simpa [ntCells] using hj)]
   | succ i =>
     simp at h
     simp only [rowNt]
     rw [List.getElem?_append_right (by simp only [ntCells,List.length_cons,List.length_nil];omega),←ih i h]
     congr 1
     simp only [ntCells,List.length_cons,List.length_nil];omega
theorem rowNt_append (l k:List Nt):rowNt (l ++ k)=rowNt l ++ rowNt k:=by
 induction l with
 | nil=>rfl
 | cons s r ih=>simp [rowNt,ih]
theorem rowWks_get (l:List Wk) (i:Nat) (y:Wk) (h:l[i]?=some y):(rowWks l)[i*2]?=some y.hv∧(rowWks l)[i*2+1]?=some y.nv:=by
 induction l generalizing i with
 | nil=>simp at h
 | cons x r ih =>
   cases i with
   | zero=>simp at h;subst h;exact ⟨rfl,rfl⟩
   | succ i =>
     simp at h
     rw [show (i+1)*2=i*2+2 by omega]
     exact ih i h
theorem rowWks_setH (l:List Wk) (i:Nat) (y y':Wk) (h:l[i]?=some y) (he:y'.nv=y.nv):(rowWks l).set (i*2) y'.hv=rowWks (l.set i y'):=by
 induction l generalizing i with
 | nil=>simp at h
 | cons x r ih =>
   cases i with
   | zero=>simp at h;subst h;simp only [Nat.zero_mul,rowWks,List.set_cons_zero,he]
   | succ i =>
     simp at h
     rw [show (i+1)*2=i*2+2 by omega]
     simp only [rowWks,List.set_cons_succ,ih i h]
theorem rowWks_setN (l:List Wk) (i:Nat) (y y':Wk) (h:l[i]?=some y) (he:y'.hv=y.hv):(rowWks l).set (i*2+1) y'.nv=rowWks (l.set i y'):=by
 induction l generalizing i with
 | nil=>simp at h
 | cons x r ih =>
   cases i with
   | zero=>simp at h;subst h;simp only [Nat.zero_mul,Nat.zero_add,rowWks,List.set_cons_succ,List.set_cons_zero,he]
   | succ i =>
     simp at h
     rw [show (i+1)*2+1=(i*2+1)+2 by omega]
     simp only [rowWks,List.set_cons_succ,ih i h]
theorem WkAt.shape {w:World} {ρ:Nat→Nat} {x:Wks} {fv:Value} (h:WkAt w ρ x fv) {i:Nat} {y:Wk} (hy:x.l[i]?=some y) :
 ∃vb vc,x.v=.slice (some ⟨vb,0,none⟩) x.l.length vc∧ρ vb=204∧vb<w.heap.size∧(∀j,w.frozen? ⟨vb,j,none⟩=false)∧w.cell? ⟨vb,i*2,none⟩=some y.hv∧w.cell? ⟨vb,i*2+1,none⟩=some y.nv:=by
 have hlt:=(List.getElem?_eq_some_iff.1 hy).1
 obtain ⟨g,cap,cur,hv,hb,hg,hn,hc,hsz,ht⟩:=ownsRow_shape h.row (by omega)
 refine ⟨g,cap,hv,h.rowT g (by rw [hv];rfl),lt_of_heap hg,fun j=>frozen_of hg j,?_,?_⟩
 ·have:=World.ownsRow.cellAt (hv ▸ h.row) (i*2) (by omega)
  rw [this];exact (rowWks_get x.l i y hy).1
 ·have:=World.ownsRow.cellAt (hv ▸ h.row) (i*2+1) (by omega)
  rw [this];exact (rowWks_get x.l i y hy).2
def ixOf:List Hd→Int→Nat→Int
 | [],_,_=>-1
 | h :: r,k,n=>if h.sh=k then n else ixOf r k (n+1)
theorem drop_at {α:Type} {l:List α} {j:Nat} {x:α} (h:l[j]?=some x):l.drop j=x :: l.drop (j+1):=by
 obtain ⟨hlt,he⟩:=List.getElem?_eq_some_iff.1 h
 rw [List.drop_eq_getElem_cons hlt,he]
set_option maxHeartbeats 400000 in
theorem refWorks_any (b n cap:Nat) (sa:Option Addr) (k:Int) (w:World)
 (c0:w.cell? ⟨b,8,none⟩=some (.slice sa n cap)) :
 Calls Tryz.prog 79 #[.pointer (some ⟨b,0,none⟩),.int .i64 k] w fun e w'=>e=.returned (.bool (decide (0≤k∧k<n)))∧w=w':=by
 by_cases h1:0≤k
 ·by_cases h2:k<n
  all_goals
   go_enter Tryz.func79,Tryz.ntmps79
   go_wp2
   go_ret
   exact ⟨by simp [h1,h2],rfl⟩
 ·go_enter Tryz.func79,Tryz.ntmps79
  go_wp2
  go_ret
  exact ⟨by simp;omega,rfl⟩
set_option maxRecDepth 100000 in
set_option maxHeartbeats 2000000 in
theorem refHold_any {w:World} {ρ:Nat→Nat} {yb:Nat} {C:Cfg} {time:Int} {rs:List Rf} {P:List Pt} {wv:Wks} {fv sv lv:Value} (h:RefAt w ρ yb C time rs P wv fv sv lv) (i:Nat) (y:Wk) (hy:wv.l[i]?=some y) (hl:y.hs.length≤1000) (k:Int) :
 Calls Tryz.prog 80 #[.pointer (some ⟨yb,0,none⟩),.int .i64 i,.int .i64 k] w fun e w'=>e=.returned (.int .i64 (ixOf y.hs k 0))∧w=w':=by
 have hi:=(List.getElem?_eq_some_iff.1 hy).1
 obtain ⟨vb,vc,hv,_,hvb,_,ch,_⟩:=h.wk.shape hy
 have c8:w.cell? ⟨yb,8,none⟩=some wv.v:=cell_of h.blk 8
 rw [hv] at c8
 have hr:=h.wk.hd i y hy
 obtain ⟨ha,hc,hhv⟩:=ownsRow_len hr
 rw [hhv] at ch hr
 have HC:Hid (∀(j:Nat) (x:Hd),y.hs[j]?=some x→∃hb,ha=some ⟨hb,0,none⟩∧w.cell? ⟨hb,j*4,none⟩=some (.int .i64 x.sh)):=by
  intro j x hj
  have hjl:=(List.getElem?_eq_some_iff.1 hj).1
  obtain ⟨hb,cp,cur,hv1,_,hcb,_⟩:=ownsRow_shape hr (by omega)
  injection hv1 with e1 _ _
  refine ⟨hb,e1,?_⟩
  subst e1
  have hln:(rowHd y.hs).length=y.hs.length*4:=by
   have:∀l:List Hd,(rowHd l).length=l.length*4:=by
    intro l
    induction l with
    | nil=>rfl
    | cons s r ih=>simp only [rowHd,List.length_append,ih,hdCells,List.length_cons,List.length_nil];omega
   exact this _
  rw [World.ownsRow.cellAt hr (j*4) (by omega)]
  exact rowHd_get y.hs j 0 (by omega) x hj
 clear h hr hhv hv
 go_enter Tryz.func80,Tryz.ntmps80
 go_wp2
 go_loop [8] (fun q=>∃j:Nat,j≤y.hs.length∧q=.int .i64 j∧ixOf y.hs k 0=ixOf (y.hs.drop j) k j) (fun q=>y.hs.length - (intOf q).toNat)
 case atStart=>exact ⟨0,Nat.zero_le _,rfl,rfl⟩
 case round =>
  obtain ⟨j,hj,rfl,he⟩:=hrel
  have HE:=hide he
  clear he
  by_cases hlt:j<y.hs.length
  ·obtain ⟨x,hx⟩:∃x,y.hs[j]?=some x:=⟨_,List.getElem?_eq_getElem hlt⟩
   obtain ⟨hb,rfl,cx⟩:=uh HC j x hx
   have HD:=hide (drop_at hx)
   clear hx
   by_cases hk:x.sh=k
   ·have HK:=hide hk
    rw [hk] at cx
    clear hk
    go_wp2
    go_ret
    exact ⟨ret_int (by rw [uh HE,uh HD,ixOf,if_pos (uh HK)]),rfl⟩
   ·go_wp2
    go_round
    case rel=>exact ⟨j+1,by omega,by go_num,by rw [uh HE,uh HD,ixOf,if_neg hk]⟩
    case measure=>simp [intOf];omega
  ·have ej:j=y.hs.length:=by omega
   subst ej
   go_wp2
   go_ret
   exact ⟨ret_int (by rw [uh HE,List.drop_length];rfl),rfl⟩
end Go.Proofs.YtpnkmnmchdabkaaGreat
