import Derived.Test.YtpnkmnmchdabkaaGreatM27
import Derived.Test.YtpnkmnmchdabkaaGreatM15
namespace Go.Proofs.YtpnkmnmchdabkaaGreat
open Go.RowKit
theorem dR_le {C:Cfg} {now:Rest} {time:Int} {l:List Sh} {Q:List Pt} {rs:List Rf} {wv:Wks} {B:Int} (h:Rel C now time l Q rs wv B) (k:Nat):0≤dnR rs k∧dnR rs k=(dR rs k:Int)∧dR rs k≤cn l k:=by
 obtain ⟨_,_,P,_,_,_,_,o⟩:=h.mem
 have e:=(h.dn k).1
 by_cases hk:k<16
 ·have:=o.1.mr k hk
  unfold dR
  omega
 ·have:dnP now.dn k=0:=by
   unfold dnP
   rw [List.getElem?_eq_none (by rw [o.1.dnL];omega)]
   rfl
  unfold dR
  omega
theorem Rel.mkOk {C:Cfg} {now:Rest} {time:Int} {l:List Sh} {Q:List Pt} {rs:List Rf} {wv:Wks} {B:Int} (h:Rel C now time l Q rs wv B) (hI:Inv l):MkOk l (dR rs):=by
 have e:(fun k=>(dR rs k:Int))=dnP now.dn:=by
  funext k
  rw [←(dR_le h k).2.1,(h.dn k).1]
 refine ⟨fun k s hs=>?_,fun k hk h0=>?_⟩
 ·have:=(dR_le h k).2.2
  rw [cn_is hs] at this
  exact this
 ·obtain ⟨_,_,P,_,_,_,_,o⟩:=h.mem
  rw [e]
  refine (o.1.mr k (by have:=hI.len;omega)).2.2.2.2 ?_
  rw [(h.dn k).1,(dR_le h k).2.1]
  omega
theorem Rel.put {C:Cfg} {now:Rest} {time:Int} {l:List Sh} {Q:List Pt} {rs:List Rf} {wv:Wks} {B:Int} (h:Rel C now time l Q rs wv B) (hI:Inv l) {key:ByteArray} {v t:Int} {k:Nat} {x:Sh} (hx:Home l (hashL key.data.toList) k x) (hc:¬32≤x.cnt) (hs:key.size≤maxLen) (hr:makeR key v t=0):Rel C now time (putL l k x ⟨key.data.toList,v,t⟩) (Q ++ [⟨k,key,v,t⟩]) rs wv B:=by
 have ho:x.op=true:=by have:=hx.2.1;rw [acc_iff] at this;exact this.1
 refine h.more (More.refl rs) hI (inv_put hI hx.1 _) (adv_put hx.1 ho _) (fun E F e1 e2 e3=>?_)
 have hh:held E k=x.cnt:=by
  have:=congrArg List.length (e1.rl k x hx.1)
  rw [List.length_map] at this
  exact this
 have hk:keyB key=true∧-1000000≤v∧v≤1000000∧0≤t∧t≤1000000:=by
  unfold makeR at hr
  split at hr
  ·cases hr
  ·split at hr
   ·cases hr
   ·split at hr
    ·cases hr
    ·rename_i a b c
     exact ⟨by simpa using a,by omega,by omega,by omega,by omega⟩
 have ha:=adv_put hx.1 ho ⟨key.data.toList,v,t⟩
 unfold putL at ha ⊢
 rw [if_neg hc] at ha ⊢
 refine ⟨E ++ [⟨k,x.cnt,key,v,t⟩],e1.put hx ha hh hs hk,by rw [List.map_append,e2];rfl,e3.put _ ?_⟩
 have:=(dR_le h k).2.2
 rw [cn_is hx.1] at this
 exact this
theorem Rel.split {C:Cfg} {now:Rest} {time:Int} {l:List Sh} {Q:List Pt} {rs rs':List Rf} {wv:Wks} {B:Int} (h:Rel C now time l Q rs wv B) (hI:Inv l) (n a:Int) (hm:More rs rs'):Rel C now time (aSplit l n a).1 Q rs' wv B:=by
 have hI':=inv_split hI n a
 have same:(aSplit l n a).1=l→Rel C now time (aSplit l n a).1 Q rs' wv B:=fun e=>by
  rw [e]
  exact h.more hm hI hI (Adv.refl l) (fun E F e1 e2 e3=>⟨E,e1,e2,e3⟩)
 by_cases hn:0≤n∧n<l.length
 ·obtain ⟨k,rfl⟩:∃k:Nat,n=(k:Int):=⟨n.toNat,by omega⟩
  have hs:l[k]?=some l[k]:=List.getElem?_eq_getElem (by omega)
  generalize l[k]'(by omega)=s at hs
  unfold aSplit at hI' same ⊢
  rw [if_pos hn,show ((k:Int)).toNat=k by omega,hs] at hI' same ⊢
  simp only at hI' same ⊢
  by_cases ho:s.op=false
  ·rw [if_pos ho] at same ⊢;exact same rfl
  rw [if_neg ho] at hI' same ⊢
  by_cases hr:a≤s.lo∨s.hi≤a
  ·rw [if_pos hr] at same ⊢;exact same rfl
  rw [if_neg hr] at hI' same ⊢
  by_cases hl:14<l.length
  ·rw [if_pos hl] at same ⊢;exact same rfl
  rw [if_neg hl] at hI' same ⊢
  have ho2:s.op=true:=by simpa using ho
  have ha:=(adv_close hs).trans (adv_more _ [(⟨s.lo,a,true,[(k:Int)],[]⟩:Sh),⟨a,s.hi,true,[(k:Int)],[]⟩])
  refine h.more hm hI hI' ha (fun E F e1 e2 e3=>⟨E,e1.more _ _ (by simp) (fun j t ht=>at_set hs ht) (fun j t ht=>?_) (adv_close hs) (adv_more _ _) (moved_split hI hs ho2 a (by omega) (by omega)),e2,e3⟩)
  match j,ht with
  | 0,ht=>simp at ht;subst ht;rfl
  | 1,ht=>simp at ht;subst ht;rfl
  | j+2,ht=>simp at ht
 ·refine same ?_
  unfold aSplit
  rw [if_neg hn]
theorem Rel.merge {C:Cfg} {now:Rest} {time:Int} {l:List Sh} {Q:List Pt} {rs rs':List Rf} {wv:Wks} {B:Int} (h:Rel C now time l Q rs wv B) (hI:Inv l) (n m:Int) (hm:More rs rs'):Rel C now time (aMerge l n m).1 Q rs' wv B:=by
 have hI':=inv_merge hI n m
 have same:(aMerge l n m).1=l→Rel C now time (aMerge l n m).1 Q rs' wv B:=fun e=>by
  rw [e]
  exact h.more hm hI hI (Adv.refl l) (fun E F e1 e2 e3=>⟨E,e1,e2,e3⟩)
 by_cases hn:(0≤n∧n<l.length)∧(0≤m∧m<l.length)
 ·obtain ⟨k,rfl⟩:∃k:Nat,n=(k:Int):=⟨n.toNat,by omega⟩
  obtain ⟨j,rfl⟩:∃j:Nat,m=(j:Int):=⟨m.toNat,by omega⟩
  have hs:l[k]?=some l[k]:=List.getElem?_eq_getElem (by omega)
  generalize l[k]'(by omega)=s at hs
  have hu:l[j]?=some l[j]:=List.getElem?_eq_getElem (by omega)
  generalize l[j]'(by omega)=u at hu
  unfold aMerge at hI' same ⊢
  rw [if_pos hn,show ((k:Int)).toNat=k by omega,show ((j:Int)).toNat=j by omega,hs,hu] at hI' same ⊢
  simp only at hI' same ⊢
  by_cases ho:s.op=false∨u.op=false
  ·rw [if_pos ho] at same ⊢;exact same rfl
  rw [if_neg ho] at hI' same ⊢
  by_cases hr:s.hi≠u.lo
  ·rw [if_pos hr] at same ⊢;exact same rfl
  rw [if_neg hr] at hI' same ⊢
  by_cases hl:15<l.length
  ·rw [if_pos hl] at same ⊢;exact same rfl
  rw [if_neg hl] at hI' same ⊢
  have hso:s.op=true:=by cases hq:s.op <;> simp [hq] at ho ⊢
  have huo:u.op=true:=by cases hq:u.op <;> simp [hq] at ho ⊢
  have he:u.lo=s.hi:=by omega
  have hkj:k≠j:=by
   intro e
   subst e
   rw [hs] at hu
   injection hu with hu
   subst hu
   have:=(hI.rng k s hs)
   omega
  have hu2:(l.set k { s with op:=false })[j]?=some u:=by rw [List.getElem?_set_ne hkj];exact hu
  have ha1:=(adv_close hs).trans (adv_close hu2)
  have ha:=ha1.trans (adv_more _ [(⟨s.lo,u.hi,true,[(k:Int),(j:Int)],[]⟩:Sh)])
  refine h.more hm hI hI' ha (fun E F e1 e2 e3=>⟨E,e1.more _ _ (by simp) (fun q t ht=>?_) (fun q t ht=>?_) ha1 (adv_more _ _) (moved_merge hI hs hu hso huo he),e2,e3⟩)
  ·obtain ⟨t1,h1,h2⟩:=at_set hu2 ht
   obtain ⟨t2,h3,h4⟩:=at_set hs h1
   exact ⟨t2,h3,h2.trans h4⟩
  ·match q,ht with
   | 0,ht=>simp at ht;subst ht;rfl
   | q+1,ht=>simp at ht
 ·refine same ?_
  unfold aMerge
  rw [if_neg hn]
end Go.Proofs.YtpnkmnmchdabkaaGreat
namespace Go.Proofs.YtpnkmnmchdabkaaGreat
open Go.RowKit
attribute [local go_sem ↓] Go.wp_at_zero Go.wp_at_succ
theorem Frame.trans {w w1 w2:World} {ρ ρ1 ρ2:Nat→Nat} (h:Frame w ρ w1 ρ1) (h':Frame w1 ρ1 w2 ρ2):Frame w ρ w2 ρ2 :=
 ⟨⟨h'.1.os.trans h.1.os,h'.1.tape.trans h.1.tape,h'.1.output.trans h.1.output,Nat.le_trans h.1.size h'.1.size,fun k hk hs=>by
  have h0:ρ k=0:=Decidable.of_not_not hs
  have h1:=h.2 k hk h0
  rw [h'.1.block k (Nat.lt_of_lt_of_le hk h.1.size) (fun q=>q h1)]
  exact h.1.block k hk hs⟩,fun k hk h0=>h'.2 k (Nat.lt_of_lt_of_le hk h.1.size) (h.2 k hk h0)⟩
def St (w0:World) (K:Nat→Prop) (wb sb gb yb:Nat) (C:Cfg) (sdv:Value) (N:Nat) (w:World):Prop :=
 ∃ρ now time l rs P wv fv last sv iv hv m1 m2 m3 Ls Li Lh,LawAt w ρ wb sdv last sv iv hv m1 m2 m3 Ls Li Lh∧Side w ρ sb gb yb C now time l rs P wv fv∧Fits w ρ∧(∀k,K k→ρ k=0)∧Keeps (fun k=>¬K k) w0 w∧(∀k,K k→k<w0.heap.size)∧P.length≤N∧Li.length≤64*N∧Ls.length≤4*N∧-(17*(N:Int))≤last∧last≤0∧Rel C now time l P rs wv (N:Int)∧Lh.length≤4*N
theorem below_frame {K:Nat→Prop} {w0 w w':World} {ρ ρ':Nat→Nat} (hb:Keeps (fun k=>¬K k) w0 w) (h0:∀k,K k→ρ k=0) (hB:∀k,K k→k<w0.heap.size) (hF:Frame w ρ w' ρ'):Keeps (fun k=>¬K k) w0 w'∧(∀k,K k→ρ' k=0)∧∀k,K k→k<w0.heap.size :=
 ⟨⟨hF.1.os.trans hb.os,hF.1.tape.trans hb.tape,hF.1.output.trans hb.output,Nat.le_trans hb.size hF.1.size,fun k hk hs=>by
  have hK:K k:=Classical.byContradiction hs
  rw [hF.1.block k (Nat.lt_of_lt_of_le hk hb.size) (fun q=>q (h0 k hK))]
  exact hb.block k hk hs⟩,fun k hk=>hF.2 k (Nat.lt_of_lt_of_le (hB k hk) hb.size) (h0 k hk),hB⟩
theorem keepsK {K:Nat→Prop} {w0 w w':World} (h:Keeps (fun k=>¬K k) w0 w) (hb:Below w.heap.size w w'):Keeps (fun k=>¬K k) w0 w' :=
 h.trans ((Keeps.of_below hb).mono (fun k hk hs=>by omega))
structure Mid (w:World) (ρ:Nat→Nat) (wb:Nat) (sdv:Value) (last:Int) (sv iv hv m1 m2 m3:Value) (Ls Li Lh:List Ke) (sb gb yb:Nat) (C:Cfg) (now':Rest) (l':List Sh) (time:Int) (rs:List Rf) (P:List Pt) (wv:Wks) (fv:Value):Prop where
 law:LawAt w ρ wb sdv last sv iv hv m1 m2 m3 Ls Li Lh
 blk:w.heap[sb]?=some (.cells #[.pointer (some ⟨gb,0,none⟩),.pointer (some ⟨yb,0,none⟩)] 46 (0,0))
 tag:ρ sb=150
 grp:Grp w ρ gb C now' l'
 ref:∃sv lv,RefAt w ρ yb C time rs P wv fv sv lv
 fits:Fits w ρ
theorem toMid {w W w2:World} {ρ:Nat→Nat} {wb:Nat} {sdv:Value} {last:Int} {sv iv hv m1 m2 m3:Value} {Ls Li Lh:List Ke} {sb gb yb:Nat} {C:Cfg} {now now':Rest} {time:Int} {l l':List Sh} {rs:List Rf} {P:List Pt} {wv:Wks} {fv:Value} (hL:LawAt w ρ wb sdv last sv iv hv m1 m2 m3 Ls Li Lh) (hS:Side w ρ sb gb yb C now time l rs P wv fv) (hf:Fits w ρ) (hb:Below w.heap.size w W) (hp:GrpPost W ρ gb C now' l' w2) :
 ∃ρ',Mid w2 ρ' wb sdv last sv iv hv m1 m2 m3 Ls Li Lh sb gb yb C now' l' time rs P wv fv∧Frame w ρ w2 ρ'∧∀k,w.heap.size≤k→k<W.heap.size→ρ' k=0:=by
 obtain ⟨ρ',hg,hk,he,hff⟩:=hp.grp
 have hz:=hb.size
 have hlt:=lt_of_heap hS.blk
 have kk:Keeps (fun q=>mine ρ q∨w.heap.size≤q) w w2:=⟨hk.os.trans hb.os,hk.tape.trans hb.tape,hk.output.trans hb.output,Nat.le_trans hz hk.size,fun q hq hs=>by
  rw [hk.block q (by omega) (fun h=>hs (Or.inl h))]
  exact hb.block q hq⟩
 have tg:∀k,k<w.heap.size→ρ' k=ρ k:=fun k hk'=>he.1 k (by omega)
 refine ⟨ρ',⟨hL.keeps kk (fun k hs=>by rcases hs with hs | hs;left;unfold laws;unfold mine at hs;omega;right;exact hs) (fun k hk' _=>tg k hk'),?_,by rw [tg sb hlt];exact hS.tag,hg,?_,hff⟩,⟨kk.mono (fun k hk' hs=>by rcases hs with hs | hs;unfold mine at hs;omega;omega),fun k hk' h0=>by rw [tg k hk'];exact h0⟩,fun k h1 h2=>by rw [he.1 k h2];exact hf k h1⟩
 ·rw [kk.block sb hlt (fun hs=>by have:=hS.tag;unfold mine at hs;omega)];exact hS.blk
 ·obtain ⟨sv,lv,R⟩:=hS.ref
  exact ⟨sv,lv,R.keeps kk (fun k hs=>by rcases hs with hs | hs;left;unfold theirs;unfold mine at hs;omega;right;exact hs) tg⟩
theorem Mid.drawn {w W:World} {ρ:Nat→Nat} {wb:Nat} {sdv:Value} {last:Int} {sv iv hv m1 m2 m3:Value} {Ls Li Lh:List Ke} {sb gb yb:Nat} {C:Cfg} {now':Rest} {l':List Sh} {time:Int} {rs:List Rf} {P:List Pt} {wv:Wks} {fv:Value} (h:Mid w ρ wb sdv last sv iv hv m1 m2 m3 Ls Li Lh sb gb yb C now' l' time rs P wv fv) (hb:Below w.heap.size w W):(∃sv lv,RefAt W ρ yb C time rs P wv fv sv lv)∧Fits W ρ:=by
 obtain ⟨sv,lv,R⟩:=h.ref
 exact ⟨⟨sv,lv,R.keeps (Keeps.of_below hb) (fun _ hk=>Or.inr hk) (fun _ _=>rfl)⟩,h.fits.below hb.size⟩
theorem fromMid {w W w3:World} {ρ:Nat→Nat} {wb:Nat} {sdv:Value} {last:Int} {sv iv hv m1 m2 m3:Value} {Ls Li Lh:List Ke} {sb gb yb:Nat} {C:Cfg} {now':Rest} {l':List Sh} {time time':Int} {rs rs':List Rf} {P P':List Pt} {wv wv':Wks} {fv fv':Value} (h:Mid w ρ wb sdv last sv iv hv m1 m2 m3 Ls Li Lh sb gb yb C now' l' time rs P wv fv) (hb:Below w.heap.size w W) (hp:RefPost W ρ yb C time' rs' P' wv' fv' w3) (hs:absR rs' P'=l') (hI:Inv l') (hpin:∀e ∈ P',e.shard<rs'.length) :
 ∃ρ',LawAt w3 ρ' wb sdv last sv iv hv m1 m2 m3 Ls Li Lh∧Side w3 ρ' sb gb yb C now' time' l' rs' P' wv' fv'∧Fits w3 ρ'∧Frame w ρ w3 ρ':=by
 obtain ⟨ρ',sv',lv',hR,hk,he,hff⟩:=hp
 have hz:=hb.size
 have hlt:=lt_of_heap h.blk
 have kk:Keeps (fun q=>theirs ρ q∨w.heap.size≤q) w w3:=⟨hk.os.trans hb.os,hk.tape.trans hb.tape,hk.output.trans hb.output,Nat.le_trans hz hk.size,fun q hq hs=>by
  rw [hk.block q (by omega) (fun h=>hs (Or.inl h))]
  exact hb.block q hq⟩
 have tg:∀k,k<w.heap.size→ρ' k=ρ k:=fun k hk'=>he.1 k (by omega)
 refine ⟨ρ',h.law.keeps kk (fun k hs=>by rcases hs with hs | hs;left;unfold laws;unfold theirs at hs;omega;right;exact hs) (fun k hk' _=>tg k hk'),⟨?_,by rw [tg sb hlt];exact h.tag,?_,⟨sv',lv',hR⟩,hs,hI,hpin⟩,hff,kk.mono (fun k hk' hs=>by rcases hs with hs | hs;unfold theirs at hs;omega;omega),fun k hk' h0=>by rw [tg k hk'];exact h0⟩
 ·rw [kk.block sb hlt (fun hs=>by have:=h.tag;unfold theirs at hs;omega)];exact h.blk
 ·obtain ⟨sv,m,hm,G⟩:=h.grp
  exact ⟨sv,m,hm,G.keeps kk (fun k hs=>by rcases hs with hs | hs;left;unfold mine;unfold theirs at hs;omega;right;exact hs) tg (by have:=hI.len;rw [←hm] at this;simpa using this)⟩
structure Opn where
 k:Int
 a:Int
 b:Int
 s:ByteArray
 lost:Bool
 wh:Bool
def Opn.arr (o:Opn):Array Value:=#[.int .i64 o.k,.int .i64 o.a,.int .i64 o.b,.string o.s,.bool o.lost,.bool o.wh]
def RefMoved (W:World) (ρ:Nat→Nat) (yb:Nat) (C:Cfg) (time':Int) (_:List Rf) (P:List Pt) (l':List Sh) (wv:Wks) (fv:Value) (ev:Value) (G:List Rf→List Pt→Prop) (e:Ending) (w':World):Prop :=
 e=.returned ev∧∃rs' P',RefPost W ρ yb C time' rs' P' wv fv w'∧absR rs' P'=l'∧(∀x ∈ P',x.shard<rs'.length)∧P'.length≤P.length+1∧G rs' P'
set_option maxRecDepth 100000 in
set_option maxHeartbeats 8000000 in
theorem log_put {w0 w:World} {K:Nat→Prop} {wb sb gb yb:Nat} {C:Cfg} {sdv:Value} {N:Nat} {ρ:Nat→Nat} {last:Int} {sv iv hv m1 m2 m3:Value} {Ls Li Lh:List Ke} {now now':Rest} {time:Int} {l l':List Sh} {rs:List Rf} {P:List Pt} {wv:Wks} {fv:Value} (hL:LawAt w ρ wb sdv last sv iv hv m1 m2 m3 Ls Li Lh) (hS:Side w ρ sb gb yb C now time l rs P wv fv) (hf:Fits w ρ)
 (hB0:∀k,K k→ρ k=0) (hBb:Keeps (fun k=>¬K k) w0 w) (hBs:∀k,K k→k<w0.heap.size) (hn1:P.length≤N) (hn2:Li.length≤64*N) (hn3:Ls.length≤4*N) (hn4:-(17*(N:Int))≤last) (hn5:last≤0) (hn7:Lh.length≤4*N) (hI:Inv l') (o:Opn) (ho:o.k=1) (p1 p2 p3:Int)
 (HP:∀W,Below w.heap.size w W→Calls Tryz.prog 98 #[.pointer (some ⟨gb,0,none⟩),.string o.s,.int .i64 o.a,.int .i64 o.b] W fun e w'=>e=.returned (.tuple #[.int .i64 p1,.int .i64 p2,.int .i64 p3])∧GrpPost W ρ gb C now' l' w')
 (HR:∀W ρ2,(∃sv lv,RefAt W ρ2 yb C time rs P wv fv sv lv)→Fits W ρ2→Calls Tryz.prog 99 #[.pointer (some ⟨yb,0,none⟩),.string o.s,.int .i64 o.a,.int .i64 o.b] W (RefMoved W ρ2 yb C time rs P l' wv fv (.tuple #[.int .i64 p1,.int .i64 p2,.int .i64 p3]) (fun rs' P'=>Rel C now' time l' P' rs' wv ((N+1:Nat):Int)))) :
 Calls Tryz.prog 69 #[.pointer (some ⟨wb,0,none⟩),.pointer (some ⟨sb,0,none⟩),.agg o.arr] w fun e w'=>e=.returned (.bool true)∧St w0 K wb sb gb yb C sdv (N+1) w':=by
 have hsl:=lt_of_heap hS.blk
 have s0:w.cell? ⟨sb,0,none⟩=some (.pointer (some ⟨gb,0,none⟩)):=cell_of hS.blk 0
 have s1:w.cell? ⟨sb,1,none⟩=some (.pointer (some ⟨yb,0,none⟩)):=cell_of hS.blk 1
 have HP:=hide HP
 have HR:=hide HR
 have HM:Hid (∀W w2,Below w.heap.size w W→GrpPost W ρ gb C now' l' w2→∃ρ',Mid w2 ρ' wb sdv last sv iv hv m1 m2 m3 Ls Li Lh sb gb yb C now' l' time rs P wv fv∧Frame w ρ w2 ρ'∧∀k,w.heap.size≤k→k<W.heap.size→ρ' k=0):=fun W w2 hb hp=>toMid hL hS hf hb hp
 have ht0:Hid (¬mine ρ sb):=fun h=>by have:=hS.tag;unfold mine at h;omega
 have ht1:Hid (¬mine ρ w.heap.size):=fun h=>by have:=hf _ (Nat.le_refl w.heap.size);unfold mine at h;omega
 have HE:Hid (∀w',(∃ρ' now2 time2 l2 rs2 P2,LawAt w' ρ' wb sdv last sv iv hv m1 m2 m3 Ls Li Lh∧Side w' ρ' sb gb yb C now2 time2 l2 rs2 P2 wv fv∧Fits w' ρ'∧Frame w ρ w' ρ'∧P2.length≤P.length+1∧Rel C now2 time2 l2 P2 rs2 wv ((N+1:Nat):Int))→St w0 K wb sb gb yb C sdv (N+1) w'):=by
  rintro w' ⟨ρ',now2,time2,l2,rs2,P2,a1,a2,a3,a4,a5,a6⟩
  obtain ⟨b1,b2,b3⟩:=below_frame hBb hB0 hBs a4
  exact ⟨ρ',now2,time2,l2,rs2,P2,wv,fv,last,sv,iv,hv,m1,m2,m3,Ls,Li,Lh,a1,a2,a3,b2,b1,b3,by omega,by omega,by omega,by omega,hn5,a6,by omega⟩
 have HI:=hide hI
 clear hL hS hf hB0 hBb hBs hn1 hn2 hn3 hn4 hn5 hn7 hI
 obtain ⟨kk,oa,ob,os,olost,owh⟩:=o
 simp only at ho
 subst ho
 simp only at HP HR
 unfold Opn.arr
 simp only
 go_enter Tryz.func69,Tryz.ntmps69
 go_wp2
 have hN:=heap_alloc_new w (.cells #[.int .i64 1,.int .i64 oa,.int .i64 ob,.string os,.bool olost,.bool owh] 48)
 have HBa:Hid (Below w.heap.size w (w.alloc (.cells #[.int .i64 1,.int .i64 oa,.int .i64 ob,.string os,.bool olost,.bool owh] 48))):=(Below.refl _ w).alloc (Nat.le_refl _) _
 have hsz:(w.alloc (.cells #[.int .i64 1,.int .i64 oa,.int .i64 ob,.string os,.bool olost,.bool owh] 48)).heap.size=w.heap.size+1:=by simp
 generalize w.alloc (.cells #[.int .i64 1,.int .i64 oa,.int .i64 ob,.string os,.bool olost,.bool owh] 48)=V at *
 have o1:V.cell? ⟨w.heap.size,1,none⟩=some (.int .i64 oa):=cell_of hN 1
 have o2:V.cell? ⟨w.heap.size,2,none⟩=some (.int .i64 ob):=cell_of hN 2
 have o3:V.cell? ⟨w.heap.size,3,none⟩=some (.string os):=cell_of hN 3
 have v0:=((uh HBa).cell (p:=⟨sb,0,none⟩) hsl).trans s0
 have v1:=((uh HBa).cell (p:=⟨sb,1,none⟩) hsl).trans s1
 clear s0 s1 hN
 have HB1:Hid (∀q,Below w.heap.size w (V.drewN q)):=fun q=>⟨(uh HBa).os,(uh HBa).tape,(uh HBa).output,(uh HBa).size,(uh HBa).block⟩
 go_region_held3 (fun w'=>w'.cell? ⟨sb,0,none⟩=some (.pointer (some ⟨gb,0,none⟩))∧w'.cell? ⟨w.heap.size,1,none⟩=some (.int .i64 oa)∧w'.cell? ⟨w.heap.size,2,none⟩=some (.int .i64 ob)∧w'.cell? ⟨w.heap.size,3,none⟩=some (.string os))
  (first | go_keep | (go_split_ands;refine ⟨?_,?_,?_,?_⟩ <;> first | (rw [hkp.cell (show sb<V.heap.size by omega) (uh ht0)];assumption) | (rw [hkp.cell (show w.heap.size<V.heap.size by omega) (uh ht1)];assumption)))
  ((go_at_call 98;refine (uh HP _ (uh HB1 _)).mono ?_;rintro e w2 ⟨rfl,hpost⟩;have hkp:=hpost.choose_spec.choose_spec.choose_spec.2.2.1))
 obtain ⟨ρ2,hmid,hfr,hz⟩:=uh HM _ _ (uh HB1 _) hpost
 have w1:=(hkp.cell (p:=⟨sb,1,none⟩) (show sb<V.heap.size by omega) (uh ht0)).trans v1
 have q1:=(hkp.cell (p:=⟨w.heap.size,1,none⟩) (show w.heap.size<V.heap.size by omega) (uh ht1)).trans o1
 have q2:=(hkp.cell (p:=⟨w.heap.size,2,none⟩) (show w.heap.size<V.heap.size by omega) (uh ht1)).trans o2
 have q3:=(hkp.cell (p:=⟨w.heap.size,3,none⟩) (show w.heap.size<V.heap.size by omega) (uh ht1)).trans o3
 have hw2:w.heap.size<w2.heap.size:=by have:V.heap.size≤w2.heap.size:=hkp.size;omega
 have ht2:Hid (¬theirs ρ2 sb):=fun h=>by have:=hmid.tag;unfold theirs at h;omega
 have ht3:Hid (¬theirs ρ2 w.heap.size):=fun h=>by have:=hz w.heap.size (Nat.le_refl _) (show w.heap.size<V.heap.size by omega);unfold theirs at h;omega
 have HMid:=hide hmid
 have HFr:=hide hfr
 clear hpost hkp hmid hfr hz v0 v1 o1 o2 o3
 have HB2:Hid (∀q,Below w2.heap.size w2 (w2.drewN q)):=fun q=>⟨rfl,rfl,rfl,Nat.le_refl _,fun _ _=>rfl⟩
 go_wp2
 go_region_held3 (fun w'=>w'.cell? ⟨sb,1,none⟩=some (.pointer (some ⟨yb,0,none⟩))∧w'.cell? ⟨w.heap.size,1,none⟩=some (.int .i64 oa)∧w'.cell? ⟨w.heap.size,2,none⟩=some (.int .i64 ob)∧w'.cell? ⟨w.heap.size,3,none⟩=some (.string os))
  (first | go_keep | (go_split_ands;refine ⟨?_,?_,?_,?_⟩ <;> first | (rw [hkq.cell (show sb<w2.heap.size by omega) (uh ht2)];assumption) | (rw [hkq.cell (show w.heap.size<w2.heap.size by omega) (uh ht3)];assumption)))
  ((go_at_call 99;refine (uh HR _ ρ2 ((uh HMid).drawn (uh HB2 _)).1 ((uh HMid).drawn (uh HB2 _)).2).mono ?_;rintro e w3 ⟨rfl,rs',P',hpost,h1,h2,h3,h4⟩;have hkq:=hpost.choose_spec.choose_spec.choose_spec.2.1))
 have HEnd:Hid (St w0 K wb sb gb yb C sdv (N+1) w3):=by
  obtain ⟨ρ3,a1,a2,a3,a4⟩:=fromMid (uh HMid) (uh HB2 _) hpost h1 (uh HI) h2
  exact uh HE w3 ⟨ρ3,_,_,_,_,_,a1,a2,a3,(uh HFr).trans a4,h3,h4⟩
 clear hpost hkq h1 h2 h3 h4 w1 q1 q2 q3
 go_wp2
 go_ret
 exact ⟨rfl,uh HEnd⟩
set_option maxRecDepth 100000 in
set_option maxHeartbeats 8000000 in
theorem log_split {w0 w:World} {K:Nat→Prop} {wb sb gb yb:Nat} {C:Cfg} {sdv:Value} {N:Nat} {ρ:Nat→Nat} {last:Int} {sv iv hv m1 m2 m3:Value} {Ls Li Lh:List Ke} {now now':Rest} {time:Int} {l l':List Sh} {rs:List Rf} {P:List Pt} {wv:Wks} {fv:Value} (hL:LawAt w ρ wb sdv last sv iv hv m1 m2 m3 Ls Li Lh) (hS:Side w ρ sb gb yb C now time l rs P wv fv) (hf:Fits w ρ)
 (hB0:∀k,K k→ρ k=0) (hBb:Keeps (fun k=>¬K k) w0 w) (hBs:∀k,K k→k<w0.heap.size) (hn1:P.length≤N) (hn2:Li.length≤64*N) (hn3:Ls.length≤4*N) (hn4:-(17*(N:Int))≤last) (hn5:last≤0) (hn7:Lh.length≤4*N) (hI:Inv l') (o:Opn) (ho:o.k=2) (p1 p2:Int)
 (HP:∀W,Below w.heap.size w W→Calls Tryz.prog 100 #[.pointer (some ⟨gb,0,none⟩),.int .i64 o.a,.int .i64 o.b] W fun e w'=>e=.returned (.tuple #[.int .i64 p1,.int .i64 p2])∧GrpPost W ρ gb C now' l' w')
 (HR:∀W ρ2,(∃sv lv,RefAt W ρ2 yb C time rs P wv fv sv lv)→Fits W ρ2→Calls Tryz.prog 101 #[.pointer (some ⟨yb,0,none⟩),.int .i64 o.a,.int .i64 o.b] W (RefMoved W ρ2 yb C time rs P l' wv fv (.tuple #[.int .i64 p1,.int .i64 p2]) (fun rs' P'=>Rel C now' time l' P' rs' wv ((N+1:Nat):Int)))) :
 Calls Tryz.prog 69 #[.pointer (some ⟨wb,0,none⟩),.pointer (some ⟨sb,0,none⟩),.agg o.arr] w fun e w'=>e=.returned (.bool true)∧St w0 K wb sb gb yb C sdv (N+1) w':=by
 have hsl:=lt_of_heap hS.blk
 have s0:w.cell? ⟨sb,0,none⟩=some (.pointer (some ⟨gb,0,none⟩)):=cell_of hS.blk 0
 have s1:w.cell? ⟨sb,1,none⟩=some (.pointer (some ⟨yb,0,none⟩)):=cell_of hS.blk 1
 have HP:=hide HP
 have HR:=hide HR
 have HM:Hid (∀W w2,Below w.heap.size w W→GrpPost W ρ gb C now' l' w2→∃ρ',Mid w2 ρ' wb sdv last sv iv hv m1 m2 m3 Ls Li Lh sb gb yb C now' l' time rs P wv fv∧Frame w ρ w2 ρ'∧∀k,w.heap.size≤k→k<W.heap.size→ρ' k=0):=fun W w2 hb hp=>toMid hL hS hf hb hp
 have ht0:Hid (¬mine ρ sb):=fun h=>by have:=hS.tag;unfold mine at h;omega
 have ht1:Hid (¬mine ρ w.heap.size):=fun h=>by have:=hf _ (Nat.le_refl w.heap.size);unfold mine at h;omega
 have HE:Hid (∀w',(∃ρ' now2 time2 l2 rs2 P2,LawAt w' ρ' wb sdv last sv iv hv m1 m2 m3 Ls Li Lh∧Side w' ρ' sb gb yb C now2 time2 l2 rs2 P2 wv fv∧Fits w' ρ'∧Frame w ρ w' ρ'∧P2.length≤P.length+1∧Rel C now2 time2 l2 P2 rs2 wv ((N+1:Nat):Int))→St w0 K wb sb gb yb C sdv (N+1) w'):=by
  rintro w' ⟨ρ',now2,time2,l2,rs2,P2,a1,a2,a3,a4,a5,a6⟩
  obtain ⟨b1,b2,b3⟩:=below_frame hBb hB0 hBs a4
  exact ⟨ρ',now2,time2,l2,rs2,P2,wv,fv,last,sv,iv,hv,m1,m2,m3,Ls,Li,Lh,a1,a2,a3,b2,b1,b3,by omega,by omega,by omega,by omega,hn5,a6,by omega⟩
 have HI:=hide hI
 clear hL hS hf hB0 hBb hBs hn1 hn2 hn3 hn4 hn5 hn7 hI
 obtain ⟨kk,oa,ob,os,olost,owh⟩:=o
 simp only at ho
 subst ho
 simp only at HP HR
 unfold Opn.arr
 simp only
 go_enter Tryz.func69,Tryz.ntmps69
 go_wp2
 have hN:=heap_alloc_new w (.cells #[.int .i64 2,.int .i64 oa,.int .i64 ob,.string os,.bool olost,.bool owh] 48)
 have HBa:Hid (Below w.heap.size w (w.alloc (.cells #[.int .i64 2,.int .i64 oa,.int .i64 ob,.string os,.bool olost,.bool owh] 48))):=(Below.refl _ w).alloc (Nat.le_refl _) _
 have hsz:(w.alloc (.cells #[.int .i64 2,.int .i64 oa,.int .i64 ob,.string os,.bool olost,.bool owh] 48)).heap.size=w.heap.size+1:=by simp
 generalize w.alloc (.cells #[.int .i64 2,.int .i64 oa,.int .i64 ob,.string os,.bool olost,.bool owh] 48)=V at *
 have o1:V.cell? ⟨w.heap.size,1,none⟩=some (.int .i64 oa):=cell_of hN 1
 have o2:V.cell? ⟨w.heap.size,2,none⟩=some (.int .i64 ob):=cell_of hN 2
 have o3:V.cell? ⟨w.heap.size,3,none⟩=some (.string os):=cell_of hN 3
 have v0:=((uh HBa).cell (p:=⟨sb,0,none⟩) hsl).trans s0
 have v1:=((uh HBa).cell (p:=⟨sb,1,none⟩) hsl).trans s1
 clear s0 s1 hN
 have HB1:Hid (∀q,Below w.heap.size w (V.drewN q)):=fun q=>⟨(uh HBa).os,(uh HBa).tape,(uh HBa).output,(uh HBa).size,(uh HBa).block⟩
 go_region_held3 (fun w'=>w'.cell? ⟨sb,0,none⟩=some (.pointer (some ⟨gb,0,none⟩))∧w'.cell? ⟨w.heap.size,1,none⟩=some (.int .i64 oa)∧w'.cell? ⟨w.heap.size,2,none⟩=some (.int .i64 ob))
  (first | go_keep | (go_split_ands;refine ⟨?_,?_,?_⟩ <;> first | (rw [hkp.cell (show sb<V.heap.size by omega) (uh ht0)];assumption) | (rw [hkp.cell (show w.heap.size<V.heap.size by omega) (uh ht1)];assumption)))
  ((go_at_call 100;refine (uh HP _ (uh HB1 _)).mono ?_;rintro e w2 ⟨rfl,hpost⟩;have hkp:=hpost.choose_spec.choose_spec.choose_spec.2.2.1))
 obtain ⟨ρ2,hmid,hfr,hz⟩:=uh HM _ _ (uh HB1 _) hpost
 have w1:=(hkp.cell (p:=⟨sb,1,none⟩) (show sb<V.heap.size by omega) (uh ht0)).trans v1
 have q1:=(hkp.cell (p:=⟨w.heap.size,1,none⟩) (show w.heap.size<V.heap.size by omega) (uh ht1)).trans o1
 have q2:=(hkp.cell (p:=⟨w.heap.size,2,none⟩) (show w.heap.size<V.heap.size by omega) (uh ht1)).trans o2
 have q3:=(hkp.cell (p:=⟨w.heap.size,3,none⟩) (show w.heap.size<V.heap.size by omega) (uh ht1)).trans o3
 have hw2:w.heap.size<w2.heap.size:=by have:V.heap.size≤w2.heap.size:=hkp.size;omega
 have ht2:Hid (¬theirs ρ2 sb):=fun h=>by have:=hmid.tag;unfold theirs at h;omega
 have ht3:Hid (¬theirs ρ2 w.heap.size):=fun h=>by have:=hz w.heap.size (Nat.le_refl _) (show w.heap.size<V.heap.size by omega);unfold theirs at h;omega
 have HMid:=hide hmid
 have HFr:=hide hfr
 clear hpost hkp hmid hfr hz v0 v1 o1 o2 o3
 have HB2:Hid (∀q,Below w2.heap.size w2 (w2.drewN q)):=fun q=>⟨rfl,rfl,rfl,Nat.le_refl _,fun _ _=>rfl⟩
 go_wp2
 go_region_held3 (fun w'=>w'.cell? ⟨sb,1,none⟩=some (.pointer (some ⟨yb,0,none⟩))∧w'.cell? ⟨w.heap.size,1,none⟩=some (.int .i64 oa)∧w'.cell? ⟨w.heap.size,2,none⟩=some (.int .i64 ob))
  (first | go_keep | (go_split_ands;refine ⟨?_,?_,?_⟩ <;> first | (rw [hkq.cell (show sb<w2.heap.size by omega) (uh ht2)];assumption) | (rw [hkq.cell (show w.heap.size<w2.heap.size by omega) (uh ht3)];assumption)))
  ((go_at_call 101;refine (uh HR _ ρ2 ((uh HMid).drawn (uh HB2 _)).1 ((uh HMid).drawn (uh HB2 _)).2).mono ?_;rintro e w3 ⟨rfl,rs',P',hpost,h1,h2,h3,h4⟩;have hkq:=hpost.choose_spec.choose_spec.choose_spec.2.1))
 have HEnd:Hid (St w0 K wb sb gb yb C sdv (N+1) w3):=by
  obtain ⟨ρ3,a1,a2,a3,a4⟩:=fromMid (uh HMid) (uh HB2 _) hpost h1 (uh HI) h2
  exact uh HE w3 ⟨ρ3,_,_,_,_,_,a1,a2,a3,(uh HFr).trans a4,h3,h4⟩
 clear hpost hkq h1 h2 h3 h4 w1 q1 q2 q3
 go_wp2
 go_ret
 exact ⟨rfl,uh HEnd⟩
set_option maxRecDepth 100000 in
set_option maxHeartbeats 8000000 in
theorem log_merge {w0 w:World} {K:Nat→Prop} {wb sb gb yb:Nat} {C:Cfg} {sdv:Value} {N:Nat} {ρ:Nat→Nat} {last:Int} {sv iv hv m1 m2 m3:Value} {Ls Li Lh:List Ke} {now now':Rest} {time:Int} {l l':List Sh} {rs:List Rf} {P:List Pt} {wv:Wks} {fv:Value} (hL:LawAt w ρ wb sdv last sv iv hv m1 m2 m3 Ls Li Lh) (hS:Side w ρ sb gb yb C now time l rs P wv fv) (hf:Fits w ρ)
 (hB0:∀k,K k→ρ k=0) (hBb:Keeps (fun k=>¬K k) w0 w) (hBs:∀k,K k→k<w0.heap.size) (hn1:P.length≤N) (hn2:Li.length≤64*N) (hn3:Ls.length≤4*N) (hn4:-(17*(N:Int))≤last) (hn5:last≤0) (hn7:Lh.length≤4*N) (hI:Inv l') (o:Opn) (ho:o.k=3) (p1 p2:Int)
 (HP:∀W,Below w.heap.size w W→Calls Tryz.prog 102 #[.pointer (some ⟨gb,0,none⟩),.int .i64 o.a,.int .i64 o.b] W fun e w'=>e=.returned (.tuple #[.int .i64 p1,.int .i64 p2])∧GrpPost W ρ gb C now' l' w')
 (HR:∀W ρ2,(∃sv lv,RefAt W ρ2 yb C time rs P wv fv sv lv)→Fits W ρ2→Calls Tryz.prog 103 #[.pointer (some ⟨yb,0,none⟩),.int .i64 o.a,.int .i64 o.b] W (RefMoved W ρ2 yb C time rs P l' wv fv (.tuple #[.int .i64 p1,.int .i64 p2]) (fun rs' P'=>Rel C now' time l' P' rs' wv ((N+1:Nat):Int)))) :
 Calls Tryz.prog 69 #[.pointer (some ⟨wb,0,none⟩),.pointer (some ⟨sb,0,none⟩),.agg o.arr] w fun e w'=>e=.returned (.bool true)∧St w0 K wb sb gb yb C sdv (N+1) w':=by
 have hsl:=lt_of_heap hS.blk
 have s0:w.cell? ⟨sb,0,none⟩=some (.pointer (some ⟨gb,0,none⟩)):=cell_of hS.blk 0
 have s1:w.cell? ⟨sb,1,none⟩=some (.pointer (some ⟨yb,0,none⟩)):=cell_of hS.blk 1
 have HP:=hide HP
 have HR:=hide HR
 have HM:Hid (∀W w2,Below w.heap.size w W→GrpPost W ρ gb C now' l' w2→∃ρ',Mid w2 ρ' wb sdv last sv iv hv m1 m2 m3 Ls Li Lh sb gb yb C now' l' time rs P wv fv∧Frame w ρ w2 ρ'∧∀k,w.heap.size≤k→k<W.heap.size→ρ' k=0):=fun W w2 hb hp=>toMid hL hS hf hb hp
 have ht0:Hid (¬mine ρ sb):=fun h=>by have:=hS.tag;unfold mine at h;omega
 have ht1:Hid (¬mine ρ w.heap.size):=fun h=>by have:=hf _ (Nat.le_refl w.heap.size);unfold mine at h;omega
 have HE:Hid (∀w',(∃ρ' now2 time2 l2 rs2 P2,LawAt w' ρ' wb sdv last sv iv hv m1 m2 m3 Ls Li Lh∧Side w' ρ' sb gb yb C now2 time2 l2 rs2 P2 wv fv∧Fits w' ρ'∧Frame w ρ w' ρ'∧P2.length≤P.length+1∧Rel C now2 time2 l2 P2 rs2 wv ((N+1:Nat):Int))→St w0 K wb sb gb yb C sdv (N+1) w'):=by
  rintro w' ⟨ρ',now2,time2,l2,rs2,P2,a1,a2,a3,a4,a5,a6⟩
  obtain ⟨b1,b2,b3⟩:=below_frame hBb hB0 hBs a4
  exact ⟨ρ',now2,time2,l2,rs2,P2,wv,fv,last,sv,iv,hv,m1,m2,m3,Ls,Li,Lh,a1,a2,a3,b2,b1,b3,by omega,by omega,by omega,by omega,hn5,a6,by omega⟩
 have HI:=hide hI
 clear hL hS hf hB0 hBb hBs hn1 hn2 hn3 hn4 hn5 hn7 hI
 obtain ⟨kk,oa,ob,os,olost,owh⟩:=o
 simp only at ho
 subst ho
 simp only at HP HR
 unfold Opn.arr
 simp only
 go_enter Tryz.func69,Tryz.ntmps69
 go_wp2
 have hN:=heap_alloc_new w (.cells #[.int .i64 3,.int .i64 oa,.int .i64 ob,.string os,.bool olost,.bool owh] 48)
 have HBa:Hid (Below w.heap.size w (w.alloc (.cells #[.int .i64 3,.int .i64 oa,.int .i64 ob,.string os,.bool olost,.bool owh] 48))):=(Below.refl _ w).alloc (Nat.le_refl _) _
 have hsz:(w.alloc (.cells #[.int .i64 3,.int .i64 oa,.int .i64 ob,.string os,.bool olost,.bool owh] 48)).heap.size=w.heap.size+1:=by simp
 generalize w.alloc (.cells #[.int .i64 3,.int .i64 oa,.int .i64 ob,.string os,.bool olost,.bool owh] 48)=V at *
 have o1:V.cell? ⟨w.heap.size,1,none⟩=some (.int .i64 oa):=cell_of hN 1
 have o2:V.cell? ⟨w.heap.size,2,none⟩=some (.int .i64 ob):=cell_of hN 2
 have o3:V.cell? ⟨w.heap.size,3,none⟩=some (.string os):=cell_of hN 3
 have v0:=((uh HBa).cell (p:=⟨sb,0,none⟩) hsl).trans s0
 have v1:=((uh HBa).cell (p:=⟨sb,1,none⟩) hsl).trans s1
 clear s0 s1 hN
 have HB1:Hid (∀q,Below w.heap.size w (V.drewN q)):=fun q=>⟨(uh HBa).os,(uh HBa).tape,(uh HBa).output,(uh HBa).size,(uh HBa).block⟩
 go_region_held3 (fun w'=>w'.cell? ⟨sb,0,none⟩=some (.pointer (some ⟨gb,0,none⟩))∧w'.cell? ⟨w.heap.size,1,none⟩=some (.int .i64 oa)∧w'.cell? ⟨w.heap.size,2,none⟩=some (.int .i64 ob))
  (first | go_keep | (go_split_ands;refine ⟨?_,?_,?_⟩ <;> first | (rw [hkp.cell (show sb<V.heap.size by omega) (uh ht0)];assumption) | (rw [hkp.cell (show w.heap.size<V.heap.size by omega) (uh ht1)];assumption)))
  ((go_at_call 102;refine (uh HP _ (uh HB1 _)).mono ?_;rintro e w2 ⟨rfl,hpost⟩;have hkp:=hpost.choose_spec.choose_spec.choose_spec.2.2.1))
 obtain ⟨ρ2,hmid,hfr,hz⟩:=uh HM _ _ (uh HB1 _) hpost
 have w1:=(hkp.cell (p:=⟨sb,1,none⟩) (show sb<V.heap.size by omega) (uh ht0)).trans v1
 have q1:=(hkp.cell (p:=⟨w.heap.size,1,none⟩) (show w.heap.size<V.heap.size by omega) (uh ht1)).trans o1
 have q2:=(hkp.cell (p:=⟨w.heap.size,2,none⟩) (show w.heap.size<V.heap.size by omega) (uh ht1)).trans o2
 have q3:=(hkp.cell (p:=⟨w.heap.size,3,none⟩) (show w.heap.size<V.heap.size by omega) (uh ht1)).trans o3
 have hw2:w.heap.size<w2.heap.size:=by have:V.heap.size≤w2.heap.size:=hkp.size;omega
 have ht2:Hid (¬theirs ρ2 sb):=fun h=>by have:=hmid.tag;unfold theirs at h;omega
 have ht3:Hid (¬theirs ρ2 w.heap.size):=fun h=>by have:=hz w.heap.size (Nat.le_refl _) (show w.heap.size<V.heap.size by omega);unfold theirs at h;omega
 have HMid:=hide hmid
 have HFr:=hide hfr
 clear hpost hkp hmid hfr hz v0 v1 o1 o2 o3
 have HB2:Hid (∀q,Below w2.heap.size w2 (w2.drewN q)):=fun q=>⟨rfl,rfl,rfl,Nat.le_refl _,fun _ _=>rfl⟩
 go_wp2
 go_region_held3 (fun w'=>w'.cell? ⟨sb,1,none⟩=some (.pointer (some ⟨yb,0,none⟩))∧w'.cell? ⟨w.heap.size,1,none⟩=some (.int .i64 oa)∧w'.cell? ⟨w.heap.size,2,none⟩=some (.int .i64 ob))
  (first | go_keep | (go_split_ands;refine ⟨?_,?_,?_⟩ <;> first | (rw [hkq.cell (show sb<w2.heap.size by omega) (uh ht2)];assumption) | (rw [hkq.cell (show w.heap.size<w2.heap.size by omega) (uh ht3)];assumption)))
  ((go_at_call 103;refine (uh HR _ ρ2 ((uh HMid).drawn (uh HB2 _)).1 ((uh HMid).drawn (uh HB2 _)).2).mono ?_;rintro e w3 ⟨rfl,rs',P',hpost,h1,h2,h3,h4⟩;have hkq:=hpost.choose_spec.choose_spec.choose_spec.2.1))
 have HEnd:Hid (St w0 K wb sb gb yb C sdv (N+1) w3):=by
  obtain ⟨ρ3,a1,a2,a3,a4⟩:=fromMid (uh HMid) (uh HB2 _) hpost h1 (uh HI) h2
  exact uh HE w3 ⟨ρ3,_,_,_,_,_,a1,a2,a3,(uh HFr).trans a4,h3,h4⟩
 clear hpost hkq h1 h2 h3 h4 w1 q1 q2 q3
 go_wp2
 go_ret
 exact ⟨rfl,uh HEnd⟩
theorem St.below {w0 w w':World} {K:Nat→Prop} {wb sb gb yb:Nat} {C:Cfg} {sdv:Value} {N:Nat} (h:St w0 K wb sb gb yb C sdv N w) (hb:Below w.heap.size w w'):St w0 K wb sb gb yb C sdv N w':=by
 obtain ⟨ρ,now,time,l,rs,P,wv,fv,last,sv,iv,hv,m1,m2,m3,Ls,Li,Lh,hL,hS,hf,hB0,hBb,hBs,hn1,hn2,hn3,hn4,hn5,hn6,hn7⟩:=h
 exact ⟨ρ,now,time,l,rs,P,wv,fv,last,sv,iv,hv,m1,m2,m3,Ls,Li,Lh,hL.below hb,hS.keeps (Keeps.of_below hb) (fun k hk=>Or.inr (Or.inr hk)) (fun _ _=>rfl),hf.below hb.size,hB0,keepsK hBb hb,hBs,by omega,by omega,by omega,by omega,hn5,hn6,hn7⟩
theorem St.mono {w0 w:World} {K:Nat→Prop} {wb sb gb yb:Nat} {C:Cfg} {sdv:Value} {N M:Nat} (h:St w0 K wb sb gb yb C sdv N w) (hM:N≤M):St w0 K wb sb gb yb C sdv M w:=by
 obtain ⟨ρ,now,time,l,rs,P,wv,fv,last,sv,iv,hv,m1,m2,m3,Ls,Li,Lh,hL,hS,hf,hB0,hBb,hBs,hn1,hn2,hn3,hn4,hn5,hn6,hn7⟩:=h
 exact ⟨ρ,now,time,l,rs,P,wv,fv,last,sv,iv,hv,m1,m2,m3,Ls,Li,Lh,hL,hS,hf,hB0,hBb,hBs,by omega,by omega,by omega,by omega,hn5,hn6.mono (by omega),by omega⟩
set_option maxRecDepth 100000 in
set_option maxHeartbeats 4000000 in
theorem log_none {w0 w:World} {K:Nat→Prop} {wb sb gb yb:Nat} {C:Cfg} {sdv:Value} {N:Nat} (h:St w0 K wb sb gb yb C sdv N w) (o:Opn) (h1:¬o.k=1) (h2:¬o.k=2) (h3:¬o.k=3) (h4:¬o.k=4) (h5:¬o.k=5) :
 Calls Tryz.prog 69 #[.pointer (some ⟨wb,0,none⟩),.pointer (some ⟨sb,0,none⟩),.agg o.arr] w fun e w'=>e=.returned (.bool true)∧St w0 K wb sb gb yb C sdv (N+1) w':=by
 have HE:Hid (∀W,Below w.heap.size w W→St w0 K wb sb gb yb C sdv (N+1) W):=fun W hb=>(h.below hb).mono (by omega)
 clear h
 obtain ⟨kk,oa,ob,os,olost,owh⟩:=o
 simp only at h1 h2 h3 h4 h5
 unfold Opn.arr
 simp only
 go_enter Tryz.func69,Tryz.ntmps69
 go_wp2
 go_ret
 exact ⟨rfl,uh HE _ ((Below.refl _ w).alloc (Nat.le_refl _) _)⟩
set_option maxRecDepth 100000 in
set_option maxHeartbeats 4000000 in
theorem log_shards {w0 w:World} {K:Nat→Prop} {wb sb gb yb:Nat} {C:Cfg} {sdv:Value} {N:Nat} (h:St w0 K wb sb gb yb C sdv N w) (hN:N≤600000) (o:Opn) (ho:o.k=4) :
 Calls Tryz.prog 69 #[.pointer (some ⟨wb,0,none⟩),.pointer (some ⟨sb,0,none⟩),.agg o.arr] w fun e w'=>e=.returned (.bool true)∧St w0 K wb sb gb yb C sdv (N+1) w':=by
 obtain ⟨ρ,now,time,l,rs,P,wv,fv,last,sv,iv,hv,m1,m2,m3,Ls,Li,Lh,hL,hS,hf,hB0,hBb,hBs,hn1,hn2,hn3,hn4,hn5,hn6,hn7⟩:=h
 have HA:Hid (∀W,Below w.heap.size w W→Calls Tryz.prog 12 #[.pointer (some ⟨wb,0,none⟩),.pointer (some ⟨sb,0,none⟩)] W fun e w'=>e=.returned (.bool true)∧St w0 K wb sb gb yb C sdv (N+1) w'):=fun W hb=>by
  refine (shardsAre_any (hL.below hb) (hS.keeps (Keeps.of_below hb) (fun k hk=>Or.inr (Or.inr hk)) (fun _ _=>rfl)) (hf.below hb.size) (by omega) (by omega) (by omega) (by omega) (by omega)).mono ?_
  rintro e w' ⟨rfl,ρ',last',sv',iv',m1',m2',Ls',Li',a1,a2,a3,a4,a5,a6,a7,a8⟩
  obtain ⟨b1,b2,b3⟩:=below_frame (keepsK hBb hb) hB0 hBs a8
  exact ⟨rfl,ρ',now,time,l,rs,P,wv,fv,last',sv',iv',hv,m1',m2',m3,Ls',Li',Lh,a1,a2,a3,b2,b1,b3,by omega,by omega,by omega,by omega,by omega,hn6.mono (by omega),by omega⟩
 clear hL hS hf hB0 hBb hBs hn1 hn2 hn3 hn4 hn5 hn6 hn7
 obtain ⟨kk,oa,ob,os,olost,owh⟩:=o
 simp only at ho
 subst ho
 unfold Opn.arr
 simp only
 go_enter Tryz.func69,Tryz.ntmps69
 go_wp2_with (go_at_call 12;refine (uh HA _ ((Below.refl _ w).alloc (Nat.le_refl _) _)).mono ?_;rintro e w' ⟨rfl,hp⟩;have HP:=hide hp;clear hp)
 go_ret
 exact ⟨rfl,uh HP⟩
set_option maxRecDepth 100000 in
set_option maxHeartbeats 4000000 in
theorem log_tick {w0 w:World} {K:Nat→Prop} {wb sb gb yb:Nat} {C:Cfg} {sdv:Value} {N:Nat} (h:St w0 K wb sb gb yb C sdv N w) (hN:N≤600000) (o:Opn) (ho:o.k=5) :
 Calls Tryz.prog 69 #[.pointer (some ⟨wb,0,none⟩),.pointer (some ⟨sb,0,none⟩),.agg o.arr] w fun e w'=>e=.returned (.bool true)∧St w0 K wb sb gb yb C sdv (N+1) w':=by
 obtain ⟨ρ,now,time,l,rs,P,wv,fv,last,sv,iv,hv,m1,m2,m3,Ls,Li,Lh,hL,hS,hf,hB0,hBb,hBs,hn1,hn2,hn3,hn4,hn5,hn6,hn7⟩:=h
 have hsl:=lt_of_heap hS.blk
 have s0:w.cell? ⟨sb,0,none⟩=some (.pointer (some ⟨gb,0,none⟩)):=cell_of hS.blk 0
 have hI:=hS.inv
 have HP:Hid (∀W,Below w.heap.size w W→Calls Tryz.prog 104 #[.pointer (some ⟨gb,0,none⟩)] W fun e w'=>e=.returned (.tuple #[])∧GrpPost W ρ gb C { now with t:=wrap64 (now.t+1) } l w'):=fun W hb =>
  gTick_any W ρ gb C now l (hS.keeps (Keeps.of_below hb) (fun k hk=>Or.inr (Or.inr hk)) (fun _ _=>rfl)).grp (hf.below hb.size) hI
 have HR:Hid (∀(W:World) (ρ2:Nat→Nat),(∃sv lv,RefAt W ρ2 yb C time rs P wv fv sv lv)→Fits W ρ2→Calls Tryz.prog 105 #[.pointer (some ⟨yb,0,none⟩)] W fun e w'=>e=.returned (.tuple #[])∧RefPost W ρ2 yb C (wrap64 (time+1)) rs P wv fv w'):=fun W ρ2 ⟨sv,lv,R⟩ hf2=>refTick_any R hf2
 have HM:Hid (∀W w2,Below w.heap.size w W→GrpPost W ρ gb C { now with t:=wrap64 (now.t+1) } l w2→∃ρ',Mid w2 ρ' wb sdv last sv iv hv m1 m2 m3 Ls Li Lh sb gb yb C { now with t:=wrap64 (now.t+1) } l time rs P wv fv∧Frame w ρ w2 ρ'∧∀k,w.heap.size≤k→k<W.heap.size→ρ' k=0):=fun W w2 hb hp=>toMid hL hS hf hb hp
 have HE:Hid (∀w',(∃ρ' now2 time2 l2 rs2 P2,LawAt w' ρ' wb sdv last sv iv hv m1 m2 m3 Ls Li Lh∧Side w' ρ' sb gb yb C now2 time2 l2 rs2 P2 wv fv∧Fits w' ρ'∧Frame w ρ w' ρ'∧P2.length≤P.length+1∧Rel C now2 time2 l2 P2 rs2 wv ((N+1:Nat):Int))→St w0 K wb sb gb yb C sdv (N+1) w'):=by
  rintro w' ⟨ρ',now2,time2,l2,rs2,P2,a1,a2,a3,a4,a5,a6⟩
  obtain ⟨b1,b2,b3⟩:=below_frame hBb hB0 hBs a4
  exact ⟨ρ',now2,time2,l2,rs2,P2,wv,fv,last,sv,iv,hv,m1,m2,m3,Ls,Li,Lh,a1,a2,a3,b2,b1,b3,by omega,by omega,by omega,by omega,hn5,a6,by omega⟩
 have HI:=hide hI
 have HSa:=hide hS.same
 have HPi:=hide hS.pin
 have HRel:=hide (hn6.tick (by omega))
 clear hL hS hf hB0 hBb hBs hn1 hn2 hn3 hn4 hn5 hn6 hn7 hI hN
 obtain ⟨kk,oa,ob,os,olost,owh⟩:=o
 simp only at ho
 subst ho
 unfold Opn.arr
 simp only
 go_enter Tryz.func69,Tryz.ntmps69
 go_wp2_with (go_at_call 104;refine (uh HP _ ((Below.refl _ w).alloc (Nat.le_refl _) _)).mono ?_;rintro e w2 ⟨rfl,hpost⟩;obtain ⟨ρ2,hmid,hfr,hz⟩:=uh HM _ _ ((Below.refl _ w).alloc (Nat.le_refl _) _) hpost;have v1:w2.cell? ⟨sb,1,none⟩=some (.pointer (some ⟨yb,0,none⟩)):=cell_of hmid.blk 1;have HMid:=hide hmid;have HFr:=hide hfr;clear hmid hfr hz hpost)
 refine (uh HR _ ρ2 (uh HMid).ref (uh HMid).fits).mono ?_
 rintro e w3 ⟨rfl,hpost⟩
 have HEnd:Hid (St w0 K wb sb gb yb C sdv (N+1) w3):=by
  obtain ⟨ρ3,a1,a2,a3,a4⟩:=fromMid (uh HMid) (Below.refl _ _) hpost (uh HSa) (uh HI) (uh HPi)
  exact uh HE w3 ⟨ρ3,_,_,_,_,_,a1,a2,a3,(uh HFr).trans a4,by omega,(uh HRel).mono (by omega)⟩
 clear hpost
 go_wp2
 go_ret
 exact ⟨rfl,uh HEnd⟩
end Go.Proofs.YtpnkmnmchdabkaaGreat
