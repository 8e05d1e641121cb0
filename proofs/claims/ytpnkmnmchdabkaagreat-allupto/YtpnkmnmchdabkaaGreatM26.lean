import Derived.Test.YtpnkmnmchdabkaaGreatM24
import Derived.Test.YtpnkmnmchdabkaaGreatHome
import Derived.Test.YtpnkmnmchdabkaaGreatM00
import Derived.Test.YtpnkmnmchdabkaaGreatM25
namespace Go.Proofs.YtpnkmnmchdabkaaGreat
open Go.RowKit
structure En where
 shard:Nat
 place:Nat
 key:ByteArray
 value:Int
 time:Int
def held (E:List En) (k:Nat):Nat:=(E.filter (fun e=>e.shard == k)).length
def enRc (e:En):Rc:=⟨e.key.data.toList,e.value,e.time⟩
def upF (l:List Sh):Nat→Nat→Nat→Prop
 | 0,a,b=>a=b
 | f+1,a,b=>∃(c:Nat) (s:Sh),l[b]?=some s∧(c:Int) ∈ s.par∧upF l f a c
def Up (l:List Sh) (a b:Nat):Prop:=∃f,upF l f a b
theorem Up.refl (l:List Sh) (a:Nat):Up l a a:=⟨0,rfl⟩
theorem Up.step {l:List Sh} {a b c:Nat} {s:Sh} (h:Up l a b) (hc:l[c]?=some s) (hp:(b:Int) ∈ s.par):Up l a c:=by
 obtain ⟨f,h⟩:=h
 exact ⟨f+1,b,s,hc,hp,h⟩
theorem upF_adv {l l':List Sh} (ha:Adv l l'):∀(f a b:Nat),upF l f a b→upF l' f a b
 | 0,_,_,h=>h
 | f+1,a,b,⟨c,s,h1,h2,h3⟩=>by
   obtain ⟨s',g1,g2,_⟩:=ha b s h1
   exact ⟨c,s',g1,by rw [g2];exact h2,upF_adv ha f a c h3⟩
theorem Up.adv {l l':List Sh} (ha:Adv l l') {a b:Nat} (h:Up l a b):Up l' a b:=by
 obtain ⟨f,h⟩:=h
 exact ⟨f,upF_adv ha f a b h⟩
theorem upF_le {l:List Sh} (hI:Inv l):∀(f a b:Nat),upF l f a b→a≤b
 | 0,_,_,h=>by unfold upF at h;omega
 | f+1,a,b,⟨c,s,h1,h2,h3⟩=>by
   have:=upF_le hI f a c h3
   obtain ⟨q,_,e,hq,_⟩:=hI.parR b s h1 _ h2
   omega
theorem Up.le {l:List Sh} (hI:Inv l) {a b:Nat} (h:Up l a b):a≤b:=by
 obtain ⟨f,h⟩:=h
 exact upF_le hI f a b h
theorem upF_fin {l:List Sh} (hI:Inv l) (dn:Nat→Int):∀(f a b:Nat),upF l f a b→a≠b→rdy l dn b=true→fin l dn a=true
 | 0,_,_,h,hn,_=>absurd h hn
 | f+1,a,b,⟨c,s,h1,h2,h3⟩,_,hr=>by
   rw [rdy_is dn h1,List.all_eq_true] at hr
   have hf:fin l dn c=true:=by simpa using hr _ h2
   by_cases e:a=c
   ·subst e;exact hf
   ·obtain ⟨q,t,e1,hq,ht,_⟩:=hI.parR b s h1 _ h2
    have e2:q=c:=by omega
    subst e2
    rw [fin_is hI dn ht,Bool.and_eq_true] at hf
    exact upF_fin hI dn f a q h3 e hf.1
theorem Up.fin {l:List Sh} (hI:Inv l) (dn:Nat→Int) {a b:Nat} (h:Up l a b) (hn:a≠b) (hr:rdy l dn b=true):Go.Proofs.YtpnkmnmchdabkaaGreat.fin l dn a=true:=by
 obtain ⟨f,h⟩:=h
 exact upF_fin hI dn f a b h hn hr
theorem held_take (E:List En) (k i:Nat) (e:En) (h:E[i]?=some e):held (E.take (i+1)) k=held (E.take i) k+if e.shard=k then 1 else 0:=by
 have hi:=(List.getElem?_eq_some_iff.1 h).1
 have he:E[i]=e:=(List.getElem?_eq_some_iff.1 h).2
 unfold held
 rw [List.take_succ_eq_append_getElem hi,List.filter_append,List.length_append,he]
 by_cases hk:e.shard=k <;> simp [hk]
structure EntOk (l:List Sh) (E:List En):Prop where
 lt:∀e ∈ E,e.shard<l.length∧e.key.size≤maxLen
 rl:∀(k:Nat) (s:Sh),l[k]?=some s→(E.filter (fun e=>e.shard == k)).map enRc=s.rl
 pl:∀(i:Nat) (e:En),E[i]?=some e→e.place=held (E.take i) e.shard
 key:∀e ∈ E,keyB e.key=true∧-1000000≤e.value∧e.value≤1000000∧0≤e.time∧e.time≤1000000
 hom:∀e ∈ E,∀(q:Nat) (s:Sh),Home l (hashL e.key.data.toList) q s→Up l e.shard q
 ord:∀(i j:Nat) (e f:En),i<j→E[i]?=some e→E[j]?=some f→e.key=f.key→Up l e.shard f.shard
theorem entOk_nil:EntOk [⟨0,256,true,[],[]⟩] []:=by
 refine ⟨by simp,fun k s hs=>?_,by simp,by simp,by simp,by simp⟩
 match k,hs with
 | 0,hs=>simp at hs;subst hs;rfl
 | k+1,hs=>simp at hs
theorem home_put {l:List Sh} {k:Nat} {x:Sh} (hx:l[k]?=some x) (r:List Rc) {h:Int} {q:Nat} {s:Sh} (hh:Home (l.set k { x with rl:=r }) h q s):∃s',Home l h q s':=by
 have hkl:=(List.getElem?_eq_some_iff.1 hx).1
 obtain ⟨h1,h2,h3⟩:=hh
 have to_:∀{i:Nat} {t:Sh},l[i]?=some t→acc t h=true→i=q:=by
  intro i t ht ha
  by_cases e:k=i
  ·subst e
   rw [hx] at ht
   cases ht
   exact h3 k _ (List.getElem?_set_self hkl) (by rw [acc_iff] at ha ⊢;exact ha)
  ·exact h3 i t (by rw [List.getElem?_set_ne e];exact ht) ha
 by_cases e:k=q
 ·subst e
  rw [List.getElem?_set_self hkl] at h1
  injection h1 with h1
  subst h1
  exact ⟨x,hx,by rw [acc_iff] at h2 ⊢;exact h2,fun j t ht ha=>to_ ht ha⟩
 ·rw [List.getElem?_set_ne e] at h1
  exact ⟨s,h1,h2,fun j t ht ha=>to_ ht ha⟩
theorem EntOk.put {l:List Sh} {E:List En} (h:EntOk l E) {k:Nat} {x:Sh} {key:ByteArray} {v t:Int} (hx:Home l (hashL key.data.toList) k x) (hadv:Adv l (l.set k { x with rl:=x.rl ++ [⟨key.data.toList,v,t⟩] })) (hc:held E k=x.cnt) (hs:key.size≤maxLen) (hk:keyB key=true∧-1000000≤v∧v≤1000000∧0≤t∧t≤1000000) :
 EntOk (l.set k { x with rl:=x.rl ++ [⟨key.data.toList,v,t⟩] }) (E ++ [⟨k,x.cnt,key,v,t⟩]):=by
 have hkl:=(List.getElem?_eq_some_iff.1 hx.1).1
 have hmem:∀{e:En},e ∈ E ++ [⟨k,x.cnt,key,v,t⟩]→e ∈ E∨e=⟨k,x.cnt,key,v,t⟩:=fun he=>by simpa using he
 have hat:∀{i:Nat} {e:En},(E ++ [⟨k,x.cnt,key,v,t⟩])[i]?=some e→(i<E.length∧E[i]?=some e)∨(i=E.length∧e=⟨k,x.cnt,key,v,t⟩):=by
  intro i e he
  by_cases hi:i<E.length
  ·rw [List.getElem?_append_left hi] at he
   exact Or.inl ⟨hi,he⟩
  ·rw [List.getElem?_append_right (by omega)] at he
   have h0:=(List.getElem?_eq_some_iff.1 he).1
   simp at h0
   have e0:i=E.length:=by omega
   subst e0
   simp at he
   exact Or.inr ⟨rfl,he.symm⟩
 refine ⟨fun e he=>?_,fun j s hj=>?_,fun i e he=>?_,fun e he=>?_,fun e he q s hq=>?_,fun i j e f hij hi hj hef=>?_⟩
 ·rw [List.length_set]
  rcases hmem he with he | rfl
  ·exact h.lt e he
  ·exact ⟨hkl,hs⟩
 ·rw [List.filter_append,List.map_append]
  by_cases e:k=j
  ·subst e
   rw [List.getElem?_set_self hkl] at hj
   injection hj with hj
   subst hj
   rw [h.rl k x hx.1]
   simp [enRc]
  ·rw [List.getElem?_set_ne e] at hj
   rw [h.rl j s hj]
   simp [e]
 ·rcases hat he with ⟨hi,he⟩ | ⟨rfl,rfl⟩
  ·rw [List.take_append_of_le_length (by omega)]
   exact h.pl i e he
  ·rw [List.take_append_of_le_length (by omega),List.take_length]
   exact hc.symm
 ·rcases hmem he with he | rfl
  ·exact h.key e he
  ·exact hk
 ·obtain ⟨s',hs'⟩:=home_put hx.1 _ hq
  rcases hmem he with he | rfl
  ·exact (h.hom e he q s' hs').adv hadv
  ·have e0:k=q:=hs'.2.2 k x hx.1 hx.2.1
   subst e0
   exact Up.refl _ _
 ·rcases hat hj with ⟨hj1,hj⟩ | ⟨rfl,rfl⟩
  ·rcases hat hi with ⟨hi1,hi⟩ | ⟨rfl,rfl⟩
   ·exact (h.ord i j e f hij hi hj hef).adv hadv
   ·omega
  ·rcases hat hi with ⟨hi1,hi⟩ | ⟨rfl,rfl⟩
   ·have:=h.hom e (List.mem_of_getElem? hi) k x (by rw [hef];exact hx)
    exact this.adv hadv
   ·omega
def Moved (l l':List Sh):Prop:=∀(h:Int) (q:Nat) (s:Sh),0≤h→h<256→Home l' h q s→∃q' s',Home l h q' s'∧(q'=q∨(q':Int) ∈ s.par)
theorem EntOk.more {l:List Sh} {E:List En} (h:EntOk l E) (c m:List Sh) (hcl:c.length=l.length) (hat:∀(j:Nat) (t:Sh),c[j]?=some t→∃t',l[j]?=some t'∧t.cnt=t'.cnt) (hm:∀(j:Nat) (t:Sh),m[j]?=some t→t.cnt=0) (ha:Adv l c) (ha2:Adv c (c ++ m)) (hmv:Moved l (c ++ m)):EntOk (c ++ m) E:=by
 have hadv:=ha.trans ha2
 refine ⟨fun e he=>?_,fun j t ht=>?_,h.pl,h.key,fun e he q s hq=>?_,fun i j e f hij hi hj hef=>(h.ord i j e f hij hi hj hef).adv hadv⟩
 ·have:=h.lt e he
  refine ⟨?_,this.2⟩
  rw [List.length_append];omega
 ·by_cases hlt:j<c.length
  ·rw [List.getElem?_append_left hlt] at ht
   obtain ⟨t',h1,h2⟩:=hat j t ht
   obtain ⟨t2,g1,_,g3,_⟩:=ha j t' h1
   rw [ht] at g1
   injection g1 with g1
   subst g1
   rw [h.rl j t' h1]
   exact g3.eq_of_length h2.symm
  ·rw [List.getElem?_append_right (by omega)] at ht
   have h0:=hm _ t ht
   have e1:t.rl=[]:=List.length_eq_zero_iff.1 h0
   rw [e1,List.map_eq_nil_iff,List.filter_eq_nil_iff]
   intro e he
   have:=(h.lt e he).1
   simp;omega
 ·have hb:=hashL_bd e.key.data.toList
  obtain ⟨q',s',hq',e1⟩:=hmv _ q s hb.1 hb.2 hq
  have hu:=(h.hom e he q' s' hq').adv hadv
  rcases e1 with rfl | e1
  ·exact hu
  ·exact hu.step hq.1 e1
def sameK (a b:List UInt8):Bool:=decide (byteAt a 0=byteAt b 0) && (decide (byteAt a 1=byteAt b 1) && (decide (byteAt a 2=byteAt b 2) && (decide (byteAt a 3=byteAt b 3) && (decide (byteAt a 4=byteAt b 4) && (decide (byteAt a 5=byteAt b 5) && (decide (byteAt a 6=byteAt b 6) && decide (byteAt a 7=byteAt b 7)))))))
def fdKey (kb:List UInt8) (F:List (Rc × Int)) (n:Nat):List (Rc × Int):=(F.take n).filter (fun x=>sameK x.1.kb kb)
theorem fdKey_succ (kb:List UInt8) (F:List (Rc × Int)) (n:Nat) (x:Rc × Int) (h:F[n]?=some x):fdKey kb F (n+1)=fdKey kb F n ++ (if sameK x.1.kb kb=true then [x] else []):=by
 have hi:=(List.getElem?_eq_some_iff.1 h).1
 have he:F[n]=x:=(List.getElem?_eq_some_iff.1 h).2
 unfold fdKey
 rw [List.take_succ_eq_append_getElem hi,List.filter_append,he]
 by_cases hk:sameK x.1.kb kb=true <;> simp [hk]
theorem fdKey_le (kb:List UInt8) (F:List (Rc × Int)) (n:Nat):(fdKey kb F n).length≤F.length:=by
 unfold fdKey
 have h1:=List.length_filter_le (fun x=>sameK x.1.kb kb) (F.take n)
 rw [List.length_take] at h1
 omega
theorem fdRow_get (l:List (Rc × Int)) (i j:Nat) (hj:j<11) (s:Rc × Int) (h:l[i]?=some s):(fdRow l)[i*11+j]?=(fdCells s)[j]?:=by
 induction l generalizing i with
 | nil=>simp at h
 | cons x r ih =>
   cases i with
   | zero =>
     simp at h;subst h
     simp only [fdRow,Nat.zero_mul,Nat.zero_add]
     rw [List.getElem?_append_left (by simpa [fdCells,rcCells,recArr] using hj)]
   | succ i =>
     simp at h
     simp only [fdRow]
     rw [List.getElem?_append_right (by simp only [fdCells,rcCells,recArr,List.length_append,List.length_cons,List.length_nil];omega),←ih i h]
     congr 1
     simp only [fdCells,rcCells,recArr,List.length_append,List.length_cons,List.length_nil];omega
end Go.Proofs.YtpnkmnmchdabkaaGreat
namespace Go.Proofs.YtpnkmnmchdabkaaGreat
def ins (x:Int):List Int→List Int
 | []=>[x]
 | y :: r=>if x<y then x :: y :: r else if x=y then y :: r else y :: ins x r
def Ris (L:List Int):Prop:=L.Pairwise (·<·)
theorem mem_ins {x y:Int} {L:List Int}:y ∈ ins x L ↔ y=x∨y ∈ L:=by
 induction L with
 | nil=>simp [ins]
 | cons z r ih =>
   unfold ins
   split
   ·simp
   ·split
    ·rename_i h;subst h;simp
    ·rw [List.mem_cons,ih,List.mem_cons]
     constructor
     ·rintro (h | h | h)
      ·exact Or.inr (Or.inl h)
      ·exact Or.inl h
      ·exact Or.inr (Or.inr h)
     ·rintro (h | h | h)
      ·exact Or.inr (Or.inl h)
      ·exact Or.inl h
      ·exact Or.inr (Or.inr h)
theorem Ris.ins {x:Int} {L:List Int} (h:Ris L):Ris (ins x L):=by
 unfold Ris at h ⊢
 induction L with
 | nil=>simp [Go.Proofs.YtpnkmnmchdabkaaGreat.ins]
 | cons z r ih =>
   rw [List.pairwise_cons] at h
   unfold Go.Proofs.YtpnkmnmchdabkaaGreat.ins
   split
   ·rename_i hx
    rw [List.pairwise_cons,List.pairwise_cons]
    refine ⟨fun a ha=>?_,h.1,h.2⟩
    rcases List.mem_cons.1 ha with rfl | ha
    ·exact hx
    ·have:=h.1 a ha;omega
   ·split
    ·rw [List.pairwise_cons];exact h
    ·rw [List.pairwise_cons]
     refine ⟨fun a ha=>?_,ih h.2⟩
     rcases mem_ins.1 ha with rfl | ha
     ·omega
     ·exact h.1 a ha
theorem ins_at {x:Int}:∀(L:List Int) (p:Nat),p≤L.length→(∀(j:Nat) (y:Int),p≤j→L[j]?=some y→x<y)→(∀(j:Nat) (y:Int),j<p→L[j]?=some y→y<x)→ins x L=L.take p ++ x :: L.drop p
 | [],p,_,_,_=>by simp [ins]
 | y :: r,0,_,h1,_=>by
   have:=h1 0 y (Nat.le_refl _) rfl
   simp [ins,this]
 | y :: r,p+1,hp,h1,h2=>by
   have h:=h2 0 y (by omega) rfl
   have ih:=ins_at r p (by simpa using hp) (fun j z hj hz=>h1 (j+1) z (by omega) (by simpa using hz)) (fun j z hj hz=>h2 (j+1) z (by omega) (by simpa using hz))
   unfold ins
   rw [if_neg (by omega),if_neg (by omega),ih]
   simp
theorem ins_same {x:Int}:∀(L:List Int),Ris L→x ∈ L→ins x L=L
 | [],_,h=>by simp at h
 | y :: r,hr,h=>by
   unfold Ris at hr
   rw [List.pairwise_cons] at hr
   unfold ins
   rcases List.mem_cons.1 h with rfl | h
   ·simp
   ·have:=hr.1 x h
    rw [if_neg (by omega),if_neg (by omega),ins_same r hr.2 h]
theorem ins_snoc {x y:Int}:∀(L:List Int),Ris (L ++ [y])→(∃z ∈ L,x≤z)→ins x (L ++ [y])=ins x L ++ [y]
 | [],_,⟨z,h,_⟩=>by simp at h
 | a :: r,hr,⟨z,hz,hxz⟩=>by
   unfold Ris at hr
   rw [List.cons_append,List.pairwise_cons] at hr
   rw [List.cons_append]
   unfold ins
   split
   ·rfl
   ·split
    ·rfl
    ·rw [List.cons_append]
     congr 1
     refine ins_snoc r hr.2 ⟨z,?_,hxz⟩
     rcases List.mem_cons.1 hz with rfl | hz
     ·omega
     ·exact hz
theorem ins_last {x:Int}:∀(L:List Int),(∀z ∈ L,z<x)→ins x L=L ++ [x]
 | [],_=>rfl
 | a :: r,h=>by
   have h0:=h a (by simp)
   unfold ins
   rw [if_neg (by omega),if_neg (by omega),ins_last r (fun z hz=>h z (by simp [hz])),List.cons_append]
theorem ris_at {L:List Int} (h:Ris L) {i j:Nat} {a b:Int} (hij:i<j) (hi:L[i]?=some a) (hj:L[j]?=some b):a<b:=by
 obtain ⟨h1,rfl⟩:=List.getElem?_eq_some_iff.1 hi
 obtain ⟨h2,rfl⟩:=List.getElem?_eq_some_iff.1 hj
 exact List.pairwise_iff_getElem.1 h i j h1 h2 hij
def Sts (L:List Int):Prop:=Ris L∧∀y ∈ L,0≤y∧y≤1000000
theorem sts_get {L:List Int} (h:Ris L) (h0:∀y ∈ L,0≤y):∀(i:Nat) (a:Int),L[i]?=some a→(i:Int)≤a
 | 0,a,hi=>h0 a (List.mem_of_getElem? hi)
 | i+1,a,hi=>by
   have hl:=(List.getElem?_eq_some_iff.1 hi).1
   have hp:L[i]?=some L[i]:=List.getElem?_eq_getElem (by omega)
   have:=sts_get h h0 i _ hp
   have:=ris_at h (Nat.lt_succ_self i) hp hi
   omega
theorem Sts.len {L:List Int} (h:Sts L):L.length≤1000001:=by
 by_cases h0:L.length=0
 ·omega
 ·have hp:L[L.length - 1]?=some L[L.length - 1]:=List.getElem?_eq_getElem (by omega)
  have:=sts_get h.1 (fun y hy=>(h.2 y hy).1) _ _ hp
  have:=(h.2 _ (List.mem_of_getElem? hp)).2
  omega
theorem Sts.ins {x:Int} {L:List Int} (h:Sts L) (hx:0≤x∧x≤1000000):Sts (ins x L) :=
 ⟨h.1.ins,fun y hy=>by
  rcases mem_ins.1 hy with rfl | hy
  ·exact hx
  ·exact h.2 y hy⟩
theorem sts_nil:Sts []:=⟨List.Pairwise.nil,by simp⟩
def hldW (wd s t:Int):Bool:=decide (0≤s∧s≤t∧t - s<wd)
def addO (wd sl t:Int):Nat→Int→List Int→List Int
 | 0,_,L=>L
 | f+1,s,L=>if hldW wd s t=true then addO wd sl t f (s - sl) (ins s L) else L
def addT (wd sl t:Int) (L:List Int):List Int:=addO wd sl t (t.toNat+1) (t - t % sl) L
def stsOf (wd sl:Int) (ts:List Int):List Int:=ts.foldl (fun L t=>addT wd sl t L) []
theorem addO_end {wd sl t:Int} {f:Nat} {s:Int} {L:List Int} (h:hldW wd s t=false):addO wd sl t f s L=L:=by
 cases f with
 | zero=>rfl
 | succ f=>unfold addO;rw [h];simp
theorem Sts.addO {wd sl t:Int} (ht:t≤1000000):∀(f:Nat) (s:Int) (L:List Int),Sts L→Sts (addO wd sl t f s L)
 | 0,_,_,h=>h
 | f+1,s,L,h=>by
   unfold Go.Proofs.YtpnkmnmchdabkaaGreat.addO
   split
   ·rename_i hh
    unfold hldW at hh
    simp only [decide_eq_true_eq] at hh
    exact Sts.addO ht f _ _ (h.ins ⟨hh.1,by omega⟩)
   ·exact h
theorem Sts.addT {wd sl t:Int} (ht:t≤1000000) {L:List Int} (h:Sts L):Sts (addT wd sl t L):=Sts.addO ht _ _ _ h
theorem stsOf_take {wd sl:Int} {ts:List Int} {j:Nat} {t:Int} (h:ts[j]?=some t):stsOf wd sl (ts.take (j+1))=addT wd sl t (stsOf wd sl (ts.take j)):=by
 obtain ⟨h1,rfl⟩:=List.getElem?_eq_some_iff.1 h
 unfold stsOf
 rw [List.take_succ_eq_append_getElem h1,List.foldl_append]
 rfl
theorem sts_of {wd sl:Int} {ts:List Int} (h:∀t ∈ ts,t≤1000000):∀j,j≤ts.length→Sts (stsOf wd sl (ts.take j))
 | 0,_=>by simpa [stsOf] using sts_nil
 | j+1,hj=>by
   have hp:ts[j]?=some ts[j]:=List.getElem?_eq_getElem (by omega)
   rw [stsOf_take hp]
   exact Sts.addT (h _ (List.mem_of_getElem? hp)) (sts_of h j (by omega))
def sft (L:List Int) (x:Int) (i:Nat):List Int:=(L ++ [x]).take (i+1) ++ L.drop i
theorem sft_len {L:List Int} {x:Int} {i:Nat} (h:i≤L.length):(sft L x i).length=L.length+1:=by
 unfold sft
 rw [List.length_append,List.length_take,List.length_append,List.length_drop]
 simp
 omega
theorem sft_top (L:List Int) (x:Int):sft L x L.length=L ++ [x]:=by
 unfold sft
 rw [List.take_of_length_le (by simp)]
 simp
theorem sft_get {L:List Int} {x:Int} {i j:Nat} {y:Int} (hj:j≤i) (h:L[j]?=some y):(sft L x i)[j]?=some y:=by
 have hl:=(List.getElem?_eq_some_iff.1 h).1
 unfold sft
 rw [List.getElem?_append_left (by rw [List.length_take,List.length_append];simp;omega),List.getElem?_take,if_pos (by omega),List.getElem?_append_left hl,h]
theorem sft_set {L:List Int} {x:Int} {i:Nat} {y:Int} (h:L[i]?=some y):(sft L x (i+1)).set (i+1) y=sft L x i:=by
 have hl:=(List.getElem?_eq_some_iff.1 h).1
 have he:=(List.getElem?_eq_some_iff.1 h).2
 refine List.ext_getElem? fun j=>?_
 rw [List.getElem?_set]
 unfold sft
 split
 ·rename_i e;subst e
  rw [if_pos (by rw [List.length_append,List.length_take,List.length_append,List.length_drop];simp;omega)]
  rw [List.getElem?_append_right (by rw [List.length_take,List.length_append];simp;omega),List.length_take,List.length_append,List.getElem?_drop]
  rw [show i+(i+1 - min (i+1) (L.length+[x].length))=i by simp;omega,h]
 ·by_cases hj:j≤i
  ·rw [List.getElem?_append_left (by rw [List.length_take,List.length_append];simp;omega),List.getElem?_append_left (by rw [List.length_take,List.length_append];simp;omega),List.getElem?_take,List.getElem?_take,if_pos (by omega),if_pos (by omega)]
  ·rw [List.getElem?_append_right (by rw [List.length_take,List.length_append];simp;omega),List.getElem?_append_right (by rw [List.length_take,List.length_append];simp;omega),List.length_take,List.length_take,List.length_append,List.getElem?_drop,List.getElem?_drop]
   congr 1
   simp
   omega
theorem sft_end {L:List Int} {x:Int} {p:Nat} (h:p≤L.length):(sft L x p).set p x=L.take p ++ x :: L.drop p:=by
 refine List.ext_getElem? fun j=>?_
 rw [List.getElem?_set]
 split
 ·rename_i e;subst e
  rw [if_pos (by rw [sft_len h];omega),List.getElem?_append_right (by rw [List.length_take];omega),List.length_take]
  rw [show p - min p L.length=0 by omega]
  simp
 ·unfold sft
  by_cases hj:j<p
  ·rw [List.getElem?_append_left (by rw [List.length_take,List.length_append];simp;omega),List.getElem?_append_left (by rw [List.length_take];omega),List.getElem?_take,List.getElem?_take,if_pos (by omega),if_pos hj,List.getElem?_append_left (by omega)]
  ·rw [List.getElem?_append_right (by rw [List.length_take,List.length_append];simp;omega),List.getElem?_append_right (by rw [List.length_take];omega),List.length_take,List.length_take,List.length_append,List.getElem?_drop]
   rw [show j - min p L.length=(j - (p+1))+1 by omega,List.getElem?_cons_succ,List.getElem?_drop]
   congr 1
   simp
   omega
end Go.Proofs.YtpnkmnmchdabkaaGreat
namespace Go.Proofs.YtpnkmnmchdabkaaGreat
open Go.RowKit
theorem lat_assoc (a b c:Int):lat (lat a b) c=lat (lat a c) b:=by unfold lat;repeat' split <;> omega
theorem lat_gt (a b:Int):(if a<b then b else a)=lat a b:=by unfold lat;repeat' split <;> omega
theorem ahUp_lat (a x:Int) (rl:List Rc):∀n,ahUp (lat a x) rl n=lat (ahUp a rl n) x
 | 0=>rfl
 | n+1=>by
   unfold ahUp
   cases rl[n]? with
   | none=>exact ahUp_lat a x rl n
   | some r =>
     show lat (ahUp (lat a x) rl n) r.t=lat (lat (ahUp a rl n) r.t) x
     rw [ahUp_lat a x rl n,lat_assoc]
theorem ahUp_fold (g:Int→Int) (rl:List Rc) (n:Nat):∀(par:List Int) (a:Int),ahUp (par.foldl (fun a p=>lat a (g p)) a) rl n=par.foldl (fun a p=>lat a (g p)) (ahUp a rl n)
 | [],_=>rfl
 | p :: r,a=>by
   rw [List.foldl_cons,List.foldl_cons,ahUp_fold g rl n r,ahUp_lat]
def ahd (l:List Sh) (d:Nat→Nat) (k n:Nat):Int:=match l[k]? with
 | some s=>ahUp (topOf (wmUp l d k) s.par) s.rl n
 | none=>-1
theorem ahd_is {l:List Sh} (d:Nat→Nat) {k:Nat} {s:Sh} (n:Nat) (h:l[k]?=some s):ahd l d k n=ahUp (topOf (wmUp l d k) s.par) s.rl n:=by unfold ahd;rw [h]
def befP (l:List Sh) (d:Nat→Nat) (a:Int) (par:List Int):Int:=par.foldl (fun a p=>lat a (ahd l d p.toNat (d p.toNat))) a
theorem befP_take (l:List Sh) (d:Nat→Nat) (a:Int) (par:List Int) (j:Nat) (hj:j<par.length):befP l d a (par.take (j+1))=lat (befP l d a (par.take j)) (ahd l d par[j].toNat (d par[j].toNat)):=by
 unfold befP
 rw [List.take_succ_eq_append_getElem hj,List.foldl_append]
 rfl
theorem fold_same {g h:Int→Int}:∀(par:List Int) (a:Int),(∀p ∈ par,g p=h p)→par.foldl (fun a p=>lat a (g p)) a=par.foldl (fun a p=>lat a (h p)) a
 | [],_,_=>rfl
 | p :: r,a,hp=>by
   rw [List.foldl_cons,List.foldl_cons,hp p (by simp),fold_same r _ (fun q hq=>hp q (by simp [hq]))]
theorem ahd_bef {l:List Sh} (hI:Inv l) (d:Nat→Nat) {k:Nat} {s:Sh} (n:Nat) (h:l[k]?=some s):ahd l d k n=befP l d (ahUp (-1) s.rl n) s.par:=by
 rw [ahd_is d n h]
 unfold topOf
 rw [ahUp_fold (fun p=>((wmUp l d k)[p.toNat]?).getD 0)]
 unfold befP
 refine fold_same s.par _ fun p hp=>?_
 obtain ⟨q,t,rfl,hq,ht,_⟩:=hI.parR k s h p hp
 have:=hI.len
 have hkl:=(List.getElem?_eq_some_iff.1 h).1
 rw [show ((q:Int)).toNat=q by omega,wmUp_at ht (by omega) hq,ahd_is d (d q) ht]
 rfl
theorem filter_at (E:List En) (p:En→Bool) (j:Nat) (e:En) (hj:E[j]?=some e) (hp:p e=true):(E.filter p)[((E.take j).filter p).length]?=some e:=by
 obtain ⟨h1,rfl⟩:=List.getElem?_eq_some_iff.1 hj
 have h2:E=E.take j ++ E[j] :: E.drop (j+1):=by rw [←List.drop_eq_getElem_cons h1,List.take_append_drop]
 have h3:E.filter p=(E.take j).filter p ++ E[j] :: (E.drop (j+1)).filter p:=by
  have h4:=congrArg (List.filter p) h2
  rw [List.filter_append,List.filter_cons,if_pos hp] at h4
  exact h4
 rw [h3,List.getElem?_append_right (Nat.le_refl _),Nat.sub_self]
 rfl
theorem EntOk.at {l:List Sh} {E:List En} (h:EntOk l E) {j:Nat} {e:En} {s:Sh} (hj:E[j]?=some e) (hs:l[e.shard]?=some s):s.rl[e.place]?=some (enRc e):=by
 rw [←h.rl e.shard s hs,List.getElem?_map,h.pl j e hj]
 unfold held
 rw [filter_at E (fun x=>x.shard == e.shard) j e hj (by simp)]
 rfl
theorem ahUp_min (a:Int) (rl:List Rc):∀n,ahUp a rl (min n rl.length)=ahUp a rl n
 | 0=>by simp
 | n+1=>by
   by_cases hn:n<rl.length
   ·rw [show min (n+1) rl.length=n+1 by omega]
   ·rw [show min (n+1) rl.length=min n rl.length by omega,ahUp_min a rl n]
    rw [ahUp,List.getElem?_eq_none (by omega)]
def fol (E:List En) (d:Nat→Nat) (key:ByteArray):List En:=E.filter (fun e=>decide (e.key=key) && decide (e.place<d e.shard))
theorem held_pos {E:List En} {i j:Nat} {e:En} (hi:E[i]?=some e) (hij:i<j):held (E.take i) e.shard<held (E.take j) e.shard:=by
 have hh:∀n,held (E.take (i+1)) e.shard≤held (E.take (i+1+n)) e.shard:=by
  intro n
  induction n with
  | zero=>exact Nat.le_refl _
  | succ n ih =>
    refine Nat.le_trans ih ?_
    by_cases hl:i+1+n<E.length
    ·have:=held_take E e.shard (i+1+n) _ (List.getElem?_eq_getElem hl)
     rw [show i+1+(n+1)=i+1+n+1 by omega,this]
     omega
    ·rw [List.take_of_length_le (show E.length≤i+1+n by omega),List.take_of_length_le (show E.length≤i+1+(n+1) by omega)]
     exact Nat.le_refl _
 have h1:=held_take E e.shard i e hi
 rw [if_pos rfl] at h1
 have h2:=hh (j - (i+1))
 rw [show i+1+(j - (i+1))=j by omega] at h2
 omega
def MkOk (l:List Sh) (d:Nat→Nat):Prop:=(∀(k:Nat) (s:Sh),l[k]?=some s→d k≤s.rl.length)∧∀k,k<l.length→0<d k→rdy l (fun k=>(d k:Int)) k=true
theorem place_at {l:List Sh} {E:List En} (h:EntOk l E) (k:Nat):∀(i:Nat) (e:En),(E.filter (fun e=>e.shard == k))[i]?=some e→e.place=i:=by
 suffices hh:∀n,n≤E.length→∀(i:Nat) (e:En),((E.take n).filter (fun e=>e.shard == k))[i]?=some e→e.place=i by
  intro i e hi
  exact hh E.length (Nat.le_refl _) i e (by rw [List.take_length];exact hi)
 intro n
 induction n with
 | zero=>intro _ i e hi;simp at hi
 | succ n ih =>
   intro hn i e hi
   have hx:E[n]?=some E[n]:=List.getElem?_eq_getElem (by omega)
   rw [List.take_succ_eq_append_getElem (by omega),List.filter_append] at hi
   by_cases hlt:i<((E.take n).filter (fun e=>e.shard == k)).length
   ·rw [List.getElem?_append_left hlt] at hi
    exact ih (by omega) i e hi
   ·rw [List.getElem?_append_right (by omega)] at hi
    by_cases hk:E[n].shard=k
    ·rw [List.filter_cons,if_pos (by simp [hk])] at hi
     have h0:=(List.getElem?_eq_some_iff.1 hi).1
     simp at h0
     have hz:i - ((E.take n).filter (fun e=>e.shard == k)).length=0:=by omega
     rw [hz] at hi
     simp at hi
     subst hi
     rw [h.pl n _ hx,hk]
     unfold held
     omega
    ·rw [List.filter_cons,if_neg (by simp [hk])] at hi
     simp at hi
theorem filter_first (p:Nat):∀(L:List En) (o:Nat),(∀(i:Nat) (e:En),L[i]?=some e→e.place=o+i)→L.filter (fun e=>decide (e.place<p))=L.take (p - o)
 | [],_,_=>by simp
 | a :: r,o,h=>by
   have h0:=h 0 a rfl
   have ih:=filter_first p r (o+1) (fun i e hi=>by have:=h (i+1) e (by simpa using hi);omega)
   rw [List.filter_cons,ih]
   by_cases hp:a.place<p
   ·rw [if_pos (by simpa using hp),show p - o=(p - (o+1))+1 by omega,List.take_succ_cons]
   ·rw [if_neg (by simpa using hp),show p - (o+1)=0 by omega,show p - o=0 by omega]
    simp
def enFd (l:List Sh) (d:Nat→Nat) (e:En):Rc × Int:=(enRc e,ahd l d e.shard e.place)
theorem fdOf_is {l:List Sh} {E:List En} (h:EntOk l E) (d:Nat→Nat) {k:Nat} {s:Sh} (hs:l[k]?=some s):∀p,fdOf (topOf (wmUp l d k) s.par) s.rl p=((E.filter (fun e=>e.shard == k)).take p).map (enFd l d)
 | 0=>by simp [fdOf]
 | p+1=>by
   have ih:=fdOf_is h d hs p
   have hg:s.rl[p]?=((E.filter (fun e=>e.shard == k))[p]?).map enRc:=by rw [←h.rl k s hs,List.getElem?_map]
   unfold fdOf
   cases he:(E.filter (fun e=>e.shard == k))[p]? with
   | none =>
     rw [he] at hg
     rw [hg,List.take_of_length_le (by have:=List.getElem?_eq_none_iff.1 he;omega)]
     show fdOf _ _ p=_
     rw [ih,List.take_of_length_le (by have:=List.getElem?_eq_none_iff.1 he;omega)]
   | some e =>
     rw [he] at hg
     rw [hg]
     show fdOf _ _ p ++ [(enRc e,_)]=_
     obtain ⟨h1,h2⟩:=List.getElem?_eq_some_iff.1 he
     rw [ih,List.take_succ_eq_append_getElem h1,List.map_append,h2]
     have h3:=place_at h k p e he
     have h4:e.shard=k:=by
      have:=List.mem_of_getElem? he
      rw [List.mem_filter] at this
      simpa using this.2
     congr 1
     show [(enRc e,_)]=[enFd l d e]
     unfold enFd
     rw [h4,ahd_is d e.place hs,h3]
def grp (L:List En):Nat→List En
 | 0=>[]
 | n+1=>grp L n ++ L.filter (fun e=>e.shard == n)
theorem fdUp_is {l:List Sh} {E:List En} (h:EntOk l E) (d:Nat→Nat):∀n,n≤l.length→fdUp l d n=(grp (E.filter (fun e=>decide (e.place<d e.shard))) n).map (enFd l d)
 | 0,_=>rfl
 | n+1,hn=>by
   have hs:l[n]?=some l[n]:=List.getElem?_eq_getElem (by omega)
   unfold fdUp
   rw [hs]
   show fdUp l d n ++ fdOf _ _ _=_
   rw [fdUp_is h d n (by omega),fdOf_is h d hs,grp,List.map_append]
   congr 2
   have hff:=filter_first (d n) (E.filter (fun e=>e.shard == n)) 0 (fun i e hi=>by rw [place_at h n i e hi];omega)
   rw [Nat.sub_zero] at hff
   rw [←hff,List.filter_filter,List.filter_filter]
   refine List.filter_congr fun e _=>?_
   by_cases hk:e.shard=n
   ·subst hk;simp [Bool.and_comm]
   ·have e1:(e.shard == n)=false:=by simpa using hk
    rw [e1,Bool.and_false,Bool.false_and]
theorem grp_filter (L:List En) (p:En→Bool):∀n,(grp L n).filter p=grp (L.filter p) n
 | 0=>rfl
 | n+1=>by
   rw [grp,grp,List.filter_append,grp_filter L p n,List.filter_filter,List.filter_filter]
   congr 1
   exact List.filter_congr fun e _=>Bool.and_comm _ _
theorem filter_lt (n:Nat):∀(L:List En),L.Pairwise (fun a b=>a.shard≤b.shard)→L.filter (fun e=>decide (e.shard<n+1))=L.filter (fun e=>decide (e.shard<n)) ++ L.filter (fun e=>e.shard == n)
 | [],_=>rfl
 | a :: r,h=>by
   rw [List.pairwise_cons] at h
   have ih:=filter_lt n r h.2
   rw [List.filter_cons,List.filter_cons,List.filter_cons,ih]
   by_cases h1:a.shard<n
   ·rw [if_pos (by simp;omega),if_pos (by simpa using h1),if_neg (by simp;omega)]
    rfl
   ·rw [if_neg (show ¬decide (a.shard<n)=true by simpa using h1)]
    by_cases h2:a.shard=n
    ·rw [if_pos (by simp;omega),if_pos (by simpa using h2)]
     have hz:r.filter (fun e=>decide (e.shard<n))=[]:=by
      rw [List.filter_eq_nil_iff]
      intro e he
      have:=h.1 e he
      simp;omega
     rw [hz]
     rfl
    ·rw [if_neg (by simp;omega),if_neg (by simpa using h2)]
theorem grp_sorted (L:List En) (h:L.Pairwise (fun a b=>a.shard≤b.shard)):∀n,grp L n=L.filter (fun e=>decide (e.shard<n))
 | 0=>by simp [grp]
 | n+1=>by rw [grp,grp_sorted L h n,filter_lt n L h]
theorem grp_all {L:List En} (h:L.Pairwise (fun a b=>a.shard≤b.shard)) {n:Nat} (hn:∀e ∈ L,e.shard<n):grp L n=L:=by
 rw [grp_sorted L h,List.filter_eq_self]
 intro e he
 simpa using hn e he
theorem byteAt_eq {a b:List UInt8} (ha:a.length≤8∧∀x ∈ a,x.toNat≠0) (hb:b.length≤8∧∀x ∈ b,x.toNat≠0) (h:∀i,i<8→byteAt a i=byteAt b i):a=b:=by
 refine List.ext_getElem? fun i=>?_
 by_cases hi:i<8
 ·have hh:=h i hi
  unfold byteAt at hh
  have hh:(a[i]?.getD 0).toNat=(b[i]?.getD 0).toNat:=by omega
  cases hx:a[i]? with
  | none =>
    cases hy:b[i]? with
    | none=>rfl
    | some y =>
      rw [hx,hy] at hh
      exact absurd hh.symm (hb.2 y (List.mem_of_getElem? hy))
  | some x =>
    cases hy:b[i]? with
    | none =>
      rw [hx,hy] at hh
      exact absurd hh (ha.2 x (List.mem_of_getElem? hx))
    | some y =>
      rw [hx,hy] at hh
      congr 1
      exact UInt8.toNat_inj.1 hh
 ·rw [List.getElem?_eq_none (by omega),List.getElem?_eq_none (by omega)]
theorem sameK_all (a b:List UInt8):sameK a b=true ↔ ∀i,i<8→byteAt a i=byteAt b i:=by
 unfold sameK
 simp only [Bool.and_eq_true,decide_eq_true_eq]
 constructor
 ·rintro ⟨h0,h1,h2,h3,h4,h5,h6,h7⟩ i hi
  match i,hi with
  | 0,_=>exact h0
  | 1,_=>exact h1
  | 2,_=>exact h2
  | 3,_=>exact h3
  | 4,_=>exact h4
  | 5,_=>exact h5
  | 6,_=>exact h6
  | 7,_=>exact h7
  | i+8,hi=>omega
 ·intro h
  exact ⟨h 0 (by omega),h 1 (by omega),h 2 (by omega),h 3 (by omega),h 4 (by omega),h 5 (by omega),h 6 (by omega),h 7 (by omega)⟩
theorem sameK_key {a b:ByteArray} (ha:keyB a=true) (hb:keyB b=true):sameK a.data.toList b.data.toList=decide (a=b):=by
 rw [Bool.eq_iff_iff,sameK_all,decide_eq_true_eq]
 constructor
 ·intro h
  have:=byteAt_eq (keyB_len ha) (keyB_len hb) h
  rcases a with ⟨a⟩
  rcases b with ⟨b⟩
  simpa using Array.toList_inj.1 this
 ·rintro rfl i _;rfl
theorem fdKey_is {l:List Sh} {E:List En} (hI:Inv l) (h:EntOk l E) (d:Nat→Nat) {key:ByteArray} (hk:keyB key=true):fdKey key.data.toList (fdUp l d l.length) (fdUp l d l.length).length=(fol E d key).map (enFd l d):=by
 unfold fdKey
 rw [List.take_length,fdUp_is h d l.length (Nat.le_refl _),List.filter_map,grp_filter,List.filter_filter]
 have e1:E.filter (fun e=>((fun x:Rc × Int=>sameK x.1.kb key.data.toList) ∘ enFd l d) e && decide (e.place<d e.shard))=fol E d key:=by
  unfold fol
  refine List.filter_congr fun e he=>?_
  show (sameK e.key.data.toList key.data.toList && _)=_
  rw [sameK_key (h.key e he).1 hk]
 rw [e1,grp_all]
 ·unfold fol
  rw [List.pairwise_filter,List.pairwise_iff_getElem]
  intro i j hi hj hij h1 h2
  simp only [Bool.and_eq_true,decide_eq_true_eq] at h1 h2
  exact (h.ord i j _ _ hij (List.getElem?_eq_getElem hi) (List.getElem?_eq_getElem hj) (h1.1.trans h2.1.symm)).le hI
 ·intro e he
  unfold fol at he
  rw [List.mem_filter] at he
  exact (h.lt e he.1).1
end Go.Proofs.YtpnkmnmchdabkaaGreat
namespace Go.Proofs.YtpnkmnmchdabkaaGreat
theorem sorted_eq {α:Type} {r:α→α→Prop} (ha:∀a b,r a b→r b a→False):∀(A B:List α),A.Pairwise r→B.Pairwise r→(∀x,x ∈ A ↔ x ∈ B)→A=B
 | [],[],_,_,_=>rfl
 | [],b :: B,_,_,h=>by have:=(h b).2 (by simp);simp at this
 | a :: A,[],_,_,h=>by have:=(h a).1 (by simp);simp at this
 | a :: A,b :: B,hA,hB,h=>by
   rw [List.pairwise_cons] at hA hB
   have e:a=b:=by
    rcases List.mem_cons.1 ((h a).1 (by simp)) with e | h1
    ·exact e
    ·rcases List.mem_cons.1 ((h b).2 (by simp)) with e | h2
     ·exact e.symm
     ·exact (ha _ _ (hB.1 a h1) (hA.1 b h2)).elim
   subst e
   congr 1
   refine sorted_eq ha A B hA.2 hB.2 fun x=>⟨fun hx=>?_,fun hx=>?_⟩
   ·rcases List.mem_cons.1 ((h x).1 (by simp [hx])) with e | h1
    ·subst e;exact (ha _ _ (hA.1 x hx) (hA.1 x hx)).elim
    ·exact h1
   ·rcases List.mem_cons.1 ((h x).2 (by simp [hx])) with e | h1
    ·subst e;exact (ha _ _ (hB.1 x hx) (hB.1 x hx)).elim
    ·exact h1
def lx (e f:En):Prop:=e.shard<f.shard∨(e.shard=f.shard∧e.place<f.place)
theorem lx_asym (e f:En) (h:lx e f) (h':lx f e):False:=by unfold lx at h h';omega
structure FoOk (E:List En) (d:Nat→Nat) (F:List En):Prop where
 mem:∀e,e ∈ F ↔ e ∈ E∧e.place<d e.shard
 ord:F.Pairwise (fun e f=>e.key=f.key→lx e f)
theorem foOk_nil (d:Nat→Nat):FoOk [] d []:=⟨by simp,List.Pairwise.nil⟩
theorem ent_lx {l:List Sh} {E:List En} (hI:Inv l) (h:EntOk l E) {i j:Nat} {e f:En} (hij:i<j) (hi:E[i]?=some e) (hj:E[j]?=some f) (hk:e.key=f.key):lx e f:=by
 have hu:=(h.ord i j e f hij hi hj hk).le hI
 by_cases hs:e.shard=f.shard
 ·have h1:=h.pl i e hi
  have h2:=h.pl j f hj
  have h3:=held_pos hi hij
  rw [←hs] at h2
  exact Or.inr ⟨hs,by omega⟩
 ·exact Or.inl (by omega)
theorem FoOk.key {l:List Sh} {E F:List En} {d:Nat→Nat} (hI:Inv l) (h:EntOk l E) (hF:FoOk E d F) (key:ByteArray):F.filter (fun e=>decide (e.key=key))=fol E d key:=by
 refine sorted_eq lx_asym _ _ ?_ ?_ fun x=>?_
 ·refine List.Pairwise.imp_of_mem (R:=fun e f=>e.key=f.key→lx e f) ?_ (hF.ord.filter _)
  intro a b ha hb hab
  have h1:=(List.mem_filter.1 ha).2
  have h2:=(List.mem_filter.1 hb).2
  simp only [decide_eq_true_eq] at h1 h2
  exact hab (h1.trans h2.symm)
 ·have hE:E.Pairwise (fun e f=>e.key=f.key→lx e f):=by
   rw [List.pairwise_iff_getElem]
   intro i j hi hj hij hk
   exact ent_lx hI h hij (List.getElem?_eq_getElem hi) (List.getElem?_eq_getElem hj) hk
  unfold fol
  refine List.Pairwise.imp_of_mem (R:=fun e f=>e.key=f.key→lx e f) ?_ (hE.filter _)
  intro a b ha hb hab
  have h1:=(List.mem_filter.1 ha).2
  have h2:=(List.mem_filter.1 hb).2
  simp only [Bool.and_eq_true,decide_eq_true_eq] at h1 h2
  exact hab (h1.1.trans h2.1.symm)
 ·unfold fol
  simp only [List.mem_filter,Bool.and_eq_true,decide_eq_true_eq]
  rw [hF.mem x]
  exact ⟨fun ⟨⟨a,b⟩,c⟩=>⟨a,c,b⟩,fun ⟨a,c,b⟩=>⟨⟨a,b⟩,c⟩⟩
theorem FoOk.put {E F:List En} {d:Nat→Nat} (hF:FoOk E d F) (x:En) (hx:d x.shard≤x.place):FoOk (E ++ [x]) d F:=by
 refine ⟨fun e=>?_,hF.ord⟩
 rw [hF.mem e]
 simp only [List.mem_append,List.mem_singleton]
 constructor
 ·exact fun ⟨a,b⟩=>⟨Or.inl a,b⟩
 ·rintro ⟨a | rfl,b⟩
  ·exact ⟨a,b⟩
  ·omega
def part (E:List En) (k a n:Nat):List En:=((E.filter (fun e=>e.shard == k)).drop a).take n
theorem part_at {l:List Sh} {E:List En} (h:EntOk l E) {k a n:Nat} {i:Nat} {e:En} (hi:(part E k a n)[i]?=some e):i<n∧e ∈ E∧e.shard=k∧e.place=a+i:=by
 unfold part at hi
 rw [List.getElem?_take] at hi
 split at hi
 ·rename_i hlt
  rw [List.getElem?_drop] at hi
  have hm:=List.mem_filter.1 (List.mem_of_getElem? hi)
  exact ⟨hlt,hm.1,by simpa using hm.2,place_at h k _ e hi⟩
 ·simp at hi
theorem part_mem {l:List Sh} {E:List En} (h:EntOk l E) {k a n:Nat} (e:En):e ∈ part E k a n ↔ e ∈ E∧e.shard=k∧a≤e.place∧e.place<a+n:=by
 constructor
 ·intro he
  obtain ⟨i,hi⟩:=List.getElem?_of_mem he
  obtain ⟨h1,h2,h3,h4⟩:=part_at h hi
  exact ⟨h2,h3,by omega,by omega⟩
 ·rintro ⟨h1,h2,h3,h4⟩
  obtain ⟨j,hj⟩:=List.getElem?_of_mem h1
  have hf:=filter_at E (fun x=>x.shard == k) j e hj (by simpa using h2)
  have hp:=h.pl j e hj
  unfold held at hp
  rw [h2] at hp
  rw [←hp] at hf
  refine List.mem_of_getElem? (i:=e.place - a) ?_
  unfold part
  rw [List.getElem?_take,if_pos (by omega),List.getElem?_drop,show a+(e.place - a)=e.place by omega]
  exact hf
theorem part_len {l:List Sh} {E:List En} (h:EntOk l E) {k a n:Nat} {s:Sh} (hs:l[k]?=some s) (hn:a+n≤s.cnt):(part E k a n).length=n:=by
 unfold part
 have:(E.filter (fun e=>e.shard == k)).length=s.cnt:=by
  have:=congrArg List.length (h.rl k s hs)
  show _=s.rl.length
  simpa using this
 rw [List.length_take,List.length_drop,this]
 omega
theorem FoOk.fold {l:List Sh} {E F:List En} {d:Nat→Nat} (hI:Inv l) (h:EntOk l E) (hd:MkOk l d) (hF:FoOk E d F) {k n:Nat} {s:Sh} (hs:l[k]?=some s) (hn:1≤n) (hc:d k+n≤s.cnt):FoOk E (fun q=>if q=k then d k+n else d q) (F ++ part E k (d k) n):=by
 refine ⟨fun e=>?_,?_⟩
 ·rw [List.mem_append,hF.mem e,part_mem h e]
  by_cases e1:e.shard=k
  ·simp only [e1,if_true]
   constructor
   ·rintro (⟨a,b⟩ | ⟨a,_,b,c⟩)
    ·exact ⟨a,by omega⟩
    ·exact ⟨a,c⟩
   ·rintro ⟨a,b⟩
    by_cases c:e.place<d k
    ·exact Or.inl ⟨a,c⟩
    ·exact Or.inr ⟨a,trivial,by omega,b⟩
  ·simp only [e1,if_false]
   constructor
   ·rintro (⟨a,b⟩ | ⟨_,b,_⟩)
    ·exact ⟨a,b⟩
    ·exact b.elim
   ·exact fun q=>Or.inl q
 ·rw [List.pairwise_append]
  refine ⟨hF.ord,?_,fun e he f hf hk=>?_⟩
  ·rw [List.pairwise_iff_getElem]
   intro i j hi hj hij _
   obtain ⟨_,_,a1,a2⟩:=part_at h (List.getElem?_eq_getElem hi)
   obtain ⟨_,_,b1,b2⟩:=part_at h (List.getElem?_eq_getElem hj)
   exact Or.inr ⟨by omega,by omega⟩
  ·obtain ⟨e1,e2⟩:=(hF.mem e).1 he
   obtain ⟨f1,f2,f3,f4⟩:=(part_mem h f).1 hf
   by_cases hlt:e.shard<k
   ·exact Or.inl (by omega)
   by_cases heq:e.shard=k
   ·exact Or.inr ⟨by omega,by rw [heq] at e2;omega⟩
   exfalso
   obtain ⟨i,hi⟩:=List.getElem?_of_mem e1
   obtain ⟨j,hj⟩:=List.getElem?_of_mem f1
   by_cases hij:i<j
   ·have:=(h.ord i j e f hij hi hj hk).le hI
    omega
   ·have hji:j<i:=by
     rcases Nat.lt_or_ge j i with h9 | h9
     ·exact h9
     ·have e9:i=j:=by omega
      subst e9
      rw [hi] at hj
      injection hj with hj
      subst hj
      omega
    have hu:=h.ord j i f e hji hj hi hk.symm
    have hr:=hd.2 e.shard (h.lt e e1).1 (by omega)
    rw [f2] at hu
    have hfin:=hu.fin hI _ (by omega) hr
    rw [fin_is hI _ hs] at hfin
    simp only [Bool.and_eq_true,decide_eq_true_eq] at hfin
    have:=hfin.2.2
    omega
end Go.Proofs.YtpnkmnmchdabkaaGreat
