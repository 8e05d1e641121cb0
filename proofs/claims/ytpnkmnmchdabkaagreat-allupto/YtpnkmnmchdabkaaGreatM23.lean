import Derived.Test.YtpnkmnmchdabkaaGreatM19
import Derived.Test.YtpnkmnmchdabkaaGreatM22
namespace Go.Proofs.YtpnkmnmchdabkaaGreat
def noteOf:List Nt→Int→Option Nt
 | [],_=>none
 | n :: r,k=>if n.sh=k then some n else noteOf r k
theorem firstOf_append (hs:List Hd) (x:Hd) (k:Int):firstOf (hs ++ [x]) k=match firstOf hs k with | some y=>some y | none=>if x.sh=k then some x else none:=by
 induction hs with
 | nil=>simp [firstOf]
 | cons h r ih =>
   simp only [List.cons_append,firstOf]
   by_cases e:h.sh=k
   ·simp [e]
   ·simp only [if_neg e];exact ih
theorem firstOf_lost (hs:List Hd) (j k:Int):firstOf (lost hs j) k=if k=j then none else firstOf hs k:=by
 unfold lost
 induction hs with
 | nil=>simp [firstOf]
 | cons h r ih =>
   by_cases e:h.sh=j
   ·rw [List.filter_cons_of_neg (by simp [e])]
    rw [ih]
    by_cases ek:k=j
    ·simp [ek]
    ·simp only [if_neg ek,firstOf]
     rw [if_neg (by omega)]
   ·rw [List.filter_cons_of_pos (by simpa using e)]
    simp only [firstOf]
    by_cases ek:k=j
    ·rw [if_neg (by omega),ih,if_pos ek,if_pos ek]
    ·rw [ih,if_neg ek,if_neg ek]
theorem firstOf_none {hs:List Hd} {k:Int}:firstOf hs k=none ↔ ∀x ∈ hs,x.sh≠k:=by
 induction hs with
 | nil=>simp [firstOf]
 | cons h r ih =>
   simp only [firstOf]
   by_cases e:h.sh=k
   ·simp [e]
   ·simp [e,ih]
structure HsOk (hs:List Hd) (n:Nat):Prop where
 nd:(hs.map (·.sh)).Nodup
 rg:∀x ∈ hs,∃k:Nat,k<n∧x.sh=(k:Int)
theorem HsOk.lost {hs:List Hd} {n:Nat} (h:HsOk hs n) (k:Int):HsOk (lost hs k) n:=by
 refine ⟨?_,fun x hx=>h.rg x (List.mem_filter.1 hx).1⟩
 unfold Go.Proofs.YtpnkmnmchdabkaaGreat.lost
 exact h.nd.sublist (List.Sublist.map _ (List.filter_sublist))
theorem HsOk.add {hs:List Hd} {n:Nat} (h:HsOk hs n) (x:Hd) (k:Nat) (hk:k<n) (hx:x.sh=(k:Int)) (hno:firstOf hs k=none):HsOk (hs ++ [x]) n:=by
 refine ⟨?_,fun y hy=>?_⟩
 ·rw [List.map_append,List.nodup_append]
  refine ⟨h.nd,by simp,fun a ha b hb=>?_⟩
  simp at hb
  subst hb
  obtain ⟨y,hy,rfl⟩:=List.mem_map.1 ha
  rw [hx]
  exact firstOf_none.1 hno y hy
 ·rcases List.mem_append.1 hy with hy | hy
  ·exact h.rg y hy
  ·simp at hy
   subst hy
   exact ⟨k,hk,hx⟩
theorem HsOk.mono {hs:List Hd} {n m:Nat} (h:HsOk hs n) (hm:n≤m):HsOk hs m:=⟨h.nd,fun x hx=>by obtain ⟨k,a,b⟩:=h.rg x hx;exact ⟨k,by omega,b⟩⟩
theorem byShard_cons_len (h:Hd) (t:List Hd) (k0:Nat) (hk:h.sh=(k0:Int)) (hno:firstOf t k0=none):∀n,(byShard (h :: t) n).length=(byShard t n).length+if k0<n then 1 else 0:=by
 intro n
 induction n with
 | zero=>simp [byShard]
 | succ n ih =>
   rw [byShard_succ,byShard_succ,List.length_append,List.length_append,ih]
   have e:firstOf (h :: t) (n:Int)=if k0=n then some h else firstOf t n:=by
    simp only [firstOf,hk]
    by_cases e:k0=n
    ·simp [e]
    ·rw [if_neg (by omega),if_neg e]
   rw [e]
   by_cases e:k0=n
   ·subst e
    rw [hno]
    simp
   ·rw [if_neg e]
    by_cases hlt:k0<n
    ·rw [if_pos hlt,if_pos (by omega)];omega
    ·rw [if_neg hlt,if_neg (by omega)];omega
theorem byShard_len {n:Nat}:∀{hs:List Hd},HsOk hs n→(byShard hs n).length=hs.length
 | [],_=>by
   have:byShard [] n=[]:=by unfold byShard;simp [firstOf]
   simp [this]
 | h :: t,hO=>by
   obtain ⟨k,hk,e⟩:=hO.rg h (by simp)
   have nd:=hO.nd
   rw [List.map_cons,List.nodup_cons] at nd
   have hno:firstOf t k=none:=firstOf_none.2 fun x hx hc=>nd.1 (by rw [e];rw [←hc];exact List.mem_map.2 ⟨x,hx,rfl⟩)
   rw [byShard_cons_len h t k e hno n,if_pos hk,byShard_len ⟨nd.2,fun x hx=>hO.rg x (by simp [hx])⟩]
   simp
theorem HsOk.le {hs:List Hd} {n:Nat} (h:HsOk hs n):hs.length≤n:=by
 rw [←byShard_len h]
 exact byShard_le hs n
theorem byShard_more {hs:List Hd} {n:Nat} (h:HsOk hs n):∀m,n≤m→byShard hs m=byShard hs n:=by
 intro m hm
 induction m with
 | zero=>have:n=0:=by omega
         rw [this]
 | succ m ih =>
   by_cases e:n=m+1
   ·rw [e]
   ·rw [byShard_succ,ih (by omega)]
    have hno:firstOf hs (m:Int)=none:=firstOf_none.2 fun x hx hc=>by
     obtain ⟨k,hk,e2⟩:=h.rg x hx
     omega
    rw [hno]
    simp
structure NsOk (ns:List Nt) (n:Nat) (B:Int):Prop where
 nd:(ns.map (·.sh)).Nodup
 rg:∀x ∈ ns,∃k:Nat,k<n∧x.sh=(k:Int)
 bd:∀x ∈ ns,0≤x.s∧x.s≤B
theorem nodup_le:∀(n:Nat) (l:List Int),l.Nodup→(∀x ∈ l,0≤x∧x<n)→l.length≤n
 | 0,l,_,h=>by
   cases l with
   | nil=>simp
   | cons x r=>have:=h x (by simp);omega
 | n+1,l,hn,h=>by
   have h1:=nodup_le n (l.erase (n:Int)) (hn.erase _) (fun x hx=>by
    have:=h x (List.mem_of_mem_erase hx)
    have hne:x≠(n:Int):=fun e=>by subst e;exact (List.Nodup.not_mem_erase hn) hx
    omega)
   have h2:l.length≤(l.erase (n:Int)).length+1:=by
    by_cases hm:(n:Int) ∈ l
    ·rw [List.length_erase_of_mem hm];omega
    ·rw [List.erase_of_not_mem hm];omega
   omega
theorem NsOk.le {ns:List Nt} {n:Nat} {B:Int} (h:NsOk ns n B):ns.length≤n:=by
 have:=nodup_le n (ns.map (·.sh)) h.nd (fun x hx=>by
  obtain ⟨y,hy,rfl⟩:=List.mem_map.1 hx
  obtain ⟨k,hk,e⟩:=h.rg y hy
  omega)
 simpa using this
theorem NsOk.mono {ns:List Nt} {n m:Nat} {B B':Int} (h:NsOk ns n B) (hm:n≤m) (hB:B≤B'):NsOk ns m B' :=
 ⟨h.nd,fun x hx=>by obtain ⟨k,a,b⟩:=h.rg x hx;exact ⟨k,by omega,b⟩,fun x hx=>by have:=h.bd x hx;omega⟩
theorem noteOf_some {ns:List Nt} {k:Int} {x:Nt} (h:noteOf ns k=some x):x ∈ ns∧x.sh=k:=by
 induction ns with
 | nil=>simp [noteOf] at h
 | cons y r ih =>
   simp only [noteOf] at h
   by_cases e:y.sh=k
   ·rw [if_pos e] at h
    injection h with h
    subst h
    exact ⟨by simp,e⟩
   ·rw [if_neg e] at h
    exact ⟨List.mem_cons_of_mem _ (ih h).1,(ih h).2⟩
def sinceV (ns:List Nt) (k c t:Int):Int:=match noteOf ns k with
 | some x=>if x.c=c then x.s else t
 | none=>t
theorem sinceN_val (ns:List Nt) (k c t:Int):(sinceN ns k c t).2=sinceV ns k c t:=by
 induction ns with
 | nil=>rfl
 | cons n r ih =>
   unfold sinceV
   by_cases hk:n.sh=k
   ·by_cases hc:n.c=c
    ·simp [sinceN,noteOf,hk,hc]
    ·simp [sinceN,noteOf,hk,hc]
   ·simp only [sinceN,noteOf,if_neg hk]
    exact ih
theorem sinceN_note (ns:List Nt) (k c t j:Int):noteOf (sinceN ns k c t).1 j=if j=k then some ⟨k,c,sinceV ns k c t⟩ else noteOf ns j:=by
 induction ns with
 | nil =>
   simp only [sinceN,noteOf,sinceV]
   by_cases e:j=k
   ·simp [e]
   ·rw [if_neg (by omega),if_neg e]
 | cons n r ih =>
   by_cases hk:n.sh=k
   ·by_cases hc:n.c=c
    ·simp only [sinceN,if_pos hk,if_pos hc,noteOf,sinceV]
     by_cases e:j=k
     ·subst e
      obtain ⟨a,b,d⟩:=n
      simp only at hk hc
      subst hk hc
      simp
     ·simp [hk,e]
    ·simp only [sinceN,if_pos hk,if_neg hc,noteOf,sinceV]
     by_cases e:j=k
     ·subst e
      simp [hk]
     ·rw [if_neg (by omega),if_neg e,if_neg (by omega)]
   ·simp only [sinceN,if_neg hk,noteOf]
    have hs:sinceV (n :: r) k c t=sinceV r k c t:=by simp [sinceV,noteOf,hk]
    rw [hs]
    by_cases e:j=k
    ·subst e
     rw [if_neg hk,ih,if_pos rfl,if_pos rfl]
    ·rw [ih,if_neg e,if_neg e]
theorem sinceN_ok {ns:List Nt} {n:Nat} {B:Int} (h:NsOk ns n B) (k:Nat) (hk:k<n) (c t:Int) (ht:0≤t∧t≤B):NsOk (sinceN ns k c t).1 n B∧∀x ∈ (sinceN ns k c t).1,x.sh=(k:Int)∨x ∈ ns:=by
 induction ns with
 | nil=>exact ⟨⟨by simp [sinceN],fun x hx=>by simp [sinceN] at hx;subst hx;exact ⟨k,hk,rfl⟩,fun x hx=>by simp [sinceN] at hx;subst hx;exact ht⟩,fun x hx=>by simp [sinceN] at hx;subst hx;exact Or.inl rfl⟩
 | cons y r ih =>
   have nd:=h.nd
   rw [List.map_cons,List.nodup_cons] at nd
   have hr:NsOk r n B:=⟨nd.2,fun x hx=>h.rg x (by simp [hx]),fun x hx=>h.bd x (by simp [hx])⟩
   by_cases hy:y.sh=(k:Int)
   ·by_cases hc:y.c=c
    ·simp only [sinceN,if_pos hy,if_pos hc]
     exact ⟨h,fun x hx=>Or.inr hx⟩
    ·simp only [sinceN,if_pos hy,if_neg hc]
     refine ⟨⟨by rw [List.map_cons,List.nodup_cons];exact nd,fun x hx=>?_,fun x hx=>?_⟩,fun x hx=>?_⟩
     ·rcases List.mem_cons.1 hx with rfl | hx
      ·exact ⟨k,hk,hy⟩
      ·exact h.rg x (by simp [hx])
     ·rcases List.mem_cons.1 hx with rfl | hx
      ·exact ht
      ·exact h.bd x (by simp [hx])
     ·rcases List.mem_cons.1 hx with rfl | hx
      ·exact Or.inl hy
      ·exact Or.inr (by simp [hx])
   ·simp only [sinceN,if_neg hy]
    obtain ⟨i1,i2⟩:=ih hr
    refine ⟨⟨?_,fun x hx=>?_,fun x hx=>?_⟩,fun x hx=>?_⟩
    ·rw [List.map_cons,List.nodup_cons]
     refine ⟨fun hm=>?_,i1.nd⟩
     obtain ⟨x,hx,e⟩:=List.mem_map.1 hm
     rcases i2 x hx with h1 | h1
     ·exact hy (by rw [←e];exact h1)
     ·exact nd.1 (List.mem_map.2 ⟨x,h1,e⟩)
    ·rcases List.mem_cons.1 hx with rfl | hx
     ·exact h.rg _ (by simp)
     ·exact i1.rg x hx
    ·rcases List.mem_cons.1 hx with rfl | hx
     ·exact h.bd _ (by simp)
     ·exact i1.bd x hx
    ·rcases List.mem_cons.1 hx with rfl | hx
     ·exact Or.inr (by simp)
     ·rcases i2 x hx with h1 | h1
      ·exact Or.inl h1
      ·exact Or.inr (by simp [h1])
def leOf (rs:List Rf) (k:Nat):Le:=match rs[k]? with
 | some r=>⟨r.own,r.ctr,r.lep⟩
 | none=>⟨-1,0,0⟩
def LsRel (ls:List Le) (rs:List Rf):Prop:=ls.length=16∧∀k,k<16→ls[k]?=some (leOf rs k)
theorem leOf_set {rs:List Rf} {k:Nat} {r':Rf} (hk:k<rs.length) (j:Nat):leOf (rs.set k r') j=if j=k then ⟨r'.own,r'.ctr,r'.lep⟩ else leOf rs j:=by
 unfold leOf
 by_cases e:j=k
 ·subst e
  rw [List.getElem?_set_self hk,if_pos rfl]
 ·rw [List.getElem?_set_ne (fun q=>e q.symm),if_neg e]
theorem LsRel.set {ls:List Le} {rs:List Rf} (h:LsRel ls rs) {k:Nat} (hk:k<rs.length) (hk16:k<16) (r':Rf) (x:Le) (hx:x=⟨r'.own,r'.ctr,r'.lep⟩):LsRel (ls.set k x) (rs.set k r'):=by
 refine ⟨by simpa using h.1,fun j hj=>?_⟩
 rw [leOf_set hk]
 by_cases e:j=k
 ·subst e
  rw [List.getElem?_set_self (by rw [h.1];exact hj),if_pos rfl,hx]
 ·rw [List.getElem?_set_ne (fun q=>e q.symm),if_neg e]
  exact h.2 j hj
def PlRel (p:Pl) (hs:List Hd) (ns:List Nt) (k:Nat):Prop:=firstOf hs k=(if p.held=true then some p.h else none)∧noteOf ns k=(if p.made=true then some ⟨k,p.c,p.s⟩ else none)
def WkRel (P:List Pl) (i:Nat) (hs:List Hd) (ns:List Nt):Prop:=∀k,k<16→∃p,P[i*16+k]?=some p∧PlRel p hs ns k
theorem WkRel.held {P:List Pl} {i:Nat} {hs:List Hd} {ns:List Nt} (h:WkRel P i hs ns):∀n,n≤16→heldOf P i n=byShard hs n:=by
 intro n
 induction n with
 | zero=>intro _;simp [heldOf,byShard]
 | succ n ih =>
   intro hn
   obtain ⟨p,hp,h1,_⟩:=h n (by omega)
   rw [heldOf,byShard_succ,ih (by omega),hp,h1]
   cases hh:p.held <;> simp [hh]
theorem WkRel.set {P:List Pl} {i:Nat} {hs hs':List Hd} {ns ns':List Nt} (h:WkRel P i hs ns) (k:Nat) (hk:k<16) (p':Pl) (hp:PlRel p' hs' ns' k) (ho:∀j:Nat,j<16→j≠k→firstOf hs' j=firstOf hs j∧noteOf ns' j=noteOf ns j):WkRel (P.set (i*16+k) p') i hs' ns':=by
 intro j hj
 by_cases e:j=k
 ·subst e
  obtain ⟨p,hq,_⟩:=h j hj
  have:=(List.getElem?_eq_some_iff.1 hq).1
  exact ⟨p',List.getElem?_set_self this,hp⟩
 ·obtain ⟨p,hq,h1,h2⟩:=h j hj
  obtain ⟨a,b⟩:=ho j hj e
  exact ⟨p,by rw [List.getElem?_set_ne (by omega)];exact hq,a.trans h1,b.trans h2⟩
def Oth (i:Nat) (P P':List Pl):Prop:=P'.length=P.length∧∀j k,j≠i→k<16→P'[j*16+k]?=P[j*16+k]?
theorem Oth.refl (i:Nat) (P:List Pl):Oth i P P:=⟨rfl,fun _ _ _ _=>rfl⟩
theorem Oth.set {i:Nat} {P P':List Pl} (h:Oth i P P') (k:Nat) (hk:k<16) (p:Pl):Oth i P (P'.set (i*16+k) p) :=
 ⟨by rw [List.length_set];exact h.1,fun j q hj hq=>by rw [List.getElem?_set_ne (by omega)];exact h.2 j q hj hq⟩
theorem Oth.wk {i j:Nat} {P P':List Pl} (h:Oth i P P') (hj:j≠i) {hs:List Hd} {ns:List Nt} (hw:WkRel P j hs ns):WkRel P' j hs ns:=fun k hk=>by
 obtain ⟨p,hp,hr⟩:=hw k hk
 exact ⟨p,(h.2 j k hj hk).trans hp,hr⟩
theorem renew_one {f:Nat→Bool} {i k:Nat} {ls:List Le} {P:List Pl} {rs:List Rf} {hs:List Hd} {ns:List Nt} {B:Int} (hB:B≤1000000000000) (hk:k<16) (hL:LsRel ls rs) (hW:WkRel P i hs ns) (hH:HsOk hs rs.length)
 (hb:∀r,rs[k]?=some r→0≤r.ctr∧r.ctr≤B) (fb:Bool) (hf:k<rs.length→fb=f k) :
 LsRel (rhLs i k fb ls P) (renewAt f i k (rs,hs)).1∧WkRel (rhP i k fb ls P) i (renewAt f i k (rs,hs)).2 ns∧HsOk (renewAt f i k (rs,hs)).2 rs.length∧(renewAt f i k (rs,hs)).1.length=rs.length∧Oth i P (rhP i k fb ls P) ∧
  (∀j,j≠k→(renewAt f i k (rs,hs)).1[j]?=rs[j]?∧firstOf (renewAt f i k (rs,hs)).2 j=firstOf hs j)∧(rhKeep i k fb ls P=(firstOf (renewAt f i k (rs,hs)).2 k).isSome)∧(∀r',(renewAt f i k (rs,hs)).1[k]?=some r'→∃r,rs[k]?=some r∧(r'.ctr=r.ctr∨r'.ctr=r.ctr+1)∧r'.lep=r.lep∧r'.done=r.done∧r'.ep=r.ep):=by
 obtain ⟨p,hp,h1,h2⟩:=hW k hk
 have hx:=hL.2 k hk
 have same:∀r',rs[k]?=some r'→∃r,rs[k]?=some r∧(r'.ctr=r.ctr∨r'.ctr=r.ctr+1)∧r'.lep=r.lep∧r'.done=r.done∧r'.ep=r.ep:=fun r' h=>⟨r',h,Or.inl rfl,rfl,rfl,rfl⟩
 cases hh:p.held
 ·rw [hh] at h1
  simp only [Bool.false_eq_true,if_false] at h1
  have e0:renewAt f i k (rs,hs)=(rs,hs):=by unfold renewAt;simp only [h1]
  have e1:rhLs i k fb ls P=ls:=by unfold rhLs;rw [hx,hp];simp [hh]
  have e2:rhP i k fb ls P=P:=by unfold rhP;rw [hx,hp];simp [hh]
  have e3:rhKeep i k fb ls P=false:=by unfold rhKeep;rw [hx,hp];simp [hh]
  rw [e0,e1,e2,e3]
  refine ⟨hL,hW,hH,rfl,Oth.refl i P,fun j _=>⟨rfl,rfl⟩,?_,same⟩
  simp only [h1];rfl
 ·rw [hh] at h1
  simp only [if_true] at h1
  obtain ⟨hin,hsh⟩:=firstOf_in h1
  obtain ⟨k',hk',e⟩:=hH.rg _ hin
  have ek:k'=k:=by omega
  subst ek
  obtain ⟨r,hr⟩:∃r,rs[k']?=some r:=⟨rs[k'],List.getElem?_eq_getElem hk'⟩
  have hfb:=hf hk'
  have hle:leOf rs k'=⟨r.own,r.ctr,r.lep⟩:=by unfold leOf;rw [hr]
  rw [hle] at hx
  have hbr:=hb r hr
  have hinc:inc r.ctr=r.ctr+1:=inc_is ⟨hbr.1,by omega⟩
  have dr:PlRel (dropped p) (lost hs k') ns k':=by
   refine ⟨?_,?_⟩
   ·rw [firstOf_lost,if_pos rfl];rfl
   ·rw [h2];rfl
  have lo:∀j:Nat,j<16→j≠k'→firstOf (lost hs k') j=firstOf hs j∧noteOf ns j=noteOf ns j:=fun j _ hj=>⟨by rw [firstOf_lost,if_neg (by omega)],rfl⟩
  have lo2:∀j:Nat,j≠k'→firstOf (lost hs k') j=firstOf hs j:=fun j hj=>by rw [firstOf_lost,if_neg (by omega)]
  by_cases hm:r.own=i∧r.lep=p.h.ep
  ·have hm':¬(r.own≠i∨r.lep≠p.h.ep):=by omega
   cases hfk:f k'
   ·have e0:renewAt f i k' (rs,hs)=(rs.set k' { r with own:=i,ctr:=r.ctr+1,lep:=r.lep },hs):=by unfold renewAt;simp only [h1,hr];rw [if_neg hm',if_neg (by simp [hfk])]
    have e1:rhLs i k' fb ls P=ls.set k' ⟨r.own,r.ctr+1,r.lep⟩:=by unfold rhLs;rw [hx,hp];simp only;rw [if_pos ⟨hh,hm.1,hm.2⟩,hfb,hfk,if_neg (by simp),hinc]
    have e2:rhP i k' fb ls P=P:=by unfold rhP;rw [hx,hp];simp only;rw [if_neg (by rw [hfb,hfk];simp [hm.1,hm.2])]
    have e3:rhKeep i k' fb ls P=true:=by unfold rhKeep;rw [hx,hp];simp [hh,hm.1,hm.2,hfb,hfk]
    rw [e0,e1,e2,e3]
    refine ⟨hL.set hk' hk _ _ (by rw [hm.1]),hW,hH,by simp,Oth.refl i P,fun j hj=>⟨by simp only;rw [List.getElem?_set_ne (fun q=>hj q.symm)],rfl⟩,by simp only [h1];rfl,fun r' h=>?_⟩
    simp only at h
    rw [List.getElem?_set_self hk'] at h
    injection h with h
    subst h
    exact ⟨r,hr,Or.inr rfl,rfl,rfl,rfl⟩
   ·have e0:renewAt f i k' (rs,hs)=(rs.set k' { r with own:=-1,ctr:=r.ctr+1,lep:=r.lep },lost hs k'):=by unfold renewAt;simp only [h1,hr];rw [if_neg hm',if_pos hfk]
    have e1:rhLs i k' fb ls P=ls.set k' ⟨-1,r.ctr+1,r.lep⟩:=by unfold rhLs;rw [hx,hp];simp only;rw [if_pos ⟨hh,hm.1,hm.2⟩,hfb,hfk,if_pos rfl,hinc]
    have e2:rhP i k' fb ls P=P.set (i*16+k') (dropped p):=by unfold rhP;rw [hx,hp];simp only;rw [if_pos (by rw [hfb,hfk];simp [hh])]
    have e3:rhKeep i k' fb ls P=false:=by unfold rhKeep;rw [hx,hp];simp [hfb,hfk]
    rw [e0,e1,e2,e3]
    refine ⟨hL.set hk' hk _ _ rfl,hW.set k' hk _ dr lo,hH.lost _,by simp,(Oth.refl i P).set k' hk _,fun j hj=>⟨by simp only;rw [List.getElem?_set_ne (fun q=>hj q.symm)],lo2 j hj⟩,?_,fun r' h=>?_⟩
    ·simp only;rw [firstOf_lost,if_pos rfl];rfl
    ·simp only at h
     rw [List.getElem?_set_self hk'] at h
     injection h with h
     subst h
     exact ⟨r,hr,Or.inr rfl,rfl,rfl,rfl⟩
  ·have hm':r.own≠i∨r.lep≠p.h.ep:=by omega
   have e0:renewAt f i k' (rs,hs)=(rs,lost hs k'):=by unfold renewAt;simp only [h1,hr];rw [if_pos hm']
   have e1:rhLs i k' fb ls P=ls:=by unfold rhLs;rw [hx,hp];simp only;rw [if_neg (fun q=>hm q.2)]
   have e2:rhP i k' fb ls P=P.set (i*16+k') (dropped p):=by unfold rhP;rw [hx,hp];simp only;rw [if_pos ⟨hh,fun q=>hm ⟨q.1,q.2.1⟩⟩]
   have e3:rhKeep i k' fb ls P=false:=by unfold rhKeep;rw [hx,hp];simp only [decide_eq_false_iff_not];exact fun q=>hm ⟨q.2.1,q.2.2.1⟩
   rw [e0,e1,e2,e3]
   refine ⟨hL,hW.set k' hk _ dr lo,hH.lost _,rfl,(Oth.refl i P).set k' hk _,fun j hj=>⟨rfl,lo2 j hj⟩,?_,same⟩
   simp only;rw [firstOf_lost,if_pos rfl];rfl
end Go.Proofs.YtpnkmnmchdabkaaGreat
namespace Go.Proofs.YtpnkmnmchdabkaaGreat
open Go.RowKit
attribute [local go_sem ↓] Go.wp_at_zero Go.wp_at_succ
def plus (a b:Int):Int:=IntKind.i64.wrap (a+b)
theorem below_set2 {B:Nat} {a w:World} (h:Below B a w) (p:Addr) (u:Value):Below B (a.setCell p u) (w.setCell p u) :=
 ⟨h.os,h.tape,h.output,by simpa [World.setCell] using h.size,fun k hk=>by
  simp only [World.setCell,Array.getElem?_modify]
  split
  ·rw [h.block k hk]
  ·exact h.block k hk⟩
theorem cell_alloc' {W:World} {b i:Nat} {v:Value} (h:W.cell? ⟨b,i,none⟩=some v) (hb:b<W.heap.size) (o:Obj):(W.alloc o).drew.cell? ⟨b,i,none⟩=some v:=by
 have:(W.alloc o).cell? ⟨b,i,none⟩=some v:=by rw [World.cell?_of_block (w:=W) (Below.heap_alloc _ _ _ hb)];exact h
 exact this
set_option maxRecDepth 100000 in
set_option maxHeartbeats 1000000 in
theorem sinkCommit_yes (b o k:Nat) (hk:k<16) (d e:Int) (ep at_ bf:Int) (w:World) (hb:b<w.heap.size) (c0:w.cell? ⟨b,o+k*2,none⟩=some (.int .i64 d)) (c1:w.cell? ⟨b,o+k*2+1,none⟩=some (.int .i64 e)) (f:∀q,w.frozen? ⟨b,q,none⟩=false) (he:e≤ep) (ha:at_=d) :
 Calls Tryz.prog 44 #[.pointer (some ⟨b,o,none⟩),.agg #[.int .i64 k,.int .i64 ep,.int .i64 at_,.int .i64 bf]] w fun r w'=>r=.returned (.bool true)∧Below w.heap.size ((w.setCell ⟨b,o+k*2,none⟩ (.int .i64 (plus d bf))).setCell ⟨b,o+k*2+1,none⟩ (.int .i64 ep)) w':=by
 subst ha
 have wp:IntKind.i64.wrap (at_+bf)=plus at_ bf:=rfl
 have HZ:=fun w=>hide (sinkHas_any k w)
 rw [hasS16 hk] at HZ
 have a0:(w.alloc (.cells #[.int .i64 k,.int .i64 ep,.int .i64 at_,.int .i64 bf] 102)).cell? ⟨b,o+k*2,none⟩=some (.int .i64 at_):=(World.cell?_of_block (w:=w) (Below.heap_alloc _ _ _ hb)).trans c0
 have a1:(w.alloc (.cells #[.int .i64 k,.int .i64 ep,.int .i64 at_,.int .i64 bf] 102)).cell? ⟨b,o+k*2+1,none⟩=some (.int .i64 e):=(World.cell?_of_block (w:=w) (Below.heap_alloc _ _ _ hb)).trans c1
 have hne:¬ep<e:=by omega
 have q1:¬((k:Int)<0):=by omega
 have q2:(k:Int)<16:=by omega
 have hBW:=(Below.refl w.heap.size w).alloc (Nat.le_refl _) (.cells #[.int .i64 k,.int .i64 ep,.int .i64 at_,.int .i64 bf] 102)
 go_enter Tryz.func44,Tryz.ntmps44
 go_wp2_with (go_at_call 81;refine (uh (HZ _)).mono ?_;rintro e w1 ⟨rfl,rfl⟩)
 have b0:(w.alloc (.cells #[.int .i64 k,.int .i64 ep,.int .i64 at_,.int .i64 bf] 102)).cell? ⟨w.heap.size,0,none⟩=some (.int .i64 k):=cell_of (heap_alloc_new w _) 0
 have b1:(w.alloc (.cells #[.int .i64 k,.int .i64 ep,.int .i64 at_,.int .i64 bf] 102)).cell? ⟨w.heap.size,1,none⟩=some (.int .i64 ep):=cell_of (heap_alloc_new w _) 1
 have b2:(w.alloc (.cells #[.int .i64 k,.int .i64 ep,.int .i64 at_,.int .i64 bf] 102)).cell? ⟨w.heap.size,2,none⟩=some (.int .i64 at_):=cell_of (heap_alloc_new w _) 2
 have b3:(w.alloc (.cells #[.int .i64 k,.int .i64 ep,.int .i64 at_,.int .i64 bf] 102)).cell? ⟨w.heap.size,3,none⟩=some (.int .i64 bf):=cell_of (heap_alloc_new w _) 3
 have hsz:(w.alloc (.cells #[.int .i64 k,.int .i64 ep,.int .i64 at_,.int .i64 bf] 102)).heap.size=w.heap.size+1:=by simp
 generalize w.alloc (.cells #[.int .i64 k,.int .i64 ep,.int .i64 at_,.int .i64 bf] 102)=W at *
 go_region_held3 (fun w'=>w'.cell? ⟨w.heap.size,0,none⟩=some (.int .i64 k)∧w'.cell? ⟨b,o+k*2,none⟩=some (.int .i64 at_)∧w'.cell? ⟨b,o+k*2+1,none⟩=some (.int .i64 e)) (first | go_keep | trivial) (fail)
 have hbW:Below w.heap.size w W:=hBW
 have hb1:b<W.heap.size:=by omega
 have hw1:w.heap.size<W.heap.size:=by omega
 have V0:=cell_alloc' (W:=W) a0 hb1 (.cells #[.int .i64 at_,.int .i64 e] 66)
 have V1:=cell_alloc' (W:=W) a1 hb1 (.cells #[.int .i64 at_,.int .i64 e] 66)
 have U0:=cell_alloc' (W:=W) b0 hw1 (.cells #[.int .i64 at_,.int .i64 e] 66)
 have U1:=cell_alloc' (W:=W) b1 hw1 (.cells #[.int .i64 at_,.int .i64 e] 66)
 have U2:=cell_alloc' (W:=W) b2 hw1 (.cells #[.int .i64 at_,.int .i64 e] 66)
 have U3:=cell_alloc' (W:=W) b3 hw1 (.cells #[.int .i64 at_,.int .i64 e] 66)
 have M0:(W.alloc (.cells #[.int .i64 at_,.int .i64 e] 66)).drew.cell? ⟨w.heap.size+1,0,none⟩=some (.int .i64 at_):=by rw [←hsz];exact cell_of (heap_alloc_new W _) 0
 have M1:(W.alloc (.cells #[.int .i64 at_,.int .i64 e] 66)).drew.cell? ⟨w.heap.size+1,1,none⟩=some (.int .i64 e):=by rw [←hsz];exact cell_of (heap_alloc_new W _) 1
 have hV:Hid (Below w.heap.size w (W.alloc (.cells #[.int .i64 at_,.int .i64 e] 66)).drew):=(hbW.alloc (by omega) _).drew
 have fV:∀q,(W.alloc (.cells #[.int .i64 at_,.int .i64 e] 66)).drew.frozen? ⟨b,q,none⟩=false:=fun q=>((uh hV).frozen (p:=⟨b,q,none⟩) hb).trans (f q)
 have f0:=fV (o+k*2)
 have f1:=fV (o+k*2+1)
 generalize (W.alloc (.cells #[.int .i64 at_,.int .i64 e] 66)).drew=V at *
 clear fV a0 a1 b0 b1 b2 b3 hBW hbW f c0 c1 HZ
 go_wp2_with fail
 have hn1:b≠w.heap.size:=by omega
 have hn2:b≠w.heap.size+1:=by omega
 go_region_held3 (fun w'=>w'.cell? ⟨w.heap.size,0,none⟩=some (.int .i64 k)∧w'.cell? ⟨w.heap.size,1,none⟩=some (.int .i64 ep)∧w'.cell? ⟨w.heap.size,3,none⟩=some (.int .i64 bf)∧w'.cell? ⟨w.heap.size+1,0,none⟩=some (.int .i64 at_)) (first | go_keep | trivial) (fail)
 go_wp2
 go_ret
 exact ⟨rfl,(below_set2 (below_set2 (uh hV) _ _) _ _).drew⟩
set_option maxRecDepth 100000 in
set_option maxHeartbeats 1000000 in
theorem sinkCommit_no (b o k:Nat) (hk:k<16) (d e:Int) (ep at_ bf:Int) (w:World) (hb:b<w.heap.size) (c0:w.cell? ⟨b,o+k*2,none⟩=some (.int .i64 d)) (c1:w.cell? ⟨b,o+k*2+1,none⟩=some (.int .i64 e)) (f:∀q,w.frozen? ⟨b,q,none⟩=false) (hno:¬(e≤ep∧at_=d)) :
 Calls Tryz.prog 44 #[.pointer (some ⟨b,o,none⟩),.agg #[.int .i64 k,.int .i64 ep,.int .i64 at_,.int .i64 bf]] w fun r w'=>r=.returned (.bool false)∧Below w.heap.size w w':=by
 have HZ:=fun w=>hide (sinkHas_any k w)
 rw [hasS16 hk] at HZ
 have a0:(w.alloc (.cells #[.int .i64 k,.int .i64 ep,.int .i64 at_,.int .i64 bf] 102)).cell? ⟨b,o+k*2,none⟩=some (.int .i64 d):=(World.cell?_of_block (w:=w) (Below.heap_alloc _ _ _ hb)).trans c0
 have a1:(w.alloc (.cells #[.int .i64 k,.int .i64 ep,.int .i64 at_,.int .i64 bf] 102)).cell? ⟨b,o+k*2+1,none⟩=some (.int .i64 e):=(World.cell?_of_block (w:=w) (Below.heap_alloc _ _ _ hb)).trans c1
 have q1:¬((k:Int)<0):=by omega
 have q2:(k:Int)<16:=by omega
 have hBW:=(Below.refl w.heap.size w).alloc (Nat.le_refl _) (.cells #[.int .i64 k,.int .i64 ep,.int .i64 at_,.int .i64 bf] 102)
 go_enter Tryz.func44,Tryz.ntmps44
 go_wp2_with (go_at_call 81;refine (uh (HZ _)).mono ?_;rintro e w1 ⟨rfl,rfl⟩)
 have b0:(w.alloc (.cells #[.int .i64 k,.int .i64 ep,.int .i64 at_,.int .i64 bf] 102)).cell? ⟨w.heap.size,0,none⟩=some (.int .i64 k):=cell_of (heap_alloc_new w _) 0
 have b1:(w.alloc (.cells #[.int .i64 k,.int .i64 ep,.int .i64 at_,.int .i64 bf] 102)).cell? ⟨w.heap.size,1,none⟩=some (.int .i64 ep):=cell_of (heap_alloc_new w _) 1
 have b2:(w.alloc (.cells #[.int .i64 k,.int .i64 ep,.int .i64 at_,.int .i64 bf] 102)).cell? ⟨w.heap.size,2,none⟩=some (.int .i64 at_):=cell_of (heap_alloc_new w _) 2
 have b3:(w.alloc (.cells #[.int .i64 k,.int .i64 ep,.int .i64 at_,.int .i64 bf] 102)).cell? ⟨w.heap.size,3,none⟩=some (.int .i64 bf):=cell_of (heap_alloc_new w _) 3
 have hsz:(w.alloc (.cells #[.int .i64 k,.int .i64 ep,.int .i64 at_,.int .i64 bf] 102)).heap.size=w.heap.size+1:=by simp
 generalize w.alloc (.cells #[.int .i64 k,.int .i64 ep,.int .i64 at_,.int .i64 bf] 102)=W at *
 go_region_held3 (fun w'=>w'.cell? ⟨w.heap.size,0,none⟩=some (.int .i64 k)∧w'.cell? ⟨b,o+k*2,none⟩=some (.int .i64 d)∧w'.cell? ⟨b,o+k*2+1,none⟩=some (.int .i64 e)) (first | go_keep | trivial) (fail)
 have hbW:Below w.heap.size w W:=hBW
 have hb1:b<W.heap.size:=by omega
 have hw1:w.heap.size<W.heap.size:=by omega
 have V0:=cell_alloc' (W:=W) a0 hb1 (.cells #[.int .i64 d,.int .i64 e] 66)
 have V1:=cell_alloc' (W:=W) a1 hb1 (.cells #[.int .i64 d,.int .i64 e] 66)
 have U0:=cell_alloc' (W:=W) b0 hw1 (.cells #[.int .i64 d,.int .i64 e] 66)
 have U1:=cell_alloc' (W:=W) b1 hw1 (.cells #[.int .i64 d,.int .i64 e] 66)
 have U2:=cell_alloc' (W:=W) b2 hw1 (.cells #[.int .i64 d,.int .i64 e] 66)
 have U3:=cell_alloc' (W:=W) b3 hw1 (.cells #[.int .i64 d,.int .i64 e] 66)
 have M0:(W.alloc (.cells #[.int .i64 d,.int .i64 e] 66)).drew.cell? ⟨w.heap.size+1,0,none⟩=some (.int .i64 d):=by rw [←hsz];exact cell_of (heap_alloc_new W _) 0
 have M1:(W.alloc (.cells #[.int .i64 d,.int .i64 e] 66)).drew.cell? ⟨w.heap.size+1,1,none⟩=some (.int .i64 e):=by rw [←hsz];exact cell_of (heap_alloc_new W _) 1
 have hV:Hid (Below w.heap.size w (W.alloc (.cells #[.int .i64 d,.int .i64 e] 66)).drew):=(hbW.alloc (by omega) _).drew
 have fV:∀q,(W.alloc (.cells #[.int .i64 d,.int .i64 e] 66)).drew.frozen? ⟨b,q,none⟩=false:=fun q=>((uh hV).frozen (p:=⟨b,q,none⟩) hb).trans (f q)
 have f0:=fV (o+k*2)
 have f1:=fV (o+k*2+1)
 generalize (W.alloc (.cells #[.int .i64 d,.int .i64 e] 66)).drew=V at *
 clear fV a0 a1 b0 b1 b2 b3 hBW hbW f c0 c1 HZ
 by_cases h1:ep<e
 ·go_wp2
  go_ret
  exact ⟨rfl,uh hV⟩
 ·have h2:¬at_=d:=fun h2=>hno ⟨by omega,h2⟩
  go_wp2
  go_ret
  exact ⟨rfl,uh hV⟩
def dnSet (dn:List Int) (k:Nat) (d e:Int):List Int:=(dn.set (k*2) d).set (k*2+1) e
def epP (dn:List Int) (k:Nat):Int:=(dn[k*2+1]?).getD 0
theorem epP_get {dn:List Int} (h:dn.length=32) {k:Nat} (hk:k<16):dn[k*2+1]?=some (epP dn k):=by
 unfold epP
 rw [List.getElem?_eq_getElem (by omega)]
 rfl
def folds (dn:List Int) (k:Nat) (ep at_:Int):Bool:=decide (epP dn k≤ep∧at_=dnP dn k)
def Rest.fold (now:Rest) (k:Nat) (ep at_ bf:Int):Rest:=if folds now.dn k ep at_=true then { now with dn:=dnSet now.dn k (plus (dnP now.dn k) bf) ep } else now
theorem gsCommit_any {w:World} {ρ:Nat→Nat} {gb:Nat} {C:Cfg} {now:Rest} {sv:Value} {m:List Cs} {g cap:Nat} {ls:List Le} {P:List Pl} (h:GS w ρ gb C now sv m g cap ls P) (k:Nat) (hk:k<16) (ep at_ bf:Int) :
 Calls Tryz.prog 44 #[.pointer (some ⟨gb,8,none⟩),.agg #[.int .i64 k,.int .i64 ep,.int .i64 at_,.int .i64 bf]] w fun r w'=>r=.returned (.bool (folds now.dn k ep at_))∧GSP w ρ gb C (now.fold k ep at_ bf) sv m g cap ls P w':=by
 have hG:GrpL w ρ gb C (now.up ls P) sv m g cap P:=h
 have hl:now.dn.length=32:=hG.G.dnL
 have c0:=hG.dcell (k*2) _ (dnP_get (dn:=now.dn) hl hk)
 have c1:=hG.dcell (k*2+1) _ (epP_get (dn:=now.dn) hl hk)
 have fz:=fun q=>frozen_of hG.G.blk q
 have hlt:=lt_of_heap hG.G.blk
 by_cases hf:epP now.dn k≤ep∧at_=dnP now.dn k
 ·refine (sinkCommit_yes gb 8 k hk _ _ ep at_ bf w hlt c0 c1 fz hf.1 hf.2).mono fun r w' q=>⟨?_,?_⟩
  ·rw [q.1,folds,decide_eq_true hf]
  ·have e:now.fold k ep at_ bf={ now with dn:=dnSet now.dn k (plus (dnP now.dn k) bf) ep }:=by unfold Rest.fold folds;rw [decide_eq_true hf,if_pos rfl]
   rw [e]
   have s1:=hG.setDn (k*2) (by omega) (plus (dnP now.dn k) bf)
   have s2:=s1.1.setDn (k*2+1) (by omega) ep
   rw [show 8+(k*2+1)=8+k*2+1 by omega] at s2
   have s3:=s2.1.below (w':=w') (by simpa [World.setCell] using q.2)
   exact ⟨s3.1,s1.2.trans (s2.2.trans s3.2)⟩
 ·refine (sinkCommit_no gb 8 k hk _ _ ep at_ bf w hlt c0 c1 fz hf).mono fun r w' q=>⟨?_,?_⟩
  ·rw [q.1,folds,decide_eq_false hf]
  ·have e:now.fold k ep at_ bf=now:=by unfold Rest.fold folds;rw [decide_eq_false hf,if_neg (by simp)]
   rw [e]
   exact h.below q.2
theorem GSP.setNew {w W:World} {ρ:Nat→Nat} {gb:Nat} {C:Cfg} {now:Rest} {sv:Value} {m:List Cs} {g cap:Nat} {ls:List Le} {P:List Pl} (hW:GSP w ρ gb C now sv m g cap ls P W) (hf:Fits w ρ) {b i:Nat} (hb:w.heap.size≤b) (u:Value):GSP w ρ gb C now sv m g cap ls P (W.setCell ⟨b,i,none⟩ u):=by
 have hz:ρ b=0:=hf b hb
 have hk:Keeps (fun k=>k=b) W (W.setCell ⟨b,i,none⟩ u):=Keeps.setCell (S:=fun k=>k=b) (Keeps.refl _ W) (by exact Or.inl rfl) _
 have hG:GrpL W ρ gb C (now.up ls P) sv m g cap P:=hW.1
 refine ⟨⟨hG.G.keeps hk (fun k e=>Or.inl (by subst e;unfold mine;omega)) (fun _ _=>rfl) hG.le,hG.hw,hG.hm,hG.hl,hG.le,fun k hk'=>hG.fits k (by simpa [World.setCell] using hk')⟩,?_⟩
 exact Keeps.setCell hW.2 (Or.inr hb) _
theorem four_set {V:World} {b:Nat} {u0 u1 u2 u3:Value} {t:TypeId} (h:V.heap[b]?=some (.cells #[u0,u1,u2,u3] t (0,0))) (v0 v1 v2 v3:Value) :
 ((((V.setCell ⟨b,0,none⟩ v0).setCell ⟨b,1,none⟩ v1).setCell ⟨b,2,none⟩ v2).setCell ⟨b,3,none⟩ v3).heap[b]?=some (.cells #[v0,v1,v2,v3] t (0,0)):=by
 have M1:=heap_setCell_same (i:=0) h v0
 have M2:=heap_setCell_same (i:=1) M1 v1
 have M3:=heap_setCell_same (i:=2) M2 v2
 have M4:=heap_setCell_same (i:=3) M3 v3
 simpa using M4
theorem four_cells {V:World} {b:Nat} {u0 u1 u2 u3:Value} {t:TypeId} (h:V.heap[b]?=some (.cells #[u0,u1,u2,u3] t (0,0))) :
 V.cell? ⟨b,0,none⟩=some u0∧V.cell? ⟨b,1,none⟩=some u1∧V.cell? ⟨b,2,none⟩=some u2∧V.cell? ⟨b,3,none⟩=some u3∧V.frozen? ⟨b,0,none⟩=false∧V.frozen? ⟨b,1,none⟩=false∧V.frozen? ⟨b,2,none⟩=false∧V.frozen? ⟨b,3,none⟩=false :=
 ⟨cell_of h 0,cell_of h 1,cell_of h 2,cell_of h 3,frozen_of h 0,frozen_of h 1,frozen_of h 2,frozen_of h 3⟩
set_option maxRecDepth 100000 in
set_option maxHeartbeats 2000000 in
theorem findHold_any {w:World} {ρ:Nat→Nat} {gb:Nat} {C:Cfg} {now:Rest} {sv:Value} {m:List Cs} {g cap:Nat} {ls:List Le} {P:List Pl} (h:GS w ρ gb C now sv m g cap ls P) (i:Nat) (hi:i<now.n) (k:Nat) (hk:k<m.length) (p:Pl) (hp:P[i*16+k]?=some p) :
 Calls Tryz.prog 39 #[.pointer (some ⟨gb,0,none⟩),.int .i64 i,.int .i64 k] w fun e w'=>e=.returned (if p.held=true then .tuple #[.pointer (some ⟨g,i*128,none⟩),.agg #[.int .i64 p.h.sh,.int .i64 p.h.ep,.int .i64 p.h.at_,.int .i64 p.h.bf],.int .i64 0] else .tuple #[.pointer none,.agg #[.int .i64 0,.int .i64 0,.int .i64 0,.int .i64 0],.int .i64 13])∧GSP w ρ gb C now sv m g cap ls P w':=by
 have h0:0<m.length:=by omega
 have h16:m.length≤16:=GrpL.le h
 have k16:k<16:=by omega
 have hA:=h.alloc (.cells #[.int .i64 0,.int .i64 0,.int .i64 0,.int .i64 0] 102)
 have HK:=hide (hasWorker_any hA.1 i)
 rw [show decide (0≤(i:Int)∧(i:Int)<now.n)=true by simp;omega] at HK
 have HL:=hide (gHas_any hA.1 h0 k)
 rw [show decide (0≤(k:Int)∧(k:Int)<m.length)=true by simp;omega] at HL
 have c88:(w.alloc (.cells #[.int .i64 0,.int .i64 0,.int .i64 0,.int .i64 0] 102)).cell? ⟨gb,88,none⟩=some (.slice (some ⟨g,0,none⟩) now.n cap):=hA.1.wcell
 have H1:Hid (Calls Tryz.prog 77 #[.pointer (some ⟨g,i*128,none⟩),.int .i64 k] (w.alloc (.cells #[.int .i64 0,.int .i64 0,.int .i64 0,.int .i64 0] 102)) fun e w'=>e=.returned (.tuple #[if p.held=true then .agg #[.int .i64 p.h.sh,.int .i64 p.h.ep,.int .i64 p.h.at_,.int .i64 p.h.bf] else .agg #[.int .i64 0,.int .i64 0,.int .i64 0,.int .i64 0],.bool p.held])∧GSP (w.alloc (.cells #[.int .i64 0,.int .i64 0,.int .i64 0,.int .i64 0] 102)) ρ gb C now sv m g cap ls P w'):=gHold_any (now:=now.up ls P) hA.1 i k k16 p hp
 have N0:=heap_alloc_new w (.cells #[.int .i64 0,.int .i64 0,.int .i64 0,.int .i64 0] 102)
 have HA:=hide hA
 have HN:=hide N0
 have HFit:=hide h.fits
 have hz:Hid (¬mine ρ w.heap.size):=fun hm=>by have:=h.fits _ (Nat.le_refl _);unfold mine at hm;omega
 clear h hp hA N0
 cases hh:p.held
 ·rw [hh] at H1
  simp only [Bool.false_eq_true,if_false] at H1 ⊢
  go_enter Tryz.func39,Tryz.ntmps39
  go_wp2_with (first | (go_at_call 76;refine (uh HK).mono ?_;rintro e w1 ⟨rfl,rfl⟩) | (go_at_call 47;refine (uh HL).mono ?_;rintro e w1 ⟨rfl,rfl⟩))
  generalize w.alloc (.cells #[.int .i64 0,.int .i64 0,.int .i64 0,.int .i64 0] 102)=W at *
  refine (uh H1).mono ?_
  rintro e w1 ⟨rfl,q1⟩
  have hN1:=(q1.2.block _ (lt_of_heap (uh HN)) (uh hz)).trans (uh HN)
  have hN2:=(Below.heap_alloc w1 (.cells #[.int .i64 0,.int .i64 0,.int .i64 0,.int .i64 0] 102) _ (lt_of_heap hN1)).trans hN1
  have hH:=heap_alloc_new w1 (.cells #[.int .i64 0,.int .i64 0,.int .i64 0,.int .i64 0] 102)
  have Q1:=hide (((uh HA).trans q1).alloc (w1:=w1) (.cells #[.int .i64 0,.int .i64 0,.int .i64 0,.int .i64 0] 102))
  have hlt1:=hide (lt_of_heap hN1)
  clear q1 hN1
  obtain ⟨r0,r1,r2,r3,f0,f1,f2,f3⟩:=four_cells hN2
  obtain ⟨t0,t1,t2,t3,_⟩:=four_cells hH
  have HN2:=hide hN2
  clear hN2 hH
  go_wp2
  have M:=four_set (uh HN2) (.int .i64 0) (.int .i64 0) (.int .i64 0) (.int .i64 0)
  have HQ:=hide ((((( uh Q1).setNew (uh HFit) (b:=w.heap.size) (i:=0) (Nat.le_refl _) (.int .i64 0)).setNew (uh HFit) (b:=w.heap.size) (i:=1) (Nat.le_refl _) (.int .i64 0)).setNew (uh HFit) (b:=w.heap.size) (i:=2) (Nat.le_refl _) (.int .i64 0)).setNew (uh HFit) (b:=w.heap.size) (i:=3) (Nat.le_refl _) (.int .i64 0))
  generalize ((((w1.alloc (.cells #[.int .i64 0,.int .i64 0,.int .i64 0,.int .i64 0] 102)).setCell ⟨w.heap.size,0,none⟩ (.int .i64 0)).setCell ⟨w.heap.size,1,none⟩ (.int .i64 0)).setCell ⟨w.heap.size,2,none⟩ (.int .i64 0)).setCell ⟨w.heap.size,3,none⟩ (.int .i64 0)=U at *
  obtain ⟨m0,m1,m2,m3,_⟩:=four_cells M
  refine bodyPost_ret (v:=.tuple #[.pointer none,.agg #[.int .i64 0,.int .i64 0,.int .i64 0,.int .i64 0],.int .i64 13]) ?_ rfl ⟨rfl,uh HQ⟩
  simp [results,Tryz.results39,go_sem,m0,m1,m2,m3]
 ·rw [hh] at H1
  simp only [if_true] at H1 ⊢
  go_enter Tryz.func39,Tryz.ntmps39
  go_wp2_with (first | (go_at_call 76;refine (uh HK).mono ?_;rintro e w1 ⟨rfl,rfl⟩) | (go_at_call 47;refine (uh HL).mono ?_;rintro e w1 ⟨rfl,rfl⟩))
  generalize w.alloc (.cells #[.int .i64 0,.int .i64 0,.int .i64 0,.int .i64 0] 102)=W at *
  refine (uh H1).mono ?_
  rintro e w1 ⟨rfl,q1⟩
  have hN1:=(q1.2.block _ (lt_of_heap (uh HN)) (uh hz)).trans (uh HN)
  have hN2:=(Below.heap_alloc w1 (.cells #[.int .i64 p.h.sh,.int .i64 p.h.ep,.int .i64 p.h.at_,.int .i64 p.h.bf] 102) _ (lt_of_heap hN1)).trans hN1
  have hH:=heap_alloc_new w1 (.cells #[.int .i64 p.h.sh,.int .i64 p.h.ep,.int .i64 p.h.at_,.int .i64 p.h.bf] 102)
  have Q1:=hide (((uh HA).trans q1).alloc (w1:=w1) (.cells #[.int .i64 p.h.sh,.int .i64 p.h.ep,.int .i64 p.h.at_,.int .i64 p.h.bf] 102))
  have hlt1:=hide (lt_of_heap hN1)
  clear q1 hN1
  obtain ⟨r0,r1,r2,r3,f0,f1,f2,f3⟩:=four_cells hN2
  obtain ⟨t0,t1,t2,t3,_⟩:=four_cells hH
  have HN2:=hide hN2
  clear hN2 hH
  go_wp2_with fail
  have hne:w.heap.size≠w1.heap.size:=by have:=uh hlt1;omega
  generalize w1.alloc (.cells #[.int .i64 p.h.sh,.int .i64 p.h.ep,.int .i64 p.h.at_,.int .i64 p.h.bf] 102)=V at *
  go_region_held3 (fun w'=>w'.cell? ⟨w1.heap.size,0,none⟩=some (.int .i64 p.h.sh)∧w'.cell? ⟨w1.heap.size,1,none⟩=some (.int .i64 p.h.ep)∧w'.cell? ⟨w1.heap.size,2,none⟩=some (.int .i64 p.h.at_)∧w'.cell? ⟨w1.heap.size,3,none⟩=some (.int .i64 p.h.bf)) (first | go_keep | trivial) (fail)
  go_wp2
  have M:=four_set (uh HN2) (.int .i64 p.h.sh) (.int .i64 p.h.ep) (.int .i64 p.h.at_) (.int .i64 p.h.bf)
  have HQ:=hide (((((uh Q1).setNew (uh HFit) (b:=w.heap.size) (i:=0) (Nat.le_refl _) (.int .i64 p.h.sh)).setNew (uh HFit) (b:=w.heap.size) (i:=1) (Nat.le_refl _) (.int .i64 p.h.ep)).setNew (uh HFit) (b:=w.heap.size) (i:=2) (Nat.le_refl _) (.int .i64 p.h.at_)).setNew (uh HFit) (b:=w.heap.size) (i:=3) (Nat.le_refl _) (.int .i64 p.h.bf))
  generalize (((V.setCell ⟨w.heap.size,0,none⟩ (.int .i64 p.h.sh)).setCell ⟨w.heap.size,1,none⟩ (.int .i64 p.h.ep)).setCell ⟨w.heap.size,2,none⟩ (.int .i64 p.h.at_)).setCell ⟨w.heap.size,3,none⟩ (.int .i64 p.h.bf)=U at *
  obtain ⟨m0,m1,m2,m3,_⟩:=four_cells (V:=U.drew) M
  refine bodyPost_ret (v:=.tuple #[.pointer (some ⟨g,i*128,none⟩),.agg #[.int .i64 p.h.sh,.int .i64 p.h.ep,.int .i64 p.h.at_,.int .i64 p.h.bf],.int .i64 0]) ?_ rfl ⟨rfl,(uh HQ).trans ((uh HQ).1.below (Below.refl _ _).drew)⟩
  simp [results,Tryz.results39,go_sem,m0,m1,m2,m3]
end Go.Proofs.YtpnkmnmchdabkaaGreat
