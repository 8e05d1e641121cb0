import Derived.Test.YtpnkmnmchdabkaaGreatM04
import Derived.Test.YtpnkmnmchdabkaaGreatLogPut
namespace Go.Proofs.YtpnkmnmchdabkaaGreat
def acc (s:Sh) (h:Int):Bool:=accB s.op s.lo s.hi h
theorem acc_iff (s:Sh) (h:Int):acc s h=true ↔ s.op=true∧s.lo≤h∧h<s.hi:=by
 simp [acc,accB,and_assoc]
def Home (l:List Sh) (h:Int) (k:Nat) (s:Sh):Prop:=l[k]?=some s∧acc s h=true∧∀(j:Nat) (t:Sh),l[j]?=some t→acc t h=true→j=k
structure Inv (l:List Sh):Prop where
 pos:0<l.length
 len:l.length≤16
 rng:∀(i:Nat) (s:Sh),l[i]?=some s→0≤s.lo∧s.lo<s.hi∧s.hi≤256
 cnt:∀(i:Nat) (s:Sh),l[i]?=some s→s.cnt≤32
 part:∀h:Int,0≤h→h<256→∃k s,Home l h k s
 parL:∀(i:Nat) (s:Sh),l[i]?=some s→s.par.length≤2∧(s.par=[] ↔ i=0)
 parR:∀(i:Nat) (s:Sh),l[i]?=some s→∀p ∈ s.par,∃(q:Nat) (t:Sh),p=(q:Int)∧q<i∧l[q]?=some t∧s.lo<t.hi∧t.lo<s.hi
 parC:∀(i:Nat) (s:Sh),l[i]?=some s→∀p ∈ s.par,∀(q:Nat) (t:Sh),p=(q:Int)→l[q]?=some t→t.op=false
theorem inv_first:Inv [⟨0,256,true,[],[]⟩]:=by
 have one:∀(i:Nat) (s:Sh),[(⟨0,256,true,[],[]⟩:Sh)][i]?=some s→i=0∧s=⟨0,256,true,[],[]⟩:=by
  intro i s h
  match i,h with
  | 0,h=>simp at h;exact ⟨rfl,h.symm⟩
  | i+1,h=>simp at h
 refine ⟨by simp,by simp,?_,?_,?_,?_,?_,?_⟩
 ·intro i s h;obtain ⟨_,rfl⟩:=one i s h;simp
 ·intro i s h;obtain ⟨_,rfl⟩:=one i s h;simp
 ·intro h h0 h1
  refine ⟨0,_,rfl,by simp [acc_iff];omega,fun j t hj _=>(one j t hj).1⟩
 ·intro i s h;obtain ⟨rfl,rfl⟩:=one i s h;simp
 ·intro i s h;obtain ⟨_,rfl⟩:=one i s h;simp
 ·intro i s h p hp;obtain ⟨_,rfl⟩:=one i s h;simp at hp
theorem inv_put {l:List Sh} (h:Inv l) {k:Nat} {s:Sh} (hk:l[k]?=some s) (r:Rc):Inv (putL l k s r):=by
 unfold putL
 split
 ·exact h
 ·rename_i hc
  have hkl:=(List.getElem?_eq_some_iff.1 hk).1
  have at_:∀{i:Nat} {t:Sh},(l.set k { s with rl:=s.rl ++ [r] })[i]?=some t→∃t',l[i]?=some t'∧t.lo=t'.lo∧t.hi=t'.hi∧t.op=t'.op∧t.par=t'.par∧t.cnt≤32:=by
   intro i t ht
   rw [List.getElem?_set] at ht
   split at ht
   ·rename_i e;subst e
    cases ht
    exact ⟨s,hk,rfl,rfl,rfl,rfl,by have:=Sh.cnt_add s r;omega⟩
   ·exact ⟨t,ht,rfl,rfl,rfl,rfl,h.cnt i t ht⟩
  have to_:∀{i:Nat} {t:Sh},l[i]?=some t→∃t',(l.set k { s with rl:=s.rl ++ [r] })[i]?=some t'∧t'.lo=t.lo∧t'.hi=t.hi∧t'.op=t.op:=by
   intro i t ht
   rw [List.getElem?_set]
   split
   ·rename_i e;subst e
    rw [hk] at ht;cases ht
    exact ⟨_,rfl,rfl,rfl,rfl⟩
   ·exact ⟨t,ht,rfl,rfl,rfl⟩
  refine ⟨by simpa using h.pos,by simpa using h.len,?_,?_,?_,?_,?_,?_⟩
  ·intro i t ht
   obtain ⟨t',h1,h2,h3,_⟩:=at_ ht
   rw [h2,h3];exact h.rng i t' h1
  ·intro i t ht
   obtain ⟨t',_,_,_,_,_,h6⟩:=at_ ht
   exact h6
  ·intro x h0 h1
   obtain ⟨q,t,hq,ha,hu⟩:=h.part x h0 h1
   obtain ⟨t',g1,g2,g3,g4⟩:=to_ hq
   refine ⟨q,t',g1,by rw [acc_iff,g2,g3,g4];exact (acc_iff _ _).1 ha,fun j u hj hja=>?_⟩
   obtain ⟨u',k1,k2,k3,k4,_⟩:=at_ hj
   exact hu j u' k1 (by rw [acc_iff,←k2,←k3,←k4];exact (acc_iff _ _).1 hja)
  ·intro i t ht
   obtain ⟨t',h1,_,_,_,h5,_⟩:=at_ ht
   rw [h5];exact h.parL i t' h1
  ·intro i t ht p hp
   obtain ⟨t',h1,h2,h3,_,h5,_⟩:=at_ ht
   obtain ⟨q,u,e,hq,hu,a,b⟩:=h.parR i t' h1 p (by rw [←h5];exact hp)
   obtain ⟨u',g1,g2,g3,_⟩:=to_ hu
   exact ⟨q,u',e,hq,g1,by rw [g3,h2];exact a,by rw [g2,h3];exact b⟩
  ·intro i t ht p hp q u e hu
   obtain ⟨t',h1,_,_,_,h5,_⟩:=at_ ht
   obtain ⟨u',g1,_,_,g4,_⟩:=at_ hu
   rw [g4];exact h.parC i t' h1 p (by rw [←h5];exact hp) q u' e g1
theorem inv_turn {l c n:List Sh} (h:Inv l) (hc:c.length=l.length) (hlen:l.length+n.length≤16)
 (at_:∀(i:Nat) (t:Sh),c[i]?=some t→∃t',l[i]?=some t'∧t.lo=t'.lo∧t.hi=t'.hi∧t.par=t'.par∧t.cnt=t'.cnt∧(t.op=true→t'.op=true))
 (rng:∀(i:Nat) (s:Sh),n[i]?=some s→0≤s.lo∧s.lo<s.hi∧s.hi≤256)
 (cnt:∀(i:Nat) (s:Sh),n[i]?=some s→s.cnt=0)
 (part:∀x:Int,0≤x→x<256→(∃k s,Home c x k s∧∀(j:Nat) (t:Sh),n[j]?=some t→acc t x=false)∨(∃k s,Home n x k s∧∀(j:Nat) (t:Sh),c[j]?=some t→acc t x=false))
 (par:∀(i:Nat) (s:Sh),n[i]?=some s→s.par.length≤2∧s.par≠[]∧∀p ∈ s.par,∃(q:Nat) (t:Sh),p=(q:Int)∧l[q]?=some t∧s.lo<t.hi∧t.lo<s.hi)
 (pc:∀(i:Nat) (s:Sh),n[i]?=some s→∀p ∈ s.par,∀(q:Nat) (t:Sh),p=(q:Int)→c[q]?=some t→t.op=false):Inv (c ++ n):=by
 have of_:∀{i:Nat} {t:Sh},(c ++ n)[i]?=some t→(i<c.length∧c[i]?=some t)∨(c.length≤i∧n[i - c.length]?=some t):=by
  intro i t ht
  by_cases hlt:i<c.length
  ·rw [List.getElem?_append_left hlt] at ht;exact Or.inl ⟨hlt,ht⟩
  ·rw [List.getElem?_append_right (by omega)] at ht;exact Or.inr ⟨by omega,ht⟩
 have to_:∀{q:Nat} {t:Sh},l[q]?=some t→∃t',(c ++ n)[q]?=some t'∧t'.lo=t.lo∧t'.hi=t.hi:=by
  intro q t hq
  have hql:=(List.getElem?_eq_some_iff.1 hq).1
  obtain ⟨t',ht'⟩:∃t',c[q]?=some t':=⟨c[q]'(by omega),List.getElem?_eq_getElem (by omega)⟩
  obtain ⟨u,hu,a,b,_⟩:=at_ q t' ht'
  rw [hq] at hu;cases hu
  exact ⟨t',by rw [List.getElem?_append_left (by omega)];exact ht',a,b⟩
 refine ⟨?_,?_,?_,?_,?_,?_,?_,?_⟩
 ·have:=h.pos;simp;omega
 ·simp;omega
 ·intro i t ht
  rcases of_ ht with ⟨_,ht⟩ | ⟨_,ht⟩
  ·obtain ⟨t',h1,h2,h3,_⟩:=at_ i t ht
   rw [h2,h3];exact h.rng i t' h1
  ·exact rng _ t ht
 ·intro i t ht
  rcases of_ ht with ⟨_,ht⟩ | ⟨_,ht⟩
  ·obtain ⟨t',h1,_,_,_,h5,_⟩:=at_ i t ht
   rw [h5];exact h.cnt i t' h1
  ·rw [cnt _ t ht];omega
 ·intro x h0 h1
  rcases part x h0 h1 with ⟨k,s,⟨hk,ha,hu⟩,hn⟩ | ⟨k,s,⟨hk,ha,hu⟩,hn⟩
  ·have hkl:=(List.getElem?_eq_some_iff.1 hk).1
   refine ⟨k,s,by rw [List.getElem?_append_left hkl];exact hk,ha,fun j t hj hja=>?_⟩
   rcases of_ hj with ⟨_,hj⟩ | ⟨_,hj⟩
   ·exact hu j t hj hja
   ·rw [hn _ t hj] at hja;cases hja
  ·refine ⟨c.length+k,s,by rw [List.getElem?_append_right (by omega)];simpa using hk,ha,fun j t hj hja=>?_⟩
   rcases of_ hj with ⟨_,hj⟩ | ⟨_,hj⟩
   ·rw [hn _ t hj] at hja;cases hja
   ·have:=hu _ t hj hja;omega
 ·intro i t ht
  rcases of_ ht with ⟨_,ht⟩ | ⟨hle,ht⟩
  ·obtain ⟨t',h1,_,_,h4,_⟩:=at_ i t ht
   rw [h4];exact h.parL i t' h1
  ·obtain ⟨a,b,_⟩:=par _ t ht
   refine ⟨a,fun e=>absurd e b,fun e=>?_⟩
   have:=h.pos;omega
 ·intro i t ht p hp
  rcases of_ ht with ⟨hlt,ht⟩ | ⟨hle,ht⟩
  ·obtain ⟨t',h1,h2,h3,h4,_⟩:=at_ i t ht
   obtain ⟨q,u,e,hq,hu,a,b⟩:=h.parR i t' h1 p (by rw [←h4];exact hp)
   obtain ⟨u',g1,g2,g3⟩:=to_ hu
   exact ⟨q,u',e,hq,g1,by rw [g3,h2];exact a,by rw [g2,h3];exact b⟩
  ·obtain ⟨_,_,hh⟩:=par _ t ht
   obtain ⟨q,u,e,hu,a,b⟩:=hh p hp
   have:=(List.getElem?_eq_some_iff.1 hu).1
   obtain ⟨u',g1,g2,g3⟩:=to_ hu
   exact ⟨q,u',e,by omega,g1,by rw [g3];exact a,by rw [g2];exact b⟩
 ·intro i t ht p hp q u e hu
  rcases of_ ht with ⟨hlt,ht⟩ | ⟨hle,ht⟩
  ·obtain ⟨t',h1,_,_,h4,_⟩:=at_ i t ht
   obtain ⟨q',u0,e',hq',_⟩:=h.parR i t' h1 p (by rw [←h4];exact hp)
   rcases of_ hu with ⟨_,hu⟩ | ⟨hle,_⟩
   ·obtain ⟨u',g1,_,_,_,_,g6⟩:=at_ q u hu
    have:=h.parC i t' h1 p (by rw [←h4];exact hp) q u' e g1
    cases e9:u.op
    ·rfl
    ·rw [g6 e9] at this;cases this
   ·omega
  ·obtain ⟨_,_,hh⟩:=par _ t ht
   obtain ⟨q',u0,e',hu0,_⟩:=hh p hp
   rcases of_ hu with ⟨_,hu⟩ | ⟨hle2,_⟩
   ·exact pc _ t ht p hp q u e hu
   ·have:=(List.getElem?_eq_some_iff.1 hu0).1
    omega
theorem inv_split {l:List Sh} (h:Inv l) (n a:Int):Inv (aSplit l n a).1:=by
 by_cases hn:0≤n∧n<l.length
 ·obtain ⟨k,rfl⟩:=Int.eq_ofNat_of_zero_le hn.1
  have hk:k<l.length:=by omega
  obtain ⟨s,hs⟩:∃s,l[k]?=some s:=⟨l[k],List.getElem?_eq_getElem hk⟩
  rw [aSplit_at hs]
  split
  ·exact h
  ·rename_i hop
   split
   ·exact h
   ·rename_i ha
    split
    ·exact h
    ·rename_i hl
     have hop':s.op=true:=by cases e:s.op;exact absurd e hop;rfl
     have hr:=h.rng k s hs
     have two:∀(i:Nat) (t:Sh),[(⟨s.lo,a,true,[(k:Int)],[]⟩:Sh),⟨a,s.hi,true,[(k:Int)],[]⟩][i]?=some t→(i=0∧t=⟨s.lo,a,true,[(k:Int)],[]⟩)∨(i=1∧t=⟨a,s.hi,true,[(k:Int)],[]⟩):=by
      intro i t ht
      match i,ht with
      | 0,ht=>simp at ht;exact Or.inl ⟨rfl,ht.symm⟩
      | 1,ht=>simp at ht;exact Or.inr ⟨rfl,ht.symm⟩
      | i+2,ht=>simp at ht
     refine inv_turn h (by simp) (by simp;omega) ?_ ?_ ?_ ?_ ?_ ?_
     ·intro i t ht
      rw [List.getElem?_set] at ht
      split at ht
      ·rename_i e;subst e
       cases ht
       exact ⟨s,hs,rfl,rfl,rfl,rfl,fun e=>by cases e⟩
      ·exact ⟨t,ht,rfl,rfl,rfl,rfl,fun e=>e⟩
     ·intro i t ht
      rcases two i t ht with ⟨_,rfl⟩ | ⟨_,rfl⟩ <;> simp <;> omega
     ·intro i t ht
      rcases two i t ht with ⟨_,rfl⟩ | ⟨_,rfl⟩ <;> rfl
     ·intro x h0 h1
      obtain ⟨q,t,hq,hqa,hu⟩:=h.part x h0 h1
      by_cases hqk:q=k
      ·subst hqk
       rw [hs] at hq;cases hq
       have hx:=(acc_iff _ _).1 hqa
       refine Or.inr ?_
       refine ⟨if x<a then 0 else 1,if x<a then ⟨s.lo,a,true,[(q:Int)],[]⟩ else ⟨a,s.hi,true,[(q:Int)],[]⟩,⟨?_,?_,?_⟩,?_⟩
       ·split <;> rfl
       ·rw [acc_iff];split <;> simp <;> omega
       ·intro j t hj hja
        rw [acc_iff] at hja
        rcases two j t hj with ⟨rfl,rfl⟩ | ⟨rfl,rfl⟩ <;> simp at hja
        ·rw [if_pos (by omega)]
        ·rw [if_neg (by omega)]
       ·intro j t hj
        rw [List.getElem?_set] at hj
        split at hj
        ·cases hj;simp [acc,accB]
        ·rename_i hne
         cases e:acc t x
         ·rfl
         ·exact absurd (hu j t hj e).symm hne
      ·refine Or.inl ⟨q,t,⟨?_,hqa,?_⟩,?_⟩
       ·rw [List.getElem?_set_ne (fun e=>hqk e.symm)];exact hq
       ·intro j u hj hja
        rw [List.getElem?_set] at hj
        split at hj
        ·cases hj;simp [acc,accB] at hja
        ·exact hu j u hj hja
       ·intro j u hj
        cases e:acc u x
        ·rfl
        ·exfalso
         rw [acc_iff] at e
         refine hqk (hu k s hs ?_).symm
         rw [acc_iff]
         rcases two j u hj with ⟨_,rfl⟩ | ⟨_,rfl⟩ <;> simp at e <;> exact ⟨hop',by omega,by omega⟩
     ·intro i t ht
      rcases two i t ht with ⟨_,rfl⟩ | ⟨_,rfl⟩
      ·refine ⟨by simp,by simp,fun p hp=>?_⟩
       simp at hp
       exact ⟨k,s,hp,hs,by show s.lo<s.hi;omega,by show s.lo<a;omega⟩
      ·refine ⟨by simp,by simp,fun p hp=>?_⟩
       simp at hp
       exact ⟨k,s,hp,hs,by show a<s.hi;omega,by show s.lo<s.hi;omega⟩
     ·intro i t ht p hp q u e hu
      have hpk:p=(k:Int):=by
       rcases two i t ht with ⟨_,rfl⟩ | ⟨_,rfl⟩ <;> simpa using hp
      have hqk:q=k:=by omega
      subst hqk
      rw [List.getElem?_set_self hk] at hu
      cases hu;rfl
 ·unfold aSplit
  rw [if_neg hn];exact h
theorem inv_merge {l:List Sh} (h:Inv l) (n a:Int):Inv (aMerge l n a).1:=by
 by_cases hn:(0≤n∧n<l.length)∧(0≤a∧a<l.length)
 ·obtain ⟨j,rfl⟩:=Int.eq_ofNat_of_zero_le hn.1.1
  obtain ⟨k,rfl⟩:=Int.eq_ofNat_of_zero_le hn.2.1
  have hj:j<l.length:=by omega
  have hk:k<l.length:=by omega
  obtain ⟨s,hs⟩:∃s,l[j]?=some s:=⟨l[j],List.getElem?_eq_getElem hj⟩
  obtain ⟨t,ht⟩:∃t,l[k]?=some t:=⟨l[k],List.getElem?_eq_getElem hk⟩
  rw [aMerge_at hs ht]
  split
  ·exact h
  ·rename_i hop
   split
   ·exact h
   ·rename_i hr
    split
    ·exact h
    ·rename_i hl
     have hr':s.hi=t.lo:=by simpa using hr
     have so:s.op=true:=by cases e:s.op;exact absurd (Or.inl e) hop;rfl
     have to:t.op=true:=by cases e:t.op;exact absurd (Or.inr e) hop;rfl
     have rs:=h.rng j s hs
     have rt:=h.rng k t ht
     have hjk:j≠k:=by rintro rfl;rw [hs] at ht;cases ht;omega
     have one:∀(i:Nat) (u:Sh),[(⟨s.lo,t.hi,true,[(j:Int),(k:Int)],[]⟩:Sh)][i]?=some u→i=0∧u=⟨s.lo,t.hi,true,[(j:Int),(k:Int)],[]⟩:=by
      intro i u hu
      match i,hu with
      | 0,hu=>simp at hu;exact ⟨rfl,hu.symm⟩
      | i+1,hu=>simp at hu
     have cl:∀(i:Nat) (u:Sh),((l.set j { s with op:=false }).set k { t with op:=false })[i]?=some u→(i=k∧u={ t with op:=false })∨(i=j∧u={ s with op:=false })∨(i≠j∧i≠k∧l[i]?=some u):=by
      intro i u hu
      rw [List.getElem?_set] at hu
      split at hu
      ·rename_i e
       rw [if_pos (by simpa using hk)] at hu
       cases hu;exact Or.inl ⟨e.symm,rfl⟩
      ·rename_i e
       rw [List.getElem?_set] at hu
       split at hu
       ·rename_i e2
        cases hu;exact Or.inr (Or.inl ⟨e2.symm,rfl⟩)
       ·rename_i e2
        exact Or.inr (Or.inr ⟨fun x=>e2 x.symm,fun x=>e x.symm,hu⟩)
     refine inv_turn h (by simp) (by simp;omega) ?_ ?_ ?_ ?_ ?_ ?_
     ·intro i u hu
      rcases cl i u hu with ⟨rfl,rfl⟩ | ⟨rfl,rfl⟩ | ⟨_,_,hu⟩
      ·exact ⟨t,ht,rfl,rfl,rfl,rfl,fun e=>by cases e⟩
      ·exact ⟨s,hs,rfl,rfl,rfl,rfl,fun e=>by cases e⟩
      ·exact ⟨u,hu,rfl,rfl,rfl,rfl,fun e=>e⟩
     ·intro i u hu
      obtain ⟨_,rfl⟩:=one i u hu
      simp;omega
     ·intro i u hu
      obtain ⟨_,rfl⟩:=one i u hu
      rfl
     ·intro x h0 h1
      obtain ⟨q,v,hq,hqa,hu⟩:=h.part x h0 h1
      by_cases hin:s.lo≤x∧x<t.hi
      ·refine Or.inr ⟨0,_,⟨rfl,by rw [acc_iff];exact ⟨rfl,hin.1,hin.2⟩,fun i u hi _=>(one i u hi).1⟩,fun i u hi=>?_⟩
       rcases cl i u hi with ⟨_,rfl⟩ | ⟨_,rfl⟩ | ⟨hij,hik,hi⟩
       ·simp [acc,accB]
       ·simp [acc,accB]
       ·cases e:acc u x
        ·rfl
        ·exfalso
         by_cases hm:x<s.hi
         ·exact hij ((hu i u hi e).trans (hu j s hs (by rw [acc_iff];exact ⟨so,hin.1,hm⟩)).symm)
         ·exact hik ((hu i u hi e).trans (hu k t ht (by rw [acc_iff];exact ⟨to,by omega,hin.2⟩)).symm)
      ·refine Or.inl ⟨q,v,⟨?_,hqa,?_⟩,?_⟩
       ·have hv:=(acc_iff _ _).1 hqa
        have hqj:q≠j:=by rintro rfl;rw [hs] at hq;cases hq;omega
        have hqk:q≠k:=by rintro rfl;rw [ht] at hq;cases hq;omega
        rw [List.getElem?_set_ne (fun e=>hqk e.symm),List.getElem?_set_ne (fun e=>hqj e.symm)];exact hq
       ·intro i u hi hia
        rcases cl i u hi with ⟨_,rfl⟩ | ⟨_,rfl⟩ | ⟨_,_,hi⟩
        ·simp [acc,accB] at hia
        ·simp [acc,accB] at hia
        ·exact hu i u hi hia
       ·intro i u hi
        obtain ⟨_,rfl⟩:=one i u hi
        cases e:acc (⟨s.lo,t.hi,true,[(j:Int),(k:Int)],[]⟩:Sh) x
        ·rfl
        ·rw [acc_iff] at e;exact absurd ⟨e.2.1,e.2.2⟩ hin
     ·intro i u hu
      obtain ⟨_,rfl⟩:=one i u hu
      refine ⟨by simp,by simp,fun p hp=>?_⟩
      simp at hp
      rcases hp with rfl | rfl
      ·exact ⟨j,s,rfl,hs,by show s.lo<s.hi;omega,by show s.lo<t.hi;omega⟩
      ·exact ⟨k,t,rfl,ht,by show s.lo<t.hi;omega,by show t.lo<t.hi;omega⟩
     ·intro i u hu p hp q v e hv
      obtain ⟨_,rfl⟩:=one i u hu
      simp at hp
      rcases cl q v hv with ⟨_,rfl⟩ | ⟨_,rfl⟩ | ⟨h1,h2,_⟩
      ·rfl
      ·rfl
      ·exfalso;rcases hp with hp | hp <;> omega
 ·unfold aMerge
  rw [if_neg hn];exact h
end Go.Proofs.YtpnkmnmchdabkaaGreat
