import Derived.Test.YtpnkmnmchdabkaaGreatM22
namespace Go.Proofs.YtpnkmnmchdabkaaGreat
open Go.RowKit
def cn (l:List Sh) (k:Nat):Nat:=match l[k]? with
 | some s=>s.cnt
 | none=>0
theorem cn_is {l:List Sh} {k:Nat} {s:Sh} (h:l[k]?=some s):cn l k=s.cnt:=by unfold cn;rw [h]
theorem cn_le {l:List Sh} (hI:Inv l) (k:Nat):cn l k≤32:=by
 unfold cn
 split
 ·rename_i s h;exact hI.cnt k s h
 ·omega
def hol (P:List Pl) (j k:Nat):Bool:=match P[j*16+k]? with
 | some p=>p.held
 | none=>false
def hc (P:List Pl) (k:Nat):Nat→Nat
 | 0=>0
 | n+1=>hc P k n+(if hol P n k=true then 1 else 0)
theorem hc_le (P:List Pl) (k n:Nat):hc P k n≤n:=by
 induction n with
 | zero=>exact Nat.le_refl _
 | succ n ih=>unfold hc;split <;> omega
theorem hc_same {P Q:List Pl} {k n:Nat} (h:∀j,j<n→hol P j k=hol Q j k):hc P k n=hc Q k n:=by
 induction n with
 | zero=>rfl
 | succ n ih =>
   unfold hc
   rw [ih (fun j hj=>h j (by omega)),h n (by omega)]
theorem hc_give {P Q:List Pl} {k n i:Nat} (hi:i<n) (h:∀j,j<n→j≠i→hol P j k=hol Q j k) (h0:hol P i k=false) (h1:hol Q i k=true):hc Q k n=hc P k n+1:=by
 induction n with
 | zero=>omega
 | succ n ih =>
   unfold hc
   by_cases e:i=n
   ·subst e
    rw [hc_same (P:=P) (Q:=Q) (fun j hj=>h j (by omega) (by omega)),h0,h1]
    simp
   ·rw [ih (by omega) (fun j hj=>h j (by omega)),h n (by omega) (fun x=>e x.symm)]
    omega
def Adv (l l':List Sh):Prop:=∀(k:Nat) (s:Sh),l[k]?=some s→∃s',l'[k]?=some s'∧s'.par=s.par∧s.rl <+: s'.rl∧(s.op=false→s'.op=false∧s'.rl=s.rl)
theorem Adv.refl (l:List Sh):Adv l l:=fun _ s h=>⟨s,h,rfl,List.prefix_rfl,fun e=>⟨e,rfl⟩⟩
theorem Adv.trans {l l' l2:List Sh} (h:Adv l l') (h':Adv l' l2):Adv l l2:=fun k s hs=>by
 obtain ⟨s',a,b,c,d⟩:=h k s hs
 obtain ⟨s2,a',b',c',d'⟩:=h' k s' a
 refine ⟨s2,a',b'.trans b,c.trans c',fun e=>?_⟩
 obtain ⟨e1,e2⟩:=d e
 obtain ⟨e3,e4⟩:=d' e1
 exact ⟨e3,e4.trans e2⟩
theorem Adv.len {l l':List Sh} (h:Adv l l'):l.length≤l'.length:=by
 by_cases h0:l.length=0
 ·omega
 ·obtain ⟨s',a,_⟩:=h (l.length - 1) _ (List.getElem?_eq_getElem (by omega))
  have:=(List.getElem?_eq_some_iff.1 a).1
  omega
theorem Adv.cn {l l':List Sh} (h:Adv l l') (k:Nat):cn l k≤cn l' k:=by
 cases hk:l[k]? with
 | none=>unfold Go.Proofs.YtpnkmnmchdabkaaGreat.cn;rw [hk];exact Nat.zero_le _
 | some s =>
   obtain ⟨s',a,_,b,_⟩:=h k s hk
   rw [cn_is hk,cn_is a];exact b.length_le
theorem fin_adv {l l':List Sh} {dn dn':Nat→Int} (hI:Inv l) (hI':Inv l') (ha:Adv l l') (hd:∀(k:Nat) (s:Sh),l[k]?=some s→dn k=s.cnt→dn' k=dn k):∀k,fin l dn k=true→fin l' dn' k=true:=by
 intro k
 induction k using Nat.strongRecOn with
 | ind k ih =>
   intro hf
   cases hk:l[k]? with
   | none=>unfold fin at hf;simp [finB,hk] at hf
   | some s =>
     rw [fin_is hI dn hk] at hf
     simp only [Bool.and_eq_true,Bool.not_eq_true',decide_eq_true_eq] at hf
     obtain ⟨hr,ho,hc⟩:=hf
     obtain ⟨s',h1,h2,h3,h4⟩:=ha k s hk
     obtain ⟨h5,h6⟩:=h4 ho
     rw [fin_is hI' dn' h1]
     simp only [Bool.and_eq_true,Bool.not_eq_true',decide_eq_true_eq]
     refine ⟨?_,h5,by rw [hd k s hk hc,hc];unfold Sh.cnt;rw [h6]⟩
     rw [rdy_is dn' h1,h2]
     rw [rdy_is dn hk] at hr
     rw [List.all_eq_true] at hr ⊢
     intro p hp
     obtain ⟨q,t,rfl,hq,_⟩:=hI.parR k s hk p hp
     have:=hr _ hp
     rw [show ((q:Int)).toNat=q by omega] at this ⊢
     exact ih q hq this
theorem rdy_adv {l l':List Sh} {dn dn':Nat→Int} (hI:Inv l) (hI':Inv l') (ha:Adv l l') (hd:∀(k:Nat) (s:Sh),l[k]?=some s→dn k=s.cnt→dn' k=dn k) {k:Nat} (hk:k<l.length) (hr:rdy l dn k=true):rdy l' dn' k=true:=by
 have hs:l[k]?=some l[k]:=List.getElem?_eq_getElem hk
 obtain ⟨s',h1,h2,_⟩:=ha k _ hs
 rw [rdy_is dn hs,List.all_eq_true] at hr
 rw [rdy_is dn' h1,h2,List.all_eq_true]
 exact fun p hp=>fin_adv hI hI' ha hd _ (hr p hp)
def Gro (dn0:List Int) (l0:List Sh) (dn:List Int) (l:List Sh):Prop:=Adv l0 l∧∀k,dnP dn0 k≤dnP dn k∧epP dn0 k≤epP dn k
theorem Gro.refl (dn:List Int) (l:List Sh):Gro dn l dn l:=⟨Adv.refl l,fun _=>⟨Int.le_refl _,Int.le_refl _⟩⟩
theorem Gro.log {dn0 dn:List Int} {l0 l l':List Sh} (h:Gro dn0 l0 dn l) (ha:Adv l l'):Gro dn0 l0 dn l':=⟨h.1.trans ha,h.2⟩
structure HdOk (Cb:Int) (l:List Sh) (dn:List Int) (i k:Nat) (p:Pl) (x:Le):Prop where
 sh:p.h.sh=k
 lt:k<l.length
 e1:1≤p.h.ep
 e2:p.h.ep≤x.e
 own:p.h.ep=x.e→x.o=i
 a0:0≤p.h.at_
 a1:p.h.at_≤dnP dn k
 b0:0≤p.h.bf
 b1:p.h.bf≤Cb
 ab:p.h.at_+p.h.bf≤cn l k
 rd:rdy l (dnP dn) k=true
structure Ow (B n:Nat) (Cb:Int) (l:List Sh) (dn:List Int) (ls:List Le) (P:List Pl):Prop where
 dnL:dn.length=32
 lsL:ls.length=16
 pL:P.length=n*16
 mr:∀k,k<16→0≤dnP dn k∧dnP dn k≤cn l k∧0≤epP dn k∧(0<dnP dn k ↔ 0<epP dn k)∧(0<dnP dn k→rdy l (dnP dn) k=true)
 le:∀(k:Nat) (x:Le),ls[k]?=some x→0≤x.e∧x.e≤B∧epP dn k≤x.e∧-1≤x.o∧x.o<n∧(l.length≤k→x.e=0)∧(x.o=-1→0<x.e→fin l (dnP dn) k=true)
 hd:∀(i k:Nat) (p:Pl) (x:Le),i<n→k<16→P[i*16+k]?=some p→p.held=true→ls[k]?=some x→HdOk Cb l dn i k p x
 df:∀(i j k:Nat) (p q:Pl),i<n→j<n→k<16→P[i*16+k]?=some p→P[j*16+k]?=some q→p.held=true→q.held=true→i≠j→p.h.ep≠q.h.ep
def Tight (B n:Nat) (ls:List Le) (P:List Pl):Prop:=∀(k:Nat) (x:Le),ls[k]?=some x→x.e=B→hc P k n=B
theorem Ow.up {B n:Nat} {Cb:Int} {l:List Sh} {dn:List Int} {ls:List Le} {P:List Pl} (h:Ow B n Cb l dn ls P):Ow (B+1) n Cb l dn ls P∧Tight (B+1) n ls P :=
 ⟨⟨h.dnL,h.lsL,h.pL,h.mr,fun k x hx=>by obtain ⟨a,b,c⟩:=h.le k x hx;exact ⟨a,by omega,c⟩,h.hd,h.df⟩,fun k x hx e=>by obtain ⟨a,b,c⟩:=h.le k x hx;omega⟩
theorem Ow.log {B n:Nat} {Cb:Int} {l l':List Sh} {dn:List Int} {ls:List Le} {P:List Pl} (h:Ow B n Cb l dn ls P) (hI:Inv l) (hI':Inv l') (ha:Adv l l'):Ow B n Cb l' dn ls P:=by
 have hc:=ha.cn
 have hl:=ha.len
 have hr:∀k,k<l.length→rdy l (dnP dn) k=true→rdy l' (dnP dn) k=true:=fun k hk=>rdy_adv hI hI' ha (fun _ _ _ _=>rfl) hk
 refine ⟨h.dnL,h.lsL,h.pL,fun k hk=>?_,fun k x hx=>?_,fun i k p x hi hk hp hh hx=>?_,h.df⟩
 ·obtain ⟨a,b,c,d,e⟩:=h.mr k hk
  refine ⟨a,by have:=hc k;omega,c,d,fun h0=>hr k ?_ (e h0)⟩
  by_cases hlt:k<l.length
  ·exact hlt
  ·have:cn l k=0:=by unfold cn;rw [List.getElem?_eq_none (by omega)]
   omega
 ·obtain ⟨a,b,c,d,e,f,g⟩:=h.le k x hx
  exact ⟨a,b,c,d,e,fun hk=>f (by omega),fun h1 h2=>fin_adv hI hI' ha (fun _ _ _ _=>rfl) k (g h1 h2)⟩
 ·obtain ⟨a,b,c,d,e,f,g,o,q,r,t⟩:=h.hd i k p x hi hk hp hh hx
  exact ⟨a,by omega,c,d,e,f,g,o,q,by have:=hc k;omega,hr k b t⟩
theorem Ow.upd {B n:Nat} {Cb:Int} {l:List Sh} {dn:List Int} {ls ls':List Le} {P P':List Pl} (h:Ow B n Cb l dn ls P) (hL:ls'.length=16) (hpL:P'.length=n*16)
 (hP:∀(i k:Nat) (p':Pl),i<n→k<16→P'[i*16+k]?=some p'→p'.held=true→∃p,P[i*16+k]?=some p∧p.held=true∧p'.h=p.h)
 (hl:∀(k:Nat) (x':Le),ls'[k]?=some x'→∃x,ls[k]?=some x∧x'.e=x.e∧(x'.o=x.o∨(x'.o=-1∧fin l (dnP dn) k=true∧∀(i:Nat) (p:Pl),i<n→k<16→P'[i*16+k]?=some p→p.held=true→p.h.ep≠x.e))):Ow B n Cb l dn ls' P':=by
 refine ⟨h.dnL,hL,hpL,h.mr,fun k x' hx'=>?_,fun i k p' x' hi hk hp' hh' hx'=>?_,fun i j k p' q' hi hj hk hp' hq' hh hh' hne=>?_⟩
 ·obtain ⟨x,hx,e1,ho⟩:=hl k x' hx'
  obtain ⟨a,b,c,d,e,f,g⟩:=h.le k x hx
  rw [e1]
  rcases ho with ho | ⟨ho,hf,_⟩
  ·rw [ho];exact ⟨a,b,c,d,e,f,g⟩
  ·rw [ho];exact ⟨a,b,c,by omega,by omega,f,fun _ _=>hf⟩
 ·obtain ⟨x,hx,e1,ho⟩:=hl k x' hx'
  obtain ⟨p,hp,hh,e2⟩:=hP i k p' hi hk hp' hh'
  obtain ⟨a,b,c,d,e,f,g,o,q,r,t⟩:=h.hd i k p x hi hk hp hh hx
  refine ⟨by rw [e2];exact a,b,by rw [e2];exact c,by rw [e2,e1];exact d,fun e3=>?_,by rw [e2];exact f,by rw [e2];exact g,by rw [e2];exact o,by rw [e2];exact q,by rw [e2];exact r,t⟩
  rcases ho with ho | ⟨_,_,ho⟩
  ·rw [ho];exact e (by rw [←e2,←e1];exact e3)
  ·exact absurd (by rw [←e1];exact e3) (ho i p' hi hk hp' hh')
 ·obtain ⟨p,hp,h1,e1⟩:=hP i k p' hi hk hp' hh
  obtain ⟨q,hq,h2,e2⟩:=hP j k q' hj hk hq' hh'
  rw [e1,e2]
  exact h.df i j k p q hi hj hk hp hq h1 h2 hne
theorem plAt_set {P:List Pl} {i k j m:Nat} {p q:Pl} (hk:k<16) (hm:m<16) (h:(P.set (i*16+k) p)[j*16+m]?=some q):(j=i∧m=k∧q=p)∨((¬(j=i∧m=k))∧P[j*16+m]?=some q):=by
 by_cases e:j=i∧m=k
 ·obtain ⟨rfl,rfl⟩:=e
  refine Or.inl ⟨rfl,rfl,?_⟩
  rw [List.getElem?_set] at h
  simp only [if_true] at h
  split at h
  ·injection h with h;exact h.symm
  ·cases h
 ·refine Or.inr ⟨e,?_⟩
  rw [List.getElem?_set_ne (fun x=>e (by omega))] at h
  exact h
theorem Ow.drop {B n:Nat} {Cb:Int} {l:List Sh} {dn:List Int} {ls:List Le} {P:List Pl} (h:Ow B n Cb l dn ls P) (i k:Nat) (hk:k<16) (p':Pl) (hh:p'.held=false):Ow B n Cb l dn ls (P.set (i*16+k) p'):=by
 refine h.upd h.lsL (by rw [List.length_set];exact h.pL) (fun j m q hj hm hq hqh=>?_) (fun m x hx=>⟨x,hx,rfl,Or.inl rfl⟩)
 rcases plAt_set hk hm hq with ⟨_,_,rfl⟩ | ⟨_,h2⟩
 ·rw [hh] at hqh;cases hqh
 ·exact ⟨q,h2,hqh,rfl⟩
theorem Ow.forget {B n:Nat} {Cb:Int} {l:List Sh} {dn:List Int} {ls:List Le} {P:List Pl} (h:Ow B n Cb l dn ls P) (i:Nat):∀k,k≤16→Ow B n Cb l dn ls (forgetP P i k)
 | 0,_=>h
 | k+1,hk=>(Ow.forget h i k (by omega)).drop i k (by omega) pl0 rfl
theorem Ow.notes {B n:Nat} {Cb:Int} {l:List Sh} {dn:List Int} {ls:List Le} {P:List Pl} (h:Ow B n Cb l dn ls P) (t:Int) (i:Nat):∀k,k≤16→Ow B n Cb l dn ls (notesP ls t i k P)∧∀j m,m<16→hol (notesP ls t i k P) j m=hol P j m
 | 0,_=>⟨h,fun _ _ _=>rfl⟩
 | k+1,hk=>by
   obtain ⟨ih,ih2⟩:=Ow.notes h t i k (by omega)
   unfold notesP
   split
   ·rename_i x p hx hp
    have e2:(noted p x.c t).held=p.held∧(noted p x.c t).h=p.h:=by unfold noted;split <;> exact ⟨rfl,rfl⟩
    refine ⟨ih.upd ih.lsL (by rw [List.length_set];exact ih.pL) (fun j m q hj hm hq hqh=>?_) (fun m x hx=>⟨x,hx,rfl,Or.inl rfl⟩),fun j m hm=>?_⟩
    ·rcases plAt_set (show k<16 by omega) hm hq with ⟨rfl,rfl,rfl⟩ | ⟨_,h2⟩
     ·exact ⟨p,hp,by rw [←e2.1];exact hqh,e2.2⟩
     ·exact ⟨q,h2,hqh,rfl⟩
    ·rw [←ih2 j m hm]
     unfold hol
     by_cases e:i*16+k=j*16+m
     ·rw [e] at hp ⊢
      rw [List.getElem?_set_self (List.getElem?_eq_some_iff.1 hp).1,hp]
      exact e2.1
     ·rw [List.getElem?_set_ne e]
   ·exact ⟨ih,ih2⟩
theorem Ow.rh {B n:Nat} {Cb:Int} {l:List Sh} {dn:List Int} {ls:List Le} {P:List Pl} (h:Ow B n Cb l dn ls P) (i k:Nat) (hi:i<n) (hk:k<16) (f:Bool) (hf:f=true→fin l (dnP dn) k=true):Ow B n Cb l dn (rhLs i k f ls P) (rhP i k f ls P):=by
 unfold rhLs rhP
 cases hx:ls[k]? with
 | none=>exact h
 | some x =>
   cases hp:P[i*16+k]? with
   | none=>exact h
   | some p =>
     simp only
     have hkl:k<ls.length:=(List.getElem?_eq_some_iff.1 hx).1
     have ls_at:∀{y:Le} {m:Nat} {x':Le},(ls.set k y)[m]?=some x'→(m=k∧x'=y)∨ls[m]?=some x':=by
      intro y m x' hm
      by_cases e:k=m
      ·subst e;rw [List.getElem?_set_self hkl] at hm;injection hm with hm;exact Or.inl ⟨rfl,hm.symm⟩
      ·rw [List.getElem?_set_ne e] at hm;exact Or.inr hm
     by_cases c1:p.held=true∧x.o=i∧x.e=p.h.ep
     ·rw [if_pos c1]
      cases f with
      | false =>
        rw [if_neg (by simp),if_neg (by rintro ⟨_,h2⟩;exact h2 ⟨c1.2.1,c1.2.2,rfl⟩)]
        refine h.upd (by rw [List.length_set];exact h.lsL) h.pL (fun j m q hj hm hq hqh=>⟨q,hq,hqh,rfl⟩) (fun m x' hm=>?_)
        rcases ls_at hm with ⟨rfl,rfl⟩ | hm
        ·exact ⟨x,hx,rfl,Or.inl rfl⟩
        ·exact ⟨x',hm,rfl,Or.inl rfl⟩
      | true =>
        rw [if_pos rfl,if_pos ⟨c1.1,by simp⟩]
        refine h.upd (by rw [List.length_set];exact h.lsL) (by rw [List.length_set];exact h.pL) (fun j m q hj hm hq hqh=>?_) (fun m x' hm=>?_)
        ·rcases plAt_set hk hm hq with ⟨_,_,rfl⟩ | ⟨_,h2⟩
         ·simp [dropped] at hqh
         ·exact ⟨q,h2,hqh,rfl⟩
        ·rcases ls_at hm with ⟨rfl,rfl⟩ | hm
         ·refine ⟨x,hx,rfl,Or.inr ⟨rfl,hf rfl,fun j q hj hm hq hqh=>?_⟩⟩
          rcases plAt_set hk hk hq with ⟨_,_,rfl⟩ | ⟨hne,h2⟩
          ·simp [dropped] at hqh
          ·rw [c1.2.2]
           exact h.df j i m q p hj hi hk h2 hp hqh c1.1 (fun e=>hne ⟨e,rfl⟩)
         ·exact ⟨x',hm,rfl,Or.inl rfl⟩
     ·rw [if_neg c1]
      by_cases c2:p.held=true∧¬(x.o=i∧x.e=p.h.ep∧f=false)
      ·rw [if_pos c2];exact h.drop i k hk _ rfl
      ·rw [if_neg c2];exact h
theorem Ow.rn {B n:Nat} {Cb:Int} {l:List Sh} {dn:List Int} {ls:List Le} {P:List Pl} (h:Ow B n Cb l dn ls P) (i:Nat) (hi:i<n) (st:List Int) (hf:∀k,k<16→st[k]?=some 2→fin l (dnP dn) k=true):∀k,k≤16→Ow B n Cb l dn (rnUp i st k (ls,P)).1 (rnUp i st k (ls,P)).2
 | 0,_=>h
 | k+1,hk=>(Ow.rn h i hi st hf k (by omega)).rh i k hi (by omega) _ (fun e=>hf k (by omega) (by simpa [finS] using e))
theorem Ow.rehold {B n:Nat} {Cb:Int} {l:List Sh} {dn:List Int} {ls:List Le} {P:List Pl} (h:Ow B n Cb l dn ls P) (i k:Nat) (hi:i<n) (hk:k<16) (p:Pl) (hp:P[i*16+k]?=some p) (hh:p.held=true) (p':Pl)
 (e0:p'.h.sh=k) (e1:p'.h.ep=p.h.ep) (a0:0≤p'.h.at_) (a1:p'.h.at_≤dnP dn k) (b0:0≤p'.h.bf) (b1:p'.h.bf≤Cb) (ab:p'.h.at_+p'.h.bf≤cn l k):Ow B n Cb l dn ls (P.set (i*16+k) p'):=by
 refine ⟨h.dnL,h.lsL,by rw [List.length_set];exact h.pL,h.mr,h.le,fun j m q x hj hm hq hqh hx=>?_,fun i' j m q r hi' hj hm hq hr hqh hrh hne=>?_⟩
 ·rcases plAt_set hk hm hq with ⟨rfl,rfl,rfl⟩ | ⟨_,h2⟩
  ·obtain ⟨a,b,c,d,e,_,_,_,_,_,t⟩:=h.hd j m p x hi hk hp hh hx
   exact ⟨e0,b,by rw [e1];exact c,by rw [e1];exact d,by rw [e1];exact e,a0,a1,b0,b1,ab,t⟩
  ·exact h.hd j m q x hj hm h2 hqh hx
 ·rcases plAt_set hk hm hq with ⟨rfl,rfl,rfl⟩ | ⟨_,h2⟩
  ·rcases plAt_set hk hm hr with ⟨rfl,_,_⟩ | ⟨_,h3⟩
   ·exact absurd rfl hne
   ·rw [e1];exact h.df i' j m p r hi' hj hm hp h3 hh hrh hne
  ·rcases plAt_set hk hm hr with ⟨rfl,rfl,rfl⟩ | ⟨_,h3⟩
   ·rw [e1];exact h.df i' j m q p hi' hj hm h2 hp hqh hh hne
   ·exact h.df i' j m q r hi' hj hm h2 h3 hqh hrh hne
theorem dif_small {a b:Int} (ha:0≤a∧a≤1000) (hb:0≤b∧b≤1000):dif a b=a - b:=dif_is ⟨ha.1,by omega⟩ ⟨hb.1,by omega⟩
theorem plus_small {a b:Int} (ha:0≤a∧a≤1000) (hb:0≤b∧b≤1000):plus a b=a+b:=by unfold plus;rw [IntKind.wrap_i64];omega
theorem Ow.fetch {B n:Nat} {Cb:Int} {l:List Sh} {dn:List Int} {ls:List Le} {P:List Pl} (h:Ow B n Cb l dn ls P) (hI:Inv l) (hC:0≤Cb) (i k:Nat) (hi:i<n) (hk:k<16) (p:Pl) (hp:P[i*16+k]?=some p) (hh:p.held=true) :
 Ow B n Cb l dn ls (P.set (i*16+k) { p with held:=true,h:=⟨k,p.h.ep,p.h.at_,bufV (cn l k) p.h.at_ Cb⟩ }):=by
 obtain ⟨x0,hx⟩:∃x,ls[k]?=some x:=⟨ls[k]'(by rw [h.lsL];exact hk),List.getElem?_eq_getElem _⟩
 have H:=h.hd i k p _ hi hk hp hh hx
 have h32:=cn_le hI k
 have h1:=H.a0
 have h2:=H.ab
 have h3:=H.b0
 have e:dif (cn l k) p.h.at_=(cn l k:Int) - p.h.at_:=dif_small (by omega) (by omega)
 refine h.rehold i k hi hk p hp hh _ rfl rfl H.a0 H.a1 ?_ ?_ ?_
 ·show 0≤bufV (cn l k) p.h.at_ Cb
  unfold bufV;rw [e];split <;> omega
 ·show bufV (cn l k) p.h.at_ Cb≤Cb
  unfold bufV;rw [e];split <;> omega
 ·show p.h.at_+bufV (cn l k) p.h.at_ Cb≤cn l k
  unfold bufV;rw [e];split <;> omega
theorem dnP_set {dn:List Int} (hl:dn.length=32) {k m:Nat} (hk:k<16) (d e:Int):dnP (dnSet dn k d e) m=if m=k then d else dnP dn m:=by
 unfold dnP dnSet
 rw [List.getElem?_set_ne (by omega)]
 by_cases h:m=k
 ·subst h;rw [List.getElem?_set_self (by omega),if_pos rfl];rfl
 ·rw [List.getElem?_set_ne (by omega),if_neg h]
theorem epP_set {dn:List Int} (hl:dn.length=32) {k m:Nat} (hk:k<16) (d e:Int):epP (dnSet dn k d e) m=if m=k then e else epP dn m:=by
 unfold epP dnSet
 by_cases h:m=k
 ·subst h;rw [List.getElem?_set_self (by rw [List.length_set];omega),if_pos rfl];rfl
 ·rw [List.getElem?_set_ne (by omega),List.getElem?_set_ne (by omega),if_neg h]
theorem dnSet_len (dn:List Int) (k:Nat) (d e:Int):(dnSet dn k d e).length=dn.length:=by unfold dnSet;simp
theorem Ow.fold {B n:Nat} {Cb:Int} {l:List Sh} {dn:List Int} {ls:List Le} {P:List Pl} (h:Ow B n Cb l dn ls P) (hI:Inv l) (i k:Nat) (hi:i<n) (hk:k<16) (p:Pl) (hp:P[i*16+k]?=some p) (hh:p.held=true) (hb:¬p.h.bf=0) (ha:p.h.at_=dnP dn k) (he:epP dn k≤p.h.ep) :
 Ow B n Cb l (dnSet dn k (plus (dnP dn k) p.h.bf) p.h.ep) ls P∧plus (dnP dn k) p.h.bf=dnP dn k+p.h.bf:=by
 obtain ⟨x0,hx⟩:∃x,ls[k]?=some x:=⟨ls[k]'(by rw [h.lsL];exact hk),List.getElem?_eq_getElem _⟩
 have H:=h.hd i k p _ hi hk hp hh hx
 have h32:=cn_le hI k
 have h1:=H.a0
 have h2:=H.ab
 have h3:=H.b0
 have hE:=H.e1
 have e:plus (dnP dn k) p.h.bf=dnP dn k+p.h.bf:=plus_small (by omega) (by omega)
 rw [e]
 refine ⟨?_,rfl⟩
 generalize hdd:dnSet dn k (dnP dn k+p.h.bf) p.h.ep=dd
 have D:∀m,dnP dd m=if m=k then dnP dn k+p.h.bf else dnP dn m:=fun m=>by rw [←hdd];exact dnP_set h.dnL hk _ _
 have E:∀m,epP dd m=if m=k then p.h.ep else epP dn m:=fun m=>by rw [←hdd];exact epP_set h.dnL hk _ _
 have hfix:∀(m:Nat) (s:Sh),l[m]?=some s→dnP dn m=s.cnt→dnP dd m=dnP dn m:=by
  intro m s hm hc
  rw [D]
  split
  ·rename_i e9
   subst e9
   have:=cn_is hm
   omega
  ·rfl
 have hge:∀m,dnP dn m≤dnP dd m:=by
  intro m
  rw [D]
  split
  ·rename_i e9;subst e9;omega
  ·omega
 have hrd:∀m,m<l.length→rdy l (dnP dn) m=true→rdy l (dnP dd) m=true:=fun m hm=>rdy_adv hI hI (Adv.refl l) hfix hm
 refine ⟨by rw [←hdd,dnSet_len];exact h.dnL,h.lsL,h.pL,fun m hm=>?_,fun m x hx1=>?_,fun j m q x hj hm hq hqh hx=>?_,h.df⟩
 ·obtain ⟨a,b,c,d,f⟩:=h.mr m hm
  by_cases e9:m=k
  ·subst e9
   rw [D,E,if_pos rfl,if_pos rfl]
   exact ⟨by omega,by omega,by omega,by omega,fun _=>hrd m H.lt H.rd⟩
  ·rw [D,E,if_neg e9,if_neg e9]
   refine ⟨a,b,c,d,fun h0=>hrd m ?_ (f h0)⟩
   by_cases hlt:m<l.length
   ·exact hlt
   ·have:cn l m=0:=by unfold cn;rw [List.getElem?_eq_none (by omega)]
    omega
 ·obtain ⟨a,b,c,d,f,g,o⟩:=h.le m x hx1
  refine ⟨a,b,?_,d,f,g,fun h1 h2=>fin_adv hI hI (Adv.refl l) hfix m (o h1 h2)⟩
  rw [E]
  split
  ·rename_i e9
   subst e9
   exact (h.hd i m p x hi hk hp hh hx1).e2
  ·exact c
 ·obtain ⟨a,b,c,d,f,g,o,q1,q2,r,t⟩:=h.hd j m q x hj hm hq hqh hx
  exact ⟨a,b,c,d,f,g,by have:=hge m;omega,q1,q2,r,hrd m b t⟩
theorem Gro.fold {dn0 dn:List Int} {l0 l:List Sh} {B n:Nat} {Cb:Int} {ls:List Le} {P:List Pl} (hg:Gro dn0 l0 dn l) (h:Ow B n Cb l dn ls P) (hI:Inv l) (i k:Nat) (hi:i<n) (hk:k<16) (p:Pl) (hp:P[i*16+k]?=some p) (hh:p.held=true) (hb:¬p.h.bf=0) (ha:p.h.at_=dnP dn k) (he:epP dn k≤p.h.ep) :
 Gro dn0 l0 (dnSet dn k (plus (dnP dn k) p.h.bf) p.h.ep) l:=by
 obtain ⟨x0,hx⟩:∃x,ls[k]?=some x:=⟨ls[k]'(by rw [h.lsL];exact hk),List.getElem?_eq_getElem _⟩
 have H:=h.hd i k p _ hi hk hp hh hx
 have h3:=H.b0
 rw [(h.fold hI i k hi hk p hp hh hb ha he).2]
 refine ⟨hg.1,fun m=>?_⟩
 obtain ⟨a,b⟩:=hg.2 m
 rw [dnP_set h.dnL hk,epP_set h.dnL hk]
 by_cases e:m=k
 ·subst e;rw [if_pos rfl,if_pos rfl];omega
 ·rw [if_neg e,if_neg e];exact ⟨a,b⟩
theorem Ow.commit {B n:Nat} {Cb:Int} {l:List Sh} {now:Rest} {ls:List Le} {P:List Pl} (h:Ow B n Cb l now.dn ls P) (hI:Inv l) (hC:0≤Cb) (i k:Nat) (hi:i<n) (hk:k<16) (p:Pl) (hp:P[i*16+k]?=some p) (hh:p.held=true) (hb:¬p.h.bf=0) (lost:Bool) :
 Ow B n Cb l (now.fold k p.h.ep p.h.at_ p.h.bf).dn ls (if lost=true then P else heardP (folds now.dn k p.h.ep p.h.at_) i k p P):=by
 obtain ⟨x0,hx⟩:∃x,ls[k]?=some x:=⟨ls[k]'(by rw [h.lsL];exact hk),List.getElem?_eq_getElem _⟩
 have H:=h.hd i k p _ hi hk hp hh hx
 have h32:=cn_le hI k
 have h1:=H.a0
 have h2:=H.ab
 have h3:=H.b0
 unfold Rest.fold heardP
 by_cases hf:folds now.dn k p.h.ep p.h.at_=true
 ·have hf':=hf
  unfold folds at hf'
  simp only [decide_eq_true_eq] at hf'
  obtain ⟨f1,f2⟩:=hf'
  obtain ⟨q,e⟩:=h.fold hI i k hi hk p hp hh hb f2 f1
  rw [if_pos hf,if_pos hf]
  cases lost with
  | true=>rw [if_pos rfl];exact q
  | false =>
    rw [if_neg (by simp)]
    have e2:plus p.h.at_ p.h.bf=p.h.at_+p.h.bf:=plus_small (by omega) (by omega)
    refine q.rehold i k hi hk p hp hh _ rfl rfl ?_ ?_ (Int.le_refl _) hC ?_
    ·show 0≤plus p.h.at_ p.h.bf
     omega
    ·show plus p.h.at_ p.h.bf≤_
     rw [dnP_set h.dnL hk,if_pos rfl,f2]
     exact Int.le_refl _
    ·show plus p.h.at_ p.h.bf+0≤_
     omega
 ·rw [if_neg hf,if_neg hf]
  cases lost with
  | true=>rw [if_pos rfl];exact h
  | false=>rw [if_neg (by simp)];exact h.drop i k hk _ rfl
theorem Gro.commit {dn0:List Int} {l0 l:List Sh} {now:Rest} {B n:Nat} {Cb:Int} {ls:List Le} {P:List Pl} (hg:Gro dn0 l0 now.dn l) (h:Ow B n Cb l now.dn ls P) (hI:Inv l) (i k:Nat) (hi:i<n) (hk:k<16) (p:Pl) (hp:P[i*16+k]?=some p) (hh:p.held=true) (hb:¬p.h.bf=0) :
 Gro dn0 l0 (now.fold k p.h.ep p.h.at_ p.h.bf).dn l:=by
 unfold Rest.fold
 by_cases hf:folds now.dn k p.h.ep p.h.at_=true
 ·rw [if_pos hf]
  unfold folds at hf
  simp only [decide_eq_true_eq] at hf
  exact hg.fold h hI i k hi hk p hp hh hb hf.2 hf.1
 ·rw [if_neg hf];exact hg
theorem inc_big {x:Int} (h:0≤x∧x<9223372036854775807):inc x=x+1:=by unfold inc;rw [IntKind.wrap_i64];omega
theorem Ow.give {B n:Nat} {Cb:Int} {l:List Sh} {dn:List Int} {ls:List Le} {P:List Pl} (h:Ow B n Cb l dn ls P) (ht:Tight B n ls P) (hn:n≤4) (hB:B≤9223372036854775807) (hC:0≤Cb) (i k:Nat) (hi:i<n) (hk:k<l.length) (hk16:k<16) (p:Pl) (hp:P[i*16+k]?=some p) (hh:p.held=false) (hr:rdy l (dnP dn) k=true) :
 Ow (B+1) n Cb l dn (giveLs i k ls) (giveP (dnP dn k) i k ls P)∧Tight (B+1) n (giveLs i k ls) (giveP (dnP dn k) i k ls P)∧∃x,ls[k]?=some x∧inc x.e=x.e+1:=by
 have hkl:k<ls.length:=by rw [h.lsL];exact hk16
 obtain ⟨x,hx⟩:∃x,ls[k]?=some x:=⟨ls[k],List.getElem?_eq_getElem hkl⟩
 obtain ⟨a,b,c,d,f,g,o⟩:=h.le k x hx
 have hcl:=hc_le P k n
 have ein:inc x.e=x.e+1:=by
  refine inc_big ⟨a,?_⟩
  by_cases e:x.e=B
  ·have:=ht k x hx e;omega
  ·omega
 have el:giveLs i k ls=ls.set k ⟨i,inc x.c,x.e+1⟩:=by unfold giveLs;rw [hx];simp only [ein]
 have ep:giveP (dnP dn k) i k ls P=P.set (i*16+k) { p with held:=true,h:=⟨k,x.e+1,dnP dn k,0⟩ }:=by unfold giveP;rw [hx,hp];simp only [ein]
 rw [el,ep]
 have ls_at:∀{y:Le} {m:Nat} {x':Le},(ls.set k y)[m]?=some x'→(m=k∧x'=y)∨(m≠k∧ls[m]?=some x'):=by
  intro y m x' hm
  by_cases e:k=m
  ·subst e;rw [List.getElem?_set_self hkl] at hm;injection hm with hm;exact Or.inl ⟨rfl,hm.symm⟩
  ·rw [List.getElem?_set_ne e] at hm;exact Or.inr ⟨fun e9=>e e9.symm,hm⟩
 obtain ⟨m1,m2,m3,m4,m5⟩:=h.mr k hk16
 refine ⟨⟨h.dnL,by rw [List.length_set];exact h.lsL,by rw [List.length_set];exact h.pL,h.mr,fun m x' hm=>?_,fun j m q x' hj hm hq hqh hx'=>?_,fun i' j m q r hi' hj hm hq hr' hqh hrh hne=>?_⟩,fun m x' hm e=>?_,x,hx,ein⟩
 ·rcases ls_at hm with ⟨rfl,rfl⟩ | ⟨_,hm⟩
  ·exact ⟨by show 0≤x.e+1;omega,by show x.e+1≤_;omega,by show _≤x.e+1;omega,by show -1≤(i:Int);omega,by show (i:Int)<n;omega,fun h9=>by omega,fun h9=>by exfalso;have:(i:Int)=-1:=h9;omega⟩
  ·obtain ⟨a,b,c⟩:=h.le m x' hm
   exact ⟨a,by omega,c⟩
 ·rcases plAt_set hk16 hm hq with ⟨rfl,rfl,rfl⟩ | ⟨hne,h2⟩
  ·rcases ls_at hx' with ⟨_,rfl⟩ | ⟨h9,_⟩
   ·exact ⟨rfl,hk,by show 1≤x.e+1;omega,Int.le_refl _,fun _=>rfl,m1,Int.le_refl _,Int.le_refl _,hC,by show dnP dn m+0≤_;omega,hr⟩
   ·exact absurd rfl h9
  ·rcases ls_at hx' with ⟨rfl,rfl⟩ | ⟨_,h9⟩
   ·obtain ⟨a,b,c,d,f,g,o,q1,q2,r,t⟩:=h.hd j m q x hj hm h2 hqh hx
    exact ⟨a,b,c,by show q.h.ep≤x.e+1;omega,fun e9=>by have:q.h.ep=x.e+1:=e9;omega,g,o,q1,q2,r,t⟩
   ·exact h.hd j m q x' hj hm h2 hqh h9
 ·have bound:∀j q,j<n→P[j*16+k]?=some q→q.held=true→q.h.ep≤x.e:=fun j q hj hq hqh=>(h.hd j k q x hj hk16 hq hqh hx).e2
  rcases plAt_set hk16 hm hq with ⟨rfl,rfl,rfl⟩ | ⟨_,h2⟩
  ·rcases plAt_set hk16 hm hr' with ⟨rfl,_,_⟩ | ⟨_,h3⟩
   ·exact absurd rfl hne
   ·have:=bound j r hj h3 hrh
    show x.e+1≠r.h.ep
    omega
  ·rcases plAt_set hk16 hm hr' with ⟨rfl,rfl,rfl⟩ | ⟨_,h3⟩
   ·have:=bound i' q hi' h2 hqh
    show q.h.ep≠x.e+1
    omega
   ·exact h.df i' j m q r hi' hj hm h2 h3 hqh hrh hne
 ·rcases ls_at hm with ⟨rfl,rfl⟩ | ⟨_,hm⟩
  ·have e':x.e+1=(B:Int)+1:=by simpa using e
   have hb:=ht m x hx (by omega)
   have hlt:i*16+m<P.length:=(List.getElem?_eq_some_iff.1 hp).1
   have:=hc_give (P:=P) (Q:=P.set (i*16+m) { p with held:=true,h:=⟨m,x.e+1,dnP dn m,0⟩ }) (k:=m) (n:=n) (i:=i) hi (fun j hj hne=>by
    unfold hol
    rw [List.getElem?_set_ne (by omega)]) (by unfold hol;rw [hp];exact hh) (by unfold hol;rw [List.getElem?_set_self hlt])
   rw [this,hb]
  ·obtain ⟨a,b,c⟩:=h.le m x' hm
   exfalso
   have e':x'.e=(B:Int)+1:=by simpa using e
   omega
end Go.Proofs.YtpnkmnmchdabkaaGreat
namespace Go.Proofs.YtpnkmnmchdabkaaGreat
theorem noneL_at {k:Nat} {x:Le} (h:(noneL 16)[k]?=some x):x.o=-1∧x.e=0:=by
 have hx:x ∈ noneL 16:=List.mem_of_getElem? h
 have e:noneL 16=List.replicate 16 ⟨-1,0,0⟩:=by unfold noneL;simp
 rw [e] at hx
 have:=List.eq_of_mem_replicate hx
 subst this
 exact ⟨rfl,rfl⟩
theorem ow_new (n:Nat) (Cb:Int) (hn:n≤4):Ow 0 n Cb [⟨0,256,true,[],[]⟩] (List.replicate 32 0) (noneL 16) (List.replicate (n*16) pl0):=by
 have z1:∀k,dnP (List.replicate 32 0) k=0:=by
  intro k
  unfold dnP
  rw [List.getElem?_replicate]
  split <;> rfl
 have z2:∀k,epP (List.replicate 32 0) k=0:=by
  intro k
  unfold epP
  rw [List.getElem?_replicate]
  split <;> rfl
 have no:∀{q:Nat} {p:Pl},(List.replicate (n*16) pl0)[q]?=some p→p.held=true→False:=by
  intro q p hp hh
  have:=List.eq_of_mem_replicate (List.mem_of_getElem? hp)
  subst this
  simp [pl0] at hh
 refine ⟨by simp,by simp [noneL],by simp,fun k hk=>?_,fun k x hx=>?_,fun i k p x _ _ hp hh _=>(no hp hh).elim,fun i j k p q _ _ _ hp _ hh _ _=>(no hp hh).elim⟩
 ·rw [z1,z2]
  exact ⟨by omega,by omega,by omega,by omega,fun h=>by omega⟩
 ·obtain ⟨a,b⟩:=noneL_at hx
  rw [a,b,z2]
  exact ⟨by omega,by omega,by omega,by omega,by omega,fun _=>rfl,fun _ h=>by omega⟩
theorem hc_zero {P:List Pl} {k:Nat} (h:∀j,hol P j k=false):∀n,hc P k n=0
 | 0=>rfl
 | n+1=>by unfold hc;rw [hc_zero h n,h n];rfl
theorem Ow.stg {B n:Nat} {Cb:Int} {l:List Sh} {dn:List Int} {ls:List Le} {P:List Pl} (h:Ow B n Cb l dn ls P) (hI:Inv l):(∀k,k<l.length→(stgUp l (dnP dn) l.length)[k]?=some (Go.Proofs.YtpnkmnmchdabkaaGreat.stg l (dnP dn) k))∧(∀k,l.length≤k→k<16→(stgUp l (dnP dn) l.length)[k]?=some 0) :=
 stgUp_is hI (dnP dn) (fun k s hk=>by have:=(h.mr k (by have:=(List.getElem?_eq_some_iff.1 hk).1;have:=hI.len;omega)).2.1;rw [cn_is hk] at this;exact this) _ (Nat.le_refl _)
theorem Ow.two {B n:Nat} {Cb:Int} {l:List Sh} {dn:List Int} {ls:List Le} {P:List Pl} (h:Ow B n Cb l dn ls P) (hI:Inv l) (k:Nat) (hk:k<16) (e:(stgUp l (dnP dn) l.length)[k]?=some 2):fin l (dnP dn) k=true:=by
 obtain ⟨h1,h2⟩:=h.stg hI
 by_cases hlt:k<l.length
 ·rw [h1 k hlt] at e
  injection e with e
  exact (stg_two hI (List.getElem?_eq_getElem hlt)).1 e
 ·rw [h2 k (by omega) hk] at e
  injection e with e
  omega
theorem Ow.one {B n:Nat} {Cb:Int} {l:List Sh} {dn:List Int} {ls:List Le} {P:List Pl} (h:Ow B n Cb l dn ls P) (hI:Inv l) (k:Nat) (hk:k<16) (e:(stgUp l (dnP dn) l.length)[k]?=some 1):k<l.length∧rdy l (dnP dn) k=true∧fin l (dnP dn) k=false:=by
 obtain ⟨h1,h2⟩:=h.stg hI
 by_cases hlt:k<l.length
 ·rw [h1 k hlt] at e
  injection e with e
  unfold Go.Proofs.YtpnkmnmchdabkaaGreat.stg at e
  by_cases hr:rdy l (dnP dn) k=true
  ·rw [if_pos hr] at e
   by_cases hf:fin l (dnP dn) k=true
   ·rw [if_pos hf] at e;omega
   ·exact ⟨hlt,hr,by simpa using hf⟩
  ·rw [if_neg hr] at e;omega
 ·rw [h2 k (by omega) hk] at e
  injection e with e
  omega
theorem may_is {st:List Int} {ls:List Le} {P:List Pl} {t L:Int} {i n:Nat} (h:mayP st ls P t L i n=true):∃p,P[i*16+n]?=some p∧p.held=false∧st[n]?=some 1:=by
 unfold mayP at h
 split at h
 ·rename_i p hp
  simp only [Bool.and_eq_true,Bool.not_eq_true',decide_eq_true_eq] at h
  exact ⟨p,hp,h.1.2,h.1.1⟩
 ·cases h
end Go.Proofs.YtpnkmnmchdabkaaGreat
namespace Go.Proofs.YtpnkmnmchdabkaaGreat
open Go.RowKit
attribute [local go_sem ↓] Go.wp_at_zero Go.wp_at_succ
theorem LogAt.recAt {w:World} {ρ:Nat→Nat} {sv:Value} {m:List Cs} (h:LogAt w ρ sv m) {k:Nat} {s:Cs} (hk:m[k]?=some s) {p:Nat} {r:Rc} (hp:s.s.rl[p]?=some r) :
 ∃rb rc,s.rv=.slice (some ⟨rb,0,none⟩) s.s.cnt rc∧rb<w.heap.size∧∀j,j<10→w.cell? ⟨rb,p*10+j,none⟩=(rcCells r)[j]?:=by
 have hlt:=(List.getElem?_eq_some_iff.1 hp).1
 have hc:s.s.cnt=s.s.rl.length:=rfl
 have hrow:=h.rcv k s hk
 obtain ⟨rb,rc,cur,hv,_,hg,_⟩:=ownsRow_shape hrow (by omega)
 rw [hv] at hrow
 refine ⟨rb,rc,hv,lt_of_heap hg,fun j hj=>?_⟩
 rw [World.ownsRow.cellAt hrow (p*10+j) (by omega),rcRow_get _ p j hj r hp]
set_option maxRecDepth 100000 in
set_option maxHeartbeats 2000000 in
theorem gRecord_any {w:World} {ρ:Nat→Nat} {gb:Nat} {C:Cfg} {now:Rest} {sv:Value} {m:List Cs} {g cap:Nat} {ls:List Le} {P:List Pl} (h:GS w ρ gb C now sv m g cap ls P) (k:Nat) (s:Cs) (hk:m[k]?=some s) (p:Nat) (r:Rc) (hp:s.s.rl[p]?=some r) :
 Calls Tryz.prog 112 #[.pointer (some ⟨gb,7,none⟩),.int .i64 k,.int .i64 p] w fun e w'=>e=.returned (.agg (recArr r.kb r.v r.t))∧Below w.heap.size w w':=by
 have hG:GrpL w ρ gb C (now.up ls P) sv m g cap P:=h
 have hkl:=(List.getElem?_eq_some_iff.1 hk).1
 have hpl:p<s.s.cnt:=(List.getElem?_eq_some_iff.1 hp).1
 have HC:Hid (∀W,Below w.heap.size w W→Calls Tryz.prog 40 #[.pointer (some ⟨gb,7,none⟩),.int .i64 k] W fun e w'=>e=.returned (.int .i64 s.s.cnt)∧W=w'):=fun W hb=>gCount_any (h.below hb).1 k s hk
 obtain ⟨bs,cp,hsv,hbs,hbsl,hcap,hcm,ff,cc⟩:=hG.G.log.shape (by omega)
 obtain ⟨a0,a1,a2,a3,a4⟩:=cc k s hk
 obtain ⟨rb,rc,hrv,hrb,hcell⟩:=hG.G.log.recAt hk hp
 have c7:=hG.tcell.2.1
 have hgb:=lt_of_heap hG.G.blk
 rw [hrv] at a4
 rw [hsv] at c7
 have x0:w.cell? ⟨rb,p*10,none⟩=some (.int .u8 (byteAt r.kb 0)):=hcell 0 (by omega)
 have x1:w.cell? ⟨rb,p*10+1,none⟩=some (.int .u8 (byteAt r.kb 1)):=hcell 1 (by omega)
 have x2:w.cell? ⟨rb,p*10+2,none⟩=some (.int .u8 (byteAt r.kb 2)):=hcell 2 (by omega)
 have x3:w.cell? ⟨rb,p*10+3,none⟩=some (.int .u8 (byteAt r.kb 3)):=hcell 3 (by omega)
 have x4:w.cell? ⟨rb,p*10+4,none⟩=some (.int .u8 (byteAt r.kb 4)):=hcell 4 (by omega)
 have x5:w.cell? ⟨rb,p*10+5,none⟩=some (.int .u8 (byteAt r.kb 5)):=hcell 5 (by omega)
 have x6:w.cell? ⟨rb,p*10+6,none⟩=some (.int .u8 (byteAt r.kb 6)):=hcell 6 (by omega)
 have x7:w.cell? ⟨rb,p*10+7,none⟩=some (.int .u8 (byteAt r.kb 7)):=hcell 7 (by omega)
 have x8:w.cell? ⟨rb,p*10+8,none⟩=some (.int .i64 r.v):=hcell 8 (by omega)
 have x9:w.cell? ⟨rb,p*10+9,none⟩=some (.int .i64 r.t):=hcell 9 (by omega)
 clear h hG cc ff hcell a0 a1 a2 a3 hk hp hsv hrv
 go_enter Tryz.func112,Tryz.ntmps112
 go_wp2_with fail
 have N0:=heap_alloc_new w (.cells #[.int .u8 0,.int .u8 0,.int .u8 0,.int .u8 0,.int .u8 0,.int .u8 0,.int .u8 0,.int .u8 0,.int .i64 0,.int .i64 0] 137)
 have B0:=(Below.refl w.heap.size w).alloc (Nat.le_refl _) (.cells #[.int .u8 0,.int .u8 0,.int .u8 0,.int .u8 0,.int .u8 0,.int .u8 0,.int .u8 0,.int .u8 0,.int .i64 0,.int .i64 0] 137)
 generalize w.alloc (.cells #[.int .u8 0,.int .u8 0,.int .u8 0,.int .u8 0,.int .u8 0,.int .u8 0,.int .u8 0,.int .u8 0,.int .i64 0,.int .i64 0] 137)=W at *
 refine (uh HC _ B0).mono ?_
 rintro e w1 ⟨rfl,rfl⟩
 have c7':=(B0.cell (p:=⟨gb,7,none⟩) hgb).trans c7
 have a4':=(B0.cell (p:=⟨bs,k*5+4,none⟩) hbsl).trans a4
 have y0:=(B0.cell (p:=⟨rb,p*10,none⟩) hrb).trans x0
 have y1:=(B0.cell (p:=⟨rb,p*10+1,none⟩) hrb).trans x1
 have y2:=(B0.cell (p:=⟨rb,p*10+2,none⟩) hrb).trans x2
 have y3:=(B0.cell (p:=⟨rb,p*10+3,none⟩) hrb).trans x3
 have y4:=(B0.cell (p:=⟨rb,p*10+4,none⟩) hrb).trans x4
 have y5:=(B0.cell (p:=⟨rb,p*10+5,none⟩) hrb).trans x5
 have y6:=(B0.cell (p:=⟨rb,p*10+6,none⟩) hrb).trans x6
 have y7:=(B0.cell (p:=⟨rb,p*10+7,none⟩) hrb).trans x7
 have y8:=(B0.cell (p:=⟨rb,p*10+8,none⟩) hrb).trans x8
 have y9:=(B0.cell (p:=⟨rb,p*10+9,none⟩) hrb).trans x9
 obtain ⟨z0,z1,z2,z3,z4,z5,z6,z7,z8,z9⟩:=load10 N0
 have fz:=fun j=>frozen_of N0 j
 have f0:=fz 0
 have f1:=fz 1
 have f2:=fz 2
 have f3:=fz 3
 have f4:=fz 4
 have f5:=fz 5
 have f6:=fz 6
 have f7:=fz 7
 have f8:=fz 8
 have f9:=fz 9
 have q1:¬((p:Int)<0):=by omega
 have q2:(p:Int)<(s.s.cnt:Int):=by omega
 have q3:(k:Int)<(m.length:Int):=by omega
 have HN0:=hide N0
 have HB0:=hide B0
 clear N0 B0 HC x0 x1 x2 x3 x4 x5 x6 x7 x8 x9 c7 a4 fz
 go_wp2
 have M:=set10_heap (uh HN0) (.int .u8 (byteAt r.kb 0)) (.int .u8 (byteAt r.kb 1)) (.int .u8 (byteAt r.kb 2)) (.int .u8 (byteAt r.kb 3)) (.int .u8 (byteAt r.kb 4)) (.int .u8 (byteAt r.kb 5)) (.int .u8 (byteAt r.kb 6)) (.int .u8 (byteAt r.kb 7)) (.int .i64 r.v) (.int .i64 r.t)
 have B:=set10_below (uh HB0) (Nat.le_refl _) (.int .u8 (byteAt r.kb 0)) (.int .u8 (byteAt r.kb 1)) (.int .u8 (byteAt r.kb 2)) (.int .u8 (byteAt r.kb 3)) (.int .u8 (byteAt r.kb 4)) (.int .u8 (byteAt r.kb 5)) (.int .u8 (byteAt r.kb 6)) (.int .u8 (byteAt r.kb 7)) (.int .i64 r.v) (.int .i64 r.t)
 unfold set10 at M B
 generalize (((((((((W.setCell ⟨w.heap.size,0,none⟩ (.int .u8 (byteAt r.kb 0))).setCell ⟨w.heap.size,1,none⟩ (.int .u8 (byteAt r.kb 1))).setCell ⟨w.heap.size,2,none⟩ (.int .u8 (byteAt r.kb 2))).setCell ⟨w.heap.size,3,none⟩ (.int .u8 (byteAt r.kb 3))).setCell ⟨w.heap.size,4,none⟩ (.int .u8 (byteAt r.kb 4))).setCell ⟨w.heap.size,5,none⟩ (.int .u8 (byteAt r.kb 5))).setCell ⟨w.heap.size,6,none⟩ (.int .u8 (byteAt r.kb 6))).setCell ⟨w.heap.size,7,none⟩ (.int .u8 (byteAt r.kb 7))).setCell ⟨w.heap.size,8,none⟩ (.int .i64 r.v)).setCell ⟨w.heap.size,9,none⟩ (.int .i64 r.t)=U at M B ⊢
 obtain ⟨m0,m1,m2,m3,m4,m5,m6,m7,m8,m9⟩:=load10 M
 refine bodyPost_ret (v:=.agg (recArr r.kb r.v r.t)) ?_ rfl ⟨rfl,B⟩
 unfold recArr
 simp [results,Tryz.results112,go_sem,m0,m1,m2,m3,m4,m5,m6,m7,m8,m9]
set_option maxHeartbeats 400000 in
theorem later_any (a b:Int) (w:World) :
 Calls Tryz.prog 113 #[.int .i64 a,.int .i64 b] w fun e w'=>e=.returned (.int .i64 (if b<a then a else b))∧w=w':=by
 by_cases h:b<a
 ·rw [if_pos h]
  go_enter Tryz.func113,Tryz.ntmps113
  go_wp2
  go_ret
  exact ⟨rfl,rfl⟩
 ·rw [if_neg h]
  go_enter Tryz.func113,Tryz.ntmps113
  go_wp2
  go_ret
  exact ⟨rfl,rfl⟩
def lat (a b:Int):Int:=if b<a then a else b
def topOf (wm:List Int) (par:List Int):Int:=par.foldl (fun a p=>lat a ((wm[p.toNat]?).getD 0)) (-1)
theorem topOf_take (wm par:List Int) (j:Nat) (hj:j<par.length):topOf wm (par.take (j+1))=lat (topOf wm (par.take j)) ((wm[par[j].toNat]?).getD 0):=by
 unfold topOf
 rw [List.take_succ_eq_append_getElem hj,List.foldl_append]
 rfl
set_option maxRecDepth 100000 in
set_option maxHeartbeats 1000000 in
theorem amongst_any (wm:List Int) (hwm:wm.length=16) (par:List Int) (q qc:Nat) (w:World) (hr:∀p ∈ par,0≤p∧p<16) (hl:par.length≤2) (hrow:w.ownsRow 0 3 1 (.slice (some ⟨q,0,none⟩) par.length qc) par.length (par.map (Value.int .i64))) :
 Calls Tryz.prog 110 #[.agg (stA wm),.slice (some ⟨q,0,none⟩) par.length qc] w fun e w'=>e=.returned (.int .i64 (topOf wm par))∧Below w.heap.size w w':=by
 have HL:=fun a b w=>hide (later_any a b w)
 have HR:=hide hr
 have HS:Hid ((w.alloc (.cells (stA wm) 168)).heap[w.heap.size]?=some (.cells (stA wm) 168 (0,0))):=heap_alloc_new w _
 have HW:=hide hrow
 have hql:=(hrow.lt q rfl).2
 have HZ:=fun (n:Int) w=>hide (sinkHas_any n w)
 clear hr hrow
 unfold stA at HS
 unfold stA
 go_enter Tryz.func110,Tryz.ntmps110
 go_wp2
 go_loopw [5,6] (fun t i wr=>∃j:Nat,j≤par.length∧i=.int .i64 j∧t=.int .i64 (topOf wm (par.take j))∧wr.heap[w.heap.size]?=some (.cells (List.map (Value.int .i64) wm).toArray 168 (0,0))∧Below w.heap.size w wr) (fun _ i _=>par.length - (intOf i).toNat)
 case atStart=>exact ⟨0,Nat.zero_le _,rfl,rfl,uh HS,(Below.refl _ w).alloc (Nat.le_refl _) _⟩
 case round =>
  obtain ⟨j,hj,rfl,rfl,hH,hB⟩:=hrel
  by_cases hlt:j<par.length
  ·have hmem:=uh HR par[j] (List.getElem_mem hlt)
   obtain ⟨k,hk⟩:∃k:Nat,par[j]=(k:Int):=⟨par[j].toNat,by omega⟩
   have dc:wr.cell? ⟨q,j,none⟩=some (.int .i64 k):=by
    rw [hB.cell (p:=⟨q,j,none⟩) hql,World.ownsRow.cellAt (uh HW) j (by omega)]
    simp [hlt,hk]
   have HT:=hide (topOf_take wm par j hlt)
   rw [hk] at HT
   have hk16:k<wm.length:=by omega
   have e9:(wm[(k:Int).toNat]?).getD 0=wm[k]:=by rw [show ((k:Int)).toNat=k by omega,List.getElem?_eq_getElem hk16];rfl
   rw [e9] at HT
   have ds:wr.cell? ⟨w.heap.size,k,none⟩=some (.int .i64 wm[k]):=by rw [cell_of hH];simp [hk16]
   generalize wm[k]=v at *
   have hz:=HZ k
   rw [hasS16 (show k<16 by omega)] at hz
   have HH:=hide hH
   have HB:=hide hB
   have k16:k<16:=by omega
   clear hH hB hk e9
   go_wp2_with (first | (go_at_call 81;refine (uh (hz _)).mono ?_;rintro e w1 ⟨rfl,rfl⟩) | (go_at_call 113;refine (uh (HL _ _ _)).mono ?_;rintro e w1 ⟨rfl,rfl⟩))
   go_roundw
   case rel=>exact ⟨j+1,by omega,by go_num,by rw [uh HT];rfl,uh HH,uh HB⟩
   case measure=>simp [intOf];omega
  ·have e:j=par.length:=by omega
   subst e
   rw [List.take_length]
   have HB:=hide hB
   clear hH hB
   go_wp2
   go_ret
   exact ⟨rfl,uh HB⟩
end Go.Proofs.YtpnkmnmchdabkaaGreat
