import Derived.Test.YtpnkmnmchdabkaaGreatM25
import Derived.Test.YtpnkmnmchdabkaaGreatM24
import Derived.Test.YtpnkmnmchdabkaaGreatLogPut
import Derived.Test.YtpnkmnmchdabkaaGreatM04
namespace Go.Proofs.YtpnkmnmchdabkaaGreat
open Go.RowKit
theorem Rel.stage {C:Cfg} {now:Rest} {time:Int} {l:List Sh} {Pt:List Pt} {rs:List Rf} {wv:Wks} {B:Int} (h:Rel C now time l Pt rs wv B) (hl:absR rs Pt=l) (hI:Inv l) :
 dnP now.dn=dnR rs∧(∀k,k<rs.length→(stgUp l (dnP now.dn) l.length)[k]?=some (stg l (dnR rs) k))∧(∀k,rs.length≤k→k<16→(stgUp l (dnP now.dn) l.length)[k]?=some 0):=by
 have e1:dnP now.dn=dnR rs:=by funext k;exact (h.dn k).1
 obtain ⟨_,_,P9,_,_,_,_,o9⟩:=h.mem
 have hn:l.length=rs.length:=by rw [←hl,absR_len]
 have hs:=stgUp_is hI (dnR rs) (fun k s hk=>by have:=(o9.1.mr k (by have:=(List.getElem?_eq_some_iff.1 hk).1;have:=hI.len;omega)).2.1;rw [cn_is hk,e1] at this;exact this) l.length (Nat.le_refl _)
 rw [e1]
 exact ⟨rfl,fun k hk=>hs.1 k (by omega),fun k hk hk2=>hs.2 k (by omega) hk2⟩
theorem Rel.fin {C:Cfg} {now:Rest} {time:Int} {l:List Sh} {Pt:List Pt} {rs:List Rf} {wv:Wks} {B:Int} (h:Rel C now time l Pt rs wv B) (hl:absR rs Pt=l) (hI:Inv l):∀k,k<rs.length→finS (stgUp l (dnP now.dn) l.length) k=fin l (dnR rs) k:=by
 intro k hk
 have hn:l.length=rs.length:=by rw [←hl,absR_len]
 unfold finS
 rw [(h.stage hl hI).2.1 k hk]
 have hs:l[k]?=some l[k]:=List.getElem?_eq_getElem (by omega)
 have:=stg_two hI (dn:=dnR rs) hs
 by_cases hf:Go.Proofs.YtpnkmnmchdabkaaGreat.fin l (dnR rs) k=true
 ·rw [hf,this.2 hf];rfl
 ·have h2:¬stg l (dnR rs) k=2:=fun e=>hf (this.1 e)
  simp [hf,h2]
theorem Rel.up {C:Cfg} {now:Rest} {time:Int} {l:List Sh} {Pt:List Pt} {rs:List Rf} {wv:Wks} {B:Int} (h:Rel C now time l Pt rs wv B) {ls':List Le} {P':List Pl} {rs':List Rf} {wv':Wks} {B':Int} {g cap:Nat} (hw:now.wv=.slice (some ⟨g,0,none⟩) now.n cap) (hlen:P'.length=now.n*16) (hls:LsRel ls' rs') (hd:∀k,dnR rs' k=dnR rs k∧epR rs' k=epR rs k) (hb:∀(k:Nat) r,rs'[k]?=some r→(0≤r.ctr∧r.ctr≤B')∧(0≤r.lep∧r.lep≤B')) (hwl:wv'.l.length=wv.l.length) (hB:B≤B')
 (hW:∀(i:Nat) y,wv'.l[i]?=some y→WOk P' i y rs'.length B') (hO:Od B' now.n C.b l now.dn ls' P') (hfo:wv'.fo=wv.fo):Rel C (now.up ls' P') time l Pt rs' wv' B' :=
 ⟨h.t,by have:=h.t0;omega,h.n,by rw [hwl];exact h.nl,h.n1,fun k=>by rw [(hd k).1,(hd k).2];exact h.dn k,hls,hb,h.val,⟨g,cap,P',hw,rfl,hlen,hW,hO⟩,by
  obtain ⟨E,F,e1,e2,e3,e4⟩:=h.ent
  have hdR:dR rs'=dR rs:=by funext k;unfold dR;rw [(hd k).1]
  exact ⟨E,F,e1,e2,by rw [hdR];exact e3,by rw [hfo];exact e4⟩⟩
theorem marks_same {rs rs':List Rf} (hl:rs'.length=rs.length) (h:∀(k:Nat) r',rs'[k]?=some r'→∃r,rs[k]?=some r∧r'.done=r.done∧r'.ep=r.ep) (k:Nat):dnR rs' k=dnR rs k∧epR rs' k=epR rs k:=by
 unfold dnR epR
 cases hr:rs'[k]? with
 | none=>rw [List.getElem?_eq_none (by have:=List.getElem?_eq_none_iff.1 hr;omega)];exact ⟨rfl,rfl⟩
 | some r' =>
   obtain ⟨r,h1,h2,h3⟩:=h k r' hr
   rw [h1]
   exact ⟨h2,h3⟩
theorem marks_lease {rs:List Rf} {k:Nat} {x:Rf} (hx:rs[k]?=some x) (a b c:Int) (j:Nat):dnR (rs.set k { x with own:=a,ctr:=b,lep:=c }) j=dnR rs j∧epR (rs.set k { x with own:=a,ctr:=b,lep:=c }) j=epR rs j:=by
 have hk:=(List.getElem?_eq_some_iff.1 hx).1
 refine marks_same (by simp) (fun q r' hr'=>?_) j
 by_cases e:q=k
 ·subst e
  rw [List.getElem?_set_self hk] at hr'
  injection hr' with hr'
  subst hr'
  exact ⟨x,hx,rfl,rfl⟩
 ·rw [List.getElem?_set_ne (fun q=>e q.symm)] at hr'
  exact ⟨r',hr',rfl,rfl⟩
theorem wk_set {l:List Wk} {i j:Nat} {y z:Wk} (h:(l.set i y)[j]?=some z):(j=i∧z=y)∨(j≠i∧l[j]?=some z):=set_cases h
set_option maxHeartbeats 1000000 in
theorem Rel.renew {C:Cfg} {now:Rest} {time:Int} {l:List Sh} {Pt:List Pt} {rs:List Rf} {wv:Wks} {B:Int} (h:Rel C now time l Pt rs wv B) (hB:B≤1000000000000) (hl:absR rs Pt=l) (hI:Inv l) {g cap:Nat} {P:List Pl} (hw:now.wv=.slice (some ⟨g,0,none⟩) now.n cap) (hlen:P.length=now.n*16) (hW:∀(i:Nat) y,wv.l[i]?=some y→WOk P i y rs.length B) (hO:Od B now.n C.b l now.dn now.ls P) {i:Nat} {y:Wk} (hy:wv.l[i]?=some y) (hv':Value) :
 Rel C (now.up (rnUp i (stgUp l (dnP now.dn) l.length) 16 (now.ls,P)).1 (rnUp i (stgUp l (dnP now.dn) l.length) 16 (now.ls,P)).2) time l Pt (renewUp (Go.Proofs.YtpnkmnmchdabkaaGreat.fin l (dnR rs)) i rs.length (rs,y.hs)).1 (wv.setH i y (renewUp (Go.Proofs.YtpnkmnmchdabkaaGreat.fin l (dnR rs)) i rs.length (rs,y.hs)).2 hv') (B+1) ∧
  rnCnt i (stgUp l (dnP now.dn) l.length) 16 (now.ls,P)=(renewUp (Go.Proofs.YtpnkmnmchdabkaaGreat.fin l (dnR rs)) i rs.length (rs,y.hs)).2.length∧absR (renewUp (Go.Proofs.YtpnkmnmchdabkaaGreat.fin l (dnR rs)) i rs.length (rs,y.hs)).1 Pt=l∧(renewUp (Go.Proofs.YtpnkmnmchdabkaaGreat.fin l (dnR rs)) i rs.length (rs,y.hs)).1.length=rs.length:=by
 have hn:rs.length=l.length:=by rw [←hl,absR_len]
 have h16:rs.length≤16:=by have:=hI.len;omega
 have hWi:=hW i y hy
 have hin:i<now.n:=by have:=(List.getElem?_eq_some_iff.1 hy).1;have:=h.nl;omega
 have hB0:0≤B:=by have:=h.t0;omega
 have hO1:Od (B+1) now.n C.b l now.dn (rnUp i (stgUp l (dnP now.dn) l.length) 16 (now.ls,P)).1 (rnUp i (stgUp l (dnP now.dn) l.length) 16 (now.ls,P)).2:=Od.next hB0 (hO.1.rn i hin _ (fun k hk e=>hO.1.two hI k hk e) 16 (Nat.le_refl _))
 have A:=fun n hn'=>renew_all (f:=Go.Proofs.YtpnkmnmchdabkaaGreat.fin l (dnR rs)) (i:=i) (st:=stgUp l (dnP now.dn) l.length) hB h.ls hWi.rel hWi.hs (fun k r hr=>(h.bd k r hr).1) (h.fin hl hI) n hn'
 have I:=A 16 (Nat.le_refl _)
 have lens:∀n,(renewUp (Go.Proofs.YtpnkmnmchdabkaaGreat.fin l (dnR rs)) i n (rs,y.hs)).1.length=rs.length:=by
  intro n
  induction n with
  | zero=>rfl
  | succ n ih =>
    rw [renewUp]
    unfold renewAt
    split
    ·split
     ·exact ih
     ·split
      ·simp only [List.length_set];exact ih
      ·simp only [List.length_set];exact ih
    ·exact ih
 have e:=renewUp_more (Go.Proofs.YtpnkmnmchdabkaaGreat.fin l (dnR rs)) i rs y.hs lens 16 h16
 rw [←e]
 have hab:∀n,absR (renewUp (Go.Proofs.YtpnkmnmchdabkaaGreat.fin l (dnR rs)) i n (rs,y.hs)).1 Pt=absR rs Pt:=by
  intro n
  induction n with
  | zero=>rfl
  | succ n ih =>
    rw [renewUp]
    unfold renewAt
    split
    ·rename_i x r hx hr
     split
     ·exact ih
     ·split
      ·exact (absR_lease hr _ _ _).1.trans ih
      ·exact (absR_lease hr _ _ _).1.trans ih
    ·exact ih
 obtain ⟨i1,i2,i3,i4,i5,i6,i7,i8⟩:=I
 have hab16:=hab 16
 have i9:(byShard (renewUp (Go.Proofs.YtpnkmnmchdabkaaGreat.fin l (dnR rs)) i 16 (rs,y.hs)).2 16).length=(renewUp (Go.Proofs.YtpnkmnmchdabkaaGreat.fin l (dnR rs)) i 16 (rs,y.hs)).2.length:=by rw [byShard_more i3 16 h16,byShard_len i3]
 rw [i9] at i7
 clear A lens e hab i9 i6
 generalize renewUp (Go.Proofs.YtpnkmnmchdabkaaGreat.fin l (dnR rs)) i 16 (rs,y.hs)=R at *
 generalize rnUp i (stgUp l (dnP now.dn) l.length) 16 (now.ls,P)=U at *
 generalize rnCnt i (stgUp l (dnP now.dn) l.length) 16 (now.ls,P)=cn at *
 refine ⟨h.up hw (by rw [i5.1];exact hlen) i1 (marks_same i4 (fun k r hr=>?_)) (fun k r hr=>?_) (by unfold Wks.setH;simp) (by omega) (fun j z hz=>?_) hO1 rfl,i7,hab16.trans hl,i4⟩
 ·obtain ⟨r0,h1,_,_,h4⟩:=i8 k r hr
  exact ⟨r0,h1,h4⟩
 ·obtain ⟨r0,h1,h2,h3,_⟩:=i8 k r hr
  have:=h.bd k r0 h1
  rw [h3]
  rcases h2 with h2 | h2 <;> rw [h2] <;> omega
 ·rw [i4]
  unfold Wks.setH at hz
  rcases wk_set hz with ⟨rfl,rfl⟩ | ⟨hj,hz⟩
  ·exact ⟨i2,i3,hWi.ns.mono (Nat.le_refl _) (by omega)⟩
  ·have:=hW j z hz
   exact ⟨i5.wk hj this.rel,this.hs,this.ns.mono (Nat.le_refl _) (by omega)⟩
theorem forgetP_at (P:List Pl) (i:Nat):∀n,n≤16→Oth i P (forgetP P i n)∧∀k,k<n→i*16+k<P.length→(forgetP P i n)[i*16+k]?=some pl0:=by
 intro n
 induction n with
 | zero=>intro _;exact ⟨Oth.refl i P,fun k hk=>by omega⟩
 | succ n ih =>
   intro hn
   obtain ⟨a,b⟩:=ih (by omega)
   refine ⟨a.set n (by omega) pl0,fun k hk hl=>?_⟩
   rw [forgetP]
   by_cases e:k=n
   ·subst e
    rw [List.getElem?_set_self (by rw [a.1];exact hl)]
   ·rw [List.getElem?_set_ne (by omega)]
    exact b k (by omega) hl
theorem Rel.crash {C:Cfg} {now:Rest} {time:Int} {l:List Sh} {Pt:List Pt} {rs:List Rf} {wv:Wks} {B:Int} (h:Rel C now time l Pt rs wv B) {g cap:Nat} {P:List Pl} (hw:now.wv=.slice (some ⟨g,0,none⟩) now.n cap) (hlen:P.length=now.n*16) (hW:∀(i:Nat) y,wv.l[i]?=some y→WOk P i y rs.length B) (hO:Od B now.n C.b l now.dn now.ls P) {i:Nat} (hi:i<now.n) :
 Rel C (now.up now.ls (forgetP P i 16)) time l Pt rs { wv with l:=wv.l.set i ⟨[],.slice none 0 0,[],.slice none 0 0⟩ } (B+1):=by
 obtain ⟨a,b⟩:=forgetP_at P i 16 (Nat.le_refl _)
 refine h.up hw (by rw [a.1];exact hlen) h.ls (fun _=>⟨rfl,rfl⟩) (fun k r hr=>by have:=h.bd k r hr;omega) (by simp) (by omega) (fun j z hz=>?_) (Od.next (by have:=h.t0;omega) (hO.1.forget i 16 (Nat.le_refl _))) rfl
 rcases wk_set hz with ⟨rfl,rfl⟩ | ⟨hj,hz⟩
 ·refine ⟨fun k hk=>⟨pl0,b k hk (by omega),rfl,rfl⟩,⟨by simp,fun x hx=>by simp at hx⟩,⟨by simp,fun x hx=>by simp at hx,fun x hx=>by simp at hx⟩⟩
 ·have:=hW j z hz
  exact ⟨a.wk hj this.rel,this.hs,this.ns.mono (Nat.le_refl _) (by omega)⟩
theorem give_rel {i k:Nat} {ls:List Le} {P:List Pl} {rs:List Rf} {hs:List Hd} {ns:List Nt} {r:Rf} {d B:Int} (hB:B≤1000000000000) (hk:k<16) (hL:LsRel ls rs) (hW:WkRel P i hs ns) (hH:HsOk hs rs.length) (hr:rs[k]?=some r) (hb:(0≤r.ctr∧r.ctr≤B)∧(0≤r.lep∧r.lep≤B)) (hno:firstOf hs k=none) :
 LsRel (giveLs i k ls) (rs.set k { r with own:=i,ctr:=r.ctr+1,lep:=r.lep+1 })∧WkRel (giveP d i k ls P) i (hs ++ [⟨k,r.lep+1,d,0⟩]) ns∧HsOk (hs ++ [⟨k,r.lep+1,d,0⟩]) rs.length∧Oth i P (giveP d i k ls P):=by
 obtain ⟨p,hp,h1,h2⟩:=hW k hk
 have hlt:=(List.getElem?_eq_some_iff.1 hr).1
 have hx:=hL.2 k hk
 have hle:leOf rs k=⟨r.own,r.ctr,r.lep⟩:=by unfold leOf;rw [hr]
 rw [hle] at hx
 have i1:inc r.ctr=r.ctr+1:=inc_is (by omega)
 have i2:inc r.lep=r.lep+1:=inc_is (by omega)
 have e1:giveLs i k ls=ls.set k ⟨i,r.ctr+1,r.lep+1⟩:=by unfold giveLs;rw [hx];simp only;rw [i1,i2]
 have e2:giveP d i k ls P=P.set (i*16+k) { p with held:=true,h:=⟨k,r.lep+1,d,0⟩ }:=by unfold giveP;rw [hx,hp];simp only;rw [i2]
 rw [e1,e2]
 refine ⟨hL.set hlt hk _ _ rfl,hW.set k hk _ ⟨?_,?_⟩ (fun j _ hj=>⟨?_,rfl⟩),hH.add _ k hlt rfl hno,(Oth.refl i P).set k hk _⟩
 ·rw [firstOf_append,hno];simp
 ·rw [h2]
 ·rw [firstOf_append]
  cases firstOf hs j with
  | some z=>rfl
  | none=>exact if_neg (fun e=>hj (by have e':(k:Int)=j:=e;omega))
theorem takeDown_note (l:List Sh) (rs:List Rf) (hs:List Hd) (t L:Int):∀(n:Nat) (ns:List Nt) (b:Int) (k:Nat),noteOf (takeDown l rs hs t L n ns b).1 k=if k<n then some ⟨k,ctrR rs k,sinceV ns k (ctrR rs k) t⟩ else noteOf ns k:=by
 intro n
 induction n with
 | zero=>intro ns b k;simp [takeDown]
 | succ n ih =>
   intro ns b k
   rw [takeDown,ih]
   by_cases hk:k<n
   ·rw [if_pos hk,if_pos (by omega)]
    have:sinceV (sinceN ns n (ctrR rs n) t).1 k (ctrR rs k) t=sinceV ns k (ctrR rs k) t:=by
     unfold sinceV
     rw [sinceN_note,if_neg (by omega)]
    rw [this]
   ·rw [if_neg hk,sinceN_note]
    by_cases e:k=n
    ·subst e
     rw [if_pos rfl,if_pos (by omega)]
    ·rw [if_neg (by omega),if_neg (by omega)]
theorem takeDown_ok {rs:List Rf} (l:List Sh) (hs:List Hd) (t L B:Int) (ht:0≤t∧t≤B) (m:Nat):∀(n:Nat) (ns:List Nt) (b:Int),n≤m→NsOk ns m B→NsOk (takeDown l rs hs t L n ns b).1 m B:=by
 intro n
 induction n with
 | zero=>intro ns b _ h;exact h
 | succ n ih =>
   intro ns b hn h
   rw [takeDown]
   exact ih _ _ (by omega) (sinceN_ok h n (by omega) _ _ ht).1
def mayD (l:List Sh) (rs:List Rf) (hs:List Hd) (ns:List Nt) (t L:Int) (k:Nat):Bool:=mayB l rs hs t L k (sinceV ns k (ctrR rs k) t)
theorem takeDown_is (l:List Sh) (rs:List Rf) (hs:List Hd) (t L:Int):∀(n:Nat) (ns:List Nt) (b:Int),(∃k:Nat,k<n∧mayD l rs hs ns t L k=true∧(∀j,j<k→mayD l rs hs ns t L j=false)∧(takeDown l rs hs t L n ns b).2=k)∨((∀j,j<n→mayD l rs hs ns t L j=false)∧(takeDown l rs hs t L n ns b).2=b):=by
 intro n
 induction n with
 | zero=>intro ns b;exact Or.inr ⟨fun j hj=>by omega,rfl⟩
 | succ n ih =>
   intro ns b
   have same:∀k,k<n→mayD l rs hs (sinceN ns n (ctrR rs n) t).1 t L k=mayD l rs hs ns t L k:=fun k hk=>by
    unfold mayD sinceV
    rw [sinceN_note,if_neg (by omega)]
   have hv:mayB l rs hs t L n (sinceN ns n (ctrR rs n) t).2=mayD l rs hs ns t L n:=by unfold mayD;rw [sinceN_val]
   rw [takeDown]
   rcases ih (sinceN ns n (ctrR rs n) t).1 (if mayB l rs hs t L n (sinceN ns n (ctrR rs n) t).2=true then n else b) with ⟨k,hk,h1,h2,h3⟩ | ⟨h1,h2⟩
   ·exact Or.inl ⟨k,by omega,by rw [←same k hk];exact h1,fun j hj=>by rw [←same j (by omega)];exact h2 j hj,h3⟩
   ·rw [h2,hv]
    by_cases hm:mayD l rs hs ns t L n=true
    ·rw [if_pos hm]
     exact Or.inl ⟨n,by omega,hm,fun j hj=>by rw [←same j hj];exact h1 j hj,rfl⟩
    ·rw [if_neg hm]
     refine Or.inr ⟨fun j hj=>?_,rfl⟩
     by_cases e:j=n
     ·subst e;simpa using hm
     ·rw [←same j (by omega)];exact h1 j (by omega)
theorem notesP_at {ls:List Le} {rs:List Rf} (hL:LsRel ls rs) (t:Int) (i:Nat) (P:List Pl) (hP:∀k,k<16→∃p,P[i*16+k]?=some p):∀n,n≤16→Oth i P (notesP ls t i n P)∧∀k p,k<16→P[i*16+k]?=some p→(notesP ls t i n P)[i*16+k]?=some (if k<n then noted p (leOf rs k).c t else p):=by
 intro n
 induction n with
 | zero=>intro _;exact ⟨Oth.refl i P,fun k p _ hp=>by simpa [notesP] using hp⟩
 | succ n ih =>
   intro hn
   obtain ⟨a,b⟩:=ih (by omega)
   obtain ⟨p0,hp0⟩:=hP n (by omega)
   have hb:=b n p0 (by omega) hp0
   rw [if_neg (by omega)] at hb
   have e:notesP ls t i (n+1) P=(notesP ls t i n P).set (i*16+n) (noted p0 (leOf rs n).c t):=by
    rw [notesP,hL.2 n (by omega),hb]
   rw [e]
   refine ⟨a.set n (by omega) _,fun k p hk hp=>?_⟩
   by_cases ek:k=n
   ·subst ek
    rw [hp0] at hp
    injection hp with hp
    subst hp
    rw [List.getElem?_set_self (List.getElem?_eq_some_iff.1 hb).1,if_pos (by omega)]
   ·rw [List.getElem?_set_ne (by omega),b k p hk hp]
    by_cases hkn:k<n
    ·rw [if_pos hkn,if_pos (by omega)]
    ·rw [if_neg hkn,if_neg (by omega)]
theorem noted_is {p:Pl} {hs:List Hd} {ns:List Nt} {k:Nat} (h:PlRel p hs ns k) (c t:Int):(noted p c t).held=p.held∧(noted p c t).h=p.h∧(noted p c t).made=true∧(noted p c t).c=c∧(noted p c t).s=sinceV ns k c t:=by
 have h2:=h.2
 unfold noted sinceV
 rw [h2]
 cases hm:p.made
 ·rw [if_neg (by simp)]
  simp
 ·by_cases hc:p.c=c
  ·rw [if_pos ⟨rfl,hc⟩]
   simp [hm,hc]
  ·rw [if_neg (fun e=>hc e.2)]
   simp [hc]
theorem ctrR_is {rs:List Rf} {k:Nat} {r:Rf} (hr:rs[k]?=some r):ctrR rs k=r.ctr∧ownR rs k=r.own:=by
 unfold ctrR ownR
 rw [hr]
 exact ⟨rfl,rfl⟩
structure TkRel (C:Cfg) (now:Rest) (time:Int) (rs:List Rf) (wv:Wks) (B:Int) (l:List Sh) (Pt:List Pt) (P:List Pl) (i:Nat) (y:Wk) (r:Option Nat):Prop where
 none_:r=none→(takeDown l rs y.hs time C.l rs.length y.ns (-1)).2<0∧∀nv',Rel C (now.up (takeLs i now.ls r) (takeP (dnP now.dn) i now.ls (notesP now.ls now.t i l.length P) r)) time l Pt rs (wv.setN i y (takeDown l rs y.hs time C.l rs.length y.ns (-1)).1 nv') (B+1)
 some_:∀k,r=some k→(takeDown l rs y.hs time C.l rs.length y.ns (-1)).2=k∧∃x,rs[k]?=some x∧∀nv' hv',Rel C (now.up (takeLs i now.ls r) (takeP (dnP now.dn) i now.ls (notesP now.ls now.t i l.length P) r)) time l Pt (rs.set k { x with own:=i,ctr:=x.ctr+1,lep:=x.lep+1 }) ((wv.setN i y (takeDown l rs y.hs time C.l rs.length y.ns (-1)).1 nv').setH i { y with ns:=(takeDown l rs y.hs time C.l rs.length y.ns (-1)).1,nv:=nv' } (y.hs ++ [⟨k,x.lep+1,x.done,0⟩]) hv') (B+1)
set_option maxHeartbeats 1000000 in
theorem Rel.take {C:Cfg} {now:Rest} {time:Int} {l:List Sh} {Pt:List Pt} {rs:List Rf} {wv:Wks} {B:Int} (h:Rel C now time l Pt rs wv B) (hB:B≤1000000000000) (hl:absR rs Pt=l) (hI:Inv l) {g cap:Nat} {P:List Pl} (hw:now.wv=.slice (some ⟨g,0,none⟩) now.n cap) (hlen:P.length=now.n*16) (hW:∀(i:Nat) y,wv.l[i]?=some y→WOk P i y rs.length B) (hO:Od B now.n C.b l now.dn now.ls P) {i:Nat} {y:Wk} (hy:wv.l[i]?=some y) (r:Option Nat)
 (hr:TakeIs (mayP (stgUp l (dnP now.dn) l.length) now.ls (notesP now.ls now.t i l.length P) now.t C.l i) r):TkRel C now time rs wv B l Pt P i y r:=by
 have hn:l.length=rs.length:=by rw [←hl,absR_len]
 have h16:rs.length≤16:=by have:=hI.len;omega
 have hWi:=hW i y hy
 obtain ⟨st1,st2,st3⟩:=h.stage hl hI
 have ht:=h.t
 obtain ⟨o1,o2⟩:=notesP_at h.ls now.t i P (fun k hk=>by obtain ⟨p,hp,_⟩:=hWi.rel k hk;exact ⟨p,hp⟩) l.length (by omega)
 have note:=takeDown_note l rs y.hs time C.l rs.length y.ns (-1)
 have nsok:NsOk (takeDown l rs y.hs time C.l rs.length y.ns (-1)).1 rs.length B:=takeDown_ok l y.hs time C.l B h.t0 rs.length rs.length y.ns (-1) (Nat.le_refl _) hWi.ns
 have tis:=takeDown_is l rs y.hs time C.l rs.length y.ns (-1)
 have plc:∀k,k<rs.length→∃p x,P[i*16+k]?=some p∧PlRel p y.hs y.ns k∧rs[k]?=some x∧(notesP now.ls now.t i l.length P)[i*16+k]?=some (noted p x.ctr time):=fun k hk=>by
  obtain ⟨p,hp,hpr⟩:=hWi.rel k (by omega)
  refine ⟨p,rs[k],hp,hpr,List.getElem?_eq_getElem hk,?_⟩
  rw [o2 k p (by omega) hp,if_pos (by omega),ht]
  unfold leOf
  rw [List.getElem?_eq_getElem hk]
 have wk1:WkRel (notesP now.ls now.t i l.length P) i y.hs (takeDown l rs y.hs time C.l rs.length y.ns (-1)).1:=fun k hk=>by
  by_cases hk2:k<rs.length
  ·obtain ⟨p,x,hp,hpr,hx,hN⟩:=plc k hk2
   obtain ⟨n1,n2,n3,n4,n5⟩:=noted_is hpr x.ctr time
   refine ⟨_,hN,?_,?_⟩
   ·rw [n1,n2];exact hpr.1
   ·rw [note k,if_pos hk2,n3,n4,n5,(ctrR_is hx).1];rfl
  ·obtain ⟨p,hp,hpr⟩:=hWi.rel k hk
   refine ⟨p,?_,hpr.1,?_⟩
   ·rw [o2 k p hk hp,if_neg (by omega)]
   ·rw [note k,if_neg hk2];exact hpr.2
 have may:∀k,k<rs.length→mayP (stgUp l (dnP now.dn) l.length) now.ls (notesP now.ls now.t i l.length P) now.t C.l i k=mayD l rs y.hs y.ns time C.l k:=fun k hk=>by
  obtain ⟨p,x,hp,hpr,hx,hN⟩:=plc k hk
  obtain ⟨n1,n2,n3,n4,n5⟩:=noted_is hpr x.ctr time
  have hls:=h.ls.2 k (by omega)
  have hle:leOf rs k=⟨x.own,x.ctr,x.lep⟩:=by unfold leOf;rw [hx]
  rw [hle] at hls
  have hsb:0≤sinceV y.ns k x.ctr time∧sinceV y.ns k x.ctr time≤B:=by
   unfold sinceV
   cases hno:noteOf y.ns k with
   | none=>exact h.t0
   | some z =>
     simp only
     split
     ·exact hWi.ns.bd z (noteOf_some hno).1
     ·exact h.t0
  have ht0:=h.t0
  have hdif:dif now.t (sinceV y.ns k x.ctr time)=time - sinceV y.ns k x.ctr time:=by rw [ht];exact dif_is (by omega) (by omega)
  have hfree:freeP now.ls (notesP now.ls now.t i l.length P) now.t C.l i k=(decide (x.own=-1) || decide (sinceV y.ns k x.ctr time+C.l≤time)):=by
   unfold freeP
   rw [hls,hN]
   simp only
   rw [n3,n4,n5,hdif]
   congr 1
   simp only [Bool.true_and,decide_true]
   by_cases e:C.l≤time - sinceV y.ns k x.ctr time
   ·rw [decide_eq_true e,decide_eq_true (by omega)]
   ·rw [decide_eq_false e,decide_eq_false (by omega)]
  unfold mayP
  rw [hN]
  simp only
  rw [hfree,st2 k hk,n1]
  unfold mayD mayB
  rw [(ctrR_is hx).1,(ctrR_is hx).2]
  have hf:(firstOf y.hs k).isNone=!p.held:=by rw [hpr.1];cases p.held <;> rfl
  rw [hf]
  have hst:decide (some (stg l (dnR rs) k)=some 1)=(rdy l (dnR rs) k && !Go.Proofs.YtpnkmnmchdabkaaGreat.fin l (dnR rs) k):=by
   unfold stg
   cases rdy l (dnR rs) k <;> cases Go.Proofs.YtpnkmnmchdabkaaGreat.fin l (dnR rs) k <;> rfl
  rw [hst,Bool.and_assoc,Bool.and_assoc]
 have may2:∀k,rs.length≤k→k<16→mayP (stgUp l (dnP now.dn) l.length) now.ls (notesP now.ls now.t i l.length P) now.t C.l i k=false:=fun k hk hk2=>by
  unfold mayP
  split
  ·rw [st3 k hk hk2];simp
  ·rfl
 have hlenN:(notesP now.ls now.t i l.length P).length=now.n*16:=by rw [o1.1];exact hlen
 have hin:i<now.n:=by have:=(List.getElem?_eq_some_iff.1 hy).1;have:=h.nl;omega
 have hB0:0≤B:=by have:=h.t0;omega
 obtain ⟨on1,on2⟩:=hO.1.notes now.t i l.length (by omega)
 have otn:Tight B.toNat now.n now.ls (notesP now.ls now.t i l.length P):=fun k x hx e=>by
  have:=hO.2 k x hx e
  rw [←this]
  exact hc_same fun j hj=>on2 j k (by have:=(List.getElem?_eq_some_iff.1 hx).1;rw [hO.1.lsL] at this;exact this)
 have bd1:∀(k:Nat) x,rs[k]?=some x→(0≤x.ctr∧x.ctr≤B+1)∧(0≤x.lep∧x.lep≤B+1):=fun k x hx=>by have:=h.bd k x hx;omega
 refine ⟨fun e=>?_,fun k e=>?_⟩
 ·subst e
  have hno:∀k,k<rs.length→mayD l rs y.hs y.ns time C.l k=false:=fun k hk=>by rw [←may k hk];exact hr k (by omega)
  rcases tis with ⟨k,hk,h1,_⟩ | ⟨_,h2⟩
  ·rw [hno k hk] at h1;cases h1
  ·refine ⟨by rw [h2];omega,fun nv'=>?_⟩
   refine h.up (P':=notesP now.ls now.t i l.length P) hw hlenN h.ls (fun _=>⟨rfl,rfl⟩) bd1 (by unfold Wks.setN;simp) (by omega) (fun j z hz=>?_) (Od.next hB0 on1) rfl
   unfold Wks.setN at hz
   rcases wk_set hz with ⟨rfl,rfl⟩ | ⟨hj,hz⟩
   ·exact ⟨wk1,hWi.hs,nsok.mono (Nat.le_refl _) (by omega)⟩
   ·have:=hW j z hz
    exact ⟨o1.wk hj this.rel,this.hs,this.ns.mono (Nat.le_refl _) (by omega)⟩
 ·subst e
  obtain ⟨hk16,hmay,hleast⟩:=hr
  obtain ⟨pm,hpm,hhm,hstm⟩:=may_is hmay
  obtain ⟨om1,om2,_⟩:=hO.1.one hI k hk16 hstm
  obtain ⟨og1,og2,_⟩:=on1.give otn h.n4 (by omega) (by have:=h.conf;omega) i k hin om1 hk16 pm hpm hhm om2
  have hk:k<rs.length:=by
   by_cases hk:k<rs.length
   ·exact hk
   ·rw [may2 k (by omega) hk16] at hmay;cases hmay
  rw [may k hk] at hmay
  have h2:(takeDown l rs y.hs time C.l rs.length y.ns (-1)).2=k:=by
   rcases tis with ⟨j,hj,h1,h3,h4⟩ | ⟨h1,_⟩
   ·have:j=k:=by
     by_cases e1:j<k
     ·have:=hleast j e1;rw [may j hj,h1] at this;cases this
     ·by_cases e2:k<j
      ·have:=h3 k e2;rw [hmay] at this;cases this
      ·omega
    rw [h4,this]
   ·rw [h1 k hk] at hmay;cases hmay
  obtain ⟨p,x,hp,hpr,hx,hN⟩:=plc k hk
  have hno:firstOf y.hs k=none:=by
   unfold mayD mayB at hmay
   simp only [Bool.and_eq_true] at hmay
   have:=hmay.2.2.1
   simpa using this
  obtain ⟨g1,g2,g3,g4⟩:=give_rel (i:=i) (d:=dnP now.dn k) hB hk16 h.ls wk1 hWi.hs hx (h.bd k x hx) hno
  have hd0:x.done=dnP now.dn k:=by rw [(h.dn k).1];unfold dnR;rw [hx];rfl
  have e3:(⟨k,x.lep+1,x.done,0⟩:Hd)=⟨k,x.lep+1,dnP now.dn k,0⟩:=by rw [hd0]
  refine ⟨h2,x,hx,fun nv' hv'=>?_⟩
  rw [e3]
  refine h.up (P':=giveP (dnP now.dn k) i k now.ls (notesP now.ls now.t i l.length P)) hw (by rw [g4.1];exact hlenN) g1 (marks_lease hx _ _ _) (fun j z hz=>?_) (by unfold Wks.setN Wks.setH;simp) (by omega) (fun j z hz=>?_) (by unfold Od;rw [show (B+1).toNat=B.toNat+1 by omega];exact ⟨og1,og2⟩) rfl
  ·by_cases e:j=k
   ·subst e
    rw [List.getElem?_set_self hk] at hz
    injection hz with hz
    subst hz
    have:=h.bd j x hx
    simp only
    omega
   ·rw [List.getElem?_set_ne (fun q=>e q.symm)] at hz
    exact bd1 j z hz
  ·rw [List.length_set]
   unfold Wks.setN Wks.setH at hz
   simp only [List.set_set] at hz
   rcases wk_set hz with ⟨rfl,rfl⟩ | ⟨hj,hz⟩
   ·exact ⟨g2,g3,nsok.mono (Nat.le_refl _) (by omega)⟩
   ·have:=hW j z hz
    exact ⟨g4.wk hj (o1.wk hj this.rel),this.hs,this.ns.mono (Nat.le_refl _) (by omega)⟩
theorem Rel.steal {C:Cfg} {now:Rest} {time:Int} {l:List Sh} {Pt:List Pt} {rs:List Rf} {wv:Wks} {B:Int} (h:Rel C now time l Pt rs wv B) (hB:B≤1000000000000) (hl:absR rs Pt=l) (hI:Inv l) {g cap:Nat} {P:List Pl} (hw:now.wv=.slice (some ⟨g,0,none⟩) now.n cap) (hlen:P.length=now.n*16) (hW:∀(i:Nat) y,wv.l[i]?=some y→WOk P i y rs.length B) (hO:Od B now.n C.b l now.dn now.ls P) {i:Nat} {y:Wk} (hy:wv.l[i]?=some y) {k:Nat} {x:Rf} (hx:rs[k]?=some x) {p:Pl} (hp:P[i*16+k]?=some p) {v:Int} (hv:(stgUp l (dnP now.dn) l.length)[k]?=some v) :
 (p.held=(firstOf y.hs k).isSome)∧((v=1) ↔ (rdy l (dnR rs) k && !Go.Proofs.YtpnkmnmchdabkaaGreat.fin l (dnR rs) k)=true) ∧
 (p.held=false→rdy l (dnR rs) k=true→∀hv',Rel C (now.up (giveLs i k now.ls) (giveP (dnP now.dn k) i k now.ls P)) time l Pt (rs.set k { x with own:=i,ctr:=x.ctr+1,lep:=x.lep+1 }) (wv.setH i y (y.hs ++ [⟨k,x.lep+1,x.done,0⟩]) hv') (B+1)):=by
 have hn:l.length=rs.length:=by rw [←hl,absR_len]
 have h16:rs.length≤16:=by have:=hI.len;omega
 have hk:=(List.getElem?_eq_some_iff.1 hx).1
 have hWi:=hW i y hy
 obtain ⟨p',hp',hpr⟩:=hWi.rel k (by omega)
 rw [hp] at hp'
 injection hp' with hp'
 subst hp'
 obtain ⟨st1,st2,st3⟩:=h.stage hl hI
 rw [st2 k hk] at hv
 injection hv with hv
 refine ⟨by rw [hpr.1];cases p.held <;> rfl,?_,fun hh hrd hv'=>?_⟩
 ·rw [←hv]
  unfold stg
  cases rdy l (dnR rs) k <;> cases Go.Proofs.YtpnkmnmchdabkaaGreat.fin l (dnR rs) k <;> simp
 ·have hno:firstOf y.hs k=none:=by rw [hpr.1,hh];rfl
  obtain ⟨g1,g2,g3,g4⟩:=give_rel (i:=i) (d:=dnP now.dn k) hB (show k<16 by omega) h.ls hWi.rel hWi.hs hx (h.bd k x hx) hno
  have hd0:x.done=dnP now.dn k:=by rw [(h.dn k).1];unfold dnR;rw [hx];rfl
  have hin:i<now.n:=by have:=(List.getElem?_eq_some_iff.1 hy).1;have:=h.nl;omega
  have hB0:0≤B:=by have:=h.t0;omega
  obtain ⟨og1,og2,_⟩:=hO.1.give hO.2 h.n4 (by omega) (by have:=h.conf;omega) i k hin (by omega) (by omega) p hp hh (by rw [st1];exact hrd)
  have e3:(⟨k,x.lep+1,x.done,0⟩:Hd)=⟨k,x.lep+1,dnP now.dn k,0⟩:=by rw [hd0]
  rw [e3]
  refine h.up hw (by rw [g4.1];exact hlen) g1 (marks_lease hx _ _ _) (fun j z hz=>?_) (by unfold Wks.setH;simp) (by omega) (fun j z hz=>?_) (by unfold Od;rw [show (B+1).toNat=B.toNat+1 by omega];exact ⟨og1,og2⟩) rfl
  ·by_cases e:j=k
   ·subst e
    rw [List.getElem?_set_self hk] at hz
    injection hz with hz
    subst hz
    have:=h.bd j x hx
    simp only
    omega
   ·rw [List.getElem?_set_ne (fun q=>e q.symm)] at hz
    have:=h.bd j z hz
    omega
  ·rw [List.length_set]
   unfold Wks.setH at hz
   rcases wk_set hz with ⟨rfl,rfl⟩ | ⟨hj,hz⟩
   ·exact ⟨g2,g3,hWi.ns.mono (Nat.le_refl _) (by omega)⟩
   ·have:=hW j z hz
    exact ⟨g4.wk hj this.rel,this.hs,this.ns.mono (Nat.le_refl _) (by omega)⟩
end Go.Proofs.YtpnkmnmchdabkaaGreat
namespace Go.Proofs.YtpnkmnmchdabkaaGreat
theorem adv_put {l:List Sh} {k:Nat} {x:Sh} (hx:l[k]?=some x) (ho:x.op=true) (r:Rc):Adv l (putL l k x r):=by
 unfold putL
 split
 ·exact Adv.refl l
 ·intro j s hs
  by_cases e:k=j
  ·subst e
   rw [hx] at hs
   cases hs
   exact ⟨_,List.getElem?_set_self (List.getElem?_eq_some_iff.1 hx).1,rfl,List.prefix_append _ _,fun e=>by rw [ho] at e;cases e⟩
  ·exact ⟨s,by rw [List.getElem?_set_ne e];exact hs,rfl,List.prefix_rfl,fun e=>⟨e,rfl⟩⟩
theorem at_set {l:List Sh} {k j:Nat} {s t:Sh} (hs:l[k]?=some s) (ht:(l.set k { s with op:=false })[j]?=some t):∃t',l[j]?=some t'∧t.cnt=t'.cnt:=by
 rw [List.getElem?_set] at ht
 split at ht
 ·rename_i e;subst e
  split at ht
  ·cases ht;exact ⟨s,hs,rfl⟩
  ·cases ht
 ·exact ⟨t,ht,rfl⟩
theorem adv_more (c m:List Sh):Adv c (c ++ m):=fun k s hs=>⟨s,by rw [List.getElem?_append_left (List.getElem?_eq_some_iff.1 hs).1];exact hs,rfl,List.prefix_rfl,fun e=>⟨e,rfl⟩⟩
theorem adv_close {l:List Sh} {k:Nat} {s:Sh} (hs:l[k]?=some s):Adv l (l.set k { s with op:=false }):=by
 intro j t ht
 by_cases e:k=j
 ·subst e
  rw [hs] at ht
  cases ht
  exact ⟨_,List.getElem?_set_self (List.getElem?_eq_some_iff.1 hs).1,rfl,List.prefix_rfl,fun _=>⟨rfl,rfl⟩⟩
 ·exact ⟨t,by rw [List.getElem?_set_ne e];exact ht,rfl,List.prefix_rfl,fun e=>⟨e,rfl⟩⟩
theorem moved_split {l:List Sh} (hI:Inv l) {k:Nat} {s:Sh} (hs:l[k]?=some s) (ho:s.op=true) (a:Int) (h1:s.lo<a) (h2:a<s.hi):Moved l (l.set k { s with op:=false } ++ [(⟨s.lo,a,true,[(k:Int)],[]⟩:Sh),⟨a,s.hi,true,[(k:Int)],[]⟩]):=by
 intro h q t h0 h9 hq
 obtain ⟨q',s',hq'⟩:=hI.part h h0 h9
 obtain ⟨g1,g2,_⟩:=hq
 refine ⟨q',s',hq',?_⟩
 rw [acc_iff] at g2
 by_cases hlt:q<l.length
 ·rw [List.getElem?_append_left (by simpa using hlt)] at g1
  by_cases e:k=q
  ·subst e
   rw [List.getElem?_set_self hlt] at g1
   injection g1 with g1
   subst g1
   simp at g2
  ·rw [List.getElem?_set_ne e] at g1
   exact Or.inl (hq'.2.2 q t g1 ((acc_iff _ _).2 g2)).symm
 ·rw [List.getElem?_append_right (by simp;omega)] at g1
  have hk:∀x:Int,s.lo≤x→x<s.hi→h=x→k=q':=fun x a1 a2 e=>hq'.2.2 k s hs ((acc_iff _ _).2 ⟨ho,by omega,by omega⟩)
  generalize q - (l.set k { s with op:=false }).length=i at g1
  match i,g1 with
  | 0,g1 =>
    simp at g1;subst g1
    simp at g2
    rw [hk h (by omega) (by omega) rfl]
    simp
  | 1,g1 =>
    simp at g1;subst g1
    simp at g2
    rw [hk h (by omega) (by omega) rfl]
    simp
  | i+2,g1=>simp at g1
theorem moved_merge {l:List Sh} (hI:Inv l) {k j:Nat} {s u:Sh} (hs:l[k]?=some s) (hu:l[j]?=some u) (ho:s.op=true) (hp:u.op=true) (he:u.lo=s.hi):Moved l ((l.set k { s with op:=false }).set j { u with op:=false } ++ [(⟨s.lo,u.hi,true,[(k:Int),(j:Int)],[]⟩:Sh)]):=by
 intro h q t h0 h9 hq
 obtain ⟨q',s',hq'⟩:=hI.part h h0 h9
 obtain ⟨g1,g2,_⟩:=hq
 refine ⟨q',s',hq',?_⟩
 rw [acc_iff] at g2
 by_cases hlt:q<l.length
 ·rw [List.getElem?_append_left (by simpa using hlt)] at g1
  by_cases e:j=q
  ·subst e
   rw [List.getElem?_set_self (by simpa using hlt)] at g1
   injection g1 with g1
   subst g1
   simp at g2
  ·rw [List.getElem?_set_ne e] at g1
   by_cases e:k=q
   ·subst e
    rw [List.getElem?_set_self hlt] at g1
    injection g1 with g1
    subst g1
    simp at g2
   ·rw [List.getElem?_set_ne e] at g1
    exact Or.inl (hq'.2.2 q t g1 ((acc_iff _ _).2 g2)).symm
 ·rw [List.getElem?_append_right (by simp;omega)] at g1
  generalize q - ((l.set k { s with op:=false }).set j { u with op:=false }).length=i at g1
  match i,g1 with
  | 0,g1 =>
    simp at g1;subst g1
    simp at g2
    by_cases hh:h<s.hi
    ·have:k=q':=hq'.2.2 k s hs ((acc_iff _ _).2 ⟨ho,by omega,by omega⟩)
     subst this
     simp
    ·have:j=q':=hq'.2.2 j u hu ((acc_iff _ _).2 ⟨hp,by omega,by omega⟩)
     subst this
     simp
  | i+1,g1=>simp at g1
end Go.Proofs.YtpnkmnmchdabkaaGreat
namespace Go.Proofs.YtpnkmnmchdabkaaGreat
open Go.RowKit
theorem dR_le {C:Cfg} {now:Rest} {time:Int} {l:List Sh} {Q:List Pt} {rs:List Rf} {wv:Wks} {B:Int} (h:Rel C now time l Q rs wv B) (k:Nat):0≤dnR rs k∧dnR rs k=(dR rs k:Int)∧dR rs k≤cn l k:=by
 obtain ⟨_,_,P,_,_,_,_,o⟩:=h.mem
 have e:=(h.dn k).1
 by_cases hk:k<16
 ·have:=o.1.mr k hk
  unfold dR
  omega
 ·have:dnP now.dn k=0:=by
   unfold dnP
   rw [List.getElem?_eq_none (by rw [o.1.dnL];omega)]
   rfl
  unfold dR
  omega
theorem Rel.mkOk {C:Cfg} {now:Rest} {time:Int} {l:List Sh} {Q:List Pt} {rs:List Rf} {wv:Wks} {B:Int} (h:Rel C now time l Q rs wv B) (hI:Inv l):MkOk l (dR rs):=by
 have e:(fun k=>(dR rs k:Int))=dnP now.dn:=by
  funext k
  rw [←(dR_le h k).2.1,(h.dn k).1]
 refine ⟨fun k s hs=>?_,fun k hk h0=>?_⟩
 ·have:=(dR_le h k).2.2
  rw [cn_is hs] at this
  exact this
 ·obtain ⟨_,_,P,_,_,_,_,o⟩:=h.mem
  rw [e]
  refine (o.1.mr k (by have:=hI.len;omega)).2.2.2.2 ?_
  rw [(h.dn k).1,(dR_le h k).2.1]
  omega
theorem Rel.put {C:Cfg} {now:Rest} {time:Int} {l:List Sh} {Q:List Pt} {rs:List Rf} {wv:Wks} {B:Int} (h:Rel C now time l Q rs wv B) (hI:Inv l) {key:ByteArray} {v t:Int} {k:Nat} {x:Sh} (hx:Home l (hashL key.data.toList) k x) (hc:¬32≤x.cnt) (hs:key.size≤maxLen) (hr:makeR key v t=0):Rel C now time (putL l k x ⟨key.data.toList,v,t⟩) (Q ++ [⟨k,key,v,t⟩]) rs wv B:=by
 have ho:x.op=true:=by have:=hx.2.1;rw [acc_iff] at this;exact this.1
 refine h.more (More.refl rs) hI (inv_put hI hx.1 _) (adv_put hx.1 ho _) (fun E F e1 e2 e3=>?_)
 have hh:held E k=x.cnt:=by
  have:=congrArg List.length (e1.rl k x hx.1)
  rw [List.length_map] at this
  exact this
 have hk:keyB key=true∧-1000000≤v∧v≤1000000∧0≤t∧t≤1000000:=by
  unfold makeR at hr
  split at hr
  ·cases hr
  ·split at hr
   ·cases hr
   ·split at hr
    ·cases hr
    ·rename_i a b c
     exact ⟨by simpa using a,by omega,by omega,by omega,by omega⟩
 have ha:=adv_put hx.1 ho ⟨key.data.toList,v,t⟩
 unfold putL at ha ⊢
 rw [if_neg hc] at ha ⊢
 refine ⟨E ++ [⟨k,x.cnt,key,v,t⟩],e1.put hx ha hh hs hk,by rw [List.map_append,e2];rfl,e3.put _ ?_⟩
 have:=(dR_le h k).2.2
 rw [cn_is hx.1] at this
 exact this
theorem Rel.split {C:Cfg} {now:Rest} {time:Int} {l:List Sh} {Q:List Pt} {rs rs':List Rf} {wv:Wks} {B:Int} (h:Rel C now time l Q rs wv B) (hI:Inv l) (n a:Int) (hm:More rs rs'):Rel C now time (aSplit l n a).1 Q rs' wv B:=by
 have hI':=inv_split hI n a
 have same:(aSplit l n a).1=l→Rel C now time (aSplit l n a).1 Q rs' wv B:=fun e=>by
  rw [e]
  exact h.more hm hI hI (Adv.refl l) (fun E F e1 e2 e3=>⟨E,e1,e2,e3⟩)
 by_cases hn:0≤n∧n<l.length
 ·obtain ⟨k,rfl⟩:∃k:Nat,n=(k:Int):=⟨n.toNat,by omega⟩
  have hs:l[k]?=some l[k]:=List.getElem?_eq_getElem (by omega)
  generalize l[k]'(by omega)=s at hs
  unfold aSplit at hI' same ⊢
  rw [if_pos hn,show ((k:Int)).toNat=k by omega,hs] at hI' same ⊢
  simp only at hI' same ⊢
  by_cases ho:s.op=false
  ·rw [if_pos ho] at same ⊢;exact same rfl
  rw [if_neg ho] at hI' same ⊢
  by_cases hr:a≤s.lo∨s.hi≤a
  ·rw [if_pos hr] at same ⊢;exact same rfl
  rw [if_neg hr] at hI' same ⊢
  by_cases hl:14<l.length
  ·rw [if_pos hl] at same ⊢;exact same rfl
  rw [if_neg hl] at hI' same ⊢
  have ho2:s.op=true:=by simpa using ho
  have ha:=(adv_close hs).trans (adv_more _ [(⟨s.lo,a,true,[(k:Int)],[]⟩:Sh),⟨a,s.hi,true,[(k:Int)],[]⟩])
  refine h.more hm hI hI' ha (fun E F e1 e2 e3=>⟨E,e1.more _ _ (by simp) (fun j t ht=>at_set hs ht) (fun j t ht=>?_) (adv_close hs) (adv_more _ _) (moved_split hI hs ho2 a (by omega) (by omega)),e2,e3⟩)
  match j,ht with
  | 0,ht=>simp at ht;subst ht;rfl
  | 1,ht=>simp at ht;subst ht;rfl
  | j+2,ht=>simp at ht
 ·refine same ?_
  unfold aSplit
  rw [if_neg hn]
theorem Rel.merge {C:Cfg} {now:Rest} {time:Int} {l:List Sh} {Q:List Pt} {rs rs':List Rf} {wv:Wks} {B:Int} (h:Rel C now time l Q rs wv B) (hI:Inv l) (n m:Int) (hm:More rs rs'):Rel C now time (aMerge l n m).1 Q rs' wv B:=by
 have hI':=inv_merge hI n m
 have same:(aMerge l n m).1=l→Rel C now time (aMerge l n m).1 Q rs' wv B:=fun e=>by
  rw [e]
  exact h.more hm hI hI (Adv.refl l) (fun E F e1 e2 e3=>⟨E,e1,e2,e3⟩)
 by_cases hn:(0≤n∧n<l.length)∧(0≤m∧m<l.length)
 ·obtain ⟨k,rfl⟩:∃k:Nat,n=(k:Int):=⟨n.toNat,by omega⟩
  obtain ⟨j,rfl⟩:∃j:Nat,m=(j:Int):=⟨m.toNat,by omega⟩
  have hs:l[k]?=some l[k]:=List.getElem?_eq_getElem (by omega)
  generalize l[k]'(by omega)=s at hs
  have hu:l[j]?=some l[j]:=List.getElem?_eq_getElem (by omega)
  generalize l[j]'(by omega)=u at hu
  unfold aMerge at hI' same ⊢
  rw [if_pos hn,show ((k:Int)).toNat=k by omega,show ((j:Int)).toNat=j by omega,hs,hu] at hI' same ⊢
  simp only at hI' same ⊢
  by_cases ho:s.op=false∨u.op=false
  ·rw [if_pos ho] at same ⊢;exact same rfl
  rw [if_neg ho] at hI' same ⊢
  by_cases hr:s.hi≠u.lo
  ·rw [if_pos hr] at same ⊢;exact same rfl
  rw [if_neg hr] at hI' same ⊢
  by_cases hl:15<l.length
  ·rw [if_pos hl] at same ⊢;exact same rfl
  rw [if_neg hl] at hI' same ⊢
  have hso:s.op=true:=by cases hq:s.op <;> simp [hq] at ho ⊢
  have huo:u.op=true:=by cases hq:u.op <;> simp [hq] at ho ⊢
  have he:u.lo=s.hi:=by omega
  have hkj:k≠j:=by
   intro e
   subst e
   rw [hs] at hu
   injection hu with hu
   subst hu
   have:=(hI.rng k s hs)
   omega
  have hu2:(l.set k { s with op:=false })[j]?=some u:=by rw [List.getElem?_set_ne hkj];exact hu
  have ha1:=(adv_close hs).trans (adv_close hu2)
  have ha:=ha1.trans (adv_more _ [(⟨s.lo,u.hi,true,[(k:Int),(j:Int)],[]⟩:Sh)])
  refine h.more hm hI hI' ha (fun E F e1 e2 e3=>⟨E,e1.more _ _ (by simp) (fun q t ht=>?_) (fun q t ht=>?_) ha1 (adv_more _ _) (moved_merge hI hs hu hso huo he),e2,e3⟩)
  ·obtain ⟨t1,h1,h2⟩:=at_set hu2 ht
   obtain ⟨t2,h3,h4⟩:=at_set hs h1
   exact ⟨t2,h3,h2.trans h4⟩
  ·match q,ht with
   | 0,ht=>simp at ht;subst ht;rfl
   | q+1,ht=>simp at ht
 ·refine same ?_
  unfold aMerge
  rw [if_neg hn]
end Go.Proofs.YtpnkmnmchdabkaaGreat
