import Derived.Test.YtpnkmnmchdabkaaGreatM00
import Derived.Test.YtpnkmnmchdabkaaGreatM24
import Derived.Test.YtpnkmnmchdabkaaGreatM21
import Derived.Test.YtpnkmnmchdabkaaGreatRefMerge
import Derived.Test.YtpnkmnmchdabkaaGreatM23
namespace Go.Proofs.YtpnkmnmchdabkaaGreat
def ins (x:Int):List Int→List Int
 | []=>[x]
 | y :: r=>if x<y then x :: y :: r else if x=y then y :: r else y :: ins x r
def Ris (L:List Int):Prop:=L.Pairwise (·<·)
theorem mem_ins {x y:Int} {L:List Int}:y ∈ ins x L ↔ y=x∨y ∈ L:=by
 induction L with
 | nil=>simp [ins]
 | cons z r ih =>
   unfold ins
   split
   ·simp
   ·split
    ·rename_i h;subst h;simp
    ·rw [List.mem_cons,ih,List.mem_cons]
     constructor
     ·rintro (h | h | h)
      ·exact Or.inr (Or.inl h)
      ·exact Or.inl h
      ·exact Or.inr (Or.inr h)
     ·rintro (h | h | h)
      ·exact Or.inr (Or.inl h)
      ·exact Or.inl h
      ·exact Or.inr (Or.inr h)
theorem Ris.ins {x:Int} {L:List Int} (h:Ris L):Ris (ins x L):=by
 unfold Ris at h ⊢
 induction L with
 | nil=>simp [Go.Proofs.YtpnkmnmchdabkaaGreat.ins]
 | cons z r ih =>
   rw [List.pairwise_cons] at h
   unfold Go.Proofs.YtpnkmnmchdabkaaGreat.ins
   split
   ·rename_i hx
    rw [List.pairwise_cons,List.pairwise_cons]
    refine ⟨fun a ha=>?_,h.1,h.2⟩
    rcases List.mem_cons.1 ha with rfl | ha
    ·exact hx
    ·have:=h.1 a ha;omega
   ·split
    ·rw [List.pairwise_cons];exact h
    ·rw [List.pairwise_cons]
     refine ⟨fun a ha=>?_,ih h.2⟩
     rcases mem_ins.1 ha with rfl | ha
     ·omega
     ·exact h.1 a ha
theorem ins_at {x:Int}:∀(L:List Int) (p:Nat),p≤L.length→(∀(j:Nat) (y:Int),p≤j→L[j]?=some y→x<y)→(∀(j:Nat) (y:Int),j<p→L[j]?=some y→y<x)→ins x L=L.take p ++ x :: L.drop p
 | [],p,_,_,_=>by simp [ins]
 | y :: r,0,_,h1,_=>by
   have:=h1 0 y (Nat.le_refl _) rfl
   simp [ins,this]
 | y :: r,p+1,hp,h1,h2=>by
   have h:=h2 0 y (by omega) rfl
   have ih:=ins_at r p (by simpa using hp) (fun j z hj hz=>h1 (j+1) z (by omega) (by simpa using hz)) (fun j z hj hz=>h2 (j+1) z (by omega) (by simpa using hz))
   unfold ins
   rw [if_neg (by omega),if_neg (by omega),ih]
   simp
theorem ins_same {x:Int}:∀(L:List Int),Ris L→x ∈ L→ins x L=L
 | [],_,h=>by simp at h
 | y :: r,hr,h=>by
   unfold Ris at hr
   rw [List.pairwise_cons] at hr
   unfold ins
   rcases List.mem_cons.1 h with rfl | h
   ·simp
   ·have:=hr.1 x h
    rw [if_neg (by omega),if_neg (by omega),ins_same r hr.2 h]
theorem ins_snoc {x y:Int}:∀(L:List Int),Ris (L ++ [y])→(∃z ∈ L,x≤z)→ins x (L ++ [y])=ins x L ++ [y]
 | [],_,⟨z,h,_⟩=>by simp at h
 | a :: r,hr,⟨z,hz,hxz⟩=>by
   unfold Ris at hr
   rw [List.cons_append,List.pairwise_cons] at hr
   rw [List.cons_append]
   unfold ins
   split
   ·rfl
   ·split
    ·rfl
    ·rw [List.cons_append]
     congr 1
     refine ins_snoc r hr.2 ⟨z,?_,hxz⟩
     rcases List.mem_cons.1 hz with rfl | hz
     ·omega
     ·exact hz
theorem ins_last {x:Int}:∀(L:List Int),(∀z ∈ L,z<x)→ins x L=L ++ [x]
 | [],_=>rfl
 | a :: r,h=>by
   have h0:=h a (by simp)
   unfold ins
   rw [if_neg (by omega),if_neg (by omega),ins_last r (fun z hz=>h z (by simp [hz])),List.cons_append]
theorem ris_at {L:List Int} (h:Ris L) {i j:Nat} {a b:Int} (hij:i<j) (hi:L[i]?=some a) (hj:L[j]?=some b):a<b:=by
 obtain ⟨h1,rfl⟩:=List.getElem?_eq_some_iff.1 hi
 obtain ⟨h2,rfl⟩:=List.getElem?_eq_some_iff.1 hj
 exact List.pairwise_iff_getElem.1 h i j h1 h2 hij
def Sts (L:List Int):Prop:=Ris L∧∀y ∈ L,0≤y∧y≤1000000
theorem sts_get {L:List Int} (h:Ris L) (h0:∀y ∈ L,0≤y):∀(i:Nat) (a:Int),L[i]?=some a→(i:Int)≤a
 | 0,a,hi=>h0 a (List.mem_of_getElem? hi)
 | i+1,a,hi=>by
   have hl:=(List.getElem?_eq_some_iff.1 hi).1
   have hp:L[i]?=some L[i]:=List.getElem?_eq_getElem (by omega)
   have:=sts_get h h0 i _ hp
   have:=ris_at h (Nat.lt_succ_self i) hp hi
   omega
theorem Sts.len {L:List Int} (h:Sts L):L.length≤1000001:=by
 by_cases h0:L.length=0
 ·omega
 ·have hp:L[L.length - 1]?=some L[L.length - 1]:=List.getElem?_eq_getElem (by omega)
  have:=sts_get h.1 (fun y hy=>(h.2 y hy).1) _ _ hp
  have:=(h.2 _ (List.mem_of_getElem? hp)).2
  omega
theorem Sts.ins {x:Int} {L:List Int} (h:Sts L) (hx:0≤x∧x≤1000000):Sts (ins x L) :=
 ⟨h.1.ins,fun y hy=>by
  rcases mem_ins.1 hy with rfl | hy
  ·exact hx
  ·exact h.2 y hy⟩
theorem sts_nil:Sts []:=⟨List.Pairwise.nil,by simp⟩
def hldW (wd s t:Int):Bool:=decide (0≤s∧s≤t∧t - s<wd)
def addO (wd sl t:Int):Nat→Int→List Int→List Int
 | 0,_,L=>L
 | f+1,s,L=>if hldW wd s t=true then addO wd sl t f (s - sl) (ins s L) else L
def addT (wd sl t:Int) (L:List Int):List Int:=addO wd sl t (t.toNat+1) (t - t % sl) L
def stsOf (wd sl:Int) (ts:List Int):List Int:=ts.foldl (fun L t=>addT wd sl t L) []
theorem addO_end {wd sl t:Int} {f:Nat} {s:Int} {L:List Int} (h:hldW wd s t=false):addO wd sl t f s L=L:=by
 cases f with
 | zero=>rfl
 | succ f=>unfold addO;rw [h];simp
theorem Sts.addO {wd sl t:Int} (ht:t≤1000000):∀(f:Nat) (s:Int) (L:List Int),Sts L→Sts (addO wd sl t f s L)
 | 0,_,_,h=>h
 | f+1,s,L,h=>by
   unfold Go.Proofs.YtpnkmnmchdabkaaGreat.addO
   split
   ·rename_i hh
    unfold hldW at hh
    simp only [decide_eq_true_eq] at hh
    exact Sts.addO ht f _ _ (h.ins ⟨hh.1,by omega⟩)
   ·exact h
theorem Sts.addT {wd sl t:Int} (ht:t≤1000000) {L:List Int} (h:Sts L):Sts (addT wd sl t L):=Sts.addO ht _ _ _ h
theorem stsOf_take {wd sl:Int} {ts:List Int} {j:Nat} {t:Int} (h:ts[j]?=some t):stsOf wd sl (ts.take (j+1))=addT wd sl t (stsOf wd sl (ts.take j)):=by
 obtain ⟨h1,rfl⟩:=List.getElem?_eq_some_iff.1 h
 unfold stsOf
 rw [List.take_succ_eq_append_getElem h1,List.foldl_append]
 rfl
theorem sts_of {wd sl:Int} {ts:List Int} (h:∀t ∈ ts,t≤1000000):∀j,j≤ts.length→Sts (stsOf wd sl (ts.take j))
 | 0,_=>by simpa [stsOf] using sts_nil
 | j+1,hj=>by
   have hp:ts[j]?=some ts[j]:=List.getElem?_eq_getElem (by omega)
   rw [stsOf_take hp]
   exact Sts.addT (h _ (List.mem_of_getElem? hp)) (sts_of h j (by omega))
def sft (L:List Int) (x:Int) (i:Nat):List Int:=(L ++ [x]).take (i+1) ++ L.drop i
theorem sft_len {L:List Int} {x:Int} {i:Nat} (h:i≤L.length):(sft L x i).length=L.length+1:=by
 unfold sft
 rw [List.length_append,List.length_take,List.length_append,List.length_drop]
 simp
 omega
theorem sft_top (L:List Int) (x:Int):sft L x L.length=L ++ [x]:=by
 unfold sft
 rw [List.take_of_length_le (by simp)]
 simp
theorem sft_get {L:List Int} {x:Int} {i j:Nat} {y:Int} (hj:j≤i) (h:L[j]?=some y):(sft L x i)[j]?=some y:=by
 have hl:=(List.getElem?_eq_some_iff.1 h).1
 unfold sft
 rw [List.getElem?_append_left (by rw [List.length_take,List.length_append];simp;omega),List.getElem?_take,if_pos (by omega),List.getElem?_append_left hl,h]
theorem sft_set {L:List Int} {x:Int} {i:Nat} {y:Int} (h:L[i]?=some y):(sft L x (i+1)).set (i+1) y=sft L x i:=by
 have hl:=(List.getElem?_eq_some_iff.1 h).1
 have he:=(List.getElem?_eq_some_iff.1 h).2
 refine List.ext_getElem? fun j=>?_
 rw [List.getElem?_set]
 unfold sft
 split
 ·rename_i e;subst e
  rw [if_pos (by rw [List.length_append,List.length_take,List.length_append,List.length_drop];simp;omega)]
  rw [List.getElem?_append_right (by rw [List.length_take,List.length_append];simp;omega),List.length_take,List.length_append,List.getElem?_drop]
  rw [show i+(i+1 - min (i+1) (L.length+[x].length))=i by simp;omega,h]
 ·by_cases hj:j≤i
  ·rw [List.getElem?_append_left (by rw [List.length_take,List.length_append];simp;omega),List.getElem?_append_left (by rw [List.length_take,List.length_append];simp;omega),List.getElem?_take,List.getElem?_take,if_pos (by omega),if_pos (by omega)]
  ·rw [List.getElem?_append_right (by rw [List.length_take,List.length_append];simp;omega),List.getElem?_append_right (by rw [List.length_take,List.length_append];simp;omega),List.length_take,List.length_take,List.length_append,List.getElem?_drop,List.getElem?_drop]
   congr 1
   simp
   omega
theorem sft_end {L:List Int} {x:Int} {p:Nat} (h:p≤L.length):(sft L x p).set p x=L.take p ++ x :: L.drop p:=by
 refine List.ext_getElem? fun j=>?_
 rw [List.getElem?_set]
 split
 ·rename_i e;subst e
  rw [if_pos (by rw [sft_len h];omega),List.getElem?_append_right (by rw [List.length_take];omega),List.length_take]
  rw [show p - min p L.length=0 by omega]
  simp
 ·unfold sft
  by_cases hj:j<p
  ·rw [List.getElem?_append_left (by rw [List.length_take,List.length_append];simp;omega),List.getElem?_append_left (by rw [List.length_take];omega),List.getElem?_take,List.getElem?_take,if_pos (by omega),if_pos hj,List.getElem?_append_left (by omega)]
  ·rw [List.getElem?_append_right (by rw [List.length_take,List.length_append];simp;omega),List.getElem?_append_right (by rw [List.length_take];omega),List.length_take,List.length_take,List.length_append,List.getElem?_drop]
   rw [show j - min p L.length=(j - (p+1))+1 by omega,List.getElem?_cons_succ,List.getElem?_drop]
   congr 1
   simp
   omega
end Go.Proofs.YtpnkmnmchdabkaaGreat
namespace Go.Proofs.YtpnkmnmchdabkaaGreat
open Go.RowKit
theorem lat_assoc (a b c:Int):lat (lat a b) c=lat (lat a c) b:=by unfold lat;repeat' split <;> omega
theorem lat_gt (a b:Int):(if a<b then b else a)=lat a b:=by unfold lat;repeat' split <;> omega
theorem ahUp_lat (a x:Int) (rl:List Rc):∀n,ahUp (lat a x) rl n=lat (ahUp a rl n) x
 | 0=>rfl
 | n+1=>by
   unfold ahUp
   cases rl[n]? with
   | none=>exact ahUp_lat a x rl n
   | some r =>
     show lat (ahUp (lat a x) rl n) r.t=lat (lat (ahUp a rl n) r.t) x
     rw [ahUp_lat a x rl n,lat_assoc]
theorem ahUp_fold (g:Int→Int) (rl:List Rc) (n:Nat):∀(par:List Int) (a:Int),ahUp (par.foldl (fun a p=>lat a (g p)) a) rl n=par.foldl (fun a p=>lat a (g p)) (ahUp a rl n)
 | [],_=>rfl
 | p :: r,a=>by
   rw [List.foldl_cons,List.foldl_cons,ahUp_fold g rl n r,ahUp_lat]
def ahd (l:List Sh) (d:Nat→Nat) (k n:Nat):Int:=match l[k]? with
 | some s=>ahUp (topOf (wmUp l d k) s.par) s.rl n
 | none=>-1
theorem ahd_is {l:List Sh} (d:Nat→Nat) {k:Nat} {s:Sh} (n:Nat) (h:l[k]?=some s):ahd l d k n=ahUp (topOf (wmUp l d k) s.par) s.rl n:=by unfold ahd;rw [h]
def befP (l:List Sh) (d:Nat→Nat) (a:Int) (par:List Int):Int:=par.foldl (fun a p=>lat a (ahd l d p.toNat (d p.toNat))) a
theorem befP_take (l:List Sh) (d:Nat→Nat) (a:Int) (par:List Int) (j:Nat) (hj:j<par.length):befP l d a (par.take (j+1))=lat (befP l d a (par.take j)) (ahd l d par[j].toNat (d par[j].toNat)):=by
 unfold befP
 rw [List.take_succ_eq_append_getElem hj,List.foldl_append]
 rfl
theorem fold_same {g h:Int→Int}:∀(par:List Int) (a:Int),(∀p ∈ par,g p=h p)→par.foldl (fun a p=>lat a (g p)) a=par.foldl (fun a p=>lat a (h p)) a
 | [],_,_=>rfl
 | p :: r,a,hp=>by
   rw [List.foldl_cons,List.foldl_cons,hp p (by simp),fold_same r _ (fun q hq=>hp q (by simp [hq]))]
theorem ahd_bef {l:List Sh} (hI:Inv l) (d:Nat→Nat) {k:Nat} {s:Sh} (n:Nat) (h:l[k]?=some s):ahd l d k n=befP l d (ahUp (-1) s.rl n) s.par:=by
 rw [ahd_is d n h]
 unfold topOf
 rw [ahUp_fold (fun p=>((wmUp l d k)[p.toNat]?).getD 0)]
 unfold befP
 refine fold_same s.par _ fun p hp=>?_
 obtain ⟨q,t,rfl,hq,ht,_⟩:=hI.parR k s h p hp
 have:=hI.len
 have hkl:=(List.getElem?_eq_some_iff.1 h).1
 rw [show ((q:Int)).toNat=q by omega,wmUp_at ht (by omega) hq,ahd_is d (d q) ht]
 rfl
theorem filter_at (E:List En) (p:En→Bool) (j:Nat) (e:En) (hj:E[j]?=some e) (hp:p e=true):(E.filter p)[((E.take j).filter p).length]?=some e:=by
 obtain ⟨h1,rfl⟩:=List.getElem?_eq_some_iff.1 hj
 have h2:E=E.take j ++ E[j] :: E.drop (j+1):=by rw [←List.drop_eq_getElem_cons h1,List.take_append_drop]
 have h3:E.filter p=(E.take j).filter p ++ E[j] :: (E.drop (j+1)).filter p:=by
  have h4:=congrArg (List.filter p) h2
  rw [List.filter_append,List.filter_cons,if_pos hp] at h4
  exact h4
 rw [h3,List.getElem?_append_right (Nat.le_refl _),Nat.sub_self]
 rfl
theorem EntOk.at {l:List Sh} {E:List En} (h:EntOk l E) {j:Nat} {e:En} {s:Sh} (hj:E[j]?=some e) (hs:l[e.shard]?=some s):s.rl[e.place]?=some (enRc e):=by
 rw [←h.rl e.shard s hs,List.getElem?_map,h.pl j e hj]
 unfold held
 rw [filter_at E (fun x=>x.shard == e.shard) j e hj (by simp)]
 rfl
theorem ahUp_min (a:Int) (rl:List Rc):∀n,ahUp a rl (min n rl.length)=ahUp a rl n
 | 0=>by simp
 | n+1=>by
   by_cases hn:n<rl.length
   ·rw [show min (n+1) rl.length=n+1 by omega]
   ·rw [show min (n+1) rl.length=min n rl.length by omega,ahUp_min a rl n]
    rw [ahUp,List.getElem?_eq_none (by omega)]
def fol (E:List En) (d:Nat→Nat) (key:ByteArray):List En:=E.filter (fun e=>decide (e.key=key) && decide (e.place<d e.shard))
theorem held_pos {E:List En} {i j:Nat} {e:En} (hi:E[i]?=some e) (hij:i<j):held (E.take i) e.shard<held (E.take j) e.shard:=by
 have hh:∀n,held (E.take (i+1)) e.shard≤held (E.take (i+1+n)) e.shard:=by
  intro n
  induction n with
  | zero=>exact Nat.le_refl _
  | succ n ih =>
    refine Nat.le_trans ih ?_
    by_cases hl:i+1+n<E.length
    ·have:=held_take E e.shard (i+1+n) _ (List.getElem?_eq_getElem hl)
     rw [show i+1+(n+1)=i+1+n+1 by omega,this]
     omega
    ·rw [List.take_of_length_le (show E.length≤i+1+n by omega),List.take_of_length_le (show E.length≤i+1+(n+1) by omega)]
     exact Nat.le_refl _
 have h1:=held_take E e.shard i e hi
 rw [if_pos rfl] at h1
 have h2:=hh (j - (i+1))
 rw [show i+1+(j - (i+1))=j by omega] at h2
 omega
def MkOk (l:List Sh) (d:Nat→Nat):Prop:=(∀(k:Nat) (s:Sh),l[k]?=some s→d k≤s.rl.length)∧∀k,k<l.length→0<d k→rdy l (fun k=>(d k:Int)) k=true
theorem place_at {l:List Sh} {E:List En} (h:EntOk l E) (k:Nat):∀(i:Nat) (e:En),(E.filter (fun e=>e.shard == k))[i]?=some e→e.place=i:=by
 suffices hh:∀n,n≤E.length→∀(i:Nat) (e:En),((E.take n).filter (fun e=>e.shard == k))[i]?=some e→e.place=i by
  intro i e hi
  exact hh E.length (Nat.le_refl _) i e (by rw [List.take_length];exact hi)
 intro n
 induction n with
 | zero=>intro _ i e hi;simp at hi
 | succ n ih =>
   intro hn i e hi
   have hx:E[n]?=some E[n]:=List.getElem?_eq_getElem (by omega)
   rw [List.take_succ_eq_append_getElem (by omega),List.filter_append] at hi
   by_cases hlt:i<((E.take n).filter (fun e=>e.shard == k)).length
   ·rw [List.getElem?_append_left hlt] at hi
    exact ih (by omega) i e hi
   ·rw [List.getElem?_append_right (by omega)] at hi
    by_cases hk:E[n].shard=k
    ·rw [List.filter_cons,if_pos (by simp [hk])] at hi
     have h0:=(List.getElem?_eq_some_iff.1 hi).1
     simp at h0
     have hz:i - ((E.take n).filter (fun e=>e.shard == k)).length=0:=by omega
     rw [hz] at hi
     simp at hi
     subst hi
     rw [h.pl n _ hx,hk]
     unfold held
     omega
    ·rw [List.filter_cons,if_neg (by simp [hk])] at hi
     simp at hi
theorem filter_first (p:Nat):∀(L:List En) (o:Nat),(∀(i:Nat) (e:En),L[i]?=some e→e.place=o+i)→L.filter (fun e=>decide (e.place<p))=L.take (p - o)
 | [],_,_=>by simp
 | a :: r,o,h=>by
   have h0:=h 0 a rfl
   have ih:=filter_first p r (o+1) (fun i e hi=>by have:=h (i+1) e (by simpa using hi);omega)
   rw [List.filter_cons,ih]
   by_cases hp:a.place<p
   ·rw [if_pos (by simpa using hp),show p - o=(p - (o+1))+1 by omega,List.take_succ_cons]
   ·rw [if_neg (by simpa using hp),show p - (o+1)=0 by omega,show p - o=0 by omega]
    simp
def enFd (l:List Sh) (d:Nat→Nat) (e:En):Rc × Int:=(enRc e,ahd l d e.shard e.place)
theorem fdOf_is {l:List Sh} {E:List En} (h:EntOk l E) (d:Nat→Nat) {k:Nat} {s:Sh} (hs:l[k]?=some s):∀p,fdOf (topOf (wmUp l d k) s.par) s.rl p=((E.filter (fun e=>e.shard == k)).take p).map (enFd l d)
 | 0=>by simp [fdOf]
 | p+1=>by
   have ih:=fdOf_is h d hs p
   have hg:s.rl[p]?=((E.filter (fun e=>e.shard == k))[p]?).map enRc:=by rw [←h.rl k s hs,List.getElem?_map]
   unfold fdOf
   cases he:(E.filter (fun e=>e.shard == k))[p]? with
   | none =>
     rw [he] at hg
     rw [hg,List.take_of_length_le (by have:=List.getElem?_eq_none_iff.1 he;omega)]
     show fdOf _ _ p=_
     rw [ih,List.take_of_length_le (by have:=List.getElem?_eq_none_iff.1 he;omega)]
   | some e =>
     rw [he] at hg
     rw [hg]
     show fdOf _ _ p ++ [(enRc e,_)]=_
     obtain ⟨h1,h2⟩:=List.getElem?_eq_some_iff.1 he
     rw [ih,List.take_succ_eq_append_getElem h1,List.map_append,h2]
     have h3:=place_at h k p e he
     have h4:e.shard=k:=by
      have:=List.mem_of_getElem? he
      rw [List.mem_filter] at this
      simpa using this.2
     congr 1
     show [(enRc e,_)]=[enFd l d e]
     unfold enFd
     rw [h4,ahd_is d e.place hs,h3]
def grp (L:List En):Nat→List En
 | 0=>[]
 | n+1=>grp L n ++ L.filter (fun e=>e.shard == n)
theorem fdUp_is {l:List Sh} {E:List En} (h:EntOk l E) (d:Nat→Nat):∀n,n≤l.length→fdUp l d n=(grp (E.filter (fun e=>decide (e.place<d e.shard))) n).map (enFd l d)
 | 0,_=>rfl
 | n+1,hn=>by
   have hs:l[n]?=some l[n]:=List.getElem?_eq_getElem (by omega)
   unfold fdUp
   rw [hs]
   show fdUp l d n ++ fdOf _ _ _=_
   rw [fdUp_is h d n (by omega),fdOf_is h d hs,grp,List.map_append]
   congr 2
   have hff:=filter_first (d n) (E.filter (fun e=>e.shard == n)) 0 (fun i e hi=>by rw [place_at h n i e hi];omega)
   rw [Nat.sub_zero] at hff
   rw [←hff,List.filter_filter,List.filter_filter]
   refine List.filter_congr fun e _=>?_
   by_cases hk:e.shard=n
   ·subst hk;simp [Bool.and_comm]
   ·have e1:(e.shard == n)=false:=by simpa using hk
    rw [e1,Bool.and_false,Bool.false_and]
theorem grp_filter (L:List En) (p:En→Bool):∀n,(grp L n).filter p=grp (L.filter p) n
 | 0=>rfl
 | n+1=>by
   rw [grp,grp,List.filter_append,grp_filter L p n,List.filter_filter,List.filter_filter]
   congr 1
   exact List.filter_congr fun e _=>Bool.and_comm _ _
theorem filter_lt (n:Nat):∀(L:List En),L.Pairwise (fun a b=>a.shard≤b.shard)→L.filter (fun e=>decide (e.shard<n+1))=L.filter (fun e=>decide (e.shard<n)) ++ L.filter (fun e=>e.shard == n)
 | [],_=>rfl
 | a :: r,h=>by
   rw [List.pairwise_cons] at h
   have ih:=filter_lt n r h.2
   rw [List.filter_cons,List.filter_cons,List.filter_cons,ih]
   by_cases h1:a.shard<n
   ·rw [if_pos (by simp;omega),if_pos (by simpa using h1),if_neg (by simp;omega)]
    rfl
   ·rw [if_neg (show ¬decide (a.shard<n)=true by simpa using h1)]
    by_cases h2:a.shard=n
    ·rw [if_pos (by simp;omega),if_pos (by simpa using h2)]
     have hz:r.filter (fun e=>decide (e.shard<n))=[]:=by
      rw [List.filter_eq_nil_iff]
      intro e he
      have:=h.1 e he
      simp;omega
     rw [hz]
     rfl
    ·rw [if_neg (by simp;omega),if_neg (by simpa using h2)]
theorem grp_sorted (L:List En) (h:L.Pairwise (fun a b=>a.shard≤b.shard)):∀n,grp L n=L.filter (fun e=>decide (e.shard<n))
 | 0=>by simp [grp]
 | n+1=>by rw [grp,grp_sorted L h n,filter_lt n L h]
theorem grp_all {L:List En} (h:L.Pairwise (fun a b=>a.shard≤b.shard)) {n:Nat} (hn:∀e ∈ L,e.shard<n):grp L n=L:=by
 rw [grp_sorted L h,List.filter_eq_self]
 intro e he
 simpa using hn e he
theorem byteAt_eq {a b:List UInt8} (ha:a.length≤8∧∀x ∈ a,x.toNat≠0) (hb:b.length≤8∧∀x ∈ b,x.toNat≠0) (h:∀i,i<8→byteAt a i=byteAt b i):a=b:=by
 refine List.ext_getElem? fun i=>?_
 by_cases hi:i<8
 ·have hh:=h i hi
  unfold byteAt at hh
  have hh:(a[i]?.getD 0).toNat=(b[i]?.getD 0).toNat:=by omega
  cases hx:a[i]? with
  | none =>
    cases hy:b[i]? with
    | none=>rfl
    | some y =>
      rw [hx,hy] at hh
      exact absurd hh.symm (hb.2 y (List.mem_of_getElem? hy))
  | some x =>
    cases hy:b[i]? with
    | none =>
      rw [hx,hy] at hh
      exact absurd hh (ha.2 x (List.mem_of_getElem? hx))
    | some y =>
      rw [hx,hy] at hh
      congr 1
      exact UInt8.toNat_inj.1 hh
 ·rw [List.getElem?_eq_none (by omega),List.getElem?_eq_none (by omega)]
theorem sameK_all (a b:List UInt8):sameK a b=true ↔ ∀i,i<8→byteAt a i=byteAt b i:=by
 unfold sameK
 simp only [Bool.and_eq_true,decide_eq_true_eq]
 constructor
 ·rintro ⟨h0,h1,h2,h3,h4,h5,h6,h7⟩ i hi
  match i,hi with
  | 0,_=>exact h0
  | 1,_=>exact h1
  | 2,_=>exact h2
  | 3,_=>exact h3
  | 4,_=>exact h4
  | 5,_=>exact h5
  | 6,_=>exact h6
  | 7,_=>exact h7
  | i+8,hi=>omega
 ·intro h
  exact ⟨h 0 (by omega),h 1 (by omega),h 2 (by omega),h 3 (by omega),h 4 (by omega),h 5 (by omega),h 6 (by omega),h 7 (by omega)⟩
theorem sameK_key {a b:ByteArray} (ha:keyB a=true) (hb:keyB b=true):sameK a.data.toList b.data.toList=decide (a=b):=by
 rw [Bool.eq_iff_iff,sameK_all,decide_eq_true_eq]
 constructor
 ·intro h
  have:=byteAt_eq (keyB_len ha) (keyB_len hb) h
  rcases a with ⟨a⟩
  rcases b with ⟨b⟩
  simpa using Array.toList_inj.1 this
 ·rintro rfl i _;rfl
theorem fdKey_is {l:List Sh} {E:List En} (hI:Inv l) (h:EntOk l E) (d:Nat→Nat) {key:ByteArray} (hk:keyB key=true):fdKey key.data.toList (fdUp l d l.length) (fdUp l d l.length).length=(fol E d key).map (enFd l d):=by
 unfold fdKey
 rw [List.take_length,fdUp_is h d l.length (Nat.le_refl _),List.filter_map,grp_filter,List.filter_filter]
 have e1:E.filter (fun e=>((fun x:Rc × Int=>sameK x.1.kb key.data.toList) ∘ enFd l d) e && decide (e.place<d e.shard))=fol E d key:=by
  unfold fol
  refine List.filter_congr fun e he=>?_
  show (sameK e.key.data.toList key.data.toList && _)=_
  rw [sameK_key (h.key e he).1 hk]
 rw [e1,grp_all]
 ·unfold fol
  rw [List.pairwise_filter,List.pairwise_iff_getElem]
  intro i j hi hj hij h1 h2
  simp only [Bool.and_eq_true,decide_eq_true_eq] at h1 h2
  exact (h.ord i j _ _ hij (List.getElem?_eq_getElem hi) (List.getElem?_eq_getElem hj) (h1.1.trans h2.1.symm)).le hI
 ·intro e he
  unfold fol at he
  rw [List.mem_filter] at he
  exact (h.lt e he.1).1
end Go.Proofs.YtpnkmnmchdabkaaGreat
namespace Go.Proofs.YtpnkmnmchdabkaaGreat
theorem sorted_eq {α:Type} {r:α→α→Prop} (ha:∀a b,r a b→r b a→False):∀(A B:List α),A.Pairwise r→B.Pairwise r→(∀x,x ∈ A ↔ x ∈ B)→A=B
 | [],[],_,_,_=>rfl
 | [],b :: B,_,_,h=>by have:=(h b).2 (by simp);simp at this
 | a :: A,[],_,_,h=>by have:=(h a).1 (by simp);simp at this
 | a :: A,b :: B,hA,hB,h=>by
   rw [List.pairwise_cons] at hA hB
   have e:a=b:=by
    rcases List.mem_cons.1 ((h a).1 (by simp)) with e | h1
    ·exact e
    ·rcases List.mem_cons.1 ((h b).2 (by simp)) with e | h2
     ·exact e.symm
     ·exact (ha _ _ (hB.1 a h1) (hA.1 b h2)).elim
   subst e
   congr 1
   refine sorted_eq ha A B hA.2 hB.2 fun x=>⟨fun hx=>?_,fun hx=>?_⟩
   ·rcases List.mem_cons.1 ((h x).1 (by simp [hx])) with e | h1
    ·subst e;exact (ha _ _ (hA.1 x hx) (hA.1 x hx)).elim
    ·exact h1
   ·rcases List.mem_cons.1 ((h x).2 (by simp [hx])) with e | h1
    ·subst e;exact (ha _ _ (hB.1 x hx) (hB.1 x hx)).elim
    ·exact h1
def lx (e f:En):Prop:=e.shard<f.shard∨(e.shard=f.shard∧e.place<f.place)
theorem lx_asym (e f:En) (h:lx e f) (h':lx f e):False:=by unfold lx at h h';omega
structure FoOk (E:List En) (d:Nat→Nat) (F:List En):Prop where
 mem:∀e,e ∈ F ↔ e ∈ E∧e.place<d e.shard
 ord:F.Pairwise (fun e f=>e.key=f.key→lx e f)
theorem foOk_nil (d:Nat→Nat):FoOk [] d []:=⟨by simp,List.Pairwise.nil⟩
theorem ent_lx {l:List Sh} {E:List En} (hI:Inv l) (h:EntOk l E) {i j:Nat} {e f:En} (hij:i<j) (hi:E[i]?=some e) (hj:E[j]?=some f) (hk:e.key=f.key):lx e f:=by
 have hu:=(h.ord i j e f hij hi hj hk).le hI
 by_cases hs:e.shard=f.shard
 ·have h1:=h.pl i e hi
  have h2:=h.pl j f hj
  have h3:=held_pos hi hij
  rw [←hs] at h2
  exact Or.inr ⟨hs,by omega⟩
 ·exact Or.inl (by omega)
theorem FoOk.key {l:List Sh} {E F:List En} {d:Nat→Nat} (hI:Inv l) (h:EntOk l E) (hF:FoOk E d F) (key:ByteArray):F.filter (fun e=>decide (e.key=key))=fol E d key:=by
 refine sorted_eq lx_asym _ _ ?_ ?_ fun x=>?_
 ·refine List.Pairwise.imp_of_mem (R:=fun e f=>e.key=f.key→lx e f) ?_ (hF.ord.filter _)
  intro a b ha hb hab
  have h1:=(List.mem_filter.1 ha).2
  have h2:=(List.mem_filter.1 hb).2
  simp only [decide_eq_true_eq] at h1 h2
  exact hab (h1.trans h2.symm)
 ·have hE:E.Pairwise (fun e f=>e.key=f.key→lx e f):=by
   rw [List.pairwise_iff_getElem]
   intro i j hi hj hij hk
   exact ent_lx hI h hij (List.getElem?_eq_getElem hi) (List.getElem?_eq_getElem hj) hk
  unfold fol
  refine List.Pairwise.imp_of_mem (R:=fun e f=>e.key=f.key→lx e f) ?_ (hE.filter _)
  intro a b ha hb hab
  have h1:=(List.mem_filter.1 ha).2
  have h2:=(List.mem_filter.1 hb).2
  simp only [Bool.and_eq_true,decide_eq_true_eq] at h1 h2
  exact hab (h1.1.trans h2.1.symm)
 ·unfold fol
  simp only [List.mem_filter,Bool.and_eq_true,decide_eq_true_eq]
  rw [hF.mem x]
  exact ⟨fun ⟨⟨a,b⟩,c⟩=>⟨a,c,b⟩,fun ⟨a,c,b⟩=>⟨⟨a,b⟩,c⟩⟩
theorem FoOk.put {E F:List En} {d:Nat→Nat} (hF:FoOk E d F) (x:En) (hx:d x.shard≤x.place):FoOk (E ++ [x]) d F:=by
 refine ⟨fun e=>?_,hF.ord⟩
 rw [hF.mem e]
 simp only [List.mem_append,List.mem_singleton]
 constructor
 ·exact fun ⟨a,b⟩=>⟨Or.inl a,b⟩
 ·rintro ⟨a | rfl,b⟩
  ·exact ⟨a,b⟩
  ·omega
def part (E:List En) (k a n:Nat):List En:=((E.filter (fun e=>e.shard == k)).drop a).take n
theorem part_at {l:List Sh} {E:List En} (h:EntOk l E) {k a n:Nat} {i:Nat} {e:En} (hi:(part E k a n)[i]?=some e):i<n∧e ∈ E∧e.shard=k∧e.place=a+i:=by
 unfold part at hi
 rw [List.getElem?_take] at hi
 split at hi
 ·rename_i hlt
  rw [List.getElem?_drop] at hi
  have hm:=List.mem_filter.1 (List.mem_of_getElem? hi)
  exact ⟨hlt,hm.1,by simpa using hm.2,place_at h k _ e hi⟩
 ·simp at hi
theorem part_mem {l:List Sh} {E:List En} (h:EntOk l E) {k a n:Nat} (e:En):e ∈ part E k a n ↔ e ∈ E∧e.shard=k∧a≤e.place∧e.place<a+n:=by
 constructor
 ·intro he
  obtain ⟨i,hi⟩:=List.getElem?_of_mem he
  obtain ⟨h1,h2,h3,h4⟩:=part_at h hi
  exact ⟨h2,h3,by omega,by omega⟩
 ·rintro ⟨h1,h2,h3,h4⟩
  obtain ⟨j,hj⟩:=List.getElem?_of_mem h1
  have hf:=filter_at E (fun x=>x.shard == k) j e hj (by simpa using h2)
  have hp:=h.pl j e hj
  unfold held at hp
  rw [h2] at hp
  rw [←hp] at hf
  refine List.mem_of_getElem? (i:=e.place - a) ?_
  unfold part
  rw [List.getElem?_take,if_pos (by omega),List.getElem?_drop,show a+(e.place - a)=e.place by omega]
  exact hf
theorem part_len {l:List Sh} {E:List En} (h:EntOk l E) {k a n:Nat} {s:Sh} (hs:l[k]?=some s) (hn:a+n≤s.cnt):(part E k a n).length=n:=by
 unfold part
 have:(E.filter (fun e=>e.shard == k)).length=s.cnt:=by
  have:=congrArg List.length (h.rl k s hs)
  show _=s.rl.length
  simpa using this
 rw [List.length_take,List.length_drop,this]
 omega
theorem FoOk.fold {l:List Sh} {E F:List En} {d:Nat→Nat} (hI:Inv l) (h:EntOk l E) (hd:MkOk l d) (hF:FoOk E d F) {k n:Nat} {s:Sh} (hs:l[k]?=some s) (hn:1≤n) (hc:d k+n≤s.cnt):FoOk E (fun q=>if q=k then d k+n else d q) (F ++ part E k (d k) n):=by
 refine ⟨fun e=>?_,?_⟩
 ·rw [List.mem_append,hF.mem e,part_mem h e]
  by_cases e1:e.shard=k
  ·simp only [e1,if_true]
   constructor
   ·rintro (⟨a,b⟩ | ⟨a,_,b,c⟩)
    ·exact ⟨a,by omega⟩
    ·exact ⟨a,c⟩
   ·rintro ⟨a,b⟩
    by_cases c:e.place<d k
    ·exact Or.inl ⟨a,c⟩
    ·exact Or.inr ⟨a,trivial,by omega,b⟩
  ·simp only [e1,if_false]
   constructor
   ·rintro (⟨a,b⟩ | ⟨_,b,_⟩)
    ·exact ⟨a,b⟩
    ·exact b.elim
   ·exact fun q=>Or.inl q
 ·rw [List.pairwise_append]
  refine ⟨hF.ord,?_,fun e he f hf hk=>?_⟩
  ·rw [List.pairwise_iff_getElem]
   intro i j hi hj hij _
   obtain ⟨_,_,a1,a2⟩:=part_at h (List.getElem?_eq_getElem hi)
   obtain ⟨_,_,b1,b2⟩:=part_at h (List.getElem?_eq_getElem hj)
   exact Or.inr ⟨by omega,by omega⟩
  ·obtain ⟨e1,e2⟩:=(hF.mem e).1 he
   obtain ⟨f1,f2,f3,f4⟩:=(part_mem h f).1 hf
   by_cases hlt:e.shard<k
   ·exact Or.inl (by omega)
   by_cases heq:e.shard=k
   ·exact Or.inr ⟨by omega,by rw [heq] at e2;omega⟩
   exfalso
   obtain ⟨i,hi⟩:=List.getElem?_of_mem e1
   obtain ⟨j,hj⟩:=List.getElem?_of_mem f1
   by_cases hij:i<j
   ·have:=(h.ord i j e f hij hi hj hk).le hI
    omega
   ·have hji:j<i:=by
     rcases Nat.lt_or_ge j i with h9 | h9
     ·exact h9
     ·have e9:i=j:=by omega
      subst e9
      rw [hi] at hj
      injection hj with hj
      subst hj
      omega
    have hu:=h.ord j i f e hji hj hi hk.symm
    have hr:=hd.2 e.shard (h.lt e e1).1 (by omega)
    rw [f2] at hu
    have hfin:=hu.fin hI _ (by omega) hr
    rw [fin_is hI _ hs] at hfin
    simp only [Bool.and_eq_true,decide_eq_true_eq] at hfin
    have:=hfin.2.2
    omega
end Go.Proofs.YtpnkmnmchdabkaaGreat
namespace Go.Proofs.YtpnkmnmchdabkaaGreat
open Go.RowKit
structure RnInv (f:Nat→Bool) (i:Nat) (st:List Int) (ls:List Le) (P:List Pl) (rs:List Rf) (hs:List Hd) (ns:List Nt) (n:Nat):Prop where
 lr:LsRel (rnUp i st n (ls,P)).1 (renewUp f i n (rs,hs)).1
 wk:WkRel (rnUp i st n (ls,P)).2 i (renewUp f i n (rs,hs)).2 ns
 ok:HsOk (renewUp f i n (rs,hs)).2 rs.length
 len:(renewUp f i n (rs,hs)).1.length=rs.length
 oth:Oth i P (rnUp i st n (ls,P)).2
 rest:∀j,n≤j→(renewUp f i n (rs,hs)).1[j]?=rs[j]?
 cnt:rnCnt i st n (ls,P)=(byShard (renewUp f i n (rs,hs)).2 n).length
 bd:∀(j:Nat) r',(renewUp f i n (rs,hs)).1[j]?=some r'→∃r,rs[j]?=some r∧(r'.ctr=r.ctr∨r'.ctr=r.ctr+1)∧r'.lep=r.lep∧r'.done=r.done∧r'.ep=r.ep
theorem byShard_same {a b:List Hd}:∀n,(∀j:Nat,j<n→firstOf a j=firstOf b j)→byShard a n=byShard b n:=by
 intro n
 induction n with
 | zero=>intro _;simp [byShard]
 | succ n ih=>intro h;rw [byShard_succ,byShard_succ,ih (fun j hj=>h j (by omega)),h n (by omega)]
theorem Oth.trans {i:Nat} {P P1 P2:List Pl} (h:Oth i P P1) (h':Oth i P1 P2):Oth i P P2:=⟨h'.1.trans h.1,fun j k hj hk=>(h'.2 j k hj hk).trans (h.2 j k hj hk)⟩
theorem renew_all {f:Nat→Bool} {i:Nat} {st:List Int} {ls:List Le} {P:List Pl} {rs:List Rf} {hs:List Hd} {ns:List Nt} {B:Int} (hB:B≤1000000000000) (hL:LsRel ls rs) (hW:WkRel P i hs ns) (hH:HsOk hs rs.length)
 (hb:∀(k:Nat) r,rs[k]?=some r→0≤r.ctr∧r.ctr≤B) (hf:∀k,k<rs.length→finS st k=f k):∀n,n≤16→RnInv f i st ls P rs hs ns n:=by
 intro n
 induction n with
 | zero=>intro _;exact ⟨hL,hW,hH,rfl,Oth.refl i P,fun _ _=>rfl,by simp [rnCnt,byShard],fun j r h=>⟨r,h,Or.inl rfl,rfl,rfl,rfl⟩⟩
 | succ n ih =>
   intro hn
   have I:=ih (by omega)
   have hb':∀r,(renewUp f i n (rs,hs)).1[n]?=some r→0≤r.ctr∧r.ctr≤B:=fun r h=>hb n r (by rw [←I.rest n (Nat.le_refl _)];exact h)
   obtain ⟨a1,a2,a3,a4,a5,a6,a7,a8⟩:=renew_one (f:=f) (i:=i) (k:=n) hB (by omega) I.lr I.wk (by rw [I.len];exact I.ok) hb' (finS st n) (fun h=>hf n (by rw [←I.len];exact h))
   have eU:renewUp f i (n+1) (rs,hs)=renewAt f i n ((renewUp f i n (rs,hs)).1,(renewUp f i n (rs,hs)).2):=rfl
   refine ⟨?_,?_,?_,?_,I.oth.trans a5,fun j hj=>?_,?_,fun j r' h=>?_⟩
   ·rw [eU];exact a1
   ·rw [eU];exact a2
   ·rw [eU];rw [I.len] at a3;exact a3
   ·rw [eU,a4,I.len]
   ·rw [eU,(a6 j (by omega)).1];exact I.rest j (by omega)
   ·rw [rnCnt,byShard_succ,List.length_append,eU,a7,I.cnt]
    rw [byShard_same n (fun j hj=>(a6 j (by omega)).2)]
    cases firstOf (renewAt f i n ((renewUp f i n (rs,hs)).1,(renewUp f i n (rs,hs)).2)).2 n <;> simp
   ·rw [eU] at h
    by_cases e:j=n
    ·subst e
     obtain ⟨r,h1,h2,h3,h4⟩:=a8 r' h
     rw [I.rest j (Nat.le_refl _)] at h1
     exact ⟨r,h1,h2,h3,h4⟩
    ·rw [(a6 j e).1] at h
     exact I.bd j r' h
theorem renewUp_more (f:Nat→Bool) (i:Nat) (rs:List Rf) (hs:List Hd) (hl:∀n,(renewUp f i n (rs,hs)).1.length=rs.length):∀n,rs.length≤n→renewUp f i n (rs,hs)=renewUp f i rs.length (rs,hs):=by
 intro n hn
 induction n with
 | zero=>have:rs.length=0:=by omega
         rw [this]
 | succ n ih =>
   by_cases e:rs.length=n+1
   ·rw [e]
   ·rw [renewUp,ih (by omega)]
    have hnone:(renewUp f i rs.length (rs,hs)).1[n]?=none:=List.getElem?_eq_none (by rw [hl];omega)
    unfold renewAt
    rw [hnone]
    cases firstOf (renewUp f i rs.length (rs,hs)).2 n <;> rfl
structure WOk (P:List Pl) (i:Nat) (y:Wk) (n:Nat) (B:Int):Prop where
 rel:WkRel P i y.hs y.ns
 hs:HsOk y.hs n
 ns:NsOk y.ns n B
def epR (rs:List Rf) (k:Nat):Int:=(rs[k]?.map (·.ep)).getD 0
def dR (rs:List Rf) (k:Nat):Nat:=(dnR rs k).toNat
def enPt (e:En):Pt:=⟨e.shard,e.key,e.value,e.time⟩
def enFo (e:En):Fo:=⟨e.shard,e.place⟩
def Od (B:Int) (n:Nat) (Cb:Int) (l:List Sh) (dn:List Int) (ls:List Le) (P:List Pl):Prop:=Ow B.toNat n Cb l dn ls P∧Tight B.toNat n ls P
theorem Ow.mono {B B' n:Nat} {Cb:Int} {l:List Sh} {dn:List Int} {ls:List Le} {P:List Pl} (h:Ow B n Cb l dn ls P) (hB:B≤B'):Ow B' n Cb l dn ls P :=
 ⟨h.dnL,h.lsL,h.pL,h.mr,fun k x hx=>by obtain ⟨a,b,c⟩:=h.le k x hx;exact ⟨a,by omega,c⟩,h.hd,h.df⟩
theorem Od.mono {B B':Int} {n:Nat} {Cb:Int} {l:List Sh} {dn:List Int} {ls:List Le} {P:List Pl} (h:Od B n Cb l dn ls P) (hB:B≤B'):Od B' n Cb l dn ls P:=by
 refine ⟨h.1.mono (by omega),?_⟩
 by_cases e:B'.toNat=B.toNat
 ·rw [e];exact h.2
 ·intro k x hx e2
  obtain ⟨a,b,_⟩:=h.1.le k x hx
  omega
theorem Od.next {B:Int} {n:Nat} {Cb:Int} {l:List Sh} {dn:List Int} {ls:List Le} {P:List Pl} (hB:0≤B) (h:Ow B.toNat n Cb l dn ls P):Od (B+1) n Cb l dn ls P:=by
 unfold Od
 rw [show (B+1).toNat=B.toNat+1 by omega]
 exact h.up
structure Rel (C:Cfg) (now:Rest) (time:Int) (l:List Sh) (Q:List Pt) (rs:List Rf) (wv:Wks) (B:Int):Prop where
 t:now.t=time
 t0:0≤time∧time≤B
 n:(now.n:Int)=C.a
 nl:now.n=wv.l.length
 n1:1≤now.n
 dn:∀k,dnP now.dn k=dnR rs k∧epP now.dn k=epR rs k
 ls:LsRel now.ls rs
 bd:∀(k:Nat) r,rs[k]?=some r→(0≤r.ctr∧r.ctr≤B)∧(0≤r.lep∧r.lep≤B)
 val:validB C.a C.l C.b C.n C.s C.t=true
 mem:∃g cap P,now.wv=.slice (some ⟨g,0,none⟩) now.n cap∧now.mem=plsCells P∧P.length=now.n*16∧(∀(i:Nat) y,wv.l[i]?=some y→WOk P i y rs.length B)∧Od B now.n C.b l now.dn now.ls P
 ent:∃E F,EntOk l E∧E.map enPt=Q∧FoOk E (dR rs) F∧F.map enFo=wv.fo
theorem Rel.conf {C:Cfg} {now:Rest} {time:Int} {l:List Sh} {Q:List Pt} {rs:List Rf} {wv:Wks} {B:Int} (h:Rel C now time l Q rs wv B):(1≤C.a∧C.a≤4)∧(1≤C.l∧C.l≤10)∧(1≤C.b∧C.b≤8)∧(1≤C.n∧C.n≤100)∧(1≤C.s∧C.s≤C.n)∧(0≤C.t∧C.t≤100)∧C.n≤4*C.s:=by
 have:=(validB_iff _ _ _ _ _ _).1 h.val
 omega
theorem Rel.cl {C:Cfg} {now:Rest} {time:Int} {l:List Sh} {Q:List Pt} {rs:List Rf} {wv:Wks} {B:Int} (h:Rel C now time l Q rs wv B):1≤C.l∧C.l≤10:=h.conf.2.1
theorem Rel.n4 {C:Cfg} {now:Rest} {time:Int} {l:List Sh} {Q:List Pt} {rs:List Rf} {wv:Wks} {B:Int} (h:Rel C now time l Q rs wv B):now.n≤4:=by
 have:=h.conf.1
 have:=h.n
 omega
theorem WOk.mono {P:List Pl} {i:Nat} {y:Wk} {n m:Nat} {B B':Int} (h:WOk P i y n B) (hm:n≤m) (hB:B≤B'):WOk P i y m B':=⟨h.rel,h.hs.mono hm,h.ns.mono hm hB⟩
theorem Rel.mono {C:Cfg} {now:Rest} {time:Int} {l:List Sh} {Q:List Pt} {rs:List Rf} {wv:Wks} {B B':Int} (h:Rel C now time l Q rs wv B) (hB:B≤B'):Rel C now time l Q rs wv B':=by
 obtain ⟨g,cap,P,a,b,c,d,o⟩:=h.mem
 exact ⟨h.t,by have:=h.t0;omega,h.n,h.nl,h.n1,h.dn,h.ls,fun k r hr=>by have:=h.bd k r hr;omega,h.val,⟨g,cap,P,a,b,c,fun i y hy=>(d i y hy).mono (Nat.le_refl _) hB,o.mono hB⟩,h.ent⟩
theorem Rel.tick {C:Cfg} {now:Rest} {time:Int} {l:List Sh} {Q:List Pt} {rs:List Rf} {wv:Wks} {B:Int} (h:Rel C now time l Q rs wv B) (hB:B≤1000000000000):Rel C { now with t:=wrap64 (now.t+1) } (wrap64 (time+1)) l Q rs wv (B+1):=by
 have h':=h.mono (show B≤B+1 by omega)
 have ht:=h.t0
 have e:wrap64 (time+1)=time+1:=by unfold wrap64;omega
 exact ⟨by rw [h.t],by rw [e];omega,h'.n,h'.nl,h'.n1,h'.dn,h'.ls,h'.bd,h'.val,h'.mem,h'.ent⟩
theorem More.marks {rs rs':List Rf} (hm:More rs rs') (k:Nat):dnR rs' k=dnR rs k∧epR rs' k=epR rs k:=by
 obtain ⟨m1,m2,m3⟩:=hm
 unfold dnR epR
 by_cases hk:k<rs.length
 ·obtain ⟨r',h1,h2⟩:=m2 k rs[k] (List.getElem?_eq_getElem hk)
  rw [h1,List.getElem?_eq_getElem hk]
  simp only [Option.map_some,Option.getD_some]
  exact ⟨h2.2.2.2.1,h2.2.2.2.2⟩
 ·rw [List.getElem?_eq_none (show rs.length≤k by omega)]
  cases hr:rs'[k]? with
  | none=>exact ⟨rfl,rfl⟩
  | some r' =>
    have:=m3 k r' (by omega) hr
    simp only [Option.map_some,Option.getD_some,Option.map_none,Option.getD_none]
    exact ⟨this.2.2.2.1,this.2.2.2.2⟩
theorem Rel.more {C:Cfg} {now:Rest} {time:Int} {l l':List Sh} {Q Q':List Pt} {rs rs':List Rf} {wv:Wks} {B:Int} (h:Rel C now time l Q rs wv B) (hm:More rs rs') (hI:Inv l) (hI':Inv l') (ha:Adv l l')
 (hE:∀E F,EntOk l E→E.map enPt=Q→FoOk E (dR rs) F→∃E',EntOk l' E'∧E'.map enPt=Q'∧FoOk E' (dR rs) F):Rel C now time l' Q' rs' wv B:=by
 have hB:0≤B:=by have:=h.t0;omega
 have hmk:=hm.marks
 obtain ⟨g,cap,P,a,b,c,d,o⟩:=h.mem
 obtain ⟨E,F,e1,e2,e3,e4⟩:=h.ent
 obtain ⟨E',f1,f2,f3⟩:=hE E F e1 e2 e3
 have hdR:dR rs'=dR rs:=by funext k;unfold dR;rw [(hmk k).1]
 obtain ⟨m1,m2,m3⟩:=hm
 have old:∀(k:Nat) r',rs'[k]?=some r'→(∃r,rs[k]?=some r∧SameL r r')∨Fresh r':=fun k r' hr'=>by
  by_cases hk:k<rs.length
  ·obtain ⟨r2,h1,h2⟩:=m2 k rs[k] (List.getElem?_eq_getElem hk)
   rw [hr'] at h1
   injection h1 with h1
   subst h1
   exact Or.inl ⟨_,List.getElem?_eq_getElem hk,h2⟩
  ·exact Or.inr (m3 k r' (by omega) hr')
 refine ⟨h.t,h.t0,h.n,h.nl,h.n1,fun k=>by rw [(hmk k).1,(hmk k).2];exact h.dn k,⟨h.ls.1,fun k hk=>?_⟩,fun k r' hr'=>?_,h.val,⟨g,cap,P,a,b,c,fun i y hy=>(d i y hy).mono m1 (Int.le_refl _),⟨o.1.log hI hI' ha,o.2⟩⟩,E',F,f1,f2,by rw [hdR];exact f3,e4⟩
 ·rw [h.ls.2 k hk]
  congr 1
  unfold leOf
  cases hr':rs'[k]? with
  | none =>
    have:rs[k]?=none:=List.getElem?_eq_none (by have:=List.getElem?_eq_none_iff.1 hr';omega)
    rw [this]
  | some r' =>
    rcases old k r' hr' with ⟨r,h1,h2⟩ | h2
    ·rw [h1]
     simp only
     rw [h2.1,h2.2.1,h2.2.2.1]
    ·by_cases hk2:k<rs.length
     ·obtain ⟨r2,h1,h3⟩:=m2 k rs[k] (List.getElem?_eq_getElem hk2)
      rw [hr'] at h1
      injection h1 with h1
      subst h1
      rw [List.getElem?_eq_getElem hk2]
      simp only
      rw [h3.1,h3.2.1,h3.2.2.1]
     ·rw [List.getElem?_eq_none (by omega)]
      simp only
      rw [h2.1,h2.2.1,h2.2.2.1]
 ·rcases old k r' hr' with ⟨r,h1,h2⟩ | h2
  ·have:=h.bd k r h1
   rw [h2.2.1,h2.2.2.1];exact this
  ·rw [h2.2.1,h2.2.2.1];omega
end Go.Proofs.YtpnkmnmchdabkaaGreat
