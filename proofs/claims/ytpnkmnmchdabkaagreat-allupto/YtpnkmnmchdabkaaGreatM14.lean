import Derived.Test.YtpnkmnmchdabkaaGreatM13
namespace Go.Proofs.YtpnkmnmchdabkaaGreat
open Go.RowKit
theorem LawAt.moreShards {W C1 C2 D:World} {ρ:Nat→Nat} {wb:Nat} {sdv:Value} {last:Int} {sv iv hv m1 m2 m3:Value} {Ls Li Lh:List Ke} (h:LawAt W ρ wb sdv last sv iv hv m1 m2 m3 Ls Li Lh) (hf:Fits W ρ) (x:Ke)
 (hxl:W.ownsRow 0 100 5 (entV x) x.n (repP patS x.m x.n)) (hxn:x.n≤1000000) (hlen:Ls.length≤100000000) (hxt:∀b,(entV x).ownBlock=some b→ρ b=310)
 (hin:∀y ∈ Ls,∀b,(entV x).ownBlock=some b→y.a=some ⟨b,0,none⟩→y.m=x.m∧y.n≤x.n) (hout:∀y,(y ∈ Li∨y ∈ Lh)→∀b,(entV x).ownBlock=some b→y.a≠some ⟨b,0,none⟩)
 {g1 c1 g2 c2 g3 c3:Nat}
 (b1:C1.heap[wb]?=some (.cells #[sdv,.slice (some ⟨g1,0,none⟩) (Ls.length+1) c1,iv,hv,m1,m2,m3,.int .i64 last] 36 (0,0))) (r1:C1.ownsRow 0 98 1 (.slice (some ⟨g1,0,none⟩) (Ls.length+1) c1) (Ls.length+1) (Ls.map entV ++ [entV x])) (k1:Keeps (fun k=>k=wb∨sv.ownBlock=some k) W C1) (o1:g1<W.heap.size→sv.ownBlock=some g1)
 (b2:C2.heap[wb]?=some (.cells #[sdv,.slice (some ⟨g1,0,none⟩) (Ls.length+1) c1,iv,hv,m1,.slice (some ⟨g2,0,none⟩) (Ls.length+1) c2,m3,.int .i64 last] 36 (0,0))) (r2:C2.ownsRow 0 3 1 (.slice (some ⟨g2,0,none⟩) (Ls.length+1) c2) (Ls.length+1) (Ls.map entM ++ [entM x])) (k2:Keeps (fun k=>k=wb∨m2.ownBlock=some k) C1 C2) (o2:g2<C1.heap.size→m2.ownBlock=some g2)
 (r3:D.ownsRow 0 100 5 (.slice (some ⟨g3,0,none⟩) (x.n+1) c3) (x.n+1) (repP patS x.m x.n ++ patS x.m)) (k3:Keeps (fun k=>(entV x).ownBlock=some k) C2 D) (s3:C2.grownBy D (some g3)) (o3:g3<C2.heap.size→(entV x).ownBlock=some g3) :
 ∃ρ',LawAt D ρ' wb sdv last (.slice (some ⟨g1,0,none⟩) (Ls.length+1) c1) iv hv m1 (.slice (some ⟨g2,0,none⟩) (Ls.length+1) c2) m3 (Ls ++ [x]) Li Lh∧(∀k,k<W.heap.size→ρ' k=ρ k)∧(∀k,W.heap.size≤k→ρ' k=0∨300≤ρ' k)∧Fits D ρ'∧ρ' g3=310∧Keeps (laws ρ) W D ∧
  (∀y ∈ Ls ++ [x],y.a=some ⟨g3,0,none⟩→y.m=x.m∧y.n≤x.n+1)∧(∀y,(y ∈ Li∨y ∈ Lh)→y.a≠some ⟨g3,0,none⟩):=by
 have hwl:=lt_of_heap h.blk
 have z1:=k1.size
 have z2:=k2.size
 have z3:=k3.size
 have g1l:=(r1.lt g1 rfl).2
 have g2l:=(r2.lt g2 rfl).2
 have g3l:=(r3.lt g3 rfl).2
 have iT:∀k,sv.ownBlock=some k→k<W.heap.size∧ρ k=302:=fun k hk=>⟨(h.kS.row.lt k hk).2,h.tS k hk⟩
 have mT:∀k,m2.ownBlock=some k→k<W.heap.size∧ρ k=306:=fun k hk=>⟨(h.kS.ms.lt k hk).2,h.t2 k hk⟩
 have xT:∀k,(entV x).ownBlock=some k→k<W.heap.size∧ρ k=310:=fun k hk=>⟨(hxl.lt k hk).2,hxt k hk⟩
 have q1:g1<W.heap.size→ρ g1=302:=fun hh=>(iT g1 (o1 hh)).2
 have q2:g2<C1.heap.size→g2<W.heap.size∧ρ g2=306:=fun hh=>mT g2 (o2 hh)
 have q3:g3<C2.heap.size→g3<W.heap.size∧ρ g3=310:=fun hh=>xT g3 (o3 hh)
 have d12:g1≠g2:=by
  rintro rfl
  have a:=q2 g1l
  have b:=q1 a.1
  omega
 have d13:g1≠g3:=by
  rintro rfl
  have a:=q3 (by omega)
  have b:=q1 a.1
  omega
 have d23:g2≠g3:=by
  rintro rfl
  have a:=q3 g2l
  have b:=q2 (by omega)
  omega
 have tg:∀k,k<W.heap.size→(if k=g1 then 302 else if k=g2 then 306 else if k=g3 then 310 else ρ k)=ρ k:=by
  intro k hk
  split
  ·rename_i e;subst e;exact (q1 hk).symm
  ·split
   ·rename_i e;subst e;exact ((q2 (by omega)).2).symm
   ·split
    ·rename_i e;subst e;exact ((q3 (by omega)).2).symm
    ·rfl
 have st:∀k,k<W.heap.size→k≠wb→ρ k≠302→ρ k≠306→ρ k≠310→D.heap[k]?=W.heap[k]?:=by
  intro k hk hw h3 h5 h10
  rw [k3.block k (by omega) (fun e=>h10 (xT k e).2),k2.block k (by omega) (fun e=>by rcases e with e | e;exact hw e;exact h5 (mT k e).2),k1.block k hk (fun e=>by rcases e with e | e;exact hw e;exact h3 (iT k e).2)]
 have stL:∀k,k<W.heap.size→ρ k=310→C2.heap[k]?=W.heap[k]?:=by
  intro k hk h10
  have hw:k≠wb:=by rintro rfl;have:=h.tag;omega
  rw [k2.block k (by omega) (fun e=>by rcases e with e | e;exact hw e;have:=(mT k e).2;omega),k1.block k hk (fun e=>by rcases e with e | e;exact hw e;have:=(iT k e).2;omega)]
 have ent:∀y,(y ∈ Li∨y ∈ Lh)→∀b,y.a=some ⟨b,0,none⟩→b<W.heap.size→D.heap[b]?=W.heap[b]?:=by
  intro y hy b hb hl
  have hy':y ∈ Ls∨y ∈ Li∨y ∈ Lh:=Or.inr hy
  have h10:=(h.tL y hy' b hb).1
  rw [k3.block b (by omega) (fun e=>hout y hy b e hb),stL b hl h10]
 have row:∀{te:TypeId} {size n:Nat} {v:Value} {xs:List Value} {t:Nat},W.ownsRow 0 te size v n xs→(∀k,v.ownBlock=some k→ρ k=t)→t≠300→t≠302→t≠306→t≠310→∀k,v.ownBlock=some k→D.heap[k]?=W.heap[k]?:=by
  intro te size n v xs t ho ht a0 a1 a2 a3 k hk
  have:=ht k hk
  exact st k (ho.lt k hk).2 (by rintro rfl;have:=h.tag;omega) (by omega) (by omega) (by omega)
 have tgv:∀{te:TypeId} {size n:Nat} {v:Value} {xs:List Value} {t:Nat},W.ownsRow 0 te size v n xs→(∀k,v.ownBlock=some k→ρ k=t)→∀k,v.ownBlock=some k→(if k=g1 then 302 else if k=g2 then 306 else if k=g3 then 310 else ρ k)=t :=
  fun ho ht k hk=>by rw [tg k (ho.lt k hk).2];exact ht k hk
 have hg3w:∀b,(entV x).ownBlock=some b→b<W.heap.size:=fun b hb=>(xT b hb).1
 refine ⟨fun k=>if k=g1 then 302 else if k=g2 then 306 else if k=g3 then 310 else ρ k,⟨?_,?_,?_,?_,?_,?_,tgv h.kI.row h.tI,tgv h.kH.row h.tH,tgv h.kI.ms h.t1,?_,tgv h.kH.ms h.t3,?_⟩,tg,?_,?_,?_,?_,?_,?_⟩
 ·rw [k3.block wb (by omega) (fun e=>by have:=(xT wb e).2;have:=h.tag;omega)];exact b2
 ·show (if wb=g1 then _ else _)=300
  rw [tg wb hwl];exact h.tag
 ·refine ⟨?_,?_,?_,by simp;omega⟩
  ·rw [List.length_append,List.map_append]
   refine ownsRow_of_block r1 fun k hk=>?_
   simp [Value.ownBlock] at hk
   subst hk
   rw [k3.block _ (by omega) (fun e=>by have a:=xT _ e;have b:=q1 a.1;omega),k2.block _ g1l (fun e=>by
    rcases e with e | e
    ·have:=q1 (by omega);have:=h.tag;rw [e] at *;omega
    ·have a:=mT _ e;have b:=q1 a.1;omega)]
  ·rw [List.length_append,List.map_append]
   refine ownsRow_of_block r2 fun k hk=>?_
   simp [Value.ownBlock] at hk
   subst hk
   rw [k3.block _ g2l (fun e=>by have a:=xT _ e;have b:=q2 (by omega);omega)]
  ·intro y hy
   rcases List.mem_append.1 hy with hy | hy
   ·refine ⟨?_,(h.kS.all y hy).2⟩
    have hC2:HoldsAll C2 5 patS y:=(h.kS.all y hy).1.same (by omega) (fun b hb hl=>stL b hl (h.tL y (Or.inl hy) b hb).1)
    exact hC2.grown patS_len r3 s3 (fun e=>by
     have hb:=h.tL y (Or.inl hy) g3 e
     exact hin y hy g3 (o3 (by omega)) e)
   ·rw [List.mem_singleton] at hy
    subst hy
    refine ⟨?_,by omega⟩
    have hW:HoldsAll W 5 patS y:=HoldsAll.new patS_len hxl
    have hC2:HoldsAll C2 5 patS y:=hW.same (by omega) (fun b hb hl=>stL b hl (hxt b (by unfold entV;rw [hb];rfl)))
    exact hC2.grown patS_len r3 s3 (fun _=>⟨rfl,Nat.le_refl _⟩)
 ·exact h.kI.same (by omega) (row h.kI.row h.tI (by omega) (by omega) (by omega) (by omega)) (row h.kI.ms h.t1 (by omega) (by omega) (by omega) (by omega)) (fun y hy=>ent y (Or.inl hy))
 ·exact h.kH.same (by omega) (row h.kH.row h.tH (by omega) (by omega) (by omega) (by omega)) (row h.kH.ms h.t3 (by omega) (by omega) (by omega) (by omega)) (fun y hy=>ent y (Or.inr hy))
 ·intro k hk
  simp [Value.ownBlock] at hk
  subst hk
  simp
 ·intro k hk
  simp [Value.ownBlock] at hk
  subst hk
  simp [Ne.symm d12]
 ·intro y hy b hb
  have:(y ∈ Ls∨y ∈ Li∨y ∈ Lh)∨y=x:=by
   rcases hy with hy | hy | hy
   ·rcases List.mem_append.1 hy with hy | hy
    ·exact Or.inl (Or.inl hy)
    ·exact Or.inr (List.mem_singleton.1 hy)
   ·exact Or.inl (Or.inr (Or.inl hy))
   ·exact Or.inl (Or.inr (Or.inr hy))
  rcases this with hy | rfl
  ·have h1:=h.tL y hy b hb
   exact ⟨by show (if b=g1 then _ else _)=_;rw [tg b h1.2];exact h1.1,by omega⟩
  ·have hbb:(entV y).ownBlock=some b:=by unfold entV;rw [hb];rfl
   have h1:=xT b hbb
   exact ⟨by show (if b=g1 then _ else _)=_;rw [tg b h1.1];exact h1.2,by omega⟩
 ·intro k hk
  show (if k=g1 then 302 else if k=g2 then 306 else if k=g3 then 310 else ρ k)=0∨300≤(if k=g1 then 302 else if k=g2 then 306 else if k=g3 then 310 else ρ k)
  split
  ·right;omega
  ·split
   ·right;omega
   ·split
    ·right;omega
    ·left;exact hf k hk
 ·intro k hk
  show (if k=g1 then 302 else if k=g2 then 306 else if k=g3 then 310 else ρ k)=0
  rw [if_neg (by omega),if_neg (by omega),if_neg (by omega)]
  exact hf k (by omega)
 ·show (if g3=g1 then 302 else if g3=g2 then 306 else if g3=g3 then 310 else ρ g3)=310
  rw [if_neg (Ne.symm d13),if_neg (Ne.symm d23),if_pos rfl]
 ·refine ⟨by rw [k3.os,k2.os,k1.os],by rw [k3.tape,k2.tape,k1.tape],by rw [k3.output,k2.output,k1.output],by omega,fun k hk hs=>?_⟩
  unfold laws at hs
  exact st k hk (by rintro rfl;have:=h.tag;omega) (by omega) (by omega) (by omega)
 ·intro y hy hya
  rcases List.mem_append.1 hy with hy | hy
  ·have hb:=h.tL y (Or.inl hy) g3 hya
   have:=hin y hy g3 (o3 (by omega)) hya
   exact ⟨this.1,by omega⟩
  ·rw [List.mem_singleton] at hy
   subst hy
   exact ⟨rfl,by omega⟩
 ·intro y hy hya
  have hy':y ∈ Ls∨y ∈ Li∨y ∈ Lh:=Or.inr hy
  have hb:=h.tL y hy' g3 hya
  exact hout y hy g3 (o3 (by omega)) hya
structure KInvS (w:World) (ρ:Nat→Nat) (wb:Nat) (sdv:Value) (m:Int) (iv hv m1 m3:Value) (Ls Li Lh:List Ke) (lv:Value) (n j:Nat) (ρ1:Nat→Nat) (sv1 m21:Value) (Ln:List Ke) (x:Ke) (wr:World):Prop where
 law:LawAt wr ρ1 wb sdv m sv1 iv hv m1 m21 m3 (Ls ++ Ln) Li Lh
 len:Ln.length=j
 xm:x.m=m
 xn:x.n=n+j
 row:wr.ownsRow 0 100 5 (entV x) x.n (repP patS x.m x.n)
 xt:∀b,(entV x).ownBlock=some b→ρ1 b=310
 hin:∀y ∈ Ls ++ Ln,∀b,(entV x).ownBlock=some b→y.a=some ⟨b,0,none⟩→y.m=x.m∧y.n≤x.n
 hout:∀y,(y ∈ Li∨y ∈ Lh)→∀b,(entV x).ownBlock=some b→y.a≠some ⟨b,0,none⟩
 e1:∀k,k<w.heap.size→lv.ownBlock≠some k→ρ1 k=ρ k
 e2:∀k,w.heap.size≤k→ρ1 k=0∨300≤ρ1 k
 fits:Fits wr ρ1
 keeps:Keeps (fun k=>laws ρ k∨lv.ownBlock=some k) w wr
 e3:∀k,lv.ownBlock=some k→ρ1 k=310
 e4:∀k,lv.ownBlock=some k→k<w.heap.size
theorem KInvS.start {w V wr:World} {ρ:Nat→Nat} {wb:Nat} {sdv:Value} {m:Int} {sv iv hv m1 m2 m3:Value} {Ls Li Lh:List Ke} {la:Option Addr} {n lc:Nat} (hV:LawAt V ρ wb sdv m sv iv hv m1 m2 m3 Ls Li Lh) (hs:V.heap.size=w.heap.size) (hf:Fits w ρ) (hT:∀k,(Value.slice la n lc).ownBlock=some k→ρ k=0)
 (hK:Keeps (fun k=>laws ρ k∨(Value.slice la n lc).ownBlock=some k) w V) (hk:Keeps (fun k=>(Value.slice la n lc).ownBlock=some k) V wr) (hr:wr.ownsRow 0 100 5 (.slice la n lc) n (repP patS m n)) (h4:∀k,(Value.slice la n lc).ownBlock=some k→k<w.heap.size) :
 KInvS w ρ wb sdv m iv hv m1 m3 Ls Li Lh (.slice la n lc) n 0 (fun k=>if (Value.slice la n lc).ownBlock=some k then 310 else ρ k) sv m2 [] ⟨la,n,lc,m⟩ wr:=by
 have hz:=hk.size
 have no:∀y,(y ∈ Ls∨y ∈ Li∨y ∈ Lh)→∀b,(Value.slice la n lc).ownBlock=some b→y.a≠some ⟨b,0,none⟩:=by
  intro y hy b hb hya
  have h1:=(hV.tL y hy b hya).1
  have h2:=hT b hb
  omega
 refine ⟨?_,rfl,rfl,rfl,hr,fun b hb=>if_pos hb,?_,?_,fun k _ hne=>if_neg hne,?_,?_,?_,fun k hk=>if_pos hk,h4⟩
 ·rw [List.append_nil]
  refine hV.keeps hk (fun k hk=>Or.inl ?_) (fun k _ h3=>if_neg ?_)
  ·unfold laws;have:=hT k hk;omega
  ·intro e;have:=hT k e;omega
 ·intro y hy b hb hya
  rw [List.append_nil] at hy
  exact absurd hya (no y (Or.inl hy) b hb)
 ·intro y hy b hb
  exact no y (Or.inr hy) b hb
 ·intro k hk
  show (if _ then 310 else ρ k)=0∨300≤(if _ then 310 else ρ k)
  split
  ·right;omega
  ·left;exact hf k hk
 ·intro k hk
  show (if _ then 310 else ρ k)=0
  rw [if_neg (fun e=>by have:=h4 k e;omega)]
  exact hf k (by omega)
 ·exact hK.trans (hk.mono (fun k _ e=>Or.inr e))
theorem KInvS.step {w W C1 C2 D:World} {ρ ρ1:Nat→Nat} {wb:Nat} {sdv:Value} {m:Int} {sv1 iv hv m1 m21 m3:Value} {Ls Li Lh Ln:List Ke} {lv:Value} {n j:Nat} {x:Ke} (h:KInvS w ρ wb sdv m iv hv m1 m3 Ls Li Lh lv n j ρ1 sv1 m21 Ln x W) (hxn:x.n≤1000000) (hlen:(Ls ++ Ln).length≤100000000)
 {N g1 c1 g2 c2 g3 c3:Nat} (hN:N=(Ls ++ Ln).length+1)
 (b1:C1.heap[wb]?=some (.cells #[sdv,.slice (some ⟨g1,0,none⟩) N c1,iv,hv,m1,m21,m3,.int .i64 m] 36 (0,0))) (r1:C1.ownsRow 0 98 1 (.slice (some ⟨g1,0,none⟩) N c1) N ((Ls ++ Ln).map entV ++ [entV x])) (k1:Keeps (fun k=>k=wb∨sv1.ownBlock=some k) W C1) (o1:g1<W.heap.size→sv1.ownBlock=some g1)
 (b2:C2.heap[wb]?=some (.cells #[sdv,.slice (some ⟨g1,0,none⟩) N c1,iv,hv,m1,.slice (some ⟨g2,0,none⟩) N c2,m3,.int .i64 m] 36 (0,0))) (r2:C2.ownsRow 0 3 1 (.slice (some ⟨g2,0,none⟩) N c2) N ((Ls ++ Ln).map entM ++ [entM x])) (k2:Keeps (fun k=>k=wb∨m21.ownBlock=some k) C1 C2) (o2:g2<C1.heap.size→m21.ownBlock=some g2)
 (r3:D.ownsRow 0 100 5 (.slice (some ⟨g3,0,none⟩) (x.n+1) c3) (x.n+1) (repP patS x.m x.n ++ patS x.m)) (k3:Keeps (fun k=>(entV x).ownBlock=some k) C2 D) (s3:C2.grownBy D (some g3)) (o3:g3<C2.heap.size→(entV x).ownBlock=some g3) :
 ∃ρ',KInvS w ρ wb sdv m iv hv m1 m3 Ls Li Lh lv n (j+1) ρ' (.slice (some ⟨g1,0,none⟩) N c1) (.slice (some ⟨g2,0,none⟩) N c2) (Ln ++ [x]) ⟨some ⟨g3,0,none⟩,x.n+1,c3,x.m⟩ D:=by
 subst hN
 obtain ⟨ρ',hL,hold,hnew,hF,h310,hK,hi,ho⟩:=h.law.moreShards h.fits x h.row hxn hlen h.xt h.hin h.hout b1 r1 k1 o1 b2 r2 k2 o2 r3 k3 s3 o3
 have hz:=h.keeps.size
 have own:∀b,(entV ⟨some ⟨g3,0,none⟩,x.n+1,c3,x.m⟩).ownBlock=some b→b=g3:=by
  intro b hb
  simp [entV,Value.ownBlock] at hb
  exact hb.symm
 refine ⟨ρ',?_,by simp [h.len],h.xm,by show x.n+1=_;rw [h.xn];omega,r3,fun b hb=>by rw [own b hb];exact h310,?_,?_,?_,?_,hF,?_,?_,h.e4⟩
 ·rw [←List.append_assoc];exact hL
 ·intro y hy b hb hya
  rw [own b hb] at hya
  rw [←List.append_assoc] at hy
  exact hi y hy hya
 ·intro y hy b hb
  rw [own b hb]
  exact ho y hy
 ·intro k hk hne
  rw [hold k (by omega)];exact h.e1 k hk hne
 ·intro k hk
  by_cases hlt:k<W.heap.size
  ·rw [hold k hlt];exact h.e2 k hk
  ·exact hnew k (by omega)
 ·have hzD:=hK.size
  refine ⟨hK.os.trans h.keeps.os,hK.tape.trans h.keeps.tape,hK.output.trans h.keeps.output,by omega,fun k hk hs=>?_⟩
  rw [hK.block k (by omega) (fun e=>hs (Or.inl (by
   unfold laws at e ⊢
   rw [h.e1 k hk (fun q=>hs (Or.inr q))] at e
   exact e)))]
  exact h.keeps.block k hk hs
 ·intro k hk
  rw [hold k (by have:=h.e4 k hk;omega)];exact h.e3 k hk
structure OutAt (w:World) (ρ:Nat→Nat) (v:Value) (l:List (Sh × Value)):Prop where
 row:w.ownsRow 0 100 5 v l.length (listCells l)
 par:∀(i:Nat) (x:Sh × Value),l[i]?=some x→w.ownsRow 0 3 1 x.2 x.1.par.length (x.1.par.map (Value.int .i64))
 apart:∀(i j:Nat) (x y:Sh × Value),i<j→l[i]?=some x→l[j]?=some y→∀k,x.2.ownBlock=some k→y.2.ownBlock≠some k
 vapart:∀(i:Nat) (x:Sh × Value),l[i]?=some x→∀k,x.2.ownBlock=some k→v.ownBlock≠some k
 tagV:∀k,v.ownBlock=some k→ρ k=0
 tagP:∀(i:Nat) (x:Sh × Value),l[i]?=some x→∀k,x.2.ownBlock=some k→ρ k=0
theorem ListAt.outAt {w:World} {B:Nat} {v:Value} {l:List (Sh × Value)} (h:ListAt w B v l) (ρ:Nat→Nat) (hρ:∀k,B≤k→ρ k=0):OutAt w ρ v l :=
 ⟨ownsRow_base h.row (Nat.zero_le _),fun i x hi=>ownsRow_base (h.par i x hi) (Nat.zero_le _),fun i j x y hij hi hj _ hk hk'=>h.apart i j x y hij hi hj (hk.trans hk'.symm),fun i x hi _ hk hk'=>h.vapart i x hi (hk.trans hk'.symm),fun k hk=>hρ k (h.row.lt k hk).1,fun i x hi k hk=>hρ k ((h.par i x hi).lt k hk).1⟩
def DoneP (l:List (Sh × Value)) (j k:Nat):Prop:=∃(i:Nat) (x:Sh × Value),i<j∧l[i]?=some x∧x.2.ownBlock=some k
structure PInv (w:World) (ρ:Nat→Nat) (wb:Nat) (sdv:Value) (last:Int) (sv hv m2 m3:Value) (Ls Li Lh:List Ke) (l:List (Sh × Value)) (j:Nat) (ρ1:Nat→Nat) (iv1 m11:Value) (Ln:List Ke) (wr:World):Prop where
 law:LawAt wr ρ1 wb sdv (last - j) sv iv1 hv m11 m2 m3 Ls (Li ++ Ln) Lh
 len:Ln.length=4*j
 e1:∀k,k<w.heap.size→¬DoneP l j k→ρ1 k=ρ k
 e2:∀k,w.heap.size≤k→ρ1 k=0∨300≤ρ1 k
 fits:Fits wr ρ1
 keeps:Keeps (fun k=>laws ρ k∨DoneP l j k) w wr
theorem PInv.start {w:World} {ρ:Nat→Nat} {wb:Nat} {sdv:Value} {last:Int} {sv iv hv m1 m2 m3:Value} {Ls Li Lh:List Ke} (h:LawAt w ρ wb sdv last sv iv hv m1 m2 m3 Ls Li Lh) (hf:Fits w ρ) (l:List (Sh × Value)):PInv w ρ wb sdv last sv hv m2 m3 Ls Li Lh l 0 ρ iv m1 [] w:=by
 refine ⟨?_,rfl,fun k _ _=>rfl,fun k hk=>Or.inl (hf k hk),hf,Keeps.refl _ _⟩
 rw [List.append_nil,Int.natCast_zero,Int.sub_zero];exact h
theorem PInv.par {w wr:World} {ρ ρ1:Nat→Nat} {wb:Nat} {sdv:Value} {last:Int} {sv hv m2 m3 iv1 m11:Value} {Ls Li Lh Ln:List Ke} {l:List (Sh × Value)} {v:Value} {j:Nat} (h:PInv w ρ wb sdv last sv hv m2 m3 Ls Li Lh l j ρ1 iv1 m11 Ln wr) (ho:OutAt w ρ v l) (x:Sh × Value) (hx:l[j]?=some x) :
 wr.ownsRow 0 3 1 x.2 x.1.par.length (x.1.par.map (Value.int .i64))∧(∀k,x.2.ownBlock=some k→ρ1 k=0)∧wr.ownsRow 0 100 5 v l.length (listCells l)∧∀k,v.ownBlock=some k→ρ1 k=0:=by
 have np:∀k,x.2.ownBlock=some k→¬DoneP l j k:=fun k hk ⟨i,y,hij,hy,hyk⟩=>ho.apart i j y x hij hy hx k hyk hk
 have nv:∀k,v.ownBlock=some k→¬DoneP l j k:=fun k hk ⟨i,y,hij,hy,hyk⟩=>ho.vapart i y hy k hyk hk
 refine ⟨?_,fun k hk=>(h.e1 k ((ho.par j x hx).lt k hk).2 (np k hk)).trans (ho.tagP j x hx k hk),?_,fun k hk=>(h.e1 k (ho.row.lt k hk).2 (nv k hk)).trans (ho.tagV k hk)⟩
 ·refine ownsRow_keeps (ho.par j x hx) h.keeps fun k hk hs=>?_
  rcases hs with hs | hs
  ·have:=ho.tagP j x hx k hk;unfold laws at hs;omega
  ·exact np k hk hs
 ·refine ownsRow_keeps ho.row h.keeps fun k hk hs=>?_
  rcases hs with hs | hs
  ·have:=ho.tagV k hk;unfold laws at hs;omega
  ·exact nv k hk hs
theorem PInv.row {w wr:World} {ρ ρ1:Nat→Nat} {wb:Nat} {sdv:Value} {last:Int} {sv hv m2 m3 iv1 m11:Value} {Ls Li Lh Ln:List Ke} {l:List (Sh × Value)} {v:Value} {j:Nat} (h:PInv w ρ wb sdv last sv hv m2 m3 Ls Li Lh l j ρ1 iv1 m11 Ln wr) (ho:OutAt w ρ v l) :
 wr.ownsRow 0 100 5 v l.length (listCells l)∧∀k,v.ownBlock=some k→ρ1 k=0:=by
 have nv:∀k,v.ownBlock=some k→¬DoneP l j k:=fun k hk ⟨i,y,hij,hy,hyk⟩=>ho.vapart i y hy k hyk hk
 refine ⟨?_,fun k hk=>(h.e1 k (ho.row.lt k hk).2 (nv k hk)).trans (ho.tagV k hk)⟩
 refine ownsRow_keeps ho.row h.keeps fun k hk hs=>?_
 rcases hs with hs | hs
 ·have:=ho.tagV k hk;unfold laws at hs;omega
 ·exact nv k hk hs
theorem PInv.step {w wr w':World} {ρ ρ1:Nat→Nat} {wb:Nat} {sdv:Value} {last:Int} {sv hv m2 m3 iv1 m11:Value} {Ls Li Lh Ln:List Ke} {l:List (Sh × Value)} {v:Value} {j:Nat} {e:Ending} (h:PInv w ρ wb sdv last sv hv m2 m3 Ls Li Lh l j ρ1 iv1 m11 Ln wr) (ho:OutAt w ρ v l) (x:Sh × Value) (hx:l[j]?=some x)
 (hp:KeepPost wr ρ1 wb sdv (last - j - 1) sv hv m2 m3 Ls (Li ++ Ln) Lh x.2 e w'):∃ρ2 iv2 m12 L2,PInv w ρ wb sdv last sv hv m2 m3 Ls Li Lh l (j+1) ρ2 iv2 m12 L2 w':=by
 obtain ⟨_,ρ2,iv2,m12,L4,hL,hlen,t1,t2,hf,hk,t3⟩:=hp
 have hxl:∀k,x.2.ownBlock=some k→k<w.heap.size:=fun k hk=>((ho.par j x hx).lt k hk).2
 have hz:=h.keeps.size
 have hd:∀k,¬DoneP l (j+1) k→¬DoneP l j k∧x.2.ownBlock≠some k:=fun k hn=>⟨fun ⟨i,y,a,b,c⟩=>hn ⟨i,y,by omega,b,c⟩,fun e=>hn ⟨j,x,by omega,hx,e⟩⟩
 refine ⟨ρ2,iv2,m12,Ln ++ L4,?_,by rw [List.length_append,h.len,hlen];omega,?_,?_,hf,?_⟩
 ·rw [←List.append_assoc,show last - ((j+1:Nat):Int)=last - j - 1 by omega];exact hL
 ·intro k hk hn
  rw [t1 k (by omega) (hd k hn).2];exact h.e1 k hk (hd k hn).1
 ·intro k hk
  by_cases hlt:k<wr.heap.size
  ·rw [t1 k hlt (fun e=>by have:=hxl k e;omega)];exact h.e2 k hk
  ·exact t2 k (by omega)
 ·refine ⟨hk.os.trans h.keeps.os,hk.tape.trans h.keeps.tape,hk.output.trans h.keeps.output,Nat.le_trans hz hk.size,fun k hkk hs=>?_⟩
  have hn:¬DoneP l (j+1) k:=fun q=>hs (Or.inr q)
  have hl:¬laws ρ k:=fun q=>hs (Or.inl q)
  rw [hk.block k (by omega) (fun q=>by
   rcases q with q | q
   ·unfold laws at q hl;rw [h.e1 k hkk (hd k hn).1] at q;exact hl q
   ·exact (hd k hn).2 q)]
  exact h.keeps.block k hkk (fun q=>by
   rcases q with q | q
   ·exact hl q
   ·exact (hd k hn).1 q)
def OutB (v:Value) (l:List (Sh × Value)) (k:Nat):Prop:=v.ownBlock=some k∨∃(i:Nat) (x:Sh × Value),l[i]?=some x∧x.2.ownBlock=some k
def KeepPostS (w:World) (ρ:Nat→Nat) (wb:Nat) (sdv:Value) (last:Int) (hv m3:Value) (Ls Li Lh:List Ke) (v:Value) (l:List (Sh × Value)) (e:Ending) (w':World):Prop :=
 e=.returned (.tuple #[])∧∃ρ' sv iv m1 m2 Lt Ln,LawAt w' ρ' wb sdv (last - l.length - 1) sv iv hv m1 m2 m3 (Ls ++ Lt) (Li ++ Ln) Lh∧Lt.length=4∧Ln.length=4*l.length ∧
  (∀k,k<w.heap.size→¬OutB v l k→ρ' k=ρ k)∧(∀k,w.heap.size≤k→ρ' k=0∨300≤ρ' k)∧Fits w' ρ'∧Keeps (fun k=>laws ρ k∨OutB v l k) w w'
theorem PInv.done {w wr w':World} {ρ ρ1 ρ2:Nat→Nat} {wb:Nat} {sdv:Value} {last:Int} {sv hv m2 m3 iv1 m11 sv1 m21:Value} {Ls Li Lh Ln Lt:List Ke} {l:List (Sh × Value)} {v:Value} {x:Ke} {n:Nat} (hn:n=l.length) (h:PInv w ρ wb sdv last sv hv m2 m3 Ls Li Lh l n ρ1 iv1 m11 Ln wr) (ho:OutAt w ρ v l)
 (hs:KInvS wr ρ1 wb sdv (last - n - 1) iv1 hv m11 m3 Ls (Li ++ Ln) Lh v n 4 ρ2 sv1 m21 Lt x w'):KeepPostS w ρ wb sdv last hv m3 Ls Li Lh v l (.returned (.tuple #[])) w':=by
 subst hn
 have hz:=h.keeps.size
 have hd:∀k,¬OutB v l k→¬DoneP l l.length k∧v.ownBlock≠some k:=fun k hn=>⟨fun ⟨i,y,_,b,c⟩=>hn (Or.inr ⟨i,y,b,c⟩),fun e=>hn (Or.inl e)⟩
 refine ⟨rfl,ρ2,sv1,iv1,m11,m21,Lt,Ln,hs.law,hs.len,h.len,?_,?_,hs.fits,?_⟩
 ·intro k hk hn
  rw [hs.e1 k (by omega) (hd k hn).2];exact h.e1 k hk (hd k hn).1
 ·intro k hk
  by_cases hlt:k<wr.heap.size
  ·rw [hs.e1 k hlt (fun e=>by have:=(ho.row.lt k e).2;omega)];exact h.e2 k hk
  ·exact hs.e2 k (by omega)
 ·refine ⟨hs.keeps.os.trans h.keeps.os,hs.keeps.tape.trans h.keeps.tape,hs.keeps.output.trans h.keeps.output,Nat.le_trans hz hs.keeps.size,fun k hkk hq=>?_⟩
  have hn:¬OutB v l k:=fun q=>hq (Or.inr q)
  have hl:¬laws ρ k:=fun q=>hq (Or.inl q)
  rw [hs.keeps.block k (by omega) (fun q=>by
   rcases q with q | q
   ·unfold laws at q hl;rw [h.e1 k hkk (hd k hn).1] at q;exact hl q
   ·exact (hd k hn).2 q)]
  exact h.keeps.block k hkk (fun q=>by
   rcases q with q | q
   ·exact hl q
   ·exact (hd k hn).1 q)
theorem row_put5 {w:World} {te:TypeId} {lb n c:Nat} {xs:List Value} (h:w.ownsRow 0 te 5 (.slice (some ⟨lb,0,none⟩) n c) n xs) (j:Nat) (v0 v1 v2 v3 v4:Value) :
 (((((w.setCell ⟨lb,j*5,none⟩ v0).setCell ⟨lb,j*5+1,none⟩ v1).setCell ⟨lb,j*5+2,none⟩ v2).setCell ⟨lb,j*5+3,none⟩ v3).setCell ⟨lb,j*5+4,none⟩ v4).ownsRow 0 te 5 (.slice (some ⟨lb,0,none⟩) n c) n
   (((((xs.set (j*5) v0).set (j*5+1) v1).set (j*5+2) v2).set (j*5+3) v3).set (j*5+4) v4):=by
 have h:=(World.ownsRow.stored h (j*5) v0).1
 have h:=(World.ownsRow.stored h (j*5+1) v1).1
 have h:=(World.ownsRow.stored h (j*5+2) v2).1
 have h:=(World.ownsRow.stored h (j*5+3) v3).1
 have h:=(World.ownsRow.stored h (j*5+4) v4).1
 exact h
theorem repS_set {m:Int} {xs:List Value} {j:Nat} (hj:j*5+5≤xs.length) :
 ((((((repP patS m j ++ xs.drop (j*5)).set (j*5) (.int .i64 m)).set (j*5+1) (.int .i64 0)).set (j*5+2) (.bool false)).set (j*5+3) (.slice none 0 0)).set (j*5+4) (.int .i64 0))=repP patS m (j+1) ++ xs.drop ((j+1)*5):=by
 have hl:=repP_len (patS_len m) j
 have hd:xs.drop (j*5)=xs[j*5] :: xs[j*5+1] :: xs[j*5+2] :: xs[j*5+3] :: xs[j*5+4] :: xs.drop ((j+1)*5):=by
  rw [List.drop_eq_getElem_cons (by omega),List.drop_eq_getElem_cons (by omega),List.drop_eq_getElem_cons (by omega),List.drop_eq_getElem_cons (by omega),List.drop_eq_getElem_cons (by omega),show (j+1)*5=j*5+1+1+1+1+1 by omega]
 rw [hd,List.set_append_right _ _ (by omega),List.set_append_right _ _ (by omega),List.set_append_right _ _ (by omega),List.set_append_right _ _ (by omega),List.set_append_right _ _ (by omega),hl,Nat.sub_self,Nat.add_sub_cancel_left,Nat.add_sub_cancel_left,Nat.add_sub_cancel_left,Nat.add_sub_cancel_left]
 simp only [List.set_cons_zero,List.set_cons_succ,repP,patS,List.append_assoc,List.cons_append,List.nil_append]
theorem listCells_len (l:List (Sh × Value)):(listCells l).length=l.length*5:=by
 induction l with
 | nil=>rfl
 | cons s r ih=>simp only [listCells,List.length_append,ih,outCells,List.length_cons,List.length_nil];omega
end Go.Proofs.YtpnkmnmchdabkaaGreat
namespace Go.Proofs.YtpnkmnmchdabkaaGreat
open Go.RowKit
attribute [local go_sem ↓] Go.wp_at_zero Go.wp_at_succ
theorem infoSS:(Tryz.prog.info? 98).map (fun i=>(i.zero,i.size,i.bytes))=some (some (.slice none 0 0),1,24):=by kernel_rfl
set_option maxRecDepth 100000 in
set_option maxHeartbeats 8000000 in
theorem keepShards_any {w:World} {ρ:Nat→Nat} {wb:Nat} {sdv:Value} {last:Int} {sv iv hv m1 m2 m3:Value} {Ls Li Lh:List Ke} (h:LawAt w ρ wb sdv last sv iv hv m1 m2 m3 Ls Li Lh) (hf:Fits w ρ) (h1:-8000000000000000000≤last) (h2:last≤0) (lv:Value) (l:List (Sh × Value)) (ho:OutAt w ρ lv l) (hn:l.length≤16) (hpl:∀(i:Nat) (x:Sh × Value),l[i]?=some x→x.1.par.length≤2) (hlen:Li.length≤39999000) (hlenS:Ls.length≤40000000) :
 Calls Tryz.prog 34 #[.pointer (some ⟨wb,0,none⟩),lv] w (KeepPostS w ρ wb sdv last hv m3 Ls Li Lh lv l):=by
 obtain ⟨n,hnl⟩:∃n,n=l.length:=⟨_,rfl⟩
 obtain ⟨la,lc,rfl⟩:=ownsRow_len ho.row
 obtain ⟨i5,hi5,y50,y51,y52⟩:=info_parts infoSS
 obtain ⟨i3,hi3,y30,y31,y32⟩:=info_parts infoI
 obtain ⟨i8,hi8,y80,y81,y82⟩:=info_parts info82
 have HP0:=hide (PInv.start h hf l)
 rw [←hnl] at hn ho ⊢
 have HO:=hide ho
 have HPL:=hide hpl
 clear h hf ho hpl
 have HNL:=hide hnl
 have hn16:n≤16:=hn
 clear hn hnl
 go_enter Tryz.func34,Tryz.ntmps34
 go_wp2
 go_loopw [4] (fun i wr=>∃(j:Nat) (ρ1:Nat→Nat) (iv1 m11:Value) (Ln:List Ke),j≤n∧i=.int .i64 j∧PInv w ρ wb sdv last sv hv m2 m3 Ls Li Lh l j ρ1 iv1 m11 Ln wr) (fun i _=>n - (intOf i).toNat)
 case atStart=>exact ⟨0,_,_,_,_,Nat.zero_le _,rfl,uh HP0⟩
 case round =>
  obtain ⟨j,ρ1,iv1,m11,Ln,hj,rfl,hP⟩:=hrel
  by_cases hlt:j<n
  ·obtain ⟨x,hx⟩:∃x,l[j]?=some x:=⟨_,List.getElem?_eq_getElem (by have:=uh HNL;omega)⟩
   obtain ⟨pr,pt,vr,vt⟩:=hP.par (uh HO) x hx
   rw [←uh HNL] at vr
   obtain ⟨lb,cp,cur,hv1,_,hcb,_,_,hcs,_⟩:=ownsRow_shape vr (by omega)
   injection hv1 with e1 e2 e3
   subst e1 e3
   clear e2
   have c3:wr.cell? ⟨lb,j*5+3,none⟩=some x.2:=(World.ownsRow.cellAt vr (j*5+3) (by omega)).trans (by rw [listCells_get l j 3 (by omega) x hx];rfl)
   have hlenI:(Li ++ Ln).length≤40000000:=by rw [List.length_append,hP.len];omega
   have HK:=hide (keepInts_any hP.law hP.fits (by omega) (by omega) x.2 x.1.par.length _ pr (by have:=uh HPL j x hx;omega) hlenI pt)
   have HPj:=hide hP
   have HX:=hide hx
   clear hP pr pt vr vt hcb hcs hx
   go_wp2_with (go_at_call 58;refine (uh HK).mono ?_;rintro e w' hpost;have HQ:=hide ((uh HPj).step (uh HO) x (uh HX) hpost);obtain ⟨rfl,-⟩:=hpost)
   go_roundw
   case rel =>
    obtain ⟨ρ2,iv2,m12,L2,hq⟩:=uh HQ
    exact ⟨j+1,ρ2,iv2,m12,L2,by omega,by go_num,hq⟩
   case measure=>simp [intOf];omega
  ·have ej:j=n:=by omega
   subst ej
   obtain ⟨U,hU⟩:∃U,U=wr:=⟨_,rfl⟩
   rw [←hU] at hP ⊢
   clear hU
   have hwl:=lt_of_heap hP.law.blk
   have c7:U.cell? ⟨wb,7,none⟩=some (.int .i64 (last - j)):=cell_of hP.law.blk 7
   have f7:=frozen_of hP.law.blk 7
   have HM:=hide (mark_any U wb (last - j) c7 f7 (by omega) (by omega))
   obtain ⟨vr,vt⟩:=hP.row (uh HO)
   rw [←uh HNL] at vr
   have HL:=hide vr
   have HT:=hide vt
   have HPI:=hide hP
   have hll:Hid (∀k,(Value.slice la j lc).ownBlock=some k→k<U.heap.size):=fun k hk=>(vr.lt k hk).2
   clear vr vt hP HP0
   go_wp2_with (go_at_call 71;refine (uh HM).mono ?_;rintro e w' ⟨rfl,rfl⟩)
   have hVl:Hid ((U.setCell ⟨wb,7,none⟩ (.int .i64 (last - j - 1))).ownsRow 0 100 5 (.slice la j lc) j (listCells l)):=by
    refine ownsRow_of_block (uh HL) fun k hk=>Below.heap_setCell _ _ _ _ ?_
    rintro rfl
    have h1:=uh HT _ hk
    have h2:=(uh HPI).law.tag
    omega
   have HV:=hide ((uh HPI).law.marked (last - j - 1))
   have HKV:Hid (Keeps (fun k=>laws ρ1 k∨(Value.slice la j lc).ownBlock=some k) U (U.setCell ⟨wb,7,none⟩ (.int .i64 (last - j - 1)))):=(Keeps.refl _ U).setCell (Or.inl (Or.inl (by unfold laws;rw [(uh HPI).law.tag];omega))) _
   have hVs:(U.setCell ⟨wb,7,none⟩ (.int .i64 (last - j - 1))).heap.size=U.heap.size:=by simp [World.setCell]
   clear HM c7 f7
   generalize U.setCell ⟨wb,7,none⟩ (.int .i64 (last - j - 1))=V at *
   generalize hmm:last - (j:Int) - 1=m at *
   have HmE:=hide hmm.symm
   go_loopw [6] (fun i wr=>∃q:Nat,q≤j∧i=.int .i64 q∧wr.ownsRow 0 100 5 (.slice la j lc) j (repP patS m q ++ (listCells l).drop (q*5))∧Keeps (fun k=>(Value.slice la j lc).ownBlock=some k) V wr) (fun i _=>j - (intOf i).toNat)
   case atStart=>exact ⟨0,Nat.zero_le _,rfl,by simpa [repP] using uh hVl,Keeps.refl _ _⟩
   case round =>
    obtain ⟨q,hq,rfl,hown,hkk⟩:=hrel
    by_cases hlt:q<j
    ·obtain ⟨lb,cp,cur,hv1,_,hcb,_,_,hcs,_⟩:=ownsRow_shape hown (by omega)
     injection hv1 with e1 e2 e3
     subst e1
     have fz:=fun i=>frozen_of hcb i
     have c0:∃u,wr.cell? ⟨lb,q*5,none⟩=some u:=⟨_,(cell_of hcb (q*5)).trans (Array.getElem?_eq_getElem (by omega))⟩
     have c1:∃u,wr.cell? ⟨lb,q*5+1,none⟩=some u:=⟨_,(cell_of hcb (q*5+1)).trans (Array.getElem?_eq_getElem (by omega))⟩
     have c2:∃u,wr.cell? ⟨lb,q*5+2,none⟩=some u:=⟨_,(cell_of hcb (q*5+2)).trans (Array.getElem?_eq_getElem (by omega))⟩
     have c3:∃u,wr.cell? ⟨lb,q*5+3,none⟩=some u:=⟨_,(cell_of hcb (q*5+3)).trans (Array.getElem?_eq_getElem (by omega))⟩
     have c4:∃u,wr.cell? ⟨lb,q*5+4,none⟩=some u:=⟨_,(cell_of hcb (q*5+4)).trans (Array.getElem?_eq_getElem (by omega))⟩
     obtain ⟨u0,c0⟩:=c0
     obtain ⟨u1,c1⟩:=c1
     obtain ⟨u2,c2⟩:=c2
     obtain ⟨u3,c3⟩:=c3
     obtain ⟨u4,c4⟩:=c4
     have HS:=hide (row_put5 hown q (.int .i64 m) (.int .i64 0) (.bool false) (.slice none 0 0) (.int .i64 0))
     have HKK:=hide hkk
     have hxl:q*5+5≤(listCells l).length:=by rw [listCells_len,←uh HNL];omega
     have HXL:=hide hxl
     clear hown hkk hcb hcs hxl
     go_wp2
     go_roundw
     case rel =>
      refine ⟨q+1,by omega,by go_num,?_,(((((uh HKK).setCell (p:=⟨lb,q*5,none⟩) (Or.inl rfl) _).setCell (p:=⟨lb,q*5+1,none⟩) (Or.inl rfl) _).setCell (p:=⟨lb,q*5+2,none⟩) (Or.inl rfl) _).setCell (p:=⟨lb,q*5+3,none⟩) (Or.inl rfl) _).setCell (p:=⟨lb,q*5+4,none⟩) (Or.inl rfl) _⟩
      rw [←repS_set (uh HXL)];exact uh HS
     case measure=>simp [intOf];omega
    ·have HR:Hid (wr.ownsRow 0 100 5 (.slice la j lc) j (repP patS m j)):=by
      have e:q=j:=by omega
      subst e
      rw [List.drop_eq_nil_of_le (by rw [listCells_len,←uh HNL];omega),List.append_nil] at hown
      exact hown
     have HKK:=hide hkk
     clear hown hkk
     have HI0:=hide (KInvS.start (uh HV) hVs (uh HPI).fits (uh HT) (uh HKV) (uh HKK) (uh HR) (uh hll))
     clear HV HKV HKK HR hVl HL HT
     generalize j=n at *
     go_wp2
     go_loopw [1,7] (fun lq i wr=>∃(j:Nat) (ρ2:Nat→Nat) (sv1 m21:Value) (Lt:List Ke) (x:Ke),j≤4∧i=.int .i64 j∧lq=.slice x.a x.n x.cap∧KInvS U ρ1 wb sdv m iv1 hv m11 m3 Ls (Li ++ Ln) Lh (.slice la n lc) n j ρ2 sv1 m21 Lt x wr) (fun _ i _=>4 - (intOf i).toNat)
     case atStart=>exact ⟨0,_,_,_,_,_,by omega,rfl,rfl,uh HI0⟩
     case round =>
      obtain ⟨j,ρ2,sv1,m21,Lt,x,hj,rfl,rfl,hK⟩:=hrel
      by_cases hlt4:j<4
      ·obtain ⟨ia,ic,rfl⟩:=ownsRow_len hK.law.kS.row
       obtain ⟨ma,mc,rfl⟩:=ownsRow_len hK.law.kS.ms
       have hNl:(Ls ++ Lt).length≤40000010:=by rw [List.length_append,hK.len];omega
       have hxn:x.n≤1010:=by have:=hK.xn;omega
       have q2:wr.cell? ⟨wb,1,none⟩=some (.slice ia (Ls ++ Lt).length ic):=cell_of hK.law.blk 1
       have q4:wr.cell? ⟨wb,5,none⟩=some (.slice ma (Ls ++ Lt).length mc):=cell_of hK.law.blk 5
       have p2:=frozen_of hK.law.blk 1
       have p4:=frozen_of hK.law.blk 5
       have hwr:=lt_of_heap hK.law.blk
       have n1:Hid ((Value.slice ia (Ls ++ Lt).length ic).ownBlock≠some wb):=fun e=>by have:=hK.law.tS wb e;have:=hK.law.tag;omega
       have n2:Hid ((Value.slice ma (Ls ++ Lt).length mc).ownBlock≠some wb):=fun e=>by have:=hK.law.t2 wb e;have:=hK.law.tag;omega
       have HK:=hide hK
       clear hK HI0
       generalize hNN:(Ls ++ Lt).length=N at *
       have HNN:=hide hNN
       have HB:=hide (uh HK).law.blk
       clear hNN
       go_wp2_with (at_builtin;go_must (refine wpList_append_stands _ rfl _ _ _ rfl 0 98 i5 _ 1 24 Tryz.underlying31 hi5 y50 y51 y52 rfl (by omega) _ N ((Ls ++ Lt).map entV) rfl ?own ⟨wr.heap.size,0,none⟩ 1 1 [.slice x.a x.n x.cap] rfl rfl ?news ?one (by omega) ?h63 ?bytes (Nat.zero_le _) ?next))
       case own=>have:=(uh HK).law.kS.row.alloc (.cells #[.slice x.a x.n x.cap] 98);rw [uh HNN] at this;exact this
       case news=>exact World.news_of_block (cs:=#[.slice x.a x.n x.cap]) (heap_alloc_new wr _)
       case one=>simp [Value.oneCell']
       case h63=>unfold maxLen;omega
       case bytes=>omega
       case next =>
        intro g1 c1 B1 hown1 hgrow1 hat1 hlt1 hst1
        have F1:=field_append (f:=1) (v:=.slice ia N ic) (uh HB) (uh n1) hown1 hgrow1 (by simpa using hat1)
        have z2:B1.cell? ⟨wb,1,none⟩=some (.slice ia N ic):=(hgrow1.cell_far _ (by simp;omega) (fun e=>uh n1 e.symm)).trans ((World.cell?_of_block (w:=wr) (Below.heap_alloc _ _ _ hwr)).trans q2)
        have z4:B1.cell? ⟨wb,5,none⟩=some (.slice ma N mc):=(hgrow1.cell_far _ (by simp;omega) (fun e=>uh n1 e.symm)).trans ((World.cell?_of_block (w:=wr) (Below.heap_alloc _ _ _ hwr)).trans q4)
        have zf2:B1.frozen? ⟨wb,1,none⟩=false:=(hgrow1.frozen_far _ (by simp;omega) (fun e=>uh n1 e.symm)).trans ((World.frozen?_of_block (w:=wr) (Below.heap_alloc _ _ _ hwr)).trans p2)
        have zf4:B1.frozen? ⟨wb,5,none⟩=false:=(hgrow1.frozen_far _ (by simp;omega) (fun e=>uh n1 e.symm)).trans ((World.frozen?_of_block (w:=wr) (Below.heap_alloc _ _ _ hwr)).trans p4)
        have HF1:=hide F1
        have zB1:=hgrow1.size
        simp at zB1
        have sC1:(B1.setCell ⟨wb,1,none⟩ (.slice (some ⟨g1,0,none⟩) (N+1) c1)).heap.size=B1.heap.size:=by simp [World.setCell]
        have HO2:Hid ((B1.setCell ⟨wb,1,none⟩ (.slice (some ⟨g1,0,none⟩) (N+1) c1)).ownsRow 0 3 1 (.slice ma N mc) N ((Ls ++ Lt).map entM)):=by
         have:=(uh HK).law.kS.ms
         rw [uh HNN] at this
         refine ownsRow_of_block this fun k hk=>F1.2.2.1.block k (this.lt k hk).2 ?_
         rintro (e | e)
         ·exact uh n2 (e ▸ hk)
         ·have a:=(uh HK).law.tS k e;have b:=(uh HK).law.t2 k hk;omega
        have HO3:Hid ((B1.setCell ⟨wb,1,none⟩ (.slice (some ⟨g1,0,none⟩) (N+1) c1)).ownsRow 0 100 5 (entV x) x.n (repP patS x.m x.n)):=by
         refine ownsRow_of_block (uh HK).row fun k hk=>F1.2.2.1.block k ((uh HK).row.lt k hk).2 ?_
         have c:=(uh HK).xt k hk
         rintro (e | e)
         ·have:=(uh HK).law.tag;rw [e] at c;omega
         ·have a:=(uh HK).law.tS k e;omega
        have HW2:Hid (((B1.setCell ⟨wb,1,none⟩ (.slice (some ⟨g1,0,none⟩) (N+1) c1)).alloc (.cells #[.int .i64 m] 3)).heap[B1.heap.size]?=some (.cells #[.int .i64 m] 3 (0,0))):=by
         have:=heap_alloc_new (B1.setCell ⟨wb,1,none⟩ (.slice (some ⟨g1,0,none⟩) (N+1) c1)) (.cells #[.int .i64 m] 3)
         rw [sC1] at this
         exact this
        clear F1 hown1 hgrow1 hat1 hst1 q2 q4 p2 p4
        go_wp2_with (at_builtin;go_must (refine wpList_append_stands _ rfl _ _ _ rfl 0 3 i3 _ 1 8 Tryz.underlying34 hi3 y30 y31 y32 rfl (by omega) _ N ((Ls ++ Lt).map entM) rfl ?own2 ⟨B1.heap.size,0,none⟩ 1 1 [.int .i64 m] rfl rfl ?news2 ?one2 (by omega) ?h632 ?bytes2 (Nat.zero_le _) ?next2))
        case own2=>exact (uh HO2).alloc _
        case news2=>exact World.news_of_block (cs:=#[.int .i64 m]) (uh HW2)
        case one2=>simp [Value.oneCell']
        case h632=>unfold maxLen;omega
        case bytes2=>omega
        case next2 =>
         intro g2 c2 B2 hown2 hgrow2 hat2 hlt2 hst2
         have F2:=field_append (W:=(B1.setCell ⟨wb,1,none⟩ (.slice (some ⟨g1,0,none⟩) (N+1) c1))) (f:=5) (v:=.slice ma N mc) (uh HF1).1 (uh n2) hown2 hgrow2 (by simpa [World.setCell] using hat2)
         have w1:=lt_of_heap (uh HF1).1
         have y4:B2.cell? ⟨wb,5,none⟩=some (.slice ma N mc):=(hgrow2.cell_far _ (by simp [World.setCell];omega) (fun e=>uh n2 e.symm)).trans ((World.cell?_of_block (w:=(B1.setCell ⟨wb,1,none⟩ (.slice (some ⟨g1,0,none⟩) (N+1) c1))) (Below.heap_alloc _ _ _ w1)).trans (cell_of (uh HF1).1 5))
         have yf4:B2.frozen? ⟨wb,5,none⟩=false:=(hgrow2.frozen_far _ (by simp [World.setCell];omega) (fun e=>uh n2 e.symm)).trans ((World.frozen?_of_block (w:=(B1.setCell ⟨wb,1,none⟩ (.slice (some ⟨g1,0,none⟩) (N+1) c1))) (Below.heap_alloc _ _ _ w1)).trans (frozen_of (uh HF1).1 5))
         have HF2:=hide F2
         have sC2:(B2.setCell ⟨wb,5,none⟩ (.slice (some ⟨g2,0,none⟩) (N+1) c2)).heap.size=B2.heap.size:=by simp [World.setCell]
         have HO4:Hid ((B2.setCell ⟨wb,5,none⟩ (.slice (some ⟨g2,0,none⟩) (N+1) c2)).ownsRow 0 100 5 (entV x) x.n (repP patS x.m x.n)):=by
          refine ownsRow_of_block (uh HO3) fun k hk=>F2.2.2.1.block k ((uh HO3).lt k hk).2 ?_
          have c:=(uh HK).xt k hk
          rintro (e | e)
          ·have:=(uh HK).law.tag;rw [e] at c;omega
          ·have a:=(uh HK).law.t2 k e;omega
         have HW3:Hid (((B2.setCell ⟨wb,5,none⟩ (.slice (some ⟨g2,0,none⟩) (N+1) c2)).alloc (.cells #[.int .i64 m,.int .i64 0,.bool false,.slice none 0 0,.int .i64 0] 100)).heap[B2.heap.size]?=some (.cells #[.int .i64 m,.int .i64 0,.bool false,.slice none 0 0,.int .i64 0] 100 (0,0))):=by
          have:=heap_alloc_new (B2.setCell ⟨wb,5,none⟩ (.slice (some ⟨g2,0,none⟩) (N+1) c2)) (.cells #[.int .i64 m,.int .i64 0,.bool false,.slice none 0 0,.int .i64 0] 100)
          rw [sC2] at this
          exact this
         clear F2 hown2 hgrow2 hat2 hst2 z2 z4 zf2 zf4
         go_wp2_with (at_builtin;go_must (refine wpList_append_stands _ rfl _ _ _ rfl 0 100 i8 _ 5 56 Tryz.underlying98 hi8 y80 y81 y82 rfl (by omega) _ x.n (repP patS x.m x.n) rfl ?own3 ⟨B2.heap.size,0,none⟩ 1 1 [.int .i64 m,.int .i64 0,.bool false,.slice none 0 0,.int .i64 0] rfl rfl ?news3 ?one3 (by omega) ?h633 ?bytes3 (Nat.zero_le _) ?next3))
         case own3=>exact (uh HO4).alloc _
         case news3=>exact World.news_of_block (cs:=#[.int .i64 m,.int .i64 0,.bool false,.slice none 0 0,.int .i64 0]) (uh HW3)
         case one3=>simp [Value.oneCell']
         case h633=>unfold maxLen;omega
         case bytes3=>omega
         case next3 =>
          intro g3 c3 D hown3 hgrow3 hat3 hlt3 hst3
          have L3:=list_append hgrow3 hst3 (by simpa [World.setCell] using hat3)
          have hxm:=(uh HK).xm
          obtain ⟨ρ2,hstep⟩:=(uh HK).step (by omega) (by rw [uh HNN];omega) (N:=N+1) (by rw [uh HNN]) (uh HF1).1 (by rw [List.map_append,List.append_assoc];exact (uh HF1).2.1) (uh HF1).2.2.1 (uh HF1).2.2.2.1 (uh HF2).1 (by have:=(uh HF2).2.1;rw [←hxm] at this;rw [List.map_append,List.append_assoc];exact this) (uh HF2).2.2.1 (uh HF2).2.2.2.1 (by rw [←hxm] at hown3;exact hown3) L3.1 L3.2.1 L3.2.2
          have HStep:=hide hstep
          clear hstep L3 hown3 hgrow3 hat3 hst3 hxm
          go_wp2
          go_roundw
          case rel=>exact ⟨j+1,ρ2,_,_,_,⟨some ⟨g3,0,none⟩,x.n+1,c3,x.m⟩,by omega,by go_num,rfl,uh HStep⟩
          case measure=>simp [intOf];omega
      ·have HK:=hide hK
       have e4:Hid (j=4):=by (unfold Hid;omega)
       clear hK
       go_wp2
       have hK:=uh HK
       have e4':=uh e4
       subst e4'
       have hp:=PInv.done (uh HNL) (uh HPI) (uh HO) (by rw [uh HmE] at hK;exact hK)
       exact bodyPost_ret (v:=.tuple #[]) (by simp [results,Tryz.results34,go_sem]) rfl hp
end Go.Proofs.YtpnkmnmchdabkaaGreat
