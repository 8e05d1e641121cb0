import Derived.Test.YtpnkmnmchdabkaaGreatLawFf
namespace Go.Proofs.YtpnkmnmchdabkaaGreat
open Go.RowKit
theorem Side.retag {w:World} {ρ ρ':Nat→Nat} {sb gb yb:Nat} {C:Cfg} {now:Rest} {time:Int} {l:List Sh} {rs:List Rf} {P:List Pt} {wv:Wks} {fv:Value} (h:Side w ρ sb gb yb C now time l rs P wv fv) (he:∀k,ρ k≠0→ρ k<300→ρ' k=ρ k):Side w ρ' sb gb yb C now time l rs P wv fv:=by
 have t:∀{k n:Nat},ρ k=n→n≠0→n<300→ρ' k=n:=fun a b c=>(he _ (by omega) (by omega)).trans a
 obtain ⟨sv,m,hm,G⟩:=h.grp
 obtain ⟨sv2,lv,R⟩:=h.ref
 have hml:m.length≤16:=by have:=h.inv.len;rw [←hm] at this;simpa using this
 have hi:∀{i:Nat} {s:Cs},m[i]?=some s→i<16:=fun hs=>by have:=(List.getElem?_eq_some_iff.1 hs).1;omega
 have hw:∀{i:Nat} {y:Wk},wv.l[i]?=some y→i<4:=fun hs=>by have:=(List.getElem?_eq_some_iff.1 hs).1;have:=R.wk.four;omega
 exact ⟨h.blk,t h.tag (by omega) (by omega),⟨sv,m,hm,⟨G.blk,t G.tag (by omega) (by omega),⟨G.log.row,fun k hk=>t (G.log.rowT k hk) (by omega) (by omega),G.log.par,fun i s hs k hk=>t (G.log.parT i s hs k hk) (by omega) (by have:=hi hs;omega),G.log.rcv,fun i s hs k hk=>t (G.log.rcT i s hs k hk) (by omega) (by have:=hi hs;omega)⟩,G.wk,fun k hk=>t (G.wkT k hk) (by omega) (by omega),G.dnL,G.lsL⟩⟩,⟨sv2,lv,⟨R.blk,t R.tag (by omega) (by omega),R.row,fun k hk=>t (R.rowT k hk) (by omega) (by omega),R.log,fun k hk=>t (R.logT k hk) (by omega) (by omega),R.par,fun i r hr k hk=>t (R.parT i r hr k hk) (by omega) (by omega),⟨R.wk.row,fun k hk=>t (R.wk.rowT k hk) (by omega) (by omega),R.wk.hd,fun i y hy k hk=>t (R.wk.hdT i y hy k hk) (by omega) (by have:=hw hy;omega),R.wk.nt,fun i y hy k hk=>t (R.wk.ntT i y hy k hk) (by omega) (by have:=hw hy;omega),R.wk.fold,fun k hk=>t (R.wk.foldT k hk) (by omega) (by omega),R.wk.four⟩⟩⟩,h.same,h.inv,h.pin⟩
def Oth2 (K:Nat→Prop) (sb gb yb:Nat) (C:Cfg) (N:Nat) (ρ:Nat→Nat) (w:World):Prop :=
 ∃now time l rs P wv fv,Side w ρ sb gb yb C now time l rs P wv fv∧Fits w ρ∧(∀k,ρ k<300)∧(∀k,K k→ρ k=0)∧P.length≤N∧Rel C now time l P rs wv (N:Int)
def Two (K:Nat→Prop) (wb:Nat) (sdv:Value) (sb gb yb:Nat) (C:Cfg) (sb' gb' yb':Nat) (C':Cfg) (N:Nat) (w:World):Prop :=
 ∃ρ,Oth2 K sb' gb' yb' C' N ρ w∧St w (fun k=>K k∨ρ k≠0) wb sb gb yb C sdv N w
theorem St.keeps {w0 w:World} {K:Nat→Prop} {wb sb gb yb:Nat} {C:Cfg} {sdv:Value} {N:Nat} (h:St w0 K wb sb gb yb C sdv N w):Keeps (fun k=>¬K k) w0 w∧∀k,K k→k<w0.heap.size:=by
 obtain ⟨_,_,_,_,_,_,_,_,_,_,_,_,_,_,_,_,_,_,_,_,_,_,c1,c2,_⟩:=h
 exact ⟨c1,c2⟩
theorem St.rebase {w0 w:World} {K:Nat→Prop} {wb sb gb yb:Nat} {C:Cfg} {sdv:Value} {N:Nat} (h:St w0 K wb sb gb yb C sdv N w):St w K wb sb gb yb C sdv N w:=by
 have hl:=h.lt.2
 obtain ⟨ρ,now,time,l,rs,P,wv,fv,last,sv,iv,hv,m1,m2,m3,Ls,Li,Lh,hL,hS,hf,hB0,hBb,hBs,r⟩:=h
 exact ⟨ρ,now,time,l,rs,P,wv,fv,last,sv,iv,hv,m1,m2,m3,Ls,Li,Lh,hL,hS,hf,hB0,Keeps.refl _ w,hl,r⟩
theorem Two.step {w w':World} {K:Nat→Prop} {wb:Nat} {sdv:Value} {sb gb yb:Nat} {C:Cfg} {sb' gb' yb':Nat} {C':Cfg} {N M:Nat} {ρ:Nat→Nat} (ho:Oth2 K sb' gb' yb' C' N ρ w) (hNM:N≤M) (h:St w (fun k=>K k∨ρ k≠0) wb sb gb yb C sdv M w'):Two K wb sdv sb gb yb C sb' gb' yb' C' M w'∧Keeps (fun k=>¬K k) w w':=by
 obtain ⟨hk,hb⟩:=h.keeps
 obtain ⟨now,time,l,rs,P,wv,fv,hS,hf,hl,hK,hP,hR⟩:=ho
 refine ⟨⟨ρ,⟨now,time,l,rs,P,wv,fv,hS.keeps hk (fun k hs=>Or.inl (Classical.byContradiction fun hz=>hs (Or.inr hz))) (fun _ _=>rfl),hf.below hk.size,hl,hK,by omega,hR.mono (by omega)⟩,h.rebase⟩,hk.mono fun k _ hs hK=>hs (Or.inl hK)⟩
theorem Two.call {w:World} {K:Nat→Prop} {wb:Nat} {sdv:Value} {sb gb yb:Nat} {C:Cfg} {sb' gb' yb':Nat} {C':Cfg} {N M:Nat} (h:Two K wb sdv sb gb yb C sb' gb' yb' C' N w) (hNM:N≤M) {F:Nat} {args:Array Value} {v:Value}
 (hc:∀K',(∀k,K k→K' k)→St w K' wb sb gb yb C sdv N w→Calls Tryz.prog F args w fun e w'=>e=.returned v∧St w K' wb sb gb yb C sdv M w'):Calls Tryz.prog F args w fun e w'=>e=.returned v∧Two K wb sdv sb gb yb C sb' gb' yb' C' M w'∧Keeps (fun k=>¬K k) w w':=by
 obtain ⟨ρ,ho,hs⟩:=h
 exact (hc _ (fun k hk=>Or.inl hk) hs).mono fun e w' q=>⟨q.1,Two.step ho hNM q.2⟩
theorem Two.below {w W:World} {K:Nat→Prop} {wb:Nat} {sdv:Value} {sb gb yb:Nat} {C:Cfg} {sb' gb' yb':Nat} {C':Cfg} {N:Nat} (h:Two K wb sdv sb gb yb C sb' gb' yb' C' N w) (hb:Below w.heap.size w W):Two K wb sdv sb gb yb C sb' gb' yb' C' N W:=by
 obtain ⟨ρ,ho,hs⟩:=h
 exact (Two.step ho (Nat.le_refl _) (hs.below hb)).1
theorem Two.mono {w:World} {K:Nat→Prop} {wb:Nat} {sdv:Value} {sb gb yb:Nat} {C:Cfg} {sb' gb' yb':Nat} {C':Cfg} {N M:Nat} (h:Two K wb sdv sb gb yb C sb' gb' yb' C' N w) (hM:N≤M):Two K wb sdv sb gb yb C sb' gb' yb' C' M w:=by
 obtain ⟨ρ,ho,hs⟩:=h
 exact (Two.step ho hM (hs.mono hM)).1
theorem Two.swap {w:World} {K:Nat→Prop} {wb:Nat} {sdv:Value} {sb gb yb:Nat} {C:Cfg} {sb' gb' yb':Nat} {C':Cfg} {N:Nat} (h:Two K wb sdv sb gb yb C sb' gb' yb' C' N w):Two K wb sdv sb' gb' yb' C' sb gb yb C N w:=by
 obtain ⟨ρB,⟨nowB,timeB,lB,rsB,PB,wvB,fvB,hSB,hfB,hlB,hKB,hPB,hRB⟩,hs⟩:=h
 have hlt:=hs.lt.2
 obtain ⟨ρA,now,time,l,rs,P,wv,fv,last,sv,iv,hv,m1,m2,m3,Ls,Li,Lh,hL,hS,hf,hB0,hBb,hBs,hn1,hn2,hn3,hn4,hn5,hn6,hn7⟩:=hs
 have dis:∀k,ρB k≠0→ρA k=0:=fun k hk=>hB0 k (Or.inr hk)
 refine ⟨fun k=>if 300≤ρA k then 0 else ρA k,⟨now,time,l,rs,P,wv,fv,hS.retag (fun k _ h2=>if_neg (by omega)),fun k hk=>?_,fun k=>?_,fun k hk=>?_,hn1,hn6⟩,⟨fun k=>if 300≤ρA k then ρA k else ρB k,nowB,timeB,lB,rsB,PB,wvB,fvB,last,sv,iv,hv,m1,m2,m3,Ls,Li,Lh,hL.keeps (Keeps.refl (fun _=>False) w) (fun _ hk=>hk.elim) (fun k _ hk=>if_pos hk),hSB.retag (fun k h1 _=>if_neg (by have:=dis k h1;omega)),fun k hk=>?_,fun k hk=>?_,Keeps.refl _ w,fun k hk=>?_,hPB,hn2,hn3,hn4,hn5,hRB,hn7⟩⟩
 ·show (if 300≤ρA k then 0 else ρA k)=0
  rw [hf k hk];rfl
 ·show (if 300≤ρA k then 0 else ρA k)<300
  split <;> omega
 ·show (if 300≤ρA k then 0 else ρA k)=0
  rw [hB0 k (Or.inl hk)];rfl
 ·show (if 300≤ρA k then ρA k else ρB k)=0
  rw [hf k hk,hfB k hk];rfl
 ·show (if 300≤ρA k then ρA k else ρB k)=0
  rcases hk with hk | hk
  ·rw [hB0 k (Or.inl hk),hKB k hk];rfl
  ·have h1:¬300≤ρA k:=fun h=>hk (if_pos h)
   have hk2:¬(if 300≤ρA k then 0 else ρA k)=0:=hk
   rw [if_neg h1] at hk2 ⊢
   exact Classical.byContradiction fun hz=>hk2 (dis k hz)
 ·rcases hk with hk | hk
  ·exact hlt k (Or.inl hk)
  ·exact Classical.byContradiction fun hz=>hk (by show (if 300≤ρA k then 0 else ρA k)=0;rw [hf k (by omega)];rfl)
theorem Two.cell0 {w:World} {K:Nat→Prop} {wb:Nat} {sdv:Value} {sb gb yb:Nat} {C:Cfg} {sb' gb' yb':Nat} {C':Cfg} {N:Nat} (h:Two K wb sdv sb gb yb C sb' gb' yb' C' N w):w.cell? ⟨wb,0,none⟩=some sdv:=by
 obtain ⟨ρ,_,hs⟩:=h
 exact hs.cell0
theorem Two.lt {w:World} {K:Nat→Prop} {wb:Nat} {sdv:Value} {sb gb yb:Nat} {C:Cfg} {sb' gb' yb':Nat} {C':Cfg} {N:Nat} (h:Two K wb sdv sb gb yb C sb' gb' yb' C' N w):wb<w.heap.size∧∀k,K k→k<w.heap.size:=by
 obtain ⟨ρ,_,hs⟩:=h
 exact ⟨hs.lt.1,fun k hk=>hs.lt.2 k (Or.inl hk)⟩
structure GI where
 C:Cfg
 gb:Nat
 g:Nat
 mb:Nat
 kn:Nat
 yb:Nat
 g2:Nat
 vb:Nat
 vc:Nat
 sb:Nat
def GI.now (G:GI):Rest:=rest0 (.slice (some ⟨G.mb,0,none⟩) G.kn G.kn) G.kn (memN G.kn)
def GI.wv (G:GI):Wks:=⟨.slice (some ⟨G.vb,0,none⟩) G.kn G.vc,List.replicate G.kn ⟨[],.slice none 0 0,[],.slice none 0 0⟩,[]⟩
structure GIat (W:World) (lo:Nat) (G:GI):Prop where
 b1:W.heap[G.gb]?=some (.cells (grpArr G.C (.slice (some ⟨G.g,0,none⟩) 1 1) G.now) 71 (0,0))
 b2:W.heap[G.g]?=some (.cells #[.int .i64 0,.int .i64 256,.bool true,.slice none 0 0,.slice none 0 0] 113 (0,0))
 b3:W.ownsRow 0 162 128 (.slice (some ⟨G.mb,0,none⟩) G.kn G.kn) G.kn (memN G.kn)
 b4:W.heap[G.yb]?=some (.cells (refArr G.C 0 (.slice (some ⟨G.g2,0,none⟩) 1 1) (.slice (some ⟨G.vb,0,none⟩) G.kn G.vc) (.slice none 0 0) (.slice none 0 0)) 80 (0,0))
 b5:W.heap[G.g2]?=some (.cells (rfCells rfirst).toArray 73 (0,0))
 b6:W.heap[G.sb]?=some (.cells #[.pointer (some ⟨G.gb,0,none⟩),.pointer (some ⟨G.yb,0,none⟩)] 46 (0,0))
 b8:W.ownsRow 0 84 2 (.slice (some ⟨G.vb,0,none⟩) G.kn G.vc) G.kn (rowWk G.kn)
 hk:(G.kn:Int)=G.C.a∧1≤G.kn∧G.kn≤4
 hv:validB G.C.a G.C.l G.C.b G.C.n G.C.s G.C.t=true
 lw:lo<G.gb∧lo<G.g∧lo<G.mb
 ne:G.g≠G.gb∧G.mb≠G.gb∧G.mb≠G.g
 up:G.gb<G.g2∧G.g<G.g2∧G.mb<G.g2∧G.g2<G.yb∧G.yb<G.vb∧G.vb<G.sb
theorem GIat.keep {W W':World} {lo:Nat} {G:GI} (h:GIat W lo G) (hk:∀k,lo<k→k≤G.sb→W'.heap[k]?=W.heap[k]?):GIat W' lo G:=by
 obtain ⟨b1,b2,b3,b4,b5,b6,b8,a1,a2,lw,a4,up⟩:=h
 refine ⟨?_,?_,?_,?_,?_,?_,?_,a1,a2,lw,a4,up⟩
 ·rw [hk _ (by omega) (by omega)];exact b1
 ·rw [hk _ (by omega) (by omega)];exact b2
 ·exact ownsRow_of_block b3 fun k hq=>by simp [Value.ownBlock] at hq;subst hq;exact hk _ (by omega) (by omega)
 ·rw [hk _ (by omega) (by omega)];exact b4
 ·rw [hk _ (by omega) (by omega)];exact b5
 ·rw [hk _ (by omega) (by omega)];exact b6
 ·exact ownsRow_of_block b8 fun k hq=>by simp [Value.ownBlock] at hq;subst hq;exact hk _ (by omega) (by omega)
def GI.tag (G:GI) (k:Nat):Nat :=
 if k=G.gb then 1 else if k=G.g then 2 else if k=G.mb then 40 else if k=G.yb then 200 else if k=G.g2 then 201 else if k=G.vb then 204 else if k=G.sb then 150 else 0
theorem GIat.zero {W:World} {lo:Nat} {G:GI} (h:GIat W lo G) {k:Nat} (hk:k≤lo∨G.sb<k):G.tag k=0:=by
 have a:=h.lw
 have b:=h.up
 unfold GI.tag
 rw [if_neg (by omega),if_neg (by omega),if_neg (by omega),if_neg (by omega),if_neg (by omega),if_neg (by omega),if_neg (by omega)]
theorem GI.tag_lt (G:GI) (k:Nat):G.tag k<300:=by
 unfold GI.tag
 repeat' split
 all_goals omega
theorem GIat.side {W:World} {lo:Nat} {G:GI} (h:GIat W lo G) {ρ:Nat→Nat} (hρ:∀k,lo<k→k≤G.sb→ρ k=G.tag k):Side W ρ G.sb G.gb G.yb G.C G.now 0 [first] [rfirst] [] G.wv (.slice none 0 0):=by
 obtain ⟨b1,b2,b3,b4,b5,b6,b8,a1,a2,lw,ne,up⟩:=h
 have t1:ρ G.gb=1:=by rw [hρ _ (by omega) (by omega)];unfold GI.tag;rw [if_pos rfl]
 have t2:ρ G.g=2:=by rw [hρ _ (by omega) (by omega)];unfold GI.tag;rw [if_neg ne.1,if_pos rfl]
 have t3:ρ G.mb=40:=by rw [hρ _ (by omega) (by omega)];unfold GI.tag;rw [if_neg ne.2.1,if_neg ne.2.2,if_pos rfl]
 have t4:ρ G.yb=200:=by rw [hρ _ (by omega) (by omega)];unfold GI.tag;rw [if_neg (by omega),if_neg (by omega),if_neg (by omega),if_pos rfl]
 have t5:ρ G.g2=201:=by rw [hρ _ (by omega) (by omega)];unfold GI.tag;rw [if_neg (by omega),if_neg (by omega),if_neg (by omega),if_neg (by omega),if_pos rfl]
 have t7:ρ G.vb=204:=by rw [hρ _ (by omega) (by omega)];unfold GI.tag;rw [if_neg (by omega),if_neg (by omega),if_neg (by omega),if_neg (by omega),if_neg (by omega),if_pos rfl]
 have t6:ρ G.sb=150:=by rw [hρ _ (by omega) (by omega)];unfold GI.tag;rw [if_neg (by omega),if_neg (by omega),if_neg (by omega),if_neg (by omega),if_neg (by omega),if_neg (by omega),if_pos rfl]
 have hmb:∀k,(Value.slice (some ⟨G.mb,0,none⟩) G.kn G.kn).ownBlock=some k→k=G.mb:=fun k hk=>by simp [Value.ownBlock] at hk;exact hk.symm
 have one:∀(i:Nat) (s:Cs),[(⟨first,.slice none 0 0,.slice none 0 0⟩:Cs)][i]?=some s→i=0∧s=⟨first,.slice none 0 0,.slice none 0 0⟩:=by
  intro i s h
  match i,h with
  | 0,h=>simp at h;exact ⟨rfl,h.symm⟩
  | i+1,h=>simp at h
 have oner:∀(i:Nat) (r:Rf),[rfirst][i]?=some r→r=rfirst:=by
  intro i r h
  match i,h with
  | 0,h=>simp at h;exact h.symm
  | i+1,h=>simp at h
 refine ⟨b6,t6,⟨_,[⟨first,.slice none 0 0,.slice none 0 0⟩],rfl,⟨b1,t1,?_,b3,fun k hk=>by rw [hmb k hk];exact t3,by simp [GI.now,rest0],by simp [GI.now,rest0,noneL]⟩⟩,⟨_,_,⟨b4,t4,?_,?_,World.ownsRow_nil _ _ _ _,?_,?_,?_,?_⟩⟩,?_,inv_first,fun e he=>(by cases he)⟩
 ·refine ⟨⟨rfl,.inr ⟨G.g,1,_,rfl,Nat.zero_le _,b2,Nat.le_refl _,by unfold maxLen;omega,rfl,rfl⟩⟩,?_,?_,?_,?_,?_⟩
  ·intro k hk
   simp [Value.ownBlock] at hk
   subst hk
   exact t2
  ·intro i s hi;obtain ⟨_,rfl⟩:=one i s hi;exact World.ownsRow_nil _ _ _ _
  ·intro i s hi k hk;obtain ⟨_,rfl⟩:=one i s hi;simp [Value.ownBlock] at hk
  ·intro i s hi;obtain ⟨_,rfl⟩:=one i s hi;exact World.ownsRow_nil _ _ _ _
  ·intro i s hi k hk;obtain ⟨_,rfl⟩:=one i s hi;simp [Value.ownBlock] at hk
 ·exact ⟨rfl,.inr ⟨G.g2,1,_,rfl,Nat.zero_le _,b5,Nat.le_refl _,by unfold maxLen;omega,rfl,rfl⟩⟩
 ·intro k hk
  simp [Value.ownBlock] at hk
  subst hk
  exact t5
 ·intro k hk;simp [Value.ownBlock] at hk
 ·intro i r hi;rw [oner i r hi];exact World.ownsRow_nil _ _ _ _
 ·intro i r hi k hk;rw [oner i r hi] at hk;simp [rfirst,Value.ownBlock] at hk
 ·have rep:∀(i:Nat) (y:Wk),(List.replicate G.kn (⟨[],.slice none 0 0,[],.slice none 0 0⟩:Wk))[i]?=some y→y=⟨[],.slice none 0 0,[],.slice none 0 0⟩:=by
   intro i y hy
   exact List.eq_of_mem_replicate (List.mem_of_getElem? hy)
  refine ⟨?_,?_,?_,?_,?_,?_,World.ownsRow_nil _ _ _ _,?_,by simpa [GI.wv] using a1.2.2⟩
  ·show W.ownsRow 0 _ 2 _ (List.replicate G.kn _).length (rowWks _)
   rw [List.length_replicate]
   show W.ownsRow 0 _ 2 _ G.kn (rowWks (List.replicate G.kn _))
   rw [rowWks_new];exact b8
  ·intro k hk;simp [GI.wv,Value.ownBlock] at hk;subst hk;exact t7
  ·intro i y hi;rw [rep i y hi];exact World.ownsRow_nil _ _ _ _
  ·intro i y hi k hk;rw [rep i y hi] at hk;simp [Value.ownBlock] at hk
  ·intro i y hi;rw [rep i y hi];exact World.ownsRow_nil _ _ _ _
  ·intro i y hi k hk;rw [rep i y hi] at hk;simp [Value.ownBlock] at hk
  ·intro k hk;simp [Value.ownBlock] at hk
 ·rfl
theorem Two.setup {W:World} {wb:Nat} {A B:GI} {sdv:Value} {K:Nat→Prop} (b0:W.heap[wb]?=some (.cells #[sdv,.slice none 0 0,.slice none 0 0,.slice none 0 0,.slice none 0 0,.slice none 0 0,.slice none 0 0,.int .i64 0] 36 (0,0)))
 (hA:GIat W wb A) (hB:GIat W A.sb B) (hz:B.sb<W.heap.size) (hK:∀k,K k→k<W.heap.size∧k≠wb∧A.tag k=0∧B.tag k=0) :
 Two K wb sdv A.sb A.gb A.yb A.C B.sb B.gb B.yb B.C 0 W:=by
 have ua:=hA.up
 have ub:=hB.up
 have la:=hA.lw
 have lb:=hB.lw
 have zb:∀k,B.tag k≠0→A.sb<k∧k≤B.sb:=fun k hk=>by
  refine Classical.byContradiction fun hn=>hk (hB.zero (by omega))
 refine ⟨B.tag,⟨B.now,0,[first],[rfirst],[],B.wv,.slice none 0 0,hB.side (fun _ _ _=>rfl),fun k hk=>hB.zero (by omega),B.tag_lt,fun k hk=>(hK k hk).2.2.2,by simp,rel_new B.C B.mb B.kn B.vb B.vc B.kn hB.hk.1 rfl hB.hk.2.1 hB.hk.2.2 hB.hv⟩,
  ⟨fun k=>if k=wb then 300 else A.tag k,A.now,0,[first],[rfirst],[],A.wv,.slice none 0 0,0,.slice none 0 0,.slice none 0 0,.slice none 0 0,.slice none 0 0,.slice none 0 0,.slice none 0 0,[],[],[],?_,hA.side (fun k h1 _=>if_neg (by omega)),fun k hk=>?_,fun k hk=>?_,Keeps.refl _ _,fun k hk=>?_,by simp,by simp,by simp,by simp,by omega,rel_new A.C A.mb A.kn A.vb A.vc A.kn hA.hk.1 rfl hA.hk.2.1 hA.hk.2.2 hA.hv,by simp⟩⟩
 ·refine ⟨b0,if_pos rfl,krows0 _ _ _ _,krows0 _ _ _ _,krows0 _ _ _ _,?_,?_,?_,?_,?_,?_,?_⟩
  all_goals first | (intro k hk;simp [Value.ownBlock] at hk;done) | (intro x hx;simp at hx)
 ·show (if k=wb then 300 else A.tag k)=0
  rw [if_neg (by omega)]
  exact hA.zero (by omega)
 ·show (if k=wb then 300 else A.tag k)=0
  rcases hk with hk | hk
  ·have:=hK k hk
   rw [if_neg this.2.1]
   exact this.2.2.1
  ·have:=zb k hk
   rw [if_neg (by omega)]
   exact hA.zero (by omega)
 ·rcases hk with hk | hk
  ·exact (hK k hk).1
  ·have:=zb k hk
   omega
end Go.Proofs.YtpnkmnmchdabkaaGreat
namespace Go.Proofs.YtpnkmnmchdabkaaGreat
open Go.RowKit
attribute [local go_sem ↓] Go.wp_at_zero Go.wp_at_succ
def GI.ptr (G:GI):Value:=.pointer (some ⟨G.sb,0,none⟩)
structure Mk2 (w:World) (L:List GI) (a:Option Addr) (cap:Nat) (wr:World):Prop where
 blk:wr.heap[w.heap.size]?=some (.cells #[.slice a L.length cap,.slice none 0 0,.slice none 0 0,.slice none 0 0,.slice none 0 0,.slice none 0 0,.slice none 0 0,.int .i64 0] 36 (0,0))
 row:wr.ownsRow w.heap.size 44 1 (.slice a L.length cap) L.length (L.map GI.ptr)
 one:∀A,L[0]?=some A→GIat wr w.heap.size A∧A.sb<wr.heap.size
 two:∀A B,L[0]?=some A→L[1]?=some B→GIat wr A.sb B∧B.sb<wr.heap.size
 rw0:∀k,(Value.slice a L.length cap).ownBlock=some k→k≠w.heap.size
 free:∀G ∈ L,∀k,(Value.slice a L.length cap).ownBlock=some k→G.tag k=0
 below:Below w.heap.size w wr
theorem Mk2.zero {w:World}:Mk2 w [] none 0 (w.alloc (.cells #[.slice none 0 0,.slice none 0 0,.slice none 0 0,.slice none 0 0,.slice none 0 0,.slice none 0 0,.slice none 0 0,.int .i64 0] 36)) :=
 ⟨heap_alloc_new w _,World.ownsRow_nil _ _ _ _,fun A h=>by simp at h,fun A B h=>by simp at h,fun k h=>by simp [Value.ownBlock] at h,fun G h=>by simp at h,(Below.refl _ w).alloc (Nat.le_refl _) _⟩
theorem Mk2.more {w wr w1 w2 B1:World} {L:List GI} {a:Option Addr} {cap:Nat} (h:Mk2 w L a cap wr) (hL:L.length≤1) {C:Cfg} {gb g mb kn yb g2 vb vc:Nat}
 (q0:wr.heap.size≤gb∧wr.heap.size≤g∧wr.heap.size≤mb∧g≠gb∧mb≠gb∧mb≠g∧(kn:Int)=C.a)
 (q1:w1.heap[gb]?=some (.cells (grpArr C (.slice (some ⟨g,0,none⟩) 1 1) (rest0 (.slice (some ⟨mb,0,none⟩) kn kn) kn (memN kn))) 71 (0,0)))
 (q2:w1.heap[g]?=some (.cells #[.int .i64 0,.int .i64 256,.bool true,.slice none 0 0,.slice none 0 0] 113 (0,0)))
 (q3:w1.ownsRow wr.heap.size 162 128 (.slice (some ⟨mb,0,none⟩) kn kn) kn (memN kn)) (hb1:Below wr.heap.size wr w1)
 (hN:NewAt w1 C yb g2 C.a.toNat (.slice (some ⟨vb,0,none⟩) C.a.toNat vc) w2) (hv:validB C.a C.l C.b C.n C.s C.t=true) (hvb:yb<vb∧vb<w2.heap.size)
 {rb c1:Nat} (hown:B1.ownsRow w.heap.size 44 1 (.slice (some ⟨rb,0,none⟩) (L.length+1) c1) (L.length+1) (L.map GI.ptr ++ [.pointer (some ⟨w2.heap.size,0,none⟩)]))
 (hgrow:((w2.alloc (.cells #[.pointer (some ⟨gb,0,none⟩),.pointer (some ⟨yb,0,none⟩)] 46)).alloc (.cells #[.pointer (some ⟨w2.heap.size,0,none⟩)] 44)).grownBy B1 (Value.slice a L.length cap).ownBlock) (hat:(Value.slice a L.length cap).ownBlock=some rb∨rb=((w2.alloc (.cells #[.pointer (some ⟨gb,0,none⟩),.pointer (some ⟨yb,0,none⟩)] 46)).alloc (.cells #[.pointer (some ⟨w2.heap.size,0,none⟩)] 44)).heap.size) :
 Mk2 w (L ++ [⟨C,gb,g,mb,kn,yb,g2,vb,vc,w2.heap.size⟩]) (some ⟨rb,0,none⟩) c1 (B1.setCell ⟨w.heap.size,0,none⟩ (.slice (some ⟨rb,0,none⟩) (L.length+1) c1)):=by
 have hCa:=((validB_iff _ _ _ _ _ _).1 hv).1
 have ekn:C.a.toNat=kn:=by omega
 rw [ekn] at hN
 have x0:((w2.alloc (.cells #[.pointer (some ⟨gb,0,none⟩),.pointer (some ⟨yb,0,none⟩)] 46)).alloc (.cells #[.pointer (some ⟨w2.heap.size,0,none⟩)] 44)).heap.size=w2.heap.size+2:=by simp
 have s0:=h.below.size
 have s1:=hb1.size
 have s2:=hN.below.size
 have s3:=hgrow.size
 rw [x0] at s3
 have g1:=hN.g1
 have gy:=hN.g2
 have hwl:=lt_of_heap h.blk
 have hgl:=lt_of_heap q1
 have hg1l:=lt_of_heap q2
 have hmbl:mb<w1.heap.size:=(q3.lt mb rfl).2
 have hyl:=lt_of_heap hN.blk
 have r0:∀k,(Value.slice a L.length cap).ownBlock=some k→k<wr.heap.size:=fun k hk=>(h.row.lt k hk).2
 have hrbn:rb≠w.heap.size:=by
  rcases hat with e | e
  ·exact h.rw0 rb e
  ·rw [x0] at e;omega
 have hrbl:rb<B1.heap.size:=(hown.lt rb rfl).2
 have hsS:(B1.setCell ⟨w.heap.size,0,none⟩ (.slice (some ⟨rb,0,none⟩) (L.length+1) c1)).heap.size=B1.heap.size:=by simp [World.setCell]
 have oldB:∀k,k<w2.heap.size→(Value.slice a L.length cap).ownBlock≠some k→B1.heap[k]?=w2.heap[k]?:=fun k hk hn=>by
  rw [hgrow.block k (by rw [x0];omega) (fun e=>hn e.symm),Below.heap_alloc _ _ _ (by simp;omega),Below.heap_alloc _ _ _ hk]
 have old2:∀k,k<w2.heap.size→k≠w.heap.size→(Value.slice a L.length cap).ownBlock≠some k→(B1.setCell ⟨w.heap.size,0,none⟩ (.slice (some ⟨rb,0,none⟩) (L.length+1) c1)).heap[k]?=w2.heap[k]?:=fun k hk hne hn=>by
  rw [Below.heap_setCell _ _ _ _ hne];exact oldB k hk hn
 have new2:∀k,wr.heap.size≤k→k<w2.heap.size→(B1.setCell ⟨w.heap.size,0,none⟩ (.slice (some ⟨rb,0,none⟩) (L.length+1) c1)).heap[k]?=w2.heap[k]?:=fun k h1 h2=>old2 k h2 (by omega) (fun e=>by have:=r0 k e;omega)
 have new1:∀k,wr.heap.size≤k→k<w1.heap.size→(B1.setCell ⟨w.heap.size,0,none⟩ (.slice (some ⟨rb,0,none⟩) (L.length+1) c1)).heap[k]?=w1.heap[k]?:=fun k h1 h2=>by
  rw [new2 k h1 (by omega),hN.below.block k h2]
 have oldr:∀k,k<wr.heap.size→k≠w.heap.size→(Value.slice a L.length cap).ownBlock≠some k→(B1.setCell ⟨w.heap.size,0,none⟩ (.slice (some ⟨rb,0,none⟩) (L.length+1) c1)).heap[k]?=wr.heap[k]?:=fun k h1 h2 h3=>by
  rw [old2 k (by omega) h2 h3,hN.below.block k (by omega),hb1.block k h1]
 have gnew:∀lo,lo<wr.heap.size→GIat (B1.setCell ⟨w.heap.size,0,none⟩ (.slice (some ⟨rb,0,none⟩) (L.length+1) c1)) lo ⟨C,gb,g,mb,kn,yb,g2,vb,vc,w2.heap.size⟩:=fun lo hlo=>by
  refine ⟨(new1 gb q0.1 hgl).trans q1,(new1 g q0.2.1 hg1l).trans q2,?_,(new2 yb (by omega) hyl).trans hN.blk,(new2 g2 (by omega) (by omega)).trans hN.row,?_,?_,⟨q0.2.2.2.2.2.2,by simp only;omega,by simp only;omega⟩,hv,⟨by simp only;omega,by simp only;omega,by simp only;omega⟩,⟨q0.2.2.2.1,q0.2.2.2.2.1,q0.2.2.2.2.2.1⟩,⟨by simp only;omega,by simp only;omega,by simp only;omega,gy,hvb.1,hvb.2⟩⟩
  ·exact ownsRow_base (ownsRow_of_block q3 fun k hk=>by simp [Value.ownBlock] at hk;subst hk;exact new1 mb q0.2.2.1 hmbl) (Nat.zero_le _)
  ·show (B1.setCell ⟨w.heap.size,0,none⟩ (.slice (some ⟨rb,0,none⟩) (L.length+1) c1)).heap[w2.heap.size]?=_
   rw [Below.heap_setCell _ _ _ _ (by simp;omega),hgrow.block _ (by rw [x0];omega) (fun e=>by have:=r0 _ e.symm;omega),Below.heap_alloc _ _ _ (by simp)]
   exact heap_alloc_new w2 _
  ·exact ownsRow_base (ownsRow_of_block hN.wk fun k hk=>by simp [Value.ownBlock] at hk;subst hk;exact new2 vb (by omega) hvb.2) (Nat.zero_le _)
 have keep:∀A lo,L[0]?=some A→w.heap.size≤lo→GIat wr lo A→A.sb<wr.heap.size→GIat (B1.setCell ⟨w.heap.size,0,none⟩ (.slice (some ⟨rb,0,none⟩) (L.length+1) c1)) lo A:=by
  intro A lo hA hlo hG hsb
  obtain ⟨c1',c2,c3,c4,c5,c6,c8,a1,a2,lw,ne,up⟩:=hG
  have hf:∀k,A.tag k≠0→(Value.slice a L.length cap).ownBlock≠some k:=fun k hk e=>hk (h.free A (List.mem_of_getElem? hA) k e)
  have tz:∀k,(k=A.gb∨k=A.g∨k=A.mb∨k=A.yb∨k=A.g2∨k=A.vb∨k=A.sb)→A.tag k≠0:=fun k hk=>by
   unfold GI.tag
   repeat' split
   all_goals omega
  have st:∀k,(k=A.gb∨k=A.g∨k=A.mb∨k=A.yb∨k=A.g2∨k=A.vb∨k=A.sb)→(B1.setCell ⟨w.heap.size,0,none⟩ (.slice (some ⟨rb,0,none⟩) (L.length+1) c1)).heap[k]?=wr.heap[k]?:=fun k hk=>oldr k (by omega) (by omega) (hf k (tz k hk))
  refine ⟨(st _ (by simp)).trans c1',(st _ (by simp)).trans c2,?_,(st _ (by simp)).trans c4,(st _ (by simp)).trans c5,(st _ (by simp)).trans c6,?_,a1,a2,lw,ne,up⟩
  ·exact ownsRow_of_block c3 fun k hk=>by simp [Value.ownBlock] at hk;subst hk;exact st _ (by simp)
  ·exact ownsRow_of_block c8 fun k hk=>by simp [Value.ownBlock] at hk;subst hk;exact st _ (by simp)
 refine ⟨?_,?_,fun A hA=>?_,fun A B hA hB=>?_,fun k hk=>?_,fun G hG k hk=>?_,?_⟩
 ·have e:B1.heap[w.heap.size]?=wr.heap[w.heap.size]?:=by
   rw [oldB _ (by omega) (fun e=>h.rw0 _ e rfl),hN.below.block _ (by omega),hb1.block _ hwl]
  rw [heap_setCell_same (e.trans h.blk)]
  simp
 ·rw [List.length_append,List.map_append]
  exact ownsRow_of_block hown fun k hk=>by simp [Value.ownBlock] at hk;subst hk;exact Below.heap_setCell _ _ _ _ hrbn
 ·rw [hsS]
  match L,hL,hA,h,keep with
  | [],_,hA,_,_=>simp at hA;subst hA;exact ⟨gnew _ hwl,by show w2.heap.size<_;omega⟩
  | A0 :: r,_,hA,h,keep =>
    simp at hA
    subst hA
    obtain ⟨p1,p2⟩:=h.one A0 rfl
    exact ⟨keep A0 _ rfl (Nat.le_refl _) p1 p2,by omega⟩
 ·rw [hsS]
  match L,hL,hA,hB,h with
  | [],_,hA,hB,_=>simp at hB
  | [A0],_,hA,hB,h =>
    simp at hA hB
    subst hA hB
    exact ⟨gnew _ (h.one A0 rfl).2,by show w2.heap.size<_;omega⟩
  | _ :: _ :: _,hL,_,_,_=>simp at hL
 ·simp [Value.ownBlock] at hk
  subst hk
  exact hrbn
 ·simp [Value.ownBlock] at hk
  subst hk
  rw [List.mem_append] at hG
  rcases hG with hG | hG
  ·rcases hat with e | e
   ·exact h.free G hG _ e
   ·match L,hL,hG,h with
    | [],_,hG,_=>simp at hG
    | [A0],_,hG,h =>
      simp at hG
      subst hG
      obtain ⟨p1,p2⟩:=h.one _ rfl
      exact p1.zero (Or.inr (by rw [x0] at e;omega))
    | _ :: _ :: _,hL,_,_=>simp at hL
  ·simp at hG
   subst hG
   rcases hat with e | e
   ·exact (gnew rb (r0 rb e)).zero (Or.inl (Nat.le_refl _))
   ·exact (gnew _ hwl).zero (Or.inr (by show w2.heap.size<rb;rw [x0] at e;omega))
 ·refine ⟨?_,?_,?_,by rw [hsS];omega,fun k hk=>?_⟩
  ·show B1.os=w.os;rw [hgrow.os];show w2.os=w.os;rw [hN.below.os,hb1.os,h.below.os]
  ·show B1.tape=w.tape;rw [hgrow.tape];show w2.tape=w.tape;rw [hN.below.tape,hb1.tape,h.below.tape]
  ·show B1.output=w.output;rw [hgrow.output];show w2.output=w.output;rw [hN.below.output,hb1.output,h.below.output]
  ·rw [oldr k (by omega) (by omega) (fun e=>by have:=(h.row.lt k e).1;omega)]
   exact h.below.block k hk
end Go.Proofs.YtpnkmnmchdabkaaGreat
