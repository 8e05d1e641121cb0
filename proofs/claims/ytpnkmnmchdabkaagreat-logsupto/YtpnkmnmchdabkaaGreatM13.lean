import Derived.Test.YtpnkmnmchdabkaaGreatM12
namespace Go.Proofs.YtpnkmnmchdabkaaGreat
open Go.RowKit
attribute [local go_sem ↓] Go.wp_at_zero Go.wp_at_succ
theorem info50:(Tryz.prog.info? 34).map (fun i=>(i.zero,i.size,i.bytes))=some (some (.slice none 0 0),1,24):=by kernel_rfl
theorem infoI:(Tryz.prog.info? 3).map (fun i=>(i.zero,i.size,i.bytes))=some (some (.int .i64 0),1,8):=by kernel_rfl
def KeepPost (w:World) (ρ:Nat→Nat) (wb:Nat) (sdv:Value) (last:Int) (sv hv m2 m3:Value) (Ls Li Lh:List Ke) (lv:Value) (e:Ending) (w':World):Prop :=
 e=.returned (.tuple #[])∧∃ρ' iv m1 Ln,LawAt w' ρ' wb sdv last sv iv hv m1 m2 m3 Ls (Li ++ Ln) Lh∧Ln.length=4∧(∀k,k<w.heap.size→lv.ownBlock≠some k→ρ' k=ρ k)∧(∀k,w.heap.size≤k→ρ' k=0∨300≤ρ' k)∧Fits w' ρ'∧Keeps (fun k=>laws ρ k∨lv.ownBlock=some k) w w'∧(∀k,lv.ownBlock=some k→ρ' k=310)
theorem rep_set {m:Int} {xs:List Value} {j:Nat} (hj:j<xs.length):(repP patI m j ++ xs.drop j).set j (.int .i64 m)=repP patI m (j+1) ++ xs.drop (j+1):=by
 have hl:=repP_len (patI_len m) j
 rw [List.set_append_right _ _ (by omega),show j - (repP patI m j).length=0 by omega,List.drop_eq_getElem_cons hj]
 simp only [List.set_cons_zero,repP,patI,List.append_assoc,List.singleton_append]
theorem LawAt.marked {w:World} {ρ:Nat→Nat} {wb:Nat} {sdv:Value} {last:Int} {sv iv hv m1 m2 m3:Value} {Ls Li Lh:List Ke} (h:LawAt w ρ wb sdv last sv iv hv m1 m2 m3 Ls Li Lh) (l:Int):LawAt (w.setCell ⟨wb,7,none⟩ (.int .i64 l)) ρ wb sdv l sv iv hv m1 m2 m3 Ls Li Lh:=by
 have hs:(w.setCell ⟨wb,7,none⟩ (.int .i64 l)).heap.size=w.heap.size:=by simp [World.setCell]
 have row:∀{v:Value} {t:Nat},(∀k,v.ownBlock=some k→ρ k=t)→t≠300→∀k,v.ownBlock=some k→(w.setCell ⟨wb,7,none⟩ (.int .i64 l)).heap[k]?=w.heap[k]? :=
  fun ht h3 k hk=>Below.heap_setCell _ _ _ _ (by rintro rfl;exact h3 ((ht _ hk).symm.trans h.tag))
 have ent:∀x,(x ∈ Ls∨x ∈ Li∨x ∈ Lh)→∀b,x.a=some ⟨b,0,none⟩→b<w.heap.size→(w.setCell ⟨wb,7,none⟩ (.int .i64 l)).heap[b]?=w.heap[b]? :=
  fun x hx b hb _=>Below.heap_setCell _ _ _ _ (by rintro rfl;have:=(h.tL x hx _ hb).1;have:=h.tag;simp_all)
 refine ⟨?_,h.tag,h.kS.same (by omega) (row h.tS (by omega)) (row h.t2 (by omega)) (fun x hx=>ent x (Or.inl hx)),h.kI.same (by omega) (row h.tI (by omega)) (row h.t1 (by omega)) (fun x hx=>ent x (Or.inr (Or.inl hx))),h.kH.same (by omega) (row h.tH (by omega)) (row h.t3 (by omega)) (fun x hx=>ent x (Or.inr (Or.inr hx))),h.tS,h.tI,h.tH,h.t1,h.t2,h.t3,fun x hx b hb=>⟨(h.tL x hx b hb).1,by have:=(h.tL x hx b hb).2;omega⟩⟩
 rw [heap_setCell_same h.blk];rfl
structure KInv (w:World) (ρ:Nat→Nat) (wb:Nat) (sdv:Value) (m:Int) (sv hv m2 m3:Value) (Ls Li Lh:List Ke) (lv:Value) (n j:Nat) (ρ1:Nat→Nat) (iv1 m11:Value) (Ln:List Ke) (x:Ke) (wr:World):Prop where
 law:LawAt wr ρ1 wb sdv m sv iv1 hv m11 m2 m3 Ls (Li ++ Ln) Lh
 len:Ln.length=j
 xm:x.m=m
 xn:x.n=n+j
 row:wr.ownsRow 0 3 1 (entV x) x.n (repP patI x.m x.n)
 xt:∀b,(entV x).ownBlock=some b→ρ1 b=310
 hin:∀y ∈ Li ++ Ln,∀b,(entV x).ownBlock=some b→y.a=some ⟨b,0,none⟩→y.m=x.m∧y.n≤x.n
 hout:∀y,(y ∈ Ls∨y ∈ Lh)→∀b,(entV x).ownBlock=some b→y.a≠some ⟨b,0,none⟩
 e1:∀k,k<w.heap.size→lv.ownBlock≠some k→ρ1 k=ρ k
 e2:∀k,w.heap.size≤k→ρ1 k=0∨300≤ρ1 k
 fits:Fits wr ρ1
 keeps:Keeps (fun k=>laws ρ k∨lv.ownBlock=some k) w wr
 e3:∀k,lv.ownBlock=some k→ρ1 k=310
 e4:∀k,lv.ownBlock=some k→k<w.heap.size
theorem KInv.start {w V wr:World} {ρ:Nat→Nat} {wb:Nat} {sdv:Value} {m:Int} {sv iv hv m1 m2 m3:Value} {Ls Li Lh:List Ke} {la:Option Addr} {n lc:Nat} (hV:LawAt V ρ wb sdv m sv iv hv m1 m2 m3 Ls Li Lh) (hs:V.heap.size=w.heap.size) (hf:Fits w ρ) (hT:∀k,(Value.slice la n lc).ownBlock=some k→ρ k=0)
 (hK:Keeps (fun k=>laws ρ k∨(Value.slice la n lc).ownBlock=some k) w V) (hk:Keeps (fun k=>(Value.slice la n lc).ownBlock=some k) V wr) (hr:wr.ownsRow 0 3 1 (.slice la n lc) n (repP patI m n)) (h4:∀k,(Value.slice la n lc).ownBlock=some k→k<w.heap.size) :
 KInv w ρ wb sdv m sv hv m2 m3 Ls Li Lh (.slice la n lc) n 0 (fun k=>if (Value.slice la n lc).ownBlock=some k then 310 else ρ k) iv m1 [] ⟨la,n,lc,m⟩ wr:=by
 have hz:=hk.size
 have no:∀y,(y ∈ Ls∨y ∈ Li∨y ∈ Lh)→∀b,(Value.slice la n lc).ownBlock=some b→y.a≠some ⟨b,0,none⟩:=by
  intro y hy b hb hya
  have h1:=(hV.tL y hy b hya).1
  have h2:=hT b hb
  omega
 refine ⟨?_,rfl,rfl,rfl,hr,fun b hb=>if_pos hb,?_,?_,fun k _ hne=>if_neg hne,?_,?_,?_,fun k hk=>if_pos hk,h4⟩
 ·rw [List.append_nil]
  refine hV.keeps hk (fun k hk=>Or.inl ?_) (fun k _ h3=>if_neg ?_)
  ·unfold laws;have:=hT k hk;omega
  ·intro e;have:=hT k e;omega
 ·intro y hy b hb hya
  rw [List.append_nil] at hy
  exact absurd hya (no y (Or.inr (Or.inl hy)) b hb)
 ·intro y hy b hb
  exact no y (by rcases hy with hy | hy;exact Or.inl hy;exact Or.inr (Or.inr hy)) b hb
 ·intro k hk
  show (if _ then 310 else ρ k)=0∨300≤(if _ then 310 else ρ k)
  split
  ·right;omega
  ·left;exact hf k hk
 ·intro k hk
  show (if _ then 310 else ρ k)=0
  rw [if_neg (fun e=>by have:=h4 k e;omega)]
  exact hf k (by omega)
 ·exact hK.trans (hk.mono (fun k _ e=>Or.inr e))
theorem KInv.step {w W C1 C2 D:World} {ρ ρ1:Nat→Nat} {wb:Nat} {sdv:Value} {m:Int} {sv iv1 hv m11 m2 m3:Value} {Ls Li Lh Ln:List Ke} {lv:Value} {n j:Nat} {x:Ke} (h:KInv w ρ wb sdv m sv hv m2 m3 Ls Li Lh lv n j ρ1 iv1 m11 Ln x W) (hxn:x.n≤3000000) (hlen:(Li ++ Ln).length≤100000000)
 {N g1 c1 g2 c2 g3 c3:Nat} (hN:N=(Li ++ Ln).length+1)
 (b1:C1.heap[wb]?=some (.cells #[sdv,sv,.slice (some ⟨g1,0,none⟩) N c1,hv,m11,m2,m3,.int .i64 m] 36 (0,0))) (r1:C1.ownsRow 0 34 1 (.slice (some ⟨g1,0,none⟩) N c1) N ((Li ++ Ln).map entV ++ [entV x])) (k1:Keeps (fun k=>k=wb∨iv1.ownBlock=some k) W C1) (o1:g1<W.heap.size→iv1.ownBlock=some g1)
 (b2:C2.heap[wb]?=some (.cells #[sdv,sv,.slice (some ⟨g1,0,none⟩) N c1,hv,.slice (some ⟨g2,0,none⟩) N c2,m2,m3,.int .i64 m] 36 (0,0))) (r2:C2.ownsRow 0 3 1 (.slice (some ⟨g2,0,none⟩) N c2) N ((Li ++ Ln).map entM ++ [entM x])) (k2:Keeps (fun k=>k=wb∨m11.ownBlock=some k) C1 C2) (o2:g2<C1.heap.size→m11.ownBlock=some g2)
 (r3:D.ownsRow 0 3 1 (.slice (some ⟨g3,0,none⟩) (x.n+1) c3) (x.n+1) (repP patI x.m x.n ++ patI x.m)) (k3:Keeps (fun k=>(entV x).ownBlock=some k) C2 D) (s3:C2.grownBy D (some g3)) (o3:g3<C2.heap.size→(entV x).ownBlock=some g3) :
 ∃ρ',KInv w ρ wb sdv m sv hv m2 m3 Ls Li Lh lv n (j+1) ρ' (.slice (some ⟨g1,0,none⟩) N c1) (.slice (some ⟨g2,0,none⟩) N c2) (Ln ++ [x]) ⟨some ⟨g3,0,none⟩,x.n+1,c3,x.m⟩ D:=by
 subst hN
 obtain ⟨ρ',hL,hold,hnew,hF,h310,hK,hi,ho⟩:=h.law.moreInts h.fits x h.row hxn hlen h.xt h.hin h.hout b1 r1 k1 o1 b2 r2 k2 o2 r3 k3 s3 o3
 have hz:=h.keeps.size
 have own:∀b,(entV ⟨some ⟨g3,0,none⟩,x.n+1,c3,x.m⟩).ownBlock=some b→b=g3:=by
  intro b hb
  simp [entV,Value.ownBlock] at hb
  exact hb.symm
 refine ⟨ρ',?_,by simp [h.len],h.xm,by show x.n+1=_;rw [h.xn];omega,r3,fun b hb=>by rw [own b hb];exact h310,?_,?_,?_,?_,hF,?_,?_,h.e4⟩
 ·rw [←List.append_assoc];exact hL
 ·intro y hy b hb hya
  rw [own b hb] at hya
  rw [←List.append_assoc] at hy
  exact hi y hy hya
 ·intro y hy b hb
  rw [own b hb]
  exact ho y hy
 ·intro k hk hne
  rw [hold k (by omega)];exact h.e1 k hk hne
 ·intro k hk
  by_cases hlt:k<W.heap.size
  ·rw [hold k hlt];exact h.e2 k hk
  ·exact hnew k (by omega)
 ·have hzD:=hK.size
  refine ⟨hK.os.trans h.keeps.os,hK.tape.trans h.keeps.tape,hK.output.trans h.keeps.output,by omega,fun k hk hs=>?_⟩
  rw [hK.block k (by omega) (fun e=>hs (Or.inl (by
   unfold laws at e ⊢
   rw [h.e1 k hk (fun q=>hs (Or.inr q))] at e
   exact e)))]
  exact h.keeps.block k hk hs
 ·intro k hk
  rw [hold k (by have:=h.e4 k hk;omega)];exact h.e3 k hk
set_option maxRecDepth 100000 in
set_option maxHeartbeats 4000000 in
theorem keepInts_any {w:World} {ρ:Nat→Nat} {wb:Nat} {sdv:Value} {last:Int} {sv iv hv m1 m2 m3:Value} {Ls Li Lh:List Ke} (h:LawAt w ρ wb sdv last sv iv hv m1 m2 m3 Ls Li Lh) (hf:Fits w ρ) (h1:-9000000000000000000≤last) (h2:last≤0) (lv:Value) (n:Nat) (xs:List Value) (hl:w.ownsRow 0 3 1 lv n xs) (hn:n≤2000000) (hlen:Li.length≤40000000) (hlt:∀k,lv.ownBlock=some k→ρ k=0) :
 Calls Tryz.prog 58 #[.pointer (some ⟨wb,0,none⟩),lv] w (KeepPost w ρ wb sdv (last - 1) sv hv m2 m3 Ls Li Lh lv):=by
 obtain ⟨la,lc,rfl⟩:=ownsRow_len hl
 have hwl:=lt_of_heap h.blk
 have c7:w.cell? ⟨wb,7,none⟩=some (.int .i64 last):=cell_of h.blk 7
 have f7:=frozen_of h.blk 7
 have HM:=hide (mark_any w wb last c7 f7 h1 h2)
 obtain ⟨i5,hi5,y50,y51,y52⟩:=info_parts info50
 obtain ⟨i3,hi3,y30,y31,y32⟩:=info_parts infoI
 have H0:=hide h
 have HL:=hide hl
 have HT:=hide hlt
 have HF:=hide hf
 clear h hl hlt hf
 go_enter Tryz.func58,Tryz.ntmps58
 go_wp2_with (go_at_call 71;refine (uh HM).mono ?_;rintro e w' ⟨rfl,rfl⟩)
 have hVl:Hid ((w.setCell ⟨wb,7,none⟩ (.int .i64 (last - 1))).ownsRow 0 3 1 (.slice la n lc) n xs):=by
  refine ownsRow_of_block (uh HL) fun k hk=>Below.heap_setCell _ _ _ _ ?_
  rintro rfl
  have h1:=uh HT _ hk
  have h2:=(uh H0).tag
  omega
 have HV:=hide ((uh H0).marked (last - 1))
 have HKV:Hid (Keeps (fun k=>laws ρ k∨(Value.slice la n lc).ownBlock=some k) w (w.setCell ⟨wb,7,none⟩ (.int .i64 (last - 1)))):=(Keeps.refl _ w).setCell (Or.inl (Or.inl (by unfold laws;rw [(uh H0).tag];omega))) _
 have hVs:(w.setCell ⟨wb,7,none⟩ (.int .i64 (last - 1))).heap.size=w.heap.size:=by simp [World.setCell]
 clear HM c7 f7
 generalize w.setCell ⟨wb,7,none⟩ (.int .i64 (last - 1))=V at *
 generalize hmm:last - 1=m at *
 go_loopw [5] (fun i wr=>∃j:Nat,j≤n∧i=.int .i64 j∧wr.ownsRow 0 3 1 (.slice la n lc) n (repP patI m j ++ xs.drop j)∧Keeps (fun k=>(Value.slice la n lc).ownBlock=some k) V wr) (fun i _=>n - (intOf i).toNat)
 case atStart=>exact ⟨0,Nat.zero_le _,rfl,by simpa [repP] using uh hVl,Keeps.refl _ _⟩
 case round =>
  obtain ⟨j,hj,rfl,hown,hkk⟩:=hrel
  by_cases hlt:j<n
  ·obtain ⟨lb,cp,cur,hv1,_,hcb,_,_,hcs,_⟩:=ownsRow_shape hown (by omega)
   injection hv1 with e1 e2 e3
   subst e1
   have fz:=frozen_of hcb j
   have cz:wr.cell? ⟨lb,j,none⟩=cur[j]?:=cell_of hcb j
   have hjc:j<cur.size:=by omega
   rw [Array.getElem?_eq_getElem hjc] at cz
   have HS:=hide (World.ownsRow.stored hown j (.int .i64 m)).1
   have HKK:=hide hkk
   have hxl:j<xs.length:=by have:=(uh HL).1;omega
   clear hown hkk hcb hcs
   go_wp2
   go_roundw
   case rel =>
    refine ⟨j+1,by omega,by go_num,?_,(uh HKK).setCell (p:=⟨lb,j,none⟩) (Or.inl rfl) _⟩
    rw [←rep_set hxl];exact uh HS
   case measure=>simp [intOf];omega
  ·have HR:Hid (wr.ownsRow 0 3 1 (.slice la n lc) n (repP patI m n)):=by
    have hxl:=(uh HL).1
    have e:j=n:=by omega
    subst e
    rw [List.drop_eq_nil_of_le (by omega),List.append_nil] at hown
    exact hown
   have HKK:=hide hkk
   clear hown hkk
   have HI0:=hide (KInv.start (uh HV) hVs (uh HF) (uh HT) (uh HKV) (uh HKK) (uh HR) (fun k hk=>((uh HL).lt k hk).2))
   have HLl:=hide (fun k hk=>((uh HL).lt k hk).2)
   clear HV HKV HKK HR hVl HL HT H0
   go_wp2
   go_loopw [1,6] (fun l i wr=>∃(j:Nat) (ρ1:Nat→Nat) (iv1 m11:Value) (Ln:List Ke) (x:Ke),j≤4∧i=.int .i64 j∧l=.slice x.a x.n x.cap∧KInv w ρ wb sdv m sv hv m2 m3 Ls Li Lh (.slice la n lc) n j ρ1 iv1 m11 Ln x wr) (fun _ i _=>4 - (intOf i).toNat)
   case atStart=>exact ⟨0,_,_,_,_,_,by omega,rfl,rfl,uh HI0⟩
   case round =>
    obtain ⟨j,ρ1,iv1,m11,Ln,x,hj,rfl,rfl,hK⟩:=hrel
    by_cases hlt4:j<4
    ·obtain ⟨ia,ic,rfl⟩:=ownsRow_len hK.law.kI.row
     obtain ⟨ma,mc,rfl⟩:=ownsRow_len hK.law.kI.ms
     have hNl:(Li ++ Ln).length≤40000010:=by rw [List.length_append,hK.len];omega
     have hxn:x.n≤2000010:=by have:=hK.xn;omega
     have q2:wr.cell? ⟨wb,2,none⟩=some (.slice ia (Li ++ Ln).length ic):=cell_of hK.law.blk 2
     have q4:wr.cell? ⟨wb,4,none⟩=some (.slice ma (Li ++ Ln).length mc):=cell_of hK.law.blk 4
     have p2:=frozen_of hK.law.blk 2
     have p4:=frozen_of hK.law.blk 4
     have hwr:=lt_of_heap hK.law.blk
     have n1:Hid ((Value.slice ia (Li ++ Ln).length ic).ownBlock≠some wb):=fun e=>by have:=hK.law.tI wb e;have:=hK.law.tag;omega
     have n2:Hid ((Value.slice ma (Li ++ Ln).length mc).ownBlock≠some wb):=fun e=>by have:=hK.law.t1 wb e;have:=hK.law.tag;omega
     have HK:=hide hK
     clear hK HI0
     generalize hNN:(Li ++ Ln).length=N at *
     have HNN:=hide hNN
     have HB:=hide (uh HK).law.blk
     clear hNN
     go_wp2_with (at_builtin;go_must (refine wpList_append_stands _ rfl _ _ _ rfl 0 34 i5 _ 1 24 Tryz.underlying32 hi5 y50 y51 y52 rfl (by omega) _ N ((Li ++ Ln).map entV) rfl ?own ⟨wr.heap.size,0,none⟩ 1 1 [.slice x.a x.n x.cap] rfl rfl ?news ?one (by omega) ?h63 ?bytes (Nat.zero_le _) ?next))
     case own=>have:=(uh HK).law.kI.row.alloc (.cells #[.slice x.a x.n x.cap] 34);rw [uh HNN] at this;exact this
     case news=>exact World.news_of_block (cs:=#[.slice x.a x.n x.cap]) (heap_alloc_new wr _)
     case one=>simp [Value.oneCell']
     case h63=>unfold maxLen;omega
     case bytes=>omega
     case next =>
      intro g1 c1 B1 hown1 hgrow1 hat1 hlt1 hst1
      have F1:=field_append (f:=2) (v:=.slice ia N ic) (uh HB) (uh n1) hown1 hgrow1 (by simpa using hat1)
      have z2:B1.cell? ⟨wb,2,none⟩=some (.slice ia N ic):=(hgrow1.cell_far _ (by simp;omega) (fun e=>uh n1 e.symm)).trans ((World.cell?_of_block (w:=wr) (Below.heap_alloc _ _ _ hwr)).trans q2)
      have z4:B1.cell? ⟨wb,4,none⟩=some (.slice ma N mc):=(hgrow1.cell_far _ (by simp;omega) (fun e=>uh n1 e.symm)).trans ((World.cell?_of_block (w:=wr) (Below.heap_alloc _ _ _ hwr)).trans q4)
      have zf2:B1.frozen? ⟨wb,2,none⟩=false:=(hgrow1.frozen_far _ (by simp;omega) (fun e=>uh n1 e.symm)).trans ((World.frozen?_of_block (w:=wr) (Below.heap_alloc _ _ _ hwr)).trans p2)
      have zf4:B1.frozen? ⟨wb,4,none⟩=false:=(hgrow1.frozen_far _ (by simp;omega) (fun e=>uh n1 e.symm)).trans ((World.frozen?_of_block (w:=wr) (Below.heap_alloc _ _ _ hwr)).trans p4)
      have HF1:=hide F1
      have zB1:=hgrow1.size
      simp at zB1
      have sC1:(B1.setCell ⟨wb,2,none⟩ (.slice (some ⟨g1,0,none⟩) (N+1) c1)).heap.size=B1.heap.size:=by simp [World.setCell]
      have HO2:Hid ((B1.setCell ⟨wb,2,none⟩ (.slice (some ⟨g1,0,none⟩) (N+1) c1)).ownsRow 0 3 1 (.slice ma N mc) N ((Li ++ Ln).map entM)):=by
       have:=(uh HK).law.kI.ms
       rw [uh HNN] at this
       refine ownsRow_of_block this fun k hk=>F1.2.2.1.block k (this.lt k hk).2 ?_
       rintro (e | e)
       ·exact uh n2 (e ▸ hk)
       ·have a:=(uh HK).law.tI k e;have b:=(uh HK).law.t1 k hk;omega
      have HO3:Hid ((B1.setCell ⟨wb,2,none⟩ (.slice (some ⟨g1,0,none⟩) (N+1) c1)).ownsRow 0 3 1 (entV x) x.n (repP patI x.m x.n)):=by
       refine ownsRow_of_block (uh HK).row fun k hk=>F1.2.2.1.block k ((uh HK).row.lt k hk).2 ?_
       have c:=(uh HK).xt k hk
       rintro (e | e)
       ·have:=(uh HK).law.tag;rw [e] at c;omega
       ·have a:=(uh HK).law.tI k e;omega
      have HW2:Hid (((B1.setCell ⟨wb,2,none⟩ (.slice (some ⟨g1,0,none⟩) (N+1) c1)).alloc (.cells #[.int .i64 m] 3)).heap[B1.heap.size]?=some (.cells #[.int .i64 m] 3 (0,0))):=by
       have:=heap_alloc_new (B1.setCell ⟨wb,2,none⟩ (.slice (some ⟨g1,0,none⟩) (N+1) c1)) (.cells #[.int .i64 m] 3)
       rw [sC1] at this
       exact this
      clear F1 hown1 hgrow1 hat1 hst1 q2 q4 p2 p4
      go_wp2_with (at_builtin;go_must (refine wpList_append_stands _ rfl _ _ _ rfl 0 3 i3 _ 1 8 Tryz.underlying34 hi3 y30 y31 y32 rfl (by omega) _ N ((Li ++ Ln).map entM) rfl ?own2 ⟨B1.heap.size,0,none⟩ 1 1 [.int .i64 m] rfl rfl ?news2 ?one2 (by omega) ?h632 ?bytes2 (Nat.zero_le _) ?next2))
      case own2=>exact (uh HO2).alloc _
      case news2=>exact World.news_of_block (cs:=#[.int .i64 m]) (uh HW2)
      case one2=>simp [Value.oneCell']
      case h632=>unfold maxLen;omega
      case bytes2=>omega
      case next2 =>
       intro g2 c2 B2 hown2 hgrow2 hat2 hlt2 hst2
       have F2:=field_append (W:=(B1.setCell ⟨wb,2,none⟩ (.slice (some ⟨g1,0,none⟩) (N+1) c1))) (f:=4) (v:=.slice ma N mc) (uh HF1).1 (uh n2) hown2 hgrow2 (by simpa [World.setCell] using hat2)
       have w1:=lt_of_heap (uh HF1).1
       have y4:B2.cell? ⟨wb,4,none⟩=some (.slice ma N mc):=(hgrow2.cell_far _ (by simp [World.setCell];omega) (fun e=>uh n2 e.symm)).trans ((World.cell?_of_block (w:=(B1.setCell ⟨wb,2,none⟩ (.slice (some ⟨g1,0,none⟩) (N+1) c1))) (Below.heap_alloc _ _ _ w1)).trans (cell_of (uh HF1).1 4))
       have yf4:B2.frozen? ⟨wb,4,none⟩=false:=(hgrow2.frozen_far _ (by simp [World.setCell];omega) (fun e=>uh n2 e.symm)).trans ((World.frozen?_of_block (w:=(B1.setCell ⟨wb,2,none⟩ (.slice (some ⟨g1,0,none⟩) (N+1) c1))) (Below.heap_alloc _ _ _ w1)).trans (frozen_of (uh HF1).1 4))
       have HF2:=hide F2
       have sC2:(B2.setCell ⟨wb,4,none⟩ (.slice (some ⟨g2,0,none⟩) (N+1) c2)).heap.size=B2.heap.size:=by simp [World.setCell]
       have HO4:Hid ((B2.setCell ⟨wb,4,none⟩ (.slice (some ⟨g2,0,none⟩) (N+1) c2)).ownsRow 0 3 1 (entV x) x.n (repP patI x.m x.n)):=by
        refine ownsRow_of_block (uh HO3) fun k hk=>F2.2.2.1.block k ((uh HO3).lt k hk).2 ?_
        have c:=(uh HK).xt k hk
        rintro (e | e)
        ·have:=(uh HK).law.tag;rw [e] at c;omega
        ·have a:=(uh HK).law.t1 k e;omega
       have HW3:Hid (((B2.setCell ⟨wb,4,none⟩ (.slice (some ⟨g2,0,none⟩) (N+1) c2)).alloc (.cells #[.int .i64 m] 3)).heap[B2.heap.size]?=some (.cells #[.int .i64 m] 3 (0,0))):=by
        have:=heap_alloc_new (B2.setCell ⟨wb,4,none⟩ (.slice (some ⟨g2,0,none⟩) (N+1) c2)) (.cells #[.int .i64 m] 3)
        rw [sC2] at this
        exact this
       clear F2 hown2 hgrow2 hat2 hst2 z2 z4 zf2 zf4
       go_wp2_with (at_builtin;go_must (refine wpList_append_stands _ rfl _ _ _ rfl 0 3 i3 _ 1 8 Tryz.underlying34 hi3 y30 y31 y32 rfl (by omega) _ x.n (repP patI x.m x.n) rfl ?own3 ⟨B2.heap.size,0,none⟩ 1 1 [.int .i64 m] rfl rfl ?news3 ?one3 (by omega) ?h633 ?bytes3 (Nat.zero_le _) ?next3))
       case own3=>exact (uh HO4).alloc _
       case news3=>exact World.news_of_block (cs:=#[.int .i64 m]) (uh HW3)
       case one3=>simp [Value.oneCell']
       case h633=>unfold maxLen;omega
       case bytes3=>omega
       case next3 =>
        intro g3 c3 D hown3 hgrow3 hat3 hlt3 hst3
        have L3:=list_append hgrow3 hst3 (by simpa [World.setCell] using hat3)
        have hxm:=(uh HK).xm
        obtain ⟨ρ2,hstep⟩:=(uh HK).step (by omega) (by rw [uh HNN];omega) (N:=N+1) (by rw [uh HNN]) (uh HF1).1 (by rw [List.map_append,List.append_assoc];exact (uh HF1).2.1) (uh HF1).2.2.1 (uh HF1).2.2.2.1 (uh HF2).1 (by have:=(uh HF2).2.1;rw [←hxm] at this;rw [List.map_append,List.append_assoc];exact this) (uh HF2).2.2.1 (uh HF2).2.2.2.1 (by rw [←hxm] at hown3;exact hown3) L3.1 L3.2.1 L3.2.2
        have HStep:=hide hstep
        clear hstep L3 hown3 hgrow3 hat3 hst3 hxm
        go_wp2
        go_roundw
        case rel=>exact ⟨j+1,ρ2,_,_,_,⟨some ⟨g3,0,none⟩,x.n+1,c3,x.m⟩,by omega,by go_num,rfl,uh HStep⟩
        case measure=>simp [intOf];omega
    ·have HK:=hide hK
     have e4:Hid (j=4):=by (unfold Hid;omega)
     clear hK
     go_wp2
     have hK:=uh HK
     refine bodyPost_ret (v:=.tuple #[]) (by simp [results,Tryz.results58,go_sem]) rfl ⟨rfl,ρ1,iv1,m11,Ln,hK.law,by rw [hK.len,uh e4],hK.e1,hK.e2,hK.fits,hK.keeps,hK.e3⟩
end Go.Proofs.YtpnkmnmchdabkaaGreat
namespace Go.Proofs.YtpnkmnmchdabkaaGreat
open Go.RowKit
theorem LawAt.moreShards {W C1 C2 D:World} {ρ:Nat→Nat} {wb:Nat} {sdv:Value} {last:Int} {sv iv hv m1 m2 m3:Value} {Ls Li Lh:List Ke} (h:LawAt W ρ wb sdv last sv iv hv m1 m2 m3 Ls Li Lh) (hf:Fits W ρ) (x:Ke)
 (hxl:W.ownsRow 0 100 5 (entV x) x.n (repP patS x.m x.n)) (hxn:x.n≤1000000) (hlen:Ls.length≤100000000) (hxt:∀b,(entV x).ownBlock=some b→ρ b=310)
 (hin:∀y ∈ Ls,∀b,(entV x).ownBlock=some b→y.a=some ⟨b,0,none⟩→y.m=x.m∧y.n≤x.n) (hout:∀y,(y ∈ Li∨y ∈ Lh)→∀b,(entV x).ownBlock=some b→y.a≠some ⟨b,0,none⟩)
 {g1 c1 g2 c2 g3 c3:Nat}
 (b1:C1.heap[wb]?=some (.cells #[sdv,.slice (some ⟨g1,0,none⟩) (Ls.length+1) c1,iv,hv,m1,m2,m3,.int .i64 last] 36 (0,0))) (r1:C1.ownsRow 0 98 1 (.slice (some ⟨g1,0,none⟩) (Ls.length+1) c1) (Ls.length+1) (Ls.map entV ++ [entV x])) (k1:Keeps (fun k=>k=wb∨sv.ownBlock=some k) W C1) (o1:g1<W.heap.size→sv.ownBlock=some g1)
 (b2:C2.heap[wb]?=some (.cells #[sdv,.slice (some ⟨g1,0,none⟩) (Ls.length+1) c1,iv,hv,m1,.slice (some ⟨g2,0,none⟩) (Ls.length+1) c2,m3,.int .i64 last] 36 (0,0))) (r2:C2.ownsRow 0 3 1 (.slice (some ⟨g2,0,none⟩) (Ls.length+1) c2) (Ls.length+1) (Ls.map entM ++ [entM x])) (k2:Keeps (fun k=>k=wb∨m2.ownBlock=some k) C1 C2) (o2:g2<C1.heap.size→m2.ownBlock=some g2)
 (r3:D.ownsRow 0 100 5 (.slice (some ⟨g3,0,none⟩) (x.n+1) c3) (x.n+1) (repP patS x.m x.n ++ patS x.m)) (k3:Keeps (fun k=>(entV x).ownBlock=some k) C2 D) (s3:C2.grownBy D (some g3)) (o3:g3<C2.heap.size→(entV x).ownBlock=some g3) :
 ∃ρ',LawAt D ρ' wb sdv last (.slice (some ⟨g1,0,none⟩) (Ls.length+1) c1) iv hv m1 (.slice (some ⟨g2,0,none⟩) (Ls.length+1) c2) m3 (Ls ++ [x]) Li Lh∧(∀k,k<W.heap.size→ρ' k=ρ k)∧(∀k,W.heap.size≤k→ρ' k=0∨300≤ρ' k)∧Fits D ρ'∧ρ' g3=310∧Keeps (laws ρ) W D ∧
  (∀y ∈ Ls ++ [x],y.a=some ⟨g3,0,none⟩→y.m=x.m∧y.n≤x.n+1)∧(∀y,(y ∈ Li∨y ∈ Lh)→y.a≠some ⟨g3,0,none⟩):=by
 have hwl:=lt_of_heap h.blk
 have z1:=k1.size
 have z2:=k2.size
 have z3:=k3.size
 have g1l:=(r1.lt g1 rfl).2
 have g2l:=(r2.lt g2 rfl).2
 have g3l:=(r3.lt g3 rfl).2
 have iT:∀k,sv.ownBlock=some k→k<W.heap.size∧ρ k=302:=fun k hk=>⟨(h.kS.row.lt k hk).2,h.tS k hk⟩
 have mT:∀k,m2.ownBlock=some k→k<W.heap.size∧ρ k=306:=fun k hk=>⟨(h.kS.ms.lt k hk).2,h.t2 k hk⟩
 have xT:∀k,(entV x).ownBlock=some k→k<W.heap.size∧ρ k=310:=fun k hk=>⟨(hxl.lt k hk).2,hxt k hk⟩
 have q1:g1<W.heap.size→ρ g1=302:=fun hh=>(iT g1 (o1 hh)).2
 have q2:g2<C1.heap.size→g2<W.heap.size∧ρ g2=306:=fun hh=>mT g2 (o2 hh)
 have q3:g3<C2.heap.size→g3<W.heap.size∧ρ g3=310:=fun hh=>xT g3 (o3 hh)
 have d12:g1≠g2:=by
  rintro rfl
  have a:=q2 g1l
  have b:=q1 a.1
  omega
 have d13:g1≠g3:=by
  rintro rfl
  have a:=q3 (by omega)
  have b:=q1 a.1
  omega
 have d23:g2≠g3:=by
  rintro rfl
  have a:=q3 g2l
  have b:=q2 (by omega)
  omega
 have tg:∀k,k<W.heap.size→(if k=g1 then 302 else if k=g2 then 306 else if k=g3 then 310 else ρ k)=ρ k:=by
  intro k hk
  split
  ·rename_i e;subst e;exact (q1 hk).symm
  ·split
   ·rename_i e;subst e;exact ((q2 (by omega)).2).symm
   ·split
    ·rename_i e;subst e;exact ((q3 (by omega)).2).symm
    ·rfl
 have st:∀k,k<W.heap.size→k≠wb→ρ k≠302→ρ k≠306→ρ k≠310→D.heap[k]?=W.heap[k]?:=by
  intro k hk hw h3 h5 h10
  rw [k3.block k (by omega) (fun e=>h10 (xT k e).2),k2.block k (by omega) (fun e=>by rcases e with e | e;exact hw e;exact h5 (mT k e).2),k1.block k hk (fun e=>by rcases e with e | e;exact hw e;exact h3 (iT k e).2)]
 have stL:∀k,k<W.heap.size→ρ k=310→C2.heap[k]?=W.heap[k]?:=by
  intro k hk h10
  have hw:k≠wb:=by rintro rfl;have:=h.tag;omega
  rw [k2.block k (by omega) (fun e=>by rcases e with e | e;exact hw e;have:=(mT k e).2;omega),k1.block k hk (fun e=>by rcases e with e | e;exact hw e;have:=(iT k e).2;omega)]
 have ent:∀y,(y ∈ Li∨y ∈ Lh)→∀b,y.a=some ⟨b,0,none⟩→b<W.heap.size→D.heap[b]?=W.heap[b]?:=by
  intro y hy b hb hl
  have hy':y ∈ Ls∨y ∈ Li∨y ∈ Lh:=Or.inr hy
  have h10:=(h.tL y hy' b hb).1
  rw [k3.block b (by omega) (fun e=>hout y hy b e hb),stL b hl h10]
 have row:∀{te:TypeId} {size n:Nat} {v:Value} {xs:List Value} {t:Nat},W.ownsRow 0 te size v n xs→(∀k,v.ownBlock=some k→ρ k=t)→t≠300→t≠302→t≠306→t≠310→∀k,v.ownBlock=some k→D.heap[k]?=W.heap[k]?:=by
  intro te size n v xs t ho ht a0 a1 a2 a3 k hk
  have:=ht k hk
  exact st k (ho.lt k hk).2 (by rintro rfl;have:=h.tag;omega) (by omega) (by omega) (by omega)
 have tgv:∀{te:TypeId} {size n:Nat} {v:Value} {xs:List Value} {t:Nat},W.ownsRow 0 te size v n xs→(∀k,v.ownBlock=some k→ρ k=t)→∀k,v.ownBlock=some k→(if k=g1 then 302 else if k=g2 then 306 else if k=g3 then 310 else ρ k)=t :=
  fun ho ht k hk=>by rw [tg k (ho.lt k hk).2];exact ht k hk
 have hg3w:∀b,(entV x).ownBlock=some b→b<W.heap.size:=fun b hb=>(xT b hb).1
 refine ⟨fun k=>if k=g1 then 302 else if k=g2 then 306 else if k=g3 then 310 else ρ k,⟨?_,?_,?_,?_,?_,?_,tgv h.kI.row h.tI,tgv h.kH.row h.tH,tgv h.kI.ms h.t1,?_,tgv h.kH.ms h.t3,?_⟩,tg,?_,?_,?_,?_,?_,?_⟩
 ·rw [k3.block wb (by omega) (fun e=>by have:=(xT wb e).2;have:=h.tag;omega)];exact b2
 ·show (if wb=g1 then _ else _)=300
  rw [tg wb hwl];exact h.tag
 ·refine ⟨?_,?_,?_,by simp;omega⟩
  ·rw [List.length_append,List.map_append]
   refine ownsRow_of_block r1 fun k hk=>?_
   simp [Value.ownBlock] at hk
   subst hk
   rw [k3.block _ (by omega) (fun e=>by have a:=xT _ e;have b:=q1 a.1;omega),k2.block _ g1l (fun e=>by
    rcases e with e | e
    ·have:=q1 (by omega);have:=h.tag;rw [e] at *;omega
    ·have a:=mT _ e;have b:=q1 a.1;omega)]
  ·rw [List.length_append,List.map_append]
   refine ownsRow_of_block r2 fun k hk=>?_
   simp [Value.ownBlock] at hk
   subst hk
   rw [k3.block _ g2l (fun e=>by have a:=xT _ e;have b:=q2 (by omega);omega)]
  ·intro y hy
   rcases List.mem_append.1 hy with hy | hy
   ·refine ⟨?_,(h.kS.all y hy).2⟩
    have hC2:HoldsAll C2 5 patS y:=(h.kS.all y hy).1.same (by omega) (fun b hb hl=>stL b hl (h.tL y (Or.inl hy) b hb).1)
    exact hC2.grown patS_len r3 s3 (fun e=>by
     have hb:=h.tL y (Or.inl hy) g3 e
     exact hin y hy g3 (o3 (by omega)) e)
   ·rw [List.mem_singleton] at hy
    subst hy
    refine ⟨?_,by omega⟩
    have hW:HoldsAll W 5 patS y:=HoldsAll.new patS_len hxl
    have hC2:HoldsAll C2 5 patS y:=hW.same (by omega) (fun b hb hl=>stL b hl (hxt b (by unfold entV;rw [hb];rfl)))
    exact hC2.grown patS_len r3 s3 (fun _=>⟨rfl,Nat.le_refl _⟩)
 ·exact h.kI.same (by omega) (row h.kI.row h.tI (by omega) (by omega) (by omega) (by omega)) (row h.kI.ms h.t1 (by omega) (by omega) (by omega) (by omega)) (fun y hy=>ent y (Or.inl hy))
 ·exact h.kH.same (by omega) (row h.kH.row h.tH (by omega) (by omega) (by omega) (by omega)) (row h.kH.ms h.t3 (by omega) (by omega) (by omega) (by omega)) (fun y hy=>ent y (Or.inr hy))
 ·intro k hk
  simp [Value.ownBlock] at hk
  subst hk
  simp
 ·intro k hk
  simp [Value.ownBlock] at hk
  subst hk
  simp [Ne.symm d12]
 ·intro y hy b hb
  have:(y ∈ Ls∨y ∈ Li∨y ∈ Lh)∨y=x:=by
   rcases hy with hy | hy | hy
   ·rcases List.mem_append.1 hy with hy | hy
    ·exact Or.inl (Or.inl hy)
    ·exact Or.inr (List.mem_singleton.1 hy)
   ·exact Or.inl (Or.inr (Or.inl hy))
   ·exact Or.inl (Or.inr (Or.inr hy))
  rcases this with hy | rfl
  ·have h1:=h.tL y hy b hb
   exact ⟨by show (if b=g1 then _ else _)=_;rw [tg b h1.2];exact h1.1,by omega⟩
  ·have hbb:(entV y).ownBlock=some b:=by unfold entV;rw [hb];rfl
   have h1:=xT b hbb
   exact ⟨by show (if b=g1 then _ else _)=_;rw [tg b h1.1];exact h1.2,by omega⟩
 ·intro k hk
  show (if k=g1 then 302 else if k=g2 then 306 else if k=g3 then 310 else ρ k)=0∨300≤(if k=g1 then 302 else if k=g2 then 306 else if k=g3 then 310 else ρ k)
  split
  ·right;omega
  ·split
   ·right;omega
   ·split
    ·right;omega
    ·left;exact hf k hk
 ·intro k hk
  show (if k=g1 then 302 else if k=g2 then 306 else if k=g3 then 310 else ρ k)=0
  rw [if_neg (by omega),if_neg (by omega),if_neg (by omega)]
  exact hf k (by omega)
 ·show (if g3=g1 then 302 else if g3=g2 then 306 else if g3=g3 then 310 else ρ g3)=310
  rw [if_neg (Ne.symm d13),if_neg (Ne.symm d23),if_pos rfl]
 ·refine ⟨by rw [k3.os,k2.os,k1.os],by rw [k3.tape,k2.tape,k1.tape],by rw [k3.output,k2.output,k1.output],by omega,fun k hk hs=>?_⟩
  unfold laws at hs
  exact st k hk (by rintro rfl;have:=h.tag;omega) (by omega) (by omega) (by omega)
 ·intro y hy hya
  rcases List.mem_append.1 hy with hy | hy
  ·have hb:=h.tL y (Or.inl hy) g3 hya
   have:=hin y hy g3 (o3 (by omega)) hya
   exact ⟨this.1,by omega⟩
  ·rw [List.mem_singleton] at hy
   subst hy
   exact ⟨rfl,by omega⟩
 ·intro y hy hya
  have hy':y ∈ Ls∨y ∈ Li∨y ∈ Lh:=Or.inr hy
  have hb:=h.tL y hy' g3 hya
  exact hout y hy g3 (o3 (by omega)) hya
structure KInvS (w:World) (ρ:Nat→Nat) (wb:Nat) (sdv:Value) (m:Int) (iv hv m1 m3:Value) (Ls Li Lh:List Ke) (lv:Value) (n j:Nat) (ρ1:Nat→Nat) (sv1 m21:Value) (Ln:List Ke) (x:Ke) (wr:World):Prop where
 law:LawAt wr ρ1 wb sdv m sv1 iv hv m1 m21 m3 (Ls ++ Ln) Li Lh
 len:Ln.length=j
 xm:x.m=m
 xn:x.n=n+j
 row:wr.ownsRow 0 100 5 (entV x) x.n (repP patS x.m x.n)
 xt:∀b,(entV x).ownBlock=some b→ρ1 b=310
 hin:∀y ∈ Ls ++ Ln,∀b,(entV x).ownBlock=some b→y.a=some ⟨b,0,none⟩→y.m=x.m∧y.n≤x.n
 hout:∀y,(y ∈ Li∨y ∈ Lh)→∀b,(entV x).ownBlock=some b→y.a≠some ⟨b,0,none⟩
 e1:∀k,k<w.heap.size→lv.ownBlock≠some k→ρ1 k=ρ k
 e2:∀k,w.heap.size≤k→ρ1 k=0∨300≤ρ1 k
 fits:Fits wr ρ1
 keeps:Keeps (fun k=>laws ρ k∨lv.ownBlock=some k) w wr
 e3:∀k,lv.ownBlock=some k→ρ1 k=310
 e4:∀k,lv.ownBlock=some k→k<w.heap.size
theorem KInvS.start {w V wr:World} {ρ:Nat→Nat} {wb:Nat} {sdv:Value} {m:Int} {sv iv hv m1 m2 m3:Value} {Ls Li Lh:List Ke} {la:Option Addr} {n lc:Nat} (hV:LawAt V ρ wb sdv m sv iv hv m1 m2 m3 Ls Li Lh) (hs:V.heap.size=w.heap.size) (hf:Fits w ρ) (hT:∀k,(Value.slice la n lc).ownBlock=some k→ρ k=0)
 (hK:Keeps (fun k=>laws ρ k∨(Value.slice la n lc).ownBlock=some k) w V) (hk:Keeps (fun k=>(Value.slice la n lc).ownBlock=some k) V wr) (hr:wr.ownsRow 0 100 5 (.slice la n lc) n (repP patS m n)) (h4:∀k,(Value.slice la n lc).ownBlock=some k→k<w.heap.size) :
 KInvS w ρ wb sdv m iv hv m1 m3 Ls Li Lh (.slice la n lc) n 0 (fun k=>if (Value.slice la n lc).ownBlock=some k then 310 else ρ k) sv m2 [] ⟨la,n,lc,m⟩ wr:=by
 have hz:=hk.size
 have no:∀y,(y ∈ Ls∨y ∈ Li∨y ∈ Lh)→∀b,(Value.slice la n lc).ownBlock=some b→y.a≠some ⟨b,0,none⟩:=by
  intro y hy b hb hya
  have h1:=(hV.tL y hy b hya).1
  have h2:=hT b hb
  omega
 refine ⟨?_,rfl,rfl,rfl,hr,fun b hb=>if_pos hb,?_,?_,fun k _ hne=>if_neg hne,?_,?_,?_,fun k hk=>if_pos hk,h4⟩
 ·rw [List.append_nil]
  refine hV.keeps hk (fun k hk=>Or.inl ?_) (fun k _ h3=>if_neg ?_)
  ·unfold laws;have:=hT k hk;omega
  ·intro e;have:=hT k e;omega
 ·intro y hy b hb hya
  rw [List.append_nil] at hy
  exact absurd hya (no y (Or.inl hy) b hb)
 ·intro y hy b hb
  exact no y (Or.inr hy) b hb
 ·intro k hk
  show (if _ then 310 else ρ k)=0∨300≤(if _ then 310 else ρ k)
  split
  ·right;omega
  ·left;exact hf k hk
 ·intro k hk
  show (if _ then 310 else ρ k)=0
  rw [if_neg (fun e=>by have:=h4 k e;omega)]
  exact hf k (by omega)
 ·exact hK.trans (hk.mono (fun k _ e=>Or.inr e))
theorem KInvS.step {w W C1 C2 D:World} {ρ ρ1:Nat→Nat} {wb:Nat} {sdv:Value} {m:Int} {sv1 iv hv m1 m21 m3:Value} {Ls Li Lh Ln:List Ke} {lv:Value} {n j:Nat} {x:Ke} (h:KInvS w ρ wb sdv m iv hv m1 m3 Ls Li Lh lv n j ρ1 sv1 m21 Ln x W) (hxn:x.n≤1000000) (hlen:(Ls ++ Ln).length≤100000000)
 {N g1 c1 g2 c2 g3 c3:Nat} (hN:N=(Ls ++ Ln).length+1)
 (b1:C1.heap[wb]?=some (.cells #[sdv,.slice (some ⟨g1,0,none⟩) N c1,iv,hv,m1,m21,m3,.int .i64 m] 36 (0,0))) (r1:C1.ownsRow 0 98 1 (.slice (some ⟨g1,0,none⟩) N c1) N ((Ls ++ Ln).map entV ++ [entV x])) (k1:Keeps (fun k=>k=wb∨sv1.ownBlock=some k) W C1) (o1:g1<W.heap.size→sv1.ownBlock=some g1)
 (b2:C2.heap[wb]?=some (.cells #[sdv,.slice (some ⟨g1,0,none⟩) N c1,iv,hv,m1,.slice (some ⟨g2,0,none⟩) N c2,m3,.int .i64 m] 36 (0,0))) (r2:C2.ownsRow 0 3 1 (.slice (some ⟨g2,0,none⟩) N c2) N ((Ls ++ Ln).map entM ++ [entM x])) (k2:Keeps (fun k=>k=wb∨m21.ownBlock=some k) C1 C2) (o2:g2<C1.heap.size→m21.ownBlock=some g2)
 (r3:D.ownsRow 0 100 5 (.slice (some ⟨g3,0,none⟩) (x.n+1) c3) (x.n+1) (repP patS x.m x.n ++ patS x.m)) (k3:Keeps (fun k=>(entV x).ownBlock=some k) C2 D) (s3:C2.grownBy D (some g3)) (o3:g3<C2.heap.size→(entV x).ownBlock=some g3) :
 ∃ρ',KInvS w ρ wb sdv m iv hv m1 m3 Ls Li Lh lv n (j+1) ρ' (.slice (some ⟨g1,0,none⟩) N c1) (.slice (some ⟨g2,0,none⟩) N c2) (Ln ++ [x]) ⟨some ⟨g3,0,none⟩,x.n+1,c3,x.m⟩ D:=by
 subst hN
 obtain ⟨ρ',hL,hold,hnew,hF,h310,hK,hi,ho⟩:=h.law.moreShards h.fits x h.row hxn hlen h.xt h.hin h.hout b1 r1 k1 o1 b2 r2 k2 o2 r3 k3 s3 o3
 have hz:=h.keeps.size
 have own:∀b,(entV ⟨some ⟨g3,0,none⟩,x.n+1,c3,x.m⟩).ownBlock=some b→b=g3:=by
  intro b hb
  simp [entV,Value.ownBlock] at hb
  exact hb.symm
 refine ⟨ρ',?_,by simp [h.len],h.xm,by show x.n+1=_;rw [h.xn];omega,r3,fun b hb=>by rw [own b hb];exact h310,?_,?_,?_,?_,hF,?_,?_,h.e4⟩
 ·rw [←List.append_assoc];exact hL
 ·intro y hy b hb hya
  rw [own b hb] at hya
  rw [←List.append_assoc] at hy
  exact hi y hy hya
 ·intro y hy b hb
  rw [own b hb]
  exact ho y hy
 ·intro k hk hne
  rw [hold k (by omega)];exact h.e1 k hk hne
 ·intro k hk
  by_cases hlt:k<W.heap.size
  ·rw [hold k hlt];exact h.e2 k hk
  ·exact hnew k (by omega)
 ·have hzD:=hK.size
  refine ⟨hK.os.trans h.keeps.os,hK.tape.trans h.keeps.tape,hK.output.trans h.keeps.output,by omega,fun k hk hs=>?_⟩
  rw [hK.block k (by omega) (fun e=>hs (Or.inl (by
   unfold laws at e ⊢
   rw [h.e1 k hk (fun q=>hs (Or.inr q))] at e
   exact e)))]
  exact h.keeps.block k hk hs
 ·intro k hk
  rw [hold k (by have:=h.e4 k hk;omega)];exact h.e3 k hk
structure OutAt (w:World) (ρ:Nat→Nat) (v:Value) (l:List (Sh × Value)):Prop where
 row:w.ownsRow 0 100 5 v l.length (listCells l)
 par:∀(i:Nat) (x:Sh × Value),l[i]?=some x→w.ownsRow 0 3 1 x.2 x.1.par.length (x.1.par.map (Value.int .i64))
 apart:∀(i j:Nat) (x y:Sh × Value),i<j→l[i]?=some x→l[j]?=some y→∀k,x.2.ownBlock=some k→y.2.ownBlock≠some k
 vapart:∀(i:Nat) (x:Sh × Value),l[i]?=some x→∀k,x.2.ownBlock=some k→v.ownBlock≠some k
 tagV:∀k,v.ownBlock=some k→ρ k=0
 tagP:∀(i:Nat) (x:Sh × Value),l[i]?=some x→∀k,x.2.ownBlock=some k→ρ k=0
theorem ListAt.outAt {w:World} {B:Nat} {v:Value} {l:List (Sh × Value)} (h:ListAt w B v l) (ρ:Nat→Nat) (hρ:∀k,B≤k→ρ k=0):OutAt w ρ v l :=
 ⟨ownsRow_base h.row (Nat.zero_le _),fun i x hi=>ownsRow_base (h.par i x hi) (Nat.zero_le _),fun i j x y hij hi hj _ hk hk'=>h.apart i j x y hij hi hj (hk.trans hk'.symm),fun i x hi _ hk hk'=>h.vapart i x hi (hk.trans hk'.symm),fun k hk=>hρ k (h.row.lt k hk).1,fun i x hi k hk=>hρ k ((h.par i x hi).lt k hk).1⟩
def DoneP (l:List (Sh × Value)) (j k:Nat):Prop:=∃(i:Nat) (x:Sh × Value),i<j∧l[i]?=some x∧x.2.ownBlock=some k
structure PInv (w:World) (ρ:Nat→Nat) (wb:Nat) (sdv:Value) (last:Int) (sv hv m2 m3:Value) (Ls Li Lh:List Ke) (l:List (Sh × Value)) (j:Nat) (ρ1:Nat→Nat) (iv1 m11:Value) (Ln:List Ke) (wr:World):Prop where
 law:LawAt wr ρ1 wb sdv (last - j) sv iv1 hv m11 m2 m3 Ls (Li ++ Ln) Lh
 len:Ln.length=4*j
 e1:∀k,k<w.heap.size→¬DoneP l j k→ρ1 k=ρ k
 e2:∀k,w.heap.size≤k→ρ1 k=0∨300≤ρ1 k
 fits:Fits wr ρ1
 keeps:Keeps (fun k=>laws ρ k∨DoneP l j k) w wr
theorem PInv.start {w:World} {ρ:Nat→Nat} {wb:Nat} {sdv:Value} {last:Int} {sv iv hv m1 m2 m3:Value} {Ls Li Lh:List Ke} (h:LawAt w ρ wb sdv last sv iv hv m1 m2 m3 Ls Li Lh) (hf:Fits w ρ) (l:List (Sh × Value)):PInv w ρ wb sdv last sv hv m2 m3 Ls Li Lh l 0 ρ iv m1 [] w:=by
 refine ⟨?_,rfl,fun k _ _=>rfl,fun k hk=>Or.inl (hf k hk),hf,Keeps.refl _ _⟩
 rw [List.append_nil,Int.natCast_zero,Int.sub_zero];exact h
theorem PInv.par {w wr:World} {ρ ρ1:Nat→Nat} {wb:Nat} {sdv:Value} {last:Int} {sv hv m2 m3 iv1 m11:Value} {Ls Li Lh Ln:List Ke} {l:List (Sh × Value)} {v:Value} {j:Nat} (h:PInv w ρ wb sdv last sv hv m2 m3 Ls Li Lh l j ρ1 iv1 m11 Ln wr) (ho:OutAt w ρ v l) (x:Sh × Value) (hx:l[j]?=some x) :
 wr.ownsRow 0 3 1 x.2 x.1.par.length (x.1.par.map (Value.int .i64))∧(∀k,x.2.ownBlock=some k→ρ1 k=0)∧wr.ownsRow 0 100 5 v l.length (listCells l)∧∀k,v.ownBlock=some k→ρ1 k=0:=by
 have np:∀k,x.2.ownBlock=some k→¬DoneP l j k:=fun k hk ⟨i,y,hij,hy,hyk⟩=>ho.apart i j y x hij hy hx k hyk hk
 have nv:∀k,v.ownBlock=some k→¬DoneP l j k:=fun k hk ⟨i,y,hij,hy,hyk⟩=>ho.vapart i y hy k hyk hk
 refine ⟨?_,fun k hk=>(h.e1 k ((ho.par j x hx).lt k hk).2 (np k hk)).trans (ho.tagP j x hx k hk),?_,fun k hk=>(h.e1 k (ho.row.lt k hk).2 (nv k hk)).trans (ho.tagV k hk)⟩
 ·refine ownsRow_keeps (ho.par j x hx) h.keeps fun k hk hs=>?_
  rcases hs with hs | hs
  ·have:=ho.tagP j x hx k hk;unfold laws at hs;omega
  ·exact np k hk hs
 ·refine ownsRow_keeps ho.row h.keeps fun k hk hs=>?_
  rcases hs with hs | hs
  ·have:=ho.tagV k hk;unfold laws at hs;omega
  ·exact nv k hk hs
theorem PInv.row {w wr:World} {ρ ρ1:Nat→Nat} {wb:Nat} {sdv:Value} {last:Int} {sv hv m2 m3 iv1 m11:Value} {Ls Li Lh Ln:List Ke} {l:List (Sh × Value)} {v:Value} {j:Nat} (h:PInv w ρ wb sdv last sv hv m2 m3 Ls Li Lh l j ρ1 iv1 m11 Ln wr) (ho:OutAt w ρ v l) :
 wr.ownsRow 0 100 5 v l.length (listCells l)∧∀k,v.ownBlock=some k→ρ1 k=0:=by
 have nv:∀k,v.ownBlock=some k→¬DoneP l j k:=fun k hk ⟨i,y,hij,hy,hyk⟩=>ho.vapart i y hy k hyk hk
 refine ⟨?_,fun k hk=>(h.e1 k (ho.row.lt k hk).2 (nv k hk)).trans (ho.tagV k hk)⟩
 refine ownsRow_keeps ho.row h.keeps fun k hk hs=>?_
 rcases hs with hs | hs
 ·have:=ho.tagV k hk;unfold laws at hs;omega
 ·exact nv k hk hs
theorem PInv.step {w wr w':World} {ρ ρ1:Nat→Nat} {wb:Nat} {sdv:Value} {last:Int} {sv hv m2 m3 iv1 m11:Value} {Ls Li Lh Ln:List Ke} {l:List (Sh × Value)} {v:Value} {j:Nat} {e:Ending} (h:PInv w ρ wb sdv last sv hv m2 m3 Ls Li Lh l j ρ1 iv1 m11 Ln wr) (ho:OutAt w ρ v l) (x:Sh × Value) (hx:l[j]?=some x)
 (hp:KeepPost wr ρ1 wb sdv (last - j - 1) sv hv m2 m3 Ls (Li ++ Ln) Lh x.2 e w'):∃ρ2 iv2 m12 L2,PInv w ρ wb sdv last sv hv m2 m3 Ls Li Lh l (j+1) ρ2 iv2 m12 L2 w':=by
 obtain ⟨_,ρ2,iv2,m12,L4,hL,hlen,t1,t2,hf,hk,t3⟩:=hp
 have hxl:∀k,x.2.ownBlock=some k→k<w.heap.size:=fun k hk=>((ho.par j x hx).lt k hk).2
 have hz:=h.keeps.size
 have hd:∀k,¬DoneP l (j+1) k→¬DoneP l j k∧x.2.ownBlock≠some k:=fun k hn=>⟨fun ⟨i,y,a,b,c⟩=>hn ⟨i,y,by omega,b,c⟩,fun e=>hn ⟨j,x,by omega,hx,e⟩⟩
 refine ⟨ρ2,iv2,m12,Ln ++ L4,?_,by rw [List.length_append,h.len,hlen];omega,?_,?_,hf,?_⟩
 ·rw [←List.append_assoc,show last - ((j+1:Nat):Int)=last - j - 1 by omega];exact hL
 ·intro k hk hn
  rw [t1 k (by omega) (hd k hn).2];exact h.e1 k hk (hd k hn).1
 ·intro k hk
  by_cases hlt:k<wr.heap.size
  ·rw [t1 k hlt (fun e=>by have:=hxl k e;omega)];exact h.e2 k hk
  ·exact t2 k (by omega)
 ·refine ⟨hk.os.trans h.keeps.os,hk.tape.trans h.keeps.tape,hk.output.trans h.keeps.output,Nat.le_trans hz hk.size,fun k hkk hs=>?_⟩
  have hn:¬DoneP l (j+1) k:=fun q=>hs (Or.inr q)
  have hl:¬laws ρ k:=fun q=>hs (Or.inl q)
  rw [hk.block k (by omega) (fun q=>by
   rcases q with q | q
   ·unfold laws at q hl;rw [h.e1 k hkk (hd k hn).1] at q;exact hl q
   ·exact (hd k hn).2 q)]
  exact h.keeps.block k hkk (fun q=>by
   rcases q with q | q
   ·exact hl q
   ·exact (hd k hn).1 q)
def OutB (v:Value) (l:List (Sh × Value)) (k:Nat):Prop:=v.ownBlock=some k∨∃(i:Nat) (x:Sh × Value),l[i]?=some x∧x.2.ownBlock=some k
def KeepPostS (w:World) (ρ:Nat→Nat) (wb:Nat) (sdv:Value) (last:Int) (hv m3:Value) (Ls Li Lh:List Ke) (v:Value) (l:List (Sh × Value)) (e:Ending) (w':World):Prop :=
 e=.returned (.tuple #[])∧∃ρ' sv iv m1 m2 Lt Ln,LawAt w' ρ' wb sdv (last - l.length - 1) sv iv hv m1 m2 m3 (Ls ++ Lt) (Li ++ Ln) Lh∧Lt.length=4∧Ln.length=4*l.length ∧
  (∀k,k<w.heap.size→¬OutB v l k→ρ' k=ρ k)∧(∀k,w.heap.size≤k→ρ' k=0∨300≤ρ' k)∧Fits w' ρ'∧Keeps (fun k=>laws ρ k∨OutB v l k) w w'
theorem PInv.done {w wr w':World} {ρ ρ1 ρ2:Nat→Nat} {wb:Nat} {sdv:Value} {last:Int} {sv hv m2 m3 iv1 m11 sv1 m21:Value} {Ls Li Lh Ln Lt:List Ke} {l:List (Sh × Value)} {v:Value} {x:Ke} {n:Nat} (hn:n=l.length) (h:PInv w ρ wb sdv last sv hv m2 m3 Ls Li Lh l n ρ1 iv1 m11 Ln wr) (ho:OutAt w ρ v l)
 (hs:KInvS wr ρ1 wb sdv (last - n - 1) iv1 hv m11 m3 Ls (Li ++ Ln) Lh v n 4 ρ2 sv1 m21 Lt x w'):KeepPostS w ρ wb sdv last hv m3 Ls Li Lh v l (.returned (.tuple #[])) w':=by
 subst hn
 have hz:=h.keeps.size
 have hd:∀k,¬OutB v l k→¬DoneP l l.length k∧v.ownBlock≠some k:=fun k hn=>⟨fun ⟨i,y,_,b,c⟩=>hn (Or.inr ⟨i,y,b,c⟩),fun e=>hn (Or.inl e)⟩
 refine ⟨rfl,ρ2,sv1,iv1,m11,m21,Lt,Ln,hs.law,hs.len,h.len,?_,?_,hs.fits,?_⟩
 ·intro k hk hn
  rw [hs.e1 k (by omega) (hd k hn).2];exact h.e1 k hk (hd k hn).1
 ·intro k hk
  by_cases hlt:k<wr.heap.size
  ·rw [hs.e1 k hlt (fun e=>by have:=(ho.row.lt k e).2;omega)];exact h.e2 k hk
  ·exact hs.e2 k (by omega)
 ·refine ⟨hs.keeps.os.trans h.keeps.os,hs.keeps.tape.trans h.keeps.tape,hs.keeps.output.trans h.keeps.output,Nat.le_trans hz hs.keeps.size,fun k hkk hq=>?_⟩
  have hn:¬OutB v l k:=fun q=>hq (Or.inr q)
  have hl:¬laws ρ k:=fun q=>hq (Or.inl q)
  rw [hs.keeps.block k (by omega) (fun q=>by
   rcases q with q | q
   ·unfold laws at q hl;rw [h.e1 k hkk (hd k hn).1] at q;exact hl q
   ·exact (hd k hn).2 q)]
  exact h.keeps.block k hkk (fun q=>by
   rcases q with q | q
   ·exact hl q
   ·exact (hd k hn).1 q)
theorem row_put5 {w:World} {te:TypeId} {lb n c:Nat} {xs:List Value} (h:w.ownsRow 0 te 5 (.slice (some ⟨lb,0,none⟩) n c) n xs) (j:Nat) (v0 v1 v2 v3 v4:Value) :
 (((((w.setCell ⟨lb,j*5,none⟩ v0).setCell ⟨lb,j*5+1,none⟩ v1).setCell ⟨lb,j*5+2,none⟩ v2).setCell ⟨lb,j*5+3,none⟩ v3).setCell ⟨lb,j*5+4,none⟩ v4).ownsRow 0 te 5 (.slice (some ⟨lb,0,none⟩) n c) n
   (((((xs.set (j*5) v0).set (j*5+1) v1).set (j*5+2) v2).set (j*5+3) v3).set (j*5+4) v4):=by
 have h:=(World.ownsRow.stored h (j*5) v0).1
 have h:=(World.ownsRow.stored h (j*5+1) v1).1
 have h:=(World.ownsRow.stored h (j*5+2) v2).1
 have h:=(World.ownsRow.stored h (j*5+3) v3).1
 have h:=(World.ownsRow.stored h (j*5+4) v4).1
 exact h
theorem repS_set {m:Int} {xs:List Value} {j:Nat} (hj:j*5+5≤xs.length) :
 ((((((repP patS m j ++ xs.drop (j*5)).set (j*5) (.int .i64 m)).set (j*5+1) (.int .i64 0)).set (j*5+2) (.bool false)).set (j*5+3) (.slice none 0 0)).set (j*5+4) (.int .i64 0))=repP patS m (j+1) ++ xs.drop ((j+1)*5):=by
 have hl:=repP_len (patS_len m) j
 have hd:xs.drop (j*5)=xs[j*5] :: xs[j*5+1] :: xs[j*5+2] :: xs[j*5+3] :: xs[j*5+4] :: xs.drop ((j+1)*5):=by
  rw [List.drop_eq_getElem_cons (by omega),List.drop_eq_getElem_cons (by omega),List.drop_eq_getElem_cons (by omega),List.drop_eq_getElem_cons (by omega),List.drop_eq_getElem_cons (by omega),show (j+1)*5=j*5+1+1+1+1+1 by omega]
 rw [hd,List.set_append_right _ _ (by omega),List.set_append_right _ _ (by omega),List.set_append_right _ _ (by omega),List.set_append_right _ _ (by omega),List.set_append_right _ _ (by omega),hl,Nat.sub_self,Nat.add_sub_cancel_left,Nat.add_sub_cancel_left,Nat.add_sub_cancel_left,Nat.add_sub_cancel_left]
 simp only [List.set_cons_zero,List.set_cons_succ,repP,patS,List.append_assoc,List.cons_append,List.nil_append]
theorem listCells_len (l:List (Sh × Value)):(listCells l).length=l.length*5:=by
 induction l with
 | nil=>rfl
 | cons s r ih=>simp only [listCells,List.length_append,ih,outCells,List.length_cons,List.length_nil];omega
end Go.Proofs.YtpnkmnmchdabkaaGreat
