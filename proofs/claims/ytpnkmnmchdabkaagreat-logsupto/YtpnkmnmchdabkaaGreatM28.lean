import Derived.Test.YtpnkmnmchdabkaaGreatM02
import Derived.Test.YtpnkmnmchdabkaaGreatM27
namespace Go.Proofs.YtpnkmnmchdabkaaGreat
open Go.RowKit
def tags0 (wb gb g mb yb g2 vb sb:Nat) (k:Nat):Nat :=
 if k=wb then 300 else if k=gb then 1 else if k=g then 2 else if k=mb then 40 else if k=yb then 200 else if k=g2 then 201 else if k=vb then 204 else if k=sb then 150 else 0
theorem krows0 (w:World) (te:TypeId) (size:Nat) (pat:Int→List Value):KRows w te size pat (.slice none 0 0) (.slice none 0 0) [] :=
 ⟨World.ownsRow_nil _ _ _ _,World.ownsRow_nil _ _ _ _,fun x hx=>(by cases hx),Nat.zero_le _⟩
theorem rowWks_new (n:Nat):rowWks (List.replicate n ⟨[],.slice none 0 0,[],.slice none 0 0⟩)=rowWk n:=by
 have app:∀l k:List Wk,rowWks (l ++ k)=rowWks l ++ rowWks k:=by
  intro l k
  induction l with
  | nil=>rfl
  | cons s r ih=>simp [rowWks,ih]
 induction n with
 | zero=>rfl
 | succ n ih=>rw [List.replicate_succ',app,ih];rfl
theorem rel_new (C:Cfg) (mb kn vb vc yn:Nat) (hkn:(kn:Int)=C.a) (hyk:yn=kn) (hkn1:1≤kn) (hk4:yn≤4) (hCl:validB C.a C.l C.b C.n C.s C.t=true):Rel C (rest0 (.slice (some ⟨mb,0,none⟩) kn kn) kn (memN kn)) 0 [first] [] [rfirst] ⟨.slice (some ⟨vb,0,none⟩) yn vc,List.replicate yn ⟨[],.slice none 0 0,[],.slice none 0 0⟩,[]⟩ ((0:Nat):Int):=by
 subst hyk
 have one:∀(k:Nat) r,[rfirst][k]?=some r→r=rfirst:=by
  intro k r hr
  match k,hr with
  | 0,hr=>simp at hr;exact hr.symm
  | k+1,hr=>simp at hr
 refine ⟨rfl,by omega,hkn,by simp [rest0],hkn1,fun k=>?_,⟨by simp [rest0,noneL],fun k hk=>?_⟩,fun k r hr=>by rw [one k r hr];simp [rfirst],hCl,⟨mb,yn,List.replicate (yn*16) pl0,rfl,plsCells_rep yn hk4,by simp [rest0],fun i y hy=>?_,?_⟩,[],[],entOk_nil,rfl,foOk_nil _,rfl⟩
 ·have z:dnP (List.replicate 32 0) k=0∧epP (List.replicate 32 0) k=0:=by
   unfold dnP epP
   rw [List.getElem?_replicate,List.getElem?_replicate]
   constructor <;> split <;> rfl
  show dnP (List.replicate 32 0) k=_∧epP (List.replicate 32 0) k=_
  rw [z.1,z.2]
  unfold dnR epR
  match k with
  | 0=>exact ⟨rfl,rfl⟩
  | k+1=>exact ⟨rfl,rfl⟩
 ·have e:leOf [rfirst] k=⟨-1,0,0⟩:=by
   unfold leOf
   match k with
   | 0=>rfl
   | k+1=>rfl
  rw [e]
  show (List.replicate 16 (⟨-1,0,0⟩:Le) ++ List.replicate (16 - 16) ⟨0,0,0⟩)[k]?=_
  rw [List.getElem?_append_left (by rw [List.length_replicate];exact hk),List.getElem?_replicate,if_pos hk]
 ·have hy':=List.eq_of_mem_replicate (List.mem_of_getElem? hy)
  subst hy'
  have hi:i<yn:=by have:=(List.getElem?_eq_some_iff.1 hy).1;simpa using this
  exact ⟨fun k hk=>⟨pl0,by rw [List.getElem?_replicate,if_pos (by omega)],rfl,rfl⟩,⟨by simp,fun x hx=>by simp at hx⟩,⟨by simp,fun x hx=>by simp at hx,fun x hx=>by simp at hx⟩⟩
 ·refine ⟨ow_new yn C.b hk4,fun k x hx e=>?_⟩
  refine hc_zero (fun j=>?_) _
  unfold hol
  rw [List.getElem?_replicate]
  split
  ·rename_i p hp
   split at hp
   ·injection hp with hp
    subst hp
    rfl
   ·cases hp
  ·rfl
theorem St.setup {W:World} {B wb gb g mb yb g2 vb vc sb rb kn yn:Nat} {C:Cfg} {sdv:Value} {base base2:Nat}
 (b0:W.heap[wb]?=some (.cells #[sdv,.slice none 0 0,.slice none 0 0,.slice none 0 0,.slice none 0 0,.slice none 0 0,.slice none 0 0,.int .i64 0] 36 (0,0)))
 (b1:W.heap[gb]?=some (.cells (grpArr C (.slice (some ⟨g,0,none⟩) 1 1) (rest0 (.slice (some ⟨mb,0,none⟩) kn kn) kn (memN kn))) 71 (0,0)))
 (b2:W.heap[g]?=some (.cells #[.int .i64 0,.int .i64 256,.bool true,.slice none 0 0,.slice none 0 0] 113 (0,0)))
 (b3:W.ownsRow base 162 128 (.slice (some ⟨mb,0,none⟩) kn kn) kn (memN kn))
 (b4:W.heap[yb]?=some (.cells (refArr C 0 (.slice (some ⟨g2,0,none⟩) 1 1) (.slice (some ⟨vb,0,none⟩) yn vc) (.slice none 0 0) (.slice none 0 0)) 80 (0,0)))
 (b5:W.heap[g2]?=some (.cells (rfCells rfirst).toArray 73 (0,0)))
 (b6:W.heap[sb]?=some (.cells #[.pointer (some ⟨gb,0,none⟩),.pointer (some ⟨yb,0,none⟩)] 46 (0,0)))
 (b8:W.ownsRow base2 84 2 (.slice (some ⟨vb,0,none⟩) yn vc) yn (rowWk yn)) (hyn:yn≤4) (hkn:(kn:Int)=C.a) (hyk:yn=kn) (hkn1:1≤kn) (hCl:validB C.a C.l C.b C.n C.s C.t=true)
 (o1:B≤wb) (o2:wb<gb) (o3:wb<g) (o4:wb<mb) (o5:g≠gb) (o6:mb≠gb) (o7:mb≠g) (o8:gb<g2) (o9:g<g2) (o10:mb<g2) (o11:g2<yb) (o12:yb<vb) (o12b:vb<sb) (o13:sb<rb) (o14:rb<W.heap.size) :
 St W (fun k=>k<B∨k=rb) wb sb gb yb C sdv 0 W:=by
 have hmb:∀k,(Value.slice (some ⟨mb,0,none⟩) kn kn).ownBlock=some k→k=mb:=fun k hk=>by simp [Value.ownBlock] at hk;exact hk.symm
 have one:∀(i:Nat) (s:Cs),[(⟨first,.slice none 0 0,.slice none 0 0⟩:Cs)][i]?=some s→i=0∧s=⟨first,.slice none 0 0,.slice none 0 0⟩:=by
  intro i s h
  match i,h with
  | 0,h=>simp at h;exact ⟨rfl,h.symm⟩
  | i+1,h=>simp at h
 have oner:∀(i:Nat) (r:Rf),[rfirst][i]?=some r→r=rfirst:=by
  intro i r h
  match i,h with
  | 0,h=>simp at h;exact h.symm
  | i+1,h=>simp at h
 have t0:tags0 wb gb g mb yb g2 vb sb wb=300:=by unfold tags0;rw [if_pos rfl]
 have t1:tags0 wb gb g mb yb g2 vb sb gb=1:=by unfold tags0;rw [if_neg (by omega),if_pos rfl]
 have t2:tags0 wb gb g mb yb g2 vb sb g=2:=by unfold tags0;rw [if_neg (by omega),if_neg o5,if_pos rfl]
 have t3:tags0 wb gb g mb yb g2 vb sb mb=40:=by unfold tags0;rw [if_neg (by omega),if_neg o6,if_neg o7,if_pos rfl]
 have t4:tags0 wb gb g mb yb g2 vb sb yb=200:=by unfold tags0;rw [if_neg (by omega),if_neg (by omega),if_neg (by omega),if_neg (by omega),if_pos rfl]
 have t5:tags0 wb gb g mb yb g2 vb sb g2=201:=by unfold tags0;rw [if_neg (by omega),if_neg (by omega),if_neg (by omega),if_neg (by omega),if_neg (by omega),if_pos rfl]
 have t6:tags0 wb gb g mb yb g2 vb sb sb=150:=by unfold tags0;rw [if_neg (by omega),if_neg (by omega),if_neg (by omega),if_neg (by omega),if_neg (by omega),if_neg (by omega),if_neg (by omega),if_pos rfl]
 have t7:tags0 wb gb g mb yb g2 vb sb vb=204:=by unfold tags0;rw [if_neg (by omega),if_neg (by omega),if_neg (by omega),if_neg (by omega),if_neg (by omega),if_neg (by omega),if_pos rfl]
 have tz:∀k,k<wb∨sb<k→tags0 wb gb g mb yb g2 vb sb k=0:=fun k hk=>by unfold tags0;rw [if_neg (by omega),if_neg (by omega),if_neg (by omega),if_neg (by omega),if_neg (by omega),if_neg (by omega),if_neg (by omega),if_neg (by omega)]
 refine ⟨tags0 wb gb g mb yb g2 vb sb,rest0 (.slice (some ⟨mb,0,none⟩) kn kn) kn (memN kn),0,[first],[rfirst],[],⟨.slice (some ⟨vb,0,none⟩) yn vc,List.replicate yn ⟨[],.slice none 0 0,[],.slice none 0 0⟩,[]⟩,.slice none 0 0,0,.slice none 0 0,.slice none 0 0,.slice none 0 0,.slice none 0 0,.slice none 0 0,.slice none 0 0,[],[],[],?_,?_,?_,?_,Keeps.refl _ _,?_,by simp,by simp,by simp,by simp,by omega,rel_new C mb kn vb vc yn hkn hyk hkn1 hyn hCl,by simp⟩
 ·refine ⟨b0,t0,krows0 _ _ _ _,krows0 _ _ _ _,krows0 _ _ _ _,?_,?_,?_,?_,?_,?_,?_⟩
  all_goals first | (intro k hk;simp [Value.ownBlock] at hk;done) | (intro x hx;simp at hx)
 ·refine ⟨b6,t6,⟨_,[⟨first,.slice none 0 0,.slice none 0 0⟩],rfl,⟨b1,t1,?_,ownsRow_base b3 (Nat.zero_le _),fun k hk=>by rw [hmb k hk];exact t3,by simp [rest0],by simp [rest0,noneL]⟩⟩,⟨_,_,⟨b4,t4,?_,?_,World.ownsRow_nil _ _ _ _,?_,?_,?_,?_⟩⟩,?_,inv_first,fun e he=>(by cases he)⟩
  ·refine ⟨⟨rfl,.inr ⟨g,1,_,rfl,Nat.zero_le _,b2,Nat.le_refl _,by unfold maxLen;omega,rfl,rfl⟩⟩,?_,?_,?_,?_,?_⟩
   ·intro k hk
    simp [Value.ownBlock] at hk
    subst hk
    exact t2
   ·intro i s hi;obtain ⟨_,rfl⟩:=one i s hi;exact World.ownsRow_nil _ _ _ _
   ·intro i s hi k hk;obtain ⟨_,rfl⟩:=one i s hi;simp [Value.ownBlock] at hk
   ·intro i s hi;obtain ⟨_,rfl⟩:=one i s hi;exact World.ownsRow_nil _ _ _ _
   ·intro i s hi k hk;obtain ⟨_,rfl⟩:=one i s hi;simp [Value.ownBlock] at hk
  ·exact ⟨rfl,.inr ⟨g2,1,_,rfl,Nat.zero_le _,b5,Nat.le_refl _,by unfold maxLen;omega,rfl,rfl⟩⟩
  ·intro k hk
   simp [Value.ownBlock] at hk
   subst hk
   exact t5
  ·intro k hk;simp [Value.ownBlock] at hk
  ·intro i r hi;rw [oner i r hi];exact World.ownsRow_nil _ _ _ _
  ·intro i r hi k hk;rw [oner i r hi] at hk;simp [rfirst,Value.ownBlock] at hk
  ·have rep:∀(i:Nat) (y:Wk),(List.replicate yn (⟨[],.slice none 0 0,[],.slice none 0 0⟩:Wk))[i]?=some y→y=⟨[],.slice none 0 0,[],.slice none 0 0⟩:=by
    intro i y hy
    exact List.eq_of_mem_replicate (List.mem_of_getElem? hy)
   refine ⟨?_,?_,?_,?_,?_,?_,World.ownsRow_nil _ _ _ _,?_,by simpa using hyn⟩
   ·show W.ownsRow 0 _ 2 _ (List.replicate yn _).length (rowWks _)
    rw [List.length_replicate,rowWks_new];exact ownsRow_base b8 (Nat.zero_le _)
   ·intro k hk;simp [Value.ownBlock] at hk;subst hk;exact t7
   ·intro i y hi;rw [rep i y hi];exact World.ownsRow_nil _ _ _ _
   ·intro i y hi k hk;rw [rep i y hi] at hk;simp [Value.ownBlock] at hk
   ·intro i y hi;rw [rep i y hi];exact World.ownsRow_nil _ _ _ _
   ·intro i y hi k hk;rw [rep i y hi] at hk;simp [Value.ownBlock] at hk
   ·intro k hk;simp [Value.ownBlock] at hk
  ·rfl
 ·intro k hk
  exact tz k (Or.inr (by omega))
 ·rintro k (hk | hk)
  ·exact tz k (Or.inl (by omega))
  ·exact tz k (Or.inr (by omega))
 ·rintro k (hk | hk)
  ·have:=lt_of_heap b0;omega
  ·omega
end Go.Proofs.YtpnkmnmchdabkaaGreat
namespace Go.Proofs.YtpnkmnmchdabkaaGreat
open Go.RowKit
attribute [local go_sem ↓] Go.wp_at_zero Go.wp_at_succ
theorem infoSP:(Tryz.prog.info? 44).map (fun i=>(i.zero,i.size,i.bytes))=some (some (.pointer none),1,8):=by kernel_rfl
def IsOps (w:World) (a0:Option Addr) (len:Nat) (os:List Opn):Prop :=
 os.length=len∧∀(i:Nat) (o:Opn),os[i]?=some o→o.s.size≤maxLen∧∃ab ao,a0=some ⟨ab,ao,none⟩∧ab<w.heap.size ∧
  w.cell? ⟨ab,ao+i*6,none⟩=some (.int .i64 o.k)∧w.cell? ⟨ab,ao+i*6+1,none⟩=some (.int .i64 o.a)∧w.cell? ⟨ab,ao+i*6+2,none⟩=some (.int .i64 o.b) ∧
  w.cell? ⟨ab,ao+i*6+3,none⟩=some (.string o.s)∧w.cell? ⟨ab,ao+i*6+4,none⟩=some (.bool o.lost)∧w.cell? ⟨ab,ao+i*6+5,none⟩=some (.bool o.wh)
theorem St.kept {w0 w:World} {K:Nat→Prop} {wb sb gb yb:Nat} {C:Cfg} {sdv:Value} {N:Nat} (h:St w0 K wb sb gb yb C sdv N w) :
 Calls Tryz.prog 11 #[.pointer (some ⟨wb,0,none⟩)] w fun e w'=>e=.returned (.bool true)∧St w0 K wb sb gb yb C sdv N w':=by
 have h':=h
 obtain ⟨ρ,now,time,l,rs,P,wv,fv,last,sv,iv,hv,m1,m2,m3,Ls,Li,Lh,hL,_⟩:=h'
 refine hL.kept.mono ?_
 rintro e w' ⟨rfl,hb⟩
 exact ⟨rfl,h.below hb⟩
theorem St.asked {w0 w:World} {K:Nat→Prop} {wb sb gb yb:Nat} {C:Cfg} {sdv:Value} {N:Nat} (h:St w0 K wb sb gb yb C sdv N w) (hN:N≤600000) :
 Calls Tryz.prog 12 #[.pointer (some ⟨wb,0,none⟩),.pointer (some ⟨sb,0,none⟩)] w fun e w'=>e=.returned (.bool true)∧St w0 K wb sb gb yb C sdv (N+1) w':=by
 obtain ⟨ρ,now,time,l,rs,P,wv,fv,last,sv,iv,hv,m1,m2,m3,Ls,Li,Lh,hL,hS,hf,hB0,hBb,hBs,hn1,hn2,hn3,hn4,hn5,hn6,hn7⟩:=h
 refine (shardsAre_any hL hS hf (by omega) (by omega) (by omega) (by omega) (by omega)).mono ?_
 rintro e w' ⟨rfl,ρ',last',sv',iv',m1',m2',Ls',Li',a1,a2,a3,a4,a5,a6,a7,a8⟩
 obtain ⟨b1,b2,b3⟩:=below_frame hBb hB0 hBs a8
 exact ⟨rfl,ρ',now,time,l,rs,P,wv,fv,last',sv',iv',hv,m1',m2',m3,Ls',Li',Lh,a1,a2,a3,b2,b1,b3,by omega,by omega,by omega,by omega,by omega,hn6.mono (by omega),by omega⟩
theorem St.cell0 {w0 w:World} {K:Nat→Prop} {wb sb gb yb:Nat} {C:Cfg} {sdv:Value} {N:Nat} (h:St w0 K wb sb gb yb C sdv N w):w.cell? ⟨wb,0,none⟩=some sdv:=by
 obtain ⟨ρ,now,time,l,rs,P,wv,fv,last,sv,iv,hv,m1,m2,m3,Ls,Li,Lh,hL,_⟩:=h
 exact cell_of hL.blk 0
theorem St.stands {w0 w:World} {K:Nat→Prop} {wb sb gb yb:Nat} {C:Cfg} {sdv:Value} {N:Nat} (h:St w0 K wb sb gb yb C sdv N w) {b i:Nat} (hK:K b):w.cell? ⟨b,i,none⟩=w0.cell? ⟨b,i,none⟩:=by
 obtain ⟨ρ,now,time,l,rs,P,wv,fv,last,sv,iv,hv,m1,m2,m3,Ls,Li,Lh,_,_,_,_,hBb,hBs,_⟩:=h
 exact World.cell?_of_block (w:=w0) (hBb.block b (hBs b hK) (fun q=>q hK))
theorem St.lt {w0 w:World} {K:Nat→Prop} {wb sb gb yb:Nat} {C:Cfg} {sdv:Value} {N:Nat} (h:St w0 K wb sb gb yb C sdv N w):wb<w.heap.size∧∀k,K k→k<w.heap.size:=by
 obtain ⟨ρ,now,time,l,rs,P,wv,fv,last,sv,iv,hv,m1,m2,m3,Ls,Li,Lh,hL,_,_,_,hBb,hBs,_⟩:=h
 exact ⟨lt_of_heap hL.blk,fun k hk=>Nat.lt_of_lt_of_le (hBs k hk) hBb.size⟩
theorem St.under {w0 w:World} {B rb wb sb gb yb:Nat} {C:Cfg} {sdv:Value} {N:Nat} (h:St w0 (fun k=>k<B∨k=rb) wb sb gb yb C sdv N w):Below B w0 w:=by
 obtain ⟨ρ,now,time,l,rs,P,wv,fv,last,sv,iv,hv,m1,m2,m3,Ls,Li,Lh,_,_,_,_,hBb,hBs,_⟩:=h
 exact ⟨hBb.os,hBb.tape,hBb.output,hBb.size,fun k hk=>hBb.block k (hBs k (Or.inl hk)) (fun q=>q (Or.inl hk))⟩
def Ready (w:World) (C:Cfg) (sb gb yb rb cap:Nat) (wr:World):Prop :=
 St wr (fun k=>k<w.heap.size∨k=rb) w.heap.size sb gb yb C (.slice (some ⟨rb,0,none⟩) 1 cap) 0 wr∧Below w.heap.size w wr∧wr.cell? ⟨rb,0,none⟩=some (.pointer (some ⟨sb,0,none⟩))
def ReadyEx (w:World) (C:Cfg) (wr:World):Prop:=∃sb gb yb rb cap,Ready w C sb gb yb rb cap wr
set_option maxRecDepth 100000 in
set_option maxHeartbeats 8000000 in
theorem play_bad (w:World) (C:Cfg) (cb n cap:Nat) (a0:Option Addr) (most:Int) (hcb:cb<w.heap.size) (hv:validB C.a C.l C.b C.n C.s C.t=false)
 (k0:w.cell? ⟨cb,0,none⟩=some (.int .i64 C.a)) (k1:w.cell? ⟨cb,1,none⟩=some (.int .i64 C.l)) (k2:w.cell? ⟨cb,2,none⟩=some (.int .i64 C.b)) (k3:w.cell? ⟨cb,3,none⟩=some (.int .i64 C.n)) (k4:w.cell? ⟨cb,4,none⟩=some (.int .i64 C.s)) (k5:w.cell? ⟨cb,5,none⟩=some (.int .i64 C.t)) :
 Calls Tryz.prog 7 #[.slice (some ⟨cb,0,none⟩) 1 1,.slice a0 n cap,.int .i64 most] w fun e w'=>e=.returned (.bool true)∧Below w.heap.size w w':=by
 have HN:=fun w=>hide (new_bad C w hv)
 have HR:=fun w=>hide (refNew_bad C w hv)
 unfold Cfg.arr at HN HR
 clear hv
 go_enter Tryz.func7,Tryz.ntmps7
 go_wp2
 have HB:Hid (Below w.heap.size w (w.alloc (.cells #[.slice none 0 0,.slice none 0 0,.slice none 0 0,.slice none 0 0,.slice none 0 0,.slice none 0 0,.slice none 0 0,.int .i64 0] 36))):=(Below.refl _ w).alloc (Nat.le_refl _) _
 generalize w.alloc (.cells #[.slice none 0 0,.slice none 0 0,.slice none 0 0,.slice none 0 0,.slice none 0 0,.slice none 0 0,.slice none 0 0,.int .i64 0] 36)=V at *
 go_loopw [9] (fun i wr=>i=.int .i64 0∧wr=V) (fun i _=>1 - (intOf i).toNat)
 case atStart=>exact ⟨rfl,rfl⟩
 case round =>
  obtain ⟨rfl,rfl⟩:=hrel
  have hwz:=(uh HB).size
  have k0:=((uh HB).cell (p:=⟨cb,0,none⟩) hcb).trans k0
  have k1:=((uh HB).cell (p:=⟨cb,1,none⟩) hcb).trans k1
  have k2:=((uh HB).cell (p:=⟨cb,2,none⟩) hcb).trans k2
  have k3:=((uh HB).cell (p:=⟨cb,3,none⟩) hcb).trans k3
  have k4:=((uh HB).cell (p:=⟨cb,4,none⟩) hcb).trans k4
  have k5:=((uh HB).cell (p:=⟨cb,5,none⟩) hcb).trans k5
  go_wp2_with (go_at_call 8;refine (uh (HN _)).mono ?_;rintro e w1 ⟨rfl,hb⟩;have k0:=(hb.cell (p:=⟨cb,0,none⟩) (by simp;omega)).trans k0;have k1:=(hb.cell (p:=⟨cb,1,none⟩) (by simp;omega)).trans k1;have k2:=(hb.cell (p:=⟨cb,2,none⟩) (by simp;omega)).trans k2;have k3:=(hb.cell (p:=⟨cb,3,none⟩) (by simp;omega)).trans k3;have k4:=(hb.cell (p:=⟨cb,4,none⟩) (by simp;omega)).trans k4;have k5:=(hb.cell (p:=⟨cb,5,none⟩) (by simp;omega)).trans k5;have HB1:=hide hb;clear hb)
  refine (uh (HR _)).mono ?_
  rintro e w2 ⟨rfl,hb2⟩
  have HB2:Hid (Below w.heap.size w w2):=(uh HB).trans (((uh HB1).mono hwz).trans (hb2.mono (by have:=(uh HB1).size;omega)))
  clear hb2
  go_wp2
  go_ret
  exact ⟨rfl,uh HB2⟩
end Go.Proofs.YtpnkmnmchdabkaaGreat
