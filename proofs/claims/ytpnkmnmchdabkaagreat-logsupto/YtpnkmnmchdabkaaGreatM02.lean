import Derived.Test.YtpnkmnmchdabkaaGreatM01
namespace Go.Proofs.YtpnkmnmchdabkaaGreat
open Go.RowKit
def plsCells:List Pl→List Value
 | []=>[]
 | p :: r=>plCells p ++ plsCells r
theorem plsCells_get (P:List Pl) (q j:Nat) (hj:j<8) (p:Pl) (h:P[q]?=some p):(plsCells P)[q*8+j]?=(plCells p)[j]?:=by
 induction P generalizing q with
 | nil=>simp at h
 | cons a r ih =>
   cases q with
   | zero =>
     simp only [List.getElem?_cons_zero,Option.some.injEq] at h
     subst h
     rw [plsCells,List.getElem?_append_left (by simp [plCells];omega)]
     simp
   | succ q =>
     simp only [List.getElem?_cons_succ] at h
     rw [plsCells,List.getElem?_append_right (by simp [plCells];omega)]
     have e:(q+1)*8+j - (plCells a).length=q*8+j:=by simp [plCells];omega
     rw [e]
     exact ih q h
theorem plsCells_set (P:List Pl) (q j:Nat) (hj:j<8) (p p':Pl) (u:Value) (h:P[q]?=some p) (e:(plCells p).set j u=plCells p'):(plsCells P).set (q*8+j) u=plsCells (P.set q p'):=by
 induction P generalizing q with
 | nil=>simp at h
 | cons a r ih =>
   cases q with
   | zero =>
     simp only [List.getElem?_cons_zero,Option.some.injEq] at h
     subst h
     rw [plsCells,List.set_append_left _ _ (by simp [plCells];omega),List.set_cons_zero,plsCells]
     simp [e]
   | succ q =>
     simp only [List.getElem?_cons_succ] at h
     rw [plsCells,List.set_append_right _ _ (by simp [plCells];omega),List.set_cons_succ,plsCells]
     have e':(q+1)*8+j - (plCells a).length=q*8+j:=by simp [plCells];omega
     rw [e',ih q h]
structure PlsAt (w:World) (g cap N:Nat) (P:List Pl):Prop where
 row:w.ownsRow 0 162 128 (.slice (some ⟨g,0,none⟩) N cap) N (plsCells P)
 len:P.length=N*16
theorem PlsAt.lt {w:World} {g cap N:Nat} {P:List Pl} (h:PlsAt w g cap N P):g<w.heap.size:=(h.row.lt g rfl).2
theorem PlsAt.place {w:World} {g cap N:Nat} {P:List Pl} (h:PlsAt w g cap N P) {i n:Nat} {p:Pl} (hp:P[i*16+n]?=some p):PlAt w g (i*128+n*8) p:=by
 have hl:=(List.getElem?_eq_some_iff.1 hp).1
 have hn:=h.len
 have c:∀j,j<8→w.cell? ⟨g,i*128+n*8+j,none⟩=(plCells p)[j]?:=fun j hj=>by
  have e:i*128+n*8+j=(i*16+n)*8+j:=by omega
  rw [e,h.row.cellAt _ (by omega),plsCells_get P _ j hj p hp]
 exact ⟨h.lt,c 0 (by omega),c 1 (by omega),c 2 (by omega),c 3 (by omega),c 4 (by omega),c 5 (by omega),c 6 (by omega),c 7 (by omega),fun q=>h.row.frozenAt q⟩
theorem PlsAt.set {w:World} {g cap N:Nat} {P:List Pl} (h:PlsAt w g cap N P) {i n j:Nat} (hj:j<8) {p:Pl} (p':Pl) (hp:P[i*16+n]?=some p) (u:Value) (e:(plCells p).set j u=plCells p') :
 PlsAt (w.setCell ⟨g,i*128+n*8+j,none⟩ u) g cap N (P.set (i*16+n) p'):=by
 have he:i*128+n*8+j=(i*16+n)*8+j:=by omega
 refine ⟨?_,by simpa using h.len⟩
 rw [he,←plsCells_set P _ j hj p p' u hp e]
 exact (h.row.stored _ u).1
theorem PlsAt.block {w w':World} {g cap N:Nat} {P:List Pl} (h:PlsAt w g cap N P) (hb:w'.heap[g]?=w.heap[g]?):PlsAt w' g cap N P :=
 ⟨ownsRow_of_block h.row fun k hk=>by
  have e:g=k:=by simpa [Value.ownBlock] using hk
  subst e;exact hb,h.len⟩
def PlPost (w:World) (g cap N:Nat) (P:List Pl) (w':World):Prop:=PlsAt w' g cap N P∧Keeps (fun k=>k=g) w w'
theorem set_set_at {P:List Pl} {q:Nat} {a b:Pl}:(P.set q a).set q b=P.set q b:=by simp
theorem get_set_at {P:List Pl} {q:Nat} {p a:Pl} (h:P[q]?=some p):(P.set q a)[q]?=some a:=by
 have:=(List.getElem?_eq_some_iff.1 h).1
 simp [this]
theorem keep_chain {w:World} {g cap N:Nat} {P:List Pl} (h:PlsAt w g cap N P) {i n:Nat} {p:Pl} (hp:P[i*16+n]?=some p) (held:Bool) (sh ep at_ bf:Int) {w':World}
 (hb:Below w.heap.size (((((w.setCell ⟨g,i*128+n*8,none⟩ (.bool held)).setCell ⟨g,i*128+n*8+1,none⟩ (.int .i64 sh)).setCell ⟨g,i*128+n*8+1+1,none⟩ (.int .i64 ep)).setCell ⟨g,i*128+n*8+1+2,none⟩ (.int .i64 at_)).setCell ⟨g,i*128+n*8+1+3,none⟩ (.int .i64 bf)) w') :
 PlPost w g cap N (P.set (i*16+n) { p with held:=held,h:=⟨sh,ep,at_,bf⟩ }) w':=by
 have s1:=h.set (j:=0) (by omega) { p with held:=held } hp (.bool held) rfl
 have s2:=s1.set (j:=1) (by omega) { p with held:=held,h:={ p.h with sh:=sh } } (get_set_at hp) (.int .i64 sh) rfl
 rw [set_set_at] at s2
 have s3:=s2.set (j:=2) (by omega) { p with held:=held,h:=⟨sh,ep,p.h.at_,p.h.bf⟩ } (get_set_at hp) (.int .i64 ep) rfl
 rw [set_set_at] at s3
 have s4:=s3.set (j:=3) (by omega) { p with held:=held,h:=⟨sh,ep,at_,p.h.bf⟩ } (get_set_at hp) (.int .i64 at_) rfl
 rw [set_set_at] at s4
 have s5:=s4.set (j:=4) (by omega) { p with held:=held,h:=⟨sh,ep,at_,bf⟩ } (get_set_at hp) (.int .i64 bf) rfl
 rw [set_set_at] at s5
 refine ⟨s5.block (hb.block g h.lt),?_⟩
 have k0:Keeps (fun k=>k=g) w (((((w.setCell ⟨g,i*128+n*8,none⟩ (.bool held)).setCell ⟨g,i*128+n*8+1,none⟩ (.int .i64 sh)).setCell ⟨g,i*128+n*8+1+1,none⟩ (.int .i64 ep)).setCell ⟨g,i*128+n*8+1+2,none⟩ (.int .i64 at_)).setCell ⟨g,i*128+n*8+1+3,none⟩ (.int .i64 bf)):=by
  iterate 5 refine Keeps.setCell (S:=fun k=>k=g) ?_ (by exact Or.inl rfl) _
  exact Keeps.refl _ w
 exact k0.trans ((Keeps.of_below hb).mono fun k hk hs=>by simp at hk;omega)
theorem note_chain {w:World} {g cap N:Nat} {P:List Pl} (h:PlsAt w g cap N P) {i n:Nat} {p:Pl} (hp:P[i*16+n]?=some p) (c s:Int) {w':World}
 (hb:Below w.heap.size (((w.setCell ⟨g,i*128+n*8+5,none⟩ (.bool true)).setCell ⟨g,i*128+n*8+5+1,none⟩ (.int .i64 c)).setCell ⟨g,i*128+n*8+5+2,none⟩ (.int .i64 s)) w') :
 PlPost w g cap N (P.set (i*16+n) { p with made:=true,c:=c,s:=s }) w':=by
 have s1:=h.set (j:=5) (by omega) { p with made:=true } hp (.bool true) rfl
 have s2:=s1.set (j:=6) (by omega) { p with made:=true,c:=c } (get_set_at hp) (.int .i64 c) rfl
 rw [set_set_at] at s2
 have s3:=s2.set (j:=7) (by omega) { p with made:=true,c:=c,s:=s } (get_set_at hp) (.int .i64 s) rfl
 rw [set_set_at] at s3
 refine ⟨s3.block (hb.block g h.lt),?_⟩
 have k0:Keeps (fun k=>k=g) w (((w.setCell ⟨g,i*128+n*8+5,none⟩ (.bool true)).setCell ⟨g,i*128+n*8+5+1,none⟩ (.int .i64 c)).setCell ⟨g,i*128+n*8+5+2,none⟩ (.int .i64 s)):=by
  iterate 3 refine Keeps.setCell (S:=fun k=>k=g) ?_ (by exact Or.inl rfl) _
  exact Keeps.refl _ w
 exact k0.trans ((Keeps.of_below hb).mono fun k hk hs=>by simp at hk;omega)
theorem plKeep_any (w:World) (g cap N:Nat) (P:List Pl) (i n:Nat) (hn:n<16) (p:Pl) (ep at_ bf:Int) (h:PlsAt w g cap N P) (hp:P[i*16+n]?=some p) :
 Calls Tryz.prog 41 #[.pointer (some ⟨g,i*128,none⟩),.agg #[.int .i64 n,.int .i64 ep,.int .i64 at_,.int .i64 bf]] w fun e w'=>e=.returned (.tuple #[])∧PlPost w g cap N (P.set (i*16+n) { p with held:=true,h:=⟨n,ep,at_,bf⟩ }) w' :=
 (memKeep_any g (i*128) n hn p ep at_ bf w (h.place hp)).mono fun _ _ q=>⟨q.1,keep_chain h hp _ _ _ _ _ q.2⟩
theorem plDrop_any (w:World) (g cap N:Nat) (P:List Pl) (i n:Nat) (hn:n<16) (p:Pl) (h:PlsAt w g cap N P) (hp:P[i*16+n]?=some p) :
 Calls Tryz.prog 82 #[.pointer (some ⟨g,i*128,none⟩),.int .i64 n] w fun e w'=>e=.returned (.tuple #[])∧PlPost w g cap N (P.set (i*16+n) { p with held:=false,h:=⟨0,0,0,0⟩ }) w' :=
 (memDrop_any g (i*128) n hn p w (h.place hp)).mono fun _ _ q=>⟨q.1,keep_chain h hp _ _ _ _ _ q.2⟩
def noted (p:Pl) (c s:Int):Pl:=if p.made=true∧p.c=c then p else { p with made:=true,c:=c,s:=s }
theorem plNote_any (w:World) (g cap N:Nat) (P:List Pl) (i n:Nat) (hn:n<16) (p:Pl) (c s:Int) (h:PlsAt w g cap N P) (hp:P[i*16+n]?=some p) :
 Calls Tryz.prog 119 #[.pointer (some ⟨g,i*128,none⟩),.int .i64 n,.int .i64 c,.int .i64 s] w fun e w'=>e=.returned (.tuple #[])∧PlPost w g cap N (P.set (i*16+n) (noted p c s)) w':=by
 by_cases hm:p.made=true∧p.c=c
 ·obtain ⟨h1,rfl⟩:=hm
  have e:P.set (i*16+n) (noted p p.c s)=P:=by
   have hl:=List.getElem?_eq_some_iff.1 hp
   rw [noted,if_pos ⟨h1,rfl⟩,←hl.2,List.set_getElem_self]
  rw [e]
  exact (memNote_old g (i*128) n hn p s w (h.place hp) h1).mono fun _ _ q=>⟨q.1,h.block (q.2.block g h.lt),(Keeps.of_below q.2).mono fun k hk hs=>by omega⟩
 ·rw [noted,if_neg hm]
  exact (memNote_new g (i*128) n hn p c s w (h.place hp) hm).mono fun _ _ q=>⟨q.1,note_chain h hp _ _ q.2⟩
theorem plHold_any (w:World) (g cap N:Nat) (P:List Pl) (i n:Nat) (hn:n<16) (p:Pl) (h:PlsAt w g cap N P) (hp:P[i*16+n]?=some p) :
 Calls Tryz.prog 77 #[.pointer (some ⟨g,i*128,none⟩),.int .i64 n] w fun e w'=>e=.returned (.tuple #[if p.held=true then .agg #[.int .i64 p.h.sh,.int .i64 p.h.ep,.int .i64 p.h.at_,.int .i64 p.h.bf] else .agg #[.int .i64 0,.int .i64 0,.int .i64 0,.int .i64 0],.bool p.held])∧Below w.heap.size w w' :=
 memHold_any g (i*128) n hn p w (h.place hp)
end Go.Proofs.YtpnkmnmchdabkaaGreat
namespace Go.Proofs.YtpnkmnmchdabkaaGreat
open Go.RowKit
attribute [local go_sem ↓] Go.wp_at_zero Go.wp_at_succ
def pl0:Pl:=⟨false,⟨0,0,0,0⟩,false,0,0⟩
def forgetP (P:List Pl) (i:Nat):Nat→List Pl
 | 0=>P
 | k+1=>(forgetP P i k).set (i*16+k) pl0
theorem forgetP_len (P:List Pl) (i k:Nat):(forgetP P i k).length=P.length:=by
 induction k with
 | zero=>rfl
 | succ k ih=>simp [forgetP,ih]
theorem forget_chain {w:World} {g cap N:Nat} {P:List Pl} (h:PlsAt w g cap N P) {i n:Nat} {p:Pl} (hp:P[i*16+n]?=some p) :
 PlsAt ((((((((w.setCell ⟨g,i*128+n*8,none⟩ (.bool false)).setCell ⟨g,i*128+n*8+1,none⟩ (.int .i64 0)).setCell ⟨g,i*128+n*8+2,none⟩ (.int .i64 0)).setCell ⟨g,i*128+n*8+3,none⟩ (.int .i64 0)).setCell ⟨g,i*128+n*8+4,none⟩ (.int .i64 0)).setCell ⟨g,i*128+n*8+5,none⟩ (.bool false)).setCell ⟨g,i*128+n*8+6,none⟩ (.int .i64 0)).setCell ⟨g,i*128+n*8+7,none⟩ (.int .i64 0)) g cap N (P.set (i*16+n) pl0)∧Keeps (fun k=>k=g) w ((((((((w.setCell ⟨g,i*128+n*8,none⟩ (.bool false)).setCell ⟨g,i*128+n*8+1,none⟩ (.int .i64 0)).setCell ⟨g,i*128+n*8+2,none⟩ (.int .i64 0)).setCell ⟨g,i*128+n*8+3,none⟩ (.int .i64 0)).setCell ⟨g,i*128+n*8+4,none⟩ (.int .i64 0)).setCell ⟨g,i*128+n*8+5,none⟩ (.bool false)).setCell ⟨g,i*128+n*8+6,none⟩ (.int .i64 0)).setCell ⟨g,i*128+n*8+7,none⟩ (.int .i64 0)):=by
 have s1:=h.set (j:=0) (by omega) { p with held:=false } hp (.bool false) rfl
 have s2:=s1.set (j:=1) (by omega) { p with held:=false,h:=⟨0,p.h.ep,p.h.at_,p.h.bf⟩ } (get_set_at hp) (.int .i64 0) rfl
 rw [set_set_at] at s2
 have s3:=s2.set (j:=2) (by omega) { p with held:=false,h:=⟨0,0,p.h.at_,p.h.bf⟩ } (get_set_at hp) (.int .i64 0) rfl
 rw [set_set_at] at s3
 have s4:=s3.set (j:=3) (by omega) { p with held:=false,h:=⟨0,0,0,p.h.bf⟩ } (get_set_at hp) (.int .i64 0) rfl
 rw [set_set_at] at s4
 have s5:=s4.set (j:=4) (by omega) ⟨false,⟨0,0,0,0⟩,p.made,p.c,p.s⟩ (get_set_at hp) (.int .i64 0) rfl
 rw [set_set_at] at s5
 have s6:=s5.set (j:=5) (by omega) ⟨false,⟨0,0,0,0⟩,false,p.c,p.s⟩ (get_set_at hp) (.bool false) rfl
 rw [set_set_at] at s6
 have s7:=s6.set (j:=6) (by omega) ⟨false,⟨0,0,0,0⟩,false,0,p.s⟩ (get_set_at hp) (.int .i64 0) rfl
 rw [set_set_at] at s7
 have s8:=s7.set (j:=7) (by omega) pl0 (get_set_at hp) (.int .i64 0) rfl
 rw [set_set_at] at s8
 refine ⟨s8,?_⟩
 iterate 8 refine Keeps.setCell (S:=fun k=>k=g) ?_ (by exact Or.inl rfl) _
 exact Keeps.refl _ w
set_option maxRecDepth 100000 in
set_option maxHeartbeats 1000000 in
theorem plForget_any (w:World) (g cap N:Nat) (P:List Pl) (i:Nat) (hi:i<N) (h:PlsAt w g cap N P) :
 Calls Tryz.prog 96 #[.pointer (some ⟨g,i*128,none⟩)] w fun e w'=>e=.returned (.tuple #[])∧PlPost w g cap N (forgetP P i 16) w':=by
 have HP:=hide h
 have hlen:=h.len
 clear h
 go_enter Tryz.func96,Tryz.ntmps96
 go_wp2
 go_loopw [2] (fun n wr=>∃k:Nat,k≤16∧n=.int .i64 k∧PlPost w g cap N (forgetP P i k) wr) (fun n _=>16 - (intOf n).toNat)
 case atStart=>exact ⟨0,by omega,rfl,uh HP,Keeps.refl _ w⟩
 case round =>
  obtain ⟨k,hk,rfl,q1,q2⟩:=hrel
  by_cases hlt:k<16
  ·have hl:i*16+k<(forgetP P i k).length:=by rw [forgetP_len];omega
   have hp:=List.getElem?_eq_getElem hl
   generalize (forgetP P i k)[i*16+k]=p at hp
   have HC:=hide (forget_chain q1 hp)
   obtain ⟨hll,a0,a1,a2,a3,a4,a5,a6,a7,fr⟩:=q1.place hp
   have b2:wr.cell? ⟨g,i*128+k*8+2,none⟩=some (.int .i64 p.h.ep):=a2
   have b3:wr.cell? ⟨g,i*128+k*8+3,none⟩=some (.int .i64 p.h.at_):=a3
   have b4:wr.cell? ⟨g,i*128+k*8+4,none⟩=some (.int .i64 p.h.bf):=a4
   have b6:wr.cell? ⟨g,i*128+k*8+6,none⟩=some (.int .i64 p.c):=a6
   have b7:wr.cell? ⟨g,i*128+k*8+7,none⟩=some (.int .i64 p.s):=a7
   have f0:=fr (i*128+k*8)
   have f1:=fr (i*128+k*8+1)
   have f2:=fr (i*128+k*8+2)
   have f3:=fr (i*128+k*8+3)
   have f4:=fr (i*128+k*8+4)
   have f5:=fr (i*128+k*8+5)
   have f6:=fr (i*128+k*8+6)
   have f7:=fr (i*128+k*8+7)
   have Q2:=hide q2
   clear q1 q2 hp hl fr a2 a3 a4 a6 a7
   go_wp2
   go_roundw
   case rel=>exact ⟨k+1,by omega,by go_num,(uh HC).1,(uh Q2).trans (uh HC).2⟩
   case measure=>simp [intOf];omega
  ·have e:k=16:=by omega
   subst e
   have Q1:=hide q1
   have Q2:=hide q2
   clear q1 q2
   go_wp2
   go_end0
   exact ⟨rfl,uh Q1,uh Q2⟩
end Go.Proofs.YtpnkmnmchdabkaaGreat
namespace Go.Proofs.YtpnkmnmchdabkaaGreat
open Go.RowKit
theorem mem_0:memN 0=plsCells (List.replicate (0*16) pl0):=by kernel_rfl
theorem mem_1:memN 1=plsCells (List.replicate (1*16) pl0):=by kernel_rfl
theorem mem_2:memN 2=plsCells (List.replicate (2*16) pl0):=by kernel_rfl
theorem mem_3:memN 3=plsCells (List.replicate (3*16) pl0):=by kernel_rfl
theorem mem_4:memN 4=plsCells (List.replicate (4*16) pl0):=by kernel_rfl
theorem plsCells_rep (n:Nat) (hn:n≤4):memN n=plsCells (List.replicate (n*16) pl0):=by
 match n,hn with
 | 0,_=>exact mem_0
 | 1,_=>exact mem_1
 | 2,_=>exact mem_2
 | 3,_=>exact mem_3
 | 4,_=>exact mem_4
end Go.Proofs.YtpnkmnmchdabkaaGreat
