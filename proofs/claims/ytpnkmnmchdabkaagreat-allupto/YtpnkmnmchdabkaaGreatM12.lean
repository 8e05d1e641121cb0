import Derived.Test.YtpnkmnmchdabkaaGreatM00
import Derived.Deep.DeepMust
import Derived.Deep.MidRow
import Derived.Deep.WholeRow
import Derived.Laws.ResultCell
import Derived.Deep.DrawnRows
import Derived.Test.YtpnkmnmchdabkaaGreatGrow
import Derived.Test.YtpnkmnmchdabkaaGreatRefMerge
namespace Go.Proofs.YtpnkmnmchdabkaaGreat
open Go.RowKit
attribute [local go_sem ↓] Go.wp_at_zero Go.wp_at_succ
theorem leCells_len (l:List Le):(leCells l).length=l.length*3:=by
 induction l with
 | nil=>rfl
 | cons s r ih=>simp only [leCells,List.length_cons,ih];omega
theorem leCells_get (l:List Le) (i:Nat) (x:Le) (h:l[i]?=some x):(leCells l)[i*3]?=some (.int .i64 x.o)∧(leCells l)[i*3+1]?=some (.int .i64 x.c)∧(leCells l)[i*3+2]?=some (.int .i64 x.e):=by
 induction l generalizing i with
 | nil=>simp at h
 | cons y r ih =>
   cases i with
   | zero=>simp at h;subst h;exact ⟨rfl,rfl,rfl⟩
   | succ i =>
     simp at h
     obtain ⟨a,b,c⟩:=ih i h
     rw [show (i+1)*3=i*3+3 by omega]
     exact ⟨a,b,c⟩
theorem leCells_set0 (l:List Le) (i:Nat) (x:Le) (h:l[i]?=some x) (v:Int):(leCells l).set (i*3) (.int .i64 v)=leCells (l.set i { x with o:=v }):=by
 induction l generalizing i with
 | nil=>simp at h
 | cons y r ih =>
   cases i with
   | zero=>simp at h;subst h;rfl
   | succ i =>
     simp at h
     rw [show (i+1)*3=i*3+3 by omega]
     simp only [leCells,List.set_cons_succ,ih i h]
theorem leCells_set1 (l:List Le) (i:Nat) (x:Le) (h:l[i]?=some x) (v:Int):(leCells l).set (i*3+1) (.int .i64 v)=leCells (l.set i { x with c:=v }):=by
 induction l generalizing i with
 | nil=>simp at h
 | cons y r ih =>
   cases i with
   | zero=>simp at h;subst h;rfl
   | succ i =>
     simp at h
     rw [show (i+1)*3+1=(i*3+1)+3 by omega]
     simp only [leCells,List.set_cons_succ,ih i h]
theorem leCells_set2 (l:List Le) (i:Nat) (x:Le) (h:l[i]?=some x) (v:Int):(leCells l).set (i*3+2) (.int .i64 v)=leCells (l.set i { x with e:=v }):=by
 induction l generalizing i with
 | nil=>simp at h
 | cons y r ih =>
   cases i with
   | zero=>simp at h;subst h;rfl
   | succ i =>
     simp at h
     rw [show (i+1)*3+2=(i*3+2)+3 by omega]
     simp only [leCells,List.set_cons_succ,ih i h]
def noneL (k:Nat):List Le:=List.replicate k ⟨-1,0,0⟩ ++ List.replicate (16 - k) ⟨0,0,0⟩
theorem noneL_set {k:Nat} (hk:k<16):(noneL k).set k ⟨-1,0,0⟩=noneL (k+1):=by
 unfold noneL
 rw [List.set_append_right _ _ (by simp),List.length_replicate,Nat.sub_self,show 16 - k=(16 - (k+1))+1 by omega,List.replicate_succ,List.set_cons_zero,List.replicate_succ',List.append_assoc]
 rfl
theorem noneL_get {k:Nat} (hk:k<16):(noneL k)[k]?=some ⟨0,0,0⟩:=by
 unfold noneL
 rw [List.getElem?_append_right (by simp),List.length_replicate,Nat.sub_self,show 16 - k=(16 - (k+1))+1 by omega,List.replicate_succ]
 rfl
def leA (L:List Le):Array Value:=(leCells L).toArray
theorem leA_size {L:List Le} (h:L.length=16):(leA L).size=48:=by unfold leA;simp [leCells_len,h]
theorem leCells_one (L:List Le):∀v ∈ leCells L,v.oneCell'=true:=by
 induction L with
 | nil=>intro v hv;cases hv
 | cons x r ih =>
   intro v hv
   simp only [leCells,List.mem_cons] at hv
   rcases hv with rfl | rfl | rfl | hv
   ·rfl
   ·rfl
   ·rfl
   ·exact ih v hv
theorem noneL_len {k:Nat} (hk:k≤16):(noneL k).length=16:=by unfold noneL;simp;omega
theorem infoTab:(Tryz.prog.info? 62).map (fun i=>(i.zero,i.size))=some (some (.agg (leA (noneL 0))),48):=by kernel_rfl
theorem infoTabSize:(Tryz.prog.info? 62).map (·.size)=some 48:=by kernel_rfl
theorem zvTab (w:World):(zeroValue 62).run Tryz.prog w=.ok (.agg (leA (noneL 0))) w:=(zero_of_info infoTab).1 w
theorem ldTab {w:World} {b:Nat} {L:List Le} {t:TypeId} {f:Nat × Nat} (h:w.heap[b]?=some (.cells (leA L) t f)) (hL:L.length=16):(loadVar 62 ⟨b,0,none⟩).run Tryz.prog w=.ok (.agg (leA L)) w :=
 run_loadVar_row w b t _ (leA L) f _ h Tryz.underlying62 rfl (by rw [leA_size hL];exact infoTabSize)
theorem stTab {w:World} {b:Nat} {K L:List Le} {t:TypeId} (h:w.heap[b]?=some (.cells (leA K) t (0,0))) (hK:K.length=16) (hL:L.length=16):(storeVar 62 ⟨b,0,none⟩ (.agg (leA L))).run Tryz.prog w=.ok () (w.setRow b (leA L)) :=
 run_storeVar_row w b t _ (leA K) (leA L) h (by rw [leA_size hL];exact infoTabSize) (by rw [leA_size hK,leA_size hL]) (all_oneCell_toArray (leCells_one L))
theorem setRow_same {w:World} {b:Nat} {cs cs':Array Value} {t:TypeId} {f:Nat × Nat} (h:w.heap[b]?=some (.cells cs t f)):(w.setRow b cs').heap[b]?=some (.cells cs' t f):=by
 simp only [World.setRow,Array.getElem?_modify,if_true,h]
 rfl
theorem setRow_other {w:World} {b k:Nat} {cs':Array Value} (hk:k≠b):(w.setRow b cs').heap[k]?=w.heap[k]?:=by
 simp only [World.setRow,Array.getElem?_modify]
 rw [if_neg (fun e=>hk e.symm)]
theorem setRow_below {B:Nat} {a w:World} {b:Nat} (h:Below B a w) (hb:B≤b) (cs:Array Value):Below B a (w.setRow b cs) :=
 h.trans ⟨rfl,rfl,rfl,by simp [World.setRow],fun k hk=>setRow_other (by omega)⟩
def ldT (a:Addr):Sem Value:=loadVar 62 a
def stT (a:Addr) (v:Value):Sem Unit:=storeVar 62 a v
theorem ldT_shut (a:Addr):loadVar 62 a=ldT a:=rfl
theorem stT_shut (a:Addr) (v:Value):storeVar 62 a v=stT a v:=rfl
theorem ldT_is {w:World} {b:Nat} {L:List Le} {t:TypeId} {f:Nat × Nat} (h:w.heap[b]?=some (.cells (leA L) t f)) (hL:L.length=16):(ldT ⟨b,0,none⟩).run Tryz.prog w=.ok (.agg (leA L)) w:=ldTab h hL
theorem stT_is {w:World} {b:Nat} {K L:List Le} {t:TypeId} (h:w.heap[b]?=some (.cells (leA K) t (0,0))) (hK:K.length=16) (hL:L.length=16):(stT ⟨b,0,none⟩ (.agg (leA L))).run Tryz.prog w=.ok () (w.setRow b (leA L)):=stTab h hK hL
theorem stT_new (w:World) (n:Nat) (K L:List Le) (hn:n=w.heap.size) (hK:K.length=16) (hL:L.length=16):(stT ⟨n,0,none⟩ (.agg (leA L))).run Tryz.prog (w.alloc (.cells (leA K) 62))=.ok () (w.alloc (.cells (leA L) 62)):=by
 subst hn
 rw [stT_is (heap_alloc_new w _) hK hL,World.setRow_alloc_new]
attribute [local go_sem ↓] zvTab ldT_shut stT_shut
attribute [local go_sem] stT_new
set_option maxRecDepth 100000 in
set_option maxHeartbeats 4000000 in
theorem leasesNew_any (w:World) :
 Calls Tryz.prog 17 #[] w fun e w'=>e=.returned (.agg (leA (noneL 16)))∧Below w.heap.size w w':=by
 have z0:=noneL_len (k:=0) (by omega)
 have s0:=leA_size z0
 go_enter Tryz.func17,Tryz.ntmps17
 go_wp2
 have h0:Hid (((w.alloc (.cells (leA (noneL 0)) 62)).alloc (.cells (leA (noneL 0)) 62)).heap[w.heap.size]?=some (.cells (leA (noneL 0)) 62 (0,0))):=by
  unfold Hid
  rw [Below.heap_alloc _ _ _ (by simp)];exact heap_alloc_new w _
 have h1:Hid (((w.alloc (.cells (leA (noneL 0)) 62)).alloc (.cells (leA (noneL 0)) 62)).heap[w.heap.size+1]?=some (.cells (leA (noneL 0)) 62 (0,0))):=by
  unfold Hid
  have:=heap_alloc_new (w.alloc (.cells (leA (noneL 0)) 62)) (.cells (leA (noneL 0)) 62)
  simpa using this
 have hb:Hid (Below w.heap.size w ((w.alloc (.cells (leA (noneL 0)) 62)).alloc (.cells (leA (noneL 0)) 62))):=((Below.refl _ w).alloc (Nat.le_refl _) _).alloc (by simp) _
 generalize (w.alloc (.cells (leA (noneL 0)) 62)).alloc (.cells (leA (noneL 0)) 62)=W at *
 go_loopw [2] (fun i wr=>∃k:Nat,k≤16∧i=.int .i64 k∧wr.heap[w.heap.size]?=some (.cells (leA (noneL 0)) 62 (0,0))∧wr.heap[w.heap.size+1]?=some (.cells (leA (noneL k)) 62 (0,0))∧Below w.heap.size w wr) (fun i _=>16 - (intOf i).toNat)
 case atStart=>exact ⟨0,by omega,rfl,uh h0,uh h1,uh hb⟩
 case round =>
  obtain ⟨k,hk,rfl,q0,q1,qb⟩:=hrel
  by_cases hlt:k<16
  ·have fz:=frozen_of q1 (k*3)
   have cz:wr.cell? ⟨w.heap.size+1,k*3,none⟩=some (.int .i64 0):=(cell_of q1 (k*3)).trans (by have:=(leCells_get _ k _ (noneL_get hlt)).1;simpa [leA] using this)
   have Q0:=hide q0
   have Q1:=hide q1
   have QB:=hide qb
   clear q0 q1 qb
   go_wp2
   go_roundw
   case rel =>
    refine ⟨k+1,by omega,by go_num,?_,?_,(uh QB).setCell (p:=⟨w.heap.size+1,k*3,none⟩) (by simp) _⟩
    ·rw [Below.heap_setCell _ _ _ _ (by simp)];exact uh Q0
    ·rw [heap_setCell_same (uh Q1)]
     unfold leA
     rw [List.setIfInBounds_toArray,leCells_set0 _ k _ (noneL_get hlt),noneL_set hlt]
   case measure=>simp [intOf];omega
  ·have e:k=16:=by omega
   subst e
   have z16:=noneL_len (k:=16) (by omega)
   have HL:=ldT_is q1 z16
   have HS:=stT_is q0 z0 z16
   have hs16:=leA_size z16
   have H2:=hide (setRow_same (cs':=leA (noneL 16)) q0)
   have QB:=hide (setRow_below qb (Nat.le_refl _) (leA (noneL 16)))
   clear q0 q1 qb
   go_wp2
   refine bodyPost_ret (v:=.agg (leA (noneL 16))) ?_ rfl ⟨rfl,uh QB⟩
   exact results_cell_row rfl _ _ w.heap.size _ _ _ _ rfl (uh H2) Tryz.underlying62 rfl (by rw [leA_size z16];exact infoTabSize)
def memZ:List Value:=(List.replicate 16 [.bool false,.int .i64 0,.int .i64 0,.int .i64 0,.int .i64 0,.bool false,.int .i64 0,.int .i64 0]).flatten
def memN (n:Nat):List Value:=(madeCells memZ.toArray (n*128)).toList
def rest0 (wv:Value) (n:Nat) (mem:List Value):Rest:=⟨0,List.replicate 32 0,noneL 16,wv,n,mem⟩
def bdG (parts:Array (Nat × Value)):Sem Value:=Instr.build 71 parts
theorem bdG_shut (parts:Array (Nat × Value)):Instr.build 71 parts=bdG parts:=rfl
theorem bdG_is (C:Cfg) (sv:Value) (wa:Option Addr) (k c n:Nat) (mem:List Value) (w:World) :
 (bdG #[(0,.agg C.arr),(2,.agg #[sv]),(4,.agg (leA (noneL 16))),(5,.slice wa k c)]).run Tryz.prog w=.ok (.agg (grpArr C sv (rest0 (.slice wa k c) n mem))) w:=by
 obtain ⟨a,l,b,c,s,t⟩:=C
 kernel_rfl
theorem infoMem:(Tryz.prog.info? 162).map (fun i=>(i.zero,i.size,i.bytes))=some (some (.agg (memZ).toArray),128,1024):=by kernel_rfl
set_option maxRecDepth 100000 in
set_option maxHeartbeats 1000000 in
theorem shardsNew_any (w:World) :
 Calls Tryz.prog 16 #[] w fun e w'=>∃g,e=.returned (.agg #[.slice (some ⟨g,0,none⟩) 1 1])∧w.heap.size≤g∧w'.heap[g]?=some (.cells #[.int .i64 0,.int .i64 256,.bool true,.slice none 0 0,.slice none 0 0] 113 (0,0))∧Below w.heap.size w w':=by
 go_enter Tryz.func16,Tryz.ntmps16
 go_wp2
 refine bodyPost_ret (v:=.agg #[.slice (some ⟨w.heap.size+1,0,none⟩) 1 1]) (by simp [results,Tryz.results16,go_sem]) rfl ⟨w.heap.size+1,rfl,by omega,?_,?_⟩
 ·have:=heap_alloc_new (w.alloc (.cells #[.slice (some ⟨w.heap.size+1,0,none⟩) 1 1] 56)) (.cells #[.int .i64 0,.int .i64 256,.bool true,.slice none 0 0,.slice none 0 0] 113)
  rw [show (w.alloc (.cells #[.slice (some ⟨w.heap.size+1,0,none⟩) 1 1] 56)).heap.size=w.heap.size+1 by simp] at this
  exact this
 ·exact ((Below.refl _ w).alloc (Nat.le_refl _) _).alloc (by simp) _
set_option maxRecDepth 100000 in
set_option maxHeartbeats 1000000 in
theorem new_bad (C:Cfg) (w:World) (hv:validB C.a C.l C.b C.n C.s C.t=false) :
 Calls Tryz.prog 8 #[.agg C.arr] w fun e w'=>e=.returned (.tuple #[.pointer none,.int .i64 1])∧Below w.heap.size w w':=by
 unfold Cfg.arr
 have HV:=fun w=>hide (valid_any C.a C.l C.b C.n C.s C.t w)
 rw [hv] at HV
 go_enter Tryz.func8,Tryz.ntmps8
 go_wp2_with (go_at_call 15;refine (uh (HV _)).mono ?_;rintro e w1 ⟨rfl,hb⟩)
 go_ret2
 exact ⟨rfl,((Below.refl _ w).alloc (Nat.le_refl _) _).trans (hb.mono (by simp))⟩
def first:Sh:=⟨0,256,true,[],[]⟩
attribute [local go_sem ↓] zvTab ldT_shut stT_shut bdG_shut
attribute [local go_sem] stT_new
def NewGood (C:Cfg) (w:World) (e:Ending) (w':World):Prop:=∃gb g wb kn:Nat,e=.returned (.tuple #[.pointer (some ⟨gb,0,none⟩),.int .i64 0])∧w.heap.size≤gb∧w.heap.size≤g∧w.heap.size≤wb∧g≠gb∧wb≠gb∧wb≠g∧(kn:Int)=C.a ∧
 w'.heap[gb]?=some (.cells (grpArr C (.slice (some ⟨g,0,none⟩) 1 1) (rest0 (.slice (some ⟨wb,0,none⟩) kn kn) kn (memN kn))) 71 (0,0))∧w'.heap[g]?=some (.cells #[.int .i64 0,.int .i64 256,.bool true,.slice none 0 0,.slice none 0 0] 113 (0,0)) ∧
 w'.ownsRow w.heap.size 162 128 (.slice (some ⟨wb,0,none⟩) kn kn) kn (memN kn)∧Below w.heap.size w w'
set_option maxRecDepth 100000 in
set_option maxHeartbeats 4000000 in
theorem new_good (C:Cfg) (w:World) (hv:validB C.a C.l C.b C.n C.s C.t=true) :
 Calls Tryz.prog 8 #[.agg C.arr] w (NewGood C w):=by
 obtain ⟨hw1,hw2⟩:=((validB_iff _ _ _ _ _ _).1 hv).1
 obtain ⟨wn,hwn⟩:∃wn:Nat,C.a=wn:=⟨C.a.toNat,by omega⟩
 have HW:=hide hwn
 clear hwn
 have HV:=fun w=>hide (valid_any C.a C.l C.b C.n C.s C.t w)
 rw [hv] at HV
 have HN:=fun w=>hide (shardsNew_any w)
 have HL:=fun w=>hide (leasesNew_any w)
 have z16:=noneL_len (k:=16) (by omega)
 have z0:=noneL_len (k:=0) (by omega)
 unfold Cfg.arr
 clear hv
 go_enter Tryz.func8,Tryz.ntmps8
 go_wp2_with (go_at_call 15;refine (uh (HV _)).mono ?_;rintro e w1 ⟨rfl,hb⟩)
 obtain ⟨h1,hB1,hsz⟩:=below_new hb
 clear hb
 have H1:=hide h1
 have HB1:=hide hB1
 clear h1 hB1
 go_wp2_with (go_at_call 16;refine (uh (HN _)).mono ?_;rintro e w2 ⟨g,rfl,hg,hgb,hb2⟩)
 refine (uh (HL _)).mono ?_
 rintro e w3 ⟨rfl,hb3⟩
 have hs2:=hb2.size
 have hs3:=hb3.size
 rw [World.size_alloc] at hs3
 have hgl:=lt_of_heap hgb
 have P3:w3.heap[w.heap.size]?=some (.cells #[.int .i64 C.a,.int .i64 C.l,.int .i64 C.b,.int .i64 C.n,.int .i64 C.s,.int .i64 C.t] 23 (0,0)):=by
  have:=lt_of_heap (uh H1)
  rw [hb3.block _ (by simp;omega),Below.heap_alloc _ _ _ (by omega),hb2.block _ (by omega)]
  exact uh H1
 have L3:w3.heap[w2.heap.size]?=some (.cells #[.slice (some ⟨g,0,none⟩) 1 1] 56 (0,0)):=by
  rw [hb3.block _ (by simp)];exact heap_alloc_new w2 _
 have G3:w3.heap[g]?=some (.cells #[.int .i64 0,.int .i64 256,.bool true,.slice none 0 0,.slice none 0 0] 113 (0,0)):=by
  rw [hb3.block _ (by simp;omega),Below.heap_alloc _ _ _ hgl];exact hgb
 have hwl:=lt_of_heap P3
 have BB:Below w.heap.size w w3:=(uh HB1).trans ((hb2.mono (by omega)).trans (((Below.refl _ w2).alloc (by omega) _).trans (hb3.mono (by simp;omega))))
 clear hb2 hb3 hgb H1 HB1
 have c0:(w3.alloc (.cells (leA (noneL 16)) 62)).cell? ⟨w.heap.size,0,none⟩=some (.int .i64 C.a):=(World.cell?_of_block (w:=w3) (Below.heap_alloc _ _ _ hwl)).trans (cell_of P3 0)
 obtain ⟨i0,hi0,hz0,hz1,hz2⟩:=info_parts infoMem
 have HG:=hide G3
 have HP:=hide P3
 have HL3:=hide L3
 have HBB:=hide BB
 clear G3 P3 L3 BB
 go_wp2_with (at_make;go_must (refine wpList_make_full _ rfl _ _ 64 rfl w.heap.size 162 i0 _ 128 Tryz.underlying64 hi0 hz0 hz1 _ _ _ _ wn rfl rfl (uh HW) (uh HW) ?bytes ?ml ?base ?mk))
 case bytes=>rw [hz2];have:=uh HW;omega
 case ml=>have:=uh HW;unfold maxLen;omega
 case base=>simp;omega
 case mk =>
  intro w4 hown hgrow
  have hs4:=hgrow.size
  rw [World.size_alloc] at hs4
  have old:∀k,k<w3.heap.size→w4.heap[k]?=w3.heap[k]?:=fun k hk=>(hgrow.block k (by simp;omega) (by simp)).trans (Below.heap_alloc _ _ _ hk)
  have P4:=(old _ hwl).trans (uh HP)
  have L4:=(old _ (lt_of_heap (uh HL3))).trans (uh HL3)
  have G4:=hide ((old _ (lt_of_heap (uh HG))).trans (uh HG))
  have T4:w4.heap[w3.heap.size]?=some (.cells (leA (noneL 16)) 62 (0,0)):=(hgrow.block _ (by simp) (by simp)).trans (heap_alloc_new w3 _)
  have B4:Hid (Below w.heap.size w w4):=((uh HBB).alloc (by omega) _).grown hgrow (by simp;omega) (fun k h=>by cases h)
  have k0:=cell_of P4 0
  have k1:=cell_of P4 1
  have k2:=cell_of P4 2
  have k3:=cell_of P4 3
  have k4:=cell_of P4 4
  have k5:=cell_of P4 5
  have q0:=cell_of L4 0
  simp at k0 k1 k2 k3 k4 k5 q0
  have hld:=ldT_is T4 z16
  have hbd:=bdG_is C (.slice (some ⟨g,0,none⟩) 1 1) (some ⟨w3.heap.size+1,0,none⟩) wn wn wn (memN wn) w4
  unfold Cfg.arr at hbd
  have HO:=hide hown
  have hwne:=(hown.lt _ rfl).2
  clear hown hgrow old P4 L4 T4 c0
  go_wp2
  go_ret2
  have hO:=uh HO
  refine ⟨w4.heap.size,g,w3.heap.size+1,wn,rfl,by omega,by omega,by omega,by omega,by omega,by omega,(uh HW).symm,heap_alloc_new w4 _,?_,?_,(uh B4).alloc (by omega) _⟩
  ·rw [Below.heap_alloc _ _ _ (by omega)];exact uh G4
  ·have:=hO.alloc (.cells (grpArr C (.slice (some ⟨g,0,none⟩) 1 1) (rest0 (.slice (some ⟨w3.heap.size+1,0,none⟩) wn wn) wn (memN wn))) 71)
   simpa [memN] using this
theorem info109:(Tryz.prog.info? 84).map (fun i=>(i.zero,i.size,i.bytes))=some (some (.agg #[.slice none 0 0,.slice none 0 0]),2,48):=by kernel_rfl
set_option maxRecDepth 100000 in
set_option maxHeartbeats 1000000 in
theorem refNew_bad (C:Cfg) (w:World) (hv:validB C.a C.l C.b C.n C.s C.t=false) :
 Calls Tryz.prog 9 #[.agg C.arr] w fun e w'=>e=.returned (.tuple #[.pointer none,.int .i64 1])∧Below w.heap.size w w':=by
 have HV:=fun w=>hide (refProper_any C w)
 rw [hv] at HV
 unfold Cfg.arr at *
 go_enter Tryz.func9,Tryz.ntmps9
 go_wp2_with (go_at_call 18;refine (uh (HV _)).mono ?_;rintro e w1 ⟨rfl,hb⟩)
 go_ret2
 exact ⟨rfl,((Below.refl _ w).alloc (Nat.le_refl _) _).trans (hb.mono (by simp))⟩
def rfirst:Rf:=⟨0,256,true,[],.slice none 0 0,-1,0,0,0,0⟩
def rowWk:Nat→List Value
 | 0=>[]
 | n+1=>rowWk n ++ [.slice none 0 0,.slice none 0 0]
structure NewAt (w:World) (C:Cfg) (yb g:Nat) (n:Nat) (wv:Value) (w':World):Prop where
 blk:w'.heap[yb]?=some (.cells (refArr C 0 (.slice (some ⟨g,0,none⟩) 1 1) wv (.slice none 0 0) (.slice none 0 0)) 80 (0,0))
 row:w'.heap[g]?=some (.cells (rfCells rfirst).toArray 73 (0,0))
 wk:w'.ownsRow (yb+1) 84 2 wv n (rowWk n)
 below:Below w.heap.size w w'
 conf:w'.cell? ⟨w.heap.size,0,none⟩=some (.int .i64 C.a)
 g1:w.heap.size<g
 g2:g<yb
set_option maxRecDepth 100000 in
set_option maxHeartbeats 2000000 in
theorem refNew_good (C:Cfg) (w:World) (hv:validB C.a C.l C.b C.n C.s C.t=true) (hC:1≤C.a∧C.a≤4) :
 Calls Tryz.prog 9 #[.agg C.arr] w fun e w'=>∃yb g wv,e=.returned (.tuple #[.pointer (some ⟨yb,0,none⟩),.int .i64 0])∧NewAt w C yb g C.a.toNat wv w':=by
 have HV:=fun w=>hide (refProper_any C w)
 rw [hv] at HV
 unfold Cfg.arr at *
 clear hv
 obtain ⟨i0,hi0,hz0,hz1,hz2⟩:=info_parts info109
 go_enter Tryz.func9,Tryz.ntmps9
 go_wp2_with (go_at_call 18;refine (uh (HV _)).mono ?_;rintro e w1 ⟨rfl,hb⟩)
 obtain ⟨h1,hB1,hsz⟩:=below_new hb
 clear hb HV
 have k0:=cell_of h1 0
 have k1:=cell_of h1 1
 have k2:=cell_of h1 2
 have k3:=cell_of h1 3
 have k4:=cell_of h1 4
 have k5:=cell_of h1 5
 simp at k0 k1 k2 k3 k4 k5
 clear h1
 go_region_held3 (fun w'=>w'.cell? ⟨w.heap.size,0,none⟩=some (.int .i64 C.a)∧w'.cell? ⟨w.heap.size,1,none⟩=some (.int .i64 C.l)∧w'.cell? ⟨w.heap.size,2,none⟩=some (.int .i64 C.b)∧w'.cell? ⟨w.heap.size,3,none⟩=some (.int .i64 C.n)∧w'.cell? ⟨w.heap.size,4,none⟩=some (.int .i64 C.s)∧w'.cell? ⟨w.heap.size,5,none⟩=some (.int .i64 C.t))
  (first | go_keep | (go_split_ands;refine ⟨?_,?_,?_,?_,?_,?_⟩ <;> (rw [hb2.cell (by simp;omega)];assumption)))
  ((go_at_call 19;refine (refFresh_any _ _ _ _ _ _).mono ?_;rintro e w2 ⟨rfl,hb2⟩))
 have hs2:=hb2.size
 have hbb:Below w.heap.size w w2:=hB1.drew.trans (hb2.mono (show w.heap.size≤w1.heap.size by omega))
 have kk:w2.cell? ⟨w.heap.size,0,none⟩=some (.int .i64 C.a):=(hb2.cell (p:=⟨w.heap.size,0,none⟩) (by show w.heap.size<w1.heap.size;omega)).trans k0
 have hlt2:w.heap.size<w2.heap.size:=by simp at hs2;omega
 have HN0:Hid (NewAt w C (w2.heap.size+1) w2.heap.size 0 (.slice none 0 0) ((w2.alloc (.cells #[.int .i64 0,.int .i64 256,.bool true,.slice none 0 0,.int .i64 (-1),.int .i64 0,.int .i64 0,.int .i64 0,.int .i64 0] 73)).alloc (.cells #[.int .i64 C.a,.int .i64 C.l,.int .i64 C.b,.int .i64 C.n,.int .i64 C.s,.int .i64 C.t,.int .i64 0,.slice (some ⟨w2.heap.size,0,none⟩) 1 1,.slice none 0 0,.slice none 0 0,.slice none 0 0] 80))):=by
  refine ⟨?_,?_,World.ownsRow_nil _ _ _ _,(hbb.alloc hbb.size _).alloc (by simp;omega) _,?_,hlt2,by omega⟩
  ·have:=heap_alloc_new (w2.alloc (.cells #[.int .i64 0,.int .i64 256,.bool true,.slice none 0 0,.int .i64 (-1),.int .i64 0,.int .i64 0,.int .i64 0,.int .i64 0] 73)) (.cells #[.int .i64 C.a,.int .i64 C.l,.int .i64 C.b,.int .i64 C.n,.int .i64 C.s,.int .i64 C.t,.int .i64 0,.slice (some ⟨w2.heap.size,0,none⟩) 1 1,.slice none 0 0,.slice none 0 0,.slice none 0 0] 80)
   rw [show (w2.alloc (.cells #[.int .i64 0,.int .i64 256,.bool true,.slice none 0 0,.int .i64 (-1),.int .i64 0,.int .i64 0,.int .i64 0,.int .i64 0] 73)).heap.size=w2.heap.size+1 by simp] at this
   exact this
  ·rw [Below.heap_alloc _ _ _ (by simp)];exact heap_alloc_new w2 _
  ·rw [World.cell?_of_block (w:=w2) ((Below.heap_alloc _ _ _ (by simp;omega)).trans (Below.heap_alloc _ _ _ (by simpa using hlt2)))];exact kk
 generalize (w2.alloc (.cells #[.int .i64 0,.int .i64 256,.bool true,.slice none 0 0,.int .i64 (-1),.int .i64 0,.int .i64 0,.int .i64 0,.int .i64 0] 73)).alloc (.cells #[.int .i64 C.a,.int .i64 C.l,.int .i64 C.b,.int .i64 C.n,.int .i64 C.s,.int .i64 C.t,.int .i64 0,.slice (some ⟨w2.heap.size,0,none⟩) 1 1,.slice none 0 0,.slice none 0 0,.slice none 0 0] 80)=V at *
 generalize w2.heap.size+1=yb at *
 clear k0 k1 k2 k3 k4 k5 hb2 hbb hs2 hB1 hsz kk hlt2
 go_wp2
 go_loopw [6] (fun i wr=>∃(j:Nat) (wv:Value),(j:Int)≤C.a∧i=.int .i64 j∧NewAt w C yb w2.heap.size j wv wr) (fun i _=>C.a.toNat - (intOf i).toNat)
 case atStart=>exact ⟨0,_,by omega,rfl,uh HN0⟩
 case round =>
  obtain ⟨j,wv,hj,rfl,hN⟩:=hrel
  have c0:=hN.conf
  obtain ⟨pa,pc,rfl⟩:=ownsRow_len hN.wk
  have c8:wr.cell? ⟨yb,8,none⟩=some (.slice pa j pc):=cell_of hN.blk 8
  have f8:=frozen_of hN.blk 8
  have hyb:=lt_of_heap hN.blk
  have hgl:=lt_of_heap hN.row
  have hwl:=hN.below.size
  have HN:=hide hN
  clear hN HN0
  by_cases hlt:(j:Int)<C.a
  ·have HGL:=hide (fun q hq=>(uh HN).wk.lt q hq)
   go_wp2_with (at_builtin;go_must (refine wpList_append_lies _ rfl _ _ _ rfl (yb+1) 84 i0 _ 2 48 Tryz.underlying76 hi0 hz0 hz1 hz2 rfl (by omega) _ j (rowWk j) rfl ?own ⟨wr.heap.size,0,none⟩ 1 1 [.slice none 0 0,.slice none 0 0] rfl rfl ?news ?one (by omega) ?h63 ?bytes ?base (wr.heap.size+1) ?hH ?next))
   case own=>exact (uh HN).wk.alloc _
   case news=>exact World.news_of_block (cs:=#[.slice none 0 0,.slice none 0 0]) (heap_alloc_new wr _)
   case one=>simp [Value.oneCell']
   case h63=>unfold maxLen;omega
   case bytes=>omega
   case base=>simp;omega
   case hH=>simp
   case next =>
    intro g3 cap3 w3 hown3 hgrow3 hat3 hlt3
    have nb:∀q,q≤yb→some q≠(Value.slice pa j pc).ownBlock:=fun q hq e=>by have:=(uh HGL q e.symm).1;omega
    have z8:w3.cell? ⟨yb,8,none⟩=some (.slice pa j pc):=(hgrow3.cell_far _ (by simp;omega) (nb yb (Nat.le_refl _))).trans ((World.cell?_of_block (w:=wr) (Below.heap_alloc _ _ _ hyb)).trans c8)
    have zf:w3.frozen? ⟨yb,8,none⟩=false:=(hgrow3.frozen_far _ (by simp;omega) (nb yb (Nat.le_refl _))).trans ((World.frozen?_of_block (w:=wr) (Below.heap_alloc _ _ _ hyb)).trans f8)
    have hg3:yb+1≤g3:=(hown3.lt g3 rfl).1
    have HNew:Hid (NewAt w C yb w2.heap.size (j+1) (.slice (some ⟨g3,0,none⟩) (j+1) cap3) (w3.setCell ⟨yb,8,none⟩ (.slice (some ⟨g3,0,none⟩) (j+1) cap3))):=by
     have hg:=(uh HN).g2
     have hg1:=(uh HN).g1
     have blkO:∀q,q≤yb→q<wr.heap.size→w3.heap[q]?=wr.heap[q]?:=fun q hq hl=>(hgrow3.block q (by simp;omega) (nb q hq)).trans (Below.heap_alloc _ _ _ hl)
     refine ⟨?_,?_,?_,?_,?_,hg1,hg⟩
     ·have hb:w3.heap[yb]?=_:=(blkO yb (Nat.le_refl _) hyb).trans (uh HN).blk
      rw [heap_setCell_same hb];rfl
     ·rw [Below.heap_setCell _ _ _ _ (by show w2.heap.size≠yb;omega),blkO _ (by omega) hgl];exact (uh HN).row
     ·refine ownsRow_of_block hown3 fun q hq=>Below.heap_setCell _ _ _ _ ?_
      simp [Value.ownBlock] at hq
      show q≠yb
      omega
     ·refine ⟨?_,?_,?_,?_,?_⟩
      ·show w3.os=w.os;rw [hgrow3.os];exact (uh HN).below.os
      ·show w3.tape=w.tape;rw [hgrow3.tape];exact (uh HN).below.tape
      ·show w3.output=w.output;rw [hgrow3.output];exact (uh HN).below.output
      ·have:=hgrow3.size;simp [World.setCell] at this ⊢;omega
      ·intro q hq
       rw [Below.heap_setCell _ _ _ _ (by show q≠yb;omega),blkO q (by omega) (by omega)]
       exact (uh HN).below.block q hq
     ·rw [World.cell?_of_block (w:=wr) (a:=⟨w.heap.size,0,none⟩) ((Below.heap_setCell _ _ _ _ (by show w.heap.size≠yb;omega)).trans (blkO w.heap.size (by omega) (by omega)))]
      exact c0
    clear hown3 hgrow3 hat3 nb hg3
    go_wp2
    go_roundw
    case rel=>exact ⟨j+1,_,by omega,by go_num,uh HNew⟩
    case measure=>simp [intOf];omega
  ·have hja:Hid (j=C.a.toNat):=by (unfold Hid;omega)
   go_wp2
   go_ret2
   have hq:=uh HN
   rw [uh hja] at hq
   exact ⟨yb,by rfl,w2.heap.size,_,hq⟩
set_option maxRecDepth 100000 in
set_option maxHeartbeats 1000000 in
theorem mark_any (w:World) (wb:Nat) (last:Int) (c7:w.cell? ⟨wb,7,none⟩=some (.int .i64 last)) (f7:w.frozen? ⟨wb,7,none⟩=false) (h1:-9000000000000000000≤last) (h2:last≤0) :
 Calls Tryz.prog 71 #[.pointer (some ⟨wb,0,none⟩)] w fun e w'=>e=.returned (.int .i64 (last - 1))∧w.setCell ⟨wb,7,none⟩ (.int .i64 (last - 1))=w':=by
 go_enter Tryz.func71,Tryz.ntmps71
 go_wp2
 go_ret
 exact ⟨rfl,rfl⟩
set_option maxRecDepth 100000 in
set_option maxHeartbeats 1000000 in
theorem sameInts_any (w:World) (va vb:Value) (xs ys:List Int) (ha:w.ownsRow 0 3 1 va xs.length (xs.map (Value.int .i64))) (hb:w.ownsRow 0 3 1 vb ys.length (ys.map (Value.int .i64))) (hx:xs.length≤2000000) :
 Calls Tryz.prog 33 #[va,vb] w fun e w'=>e=.returned (.bool (decide (xs=ys)))∧Below w.heap.size w w':=by
 obtain ⟨pa,ca,rfl⟩:=ownsRow_len ha
 obtain ⟨pb,cb,rfl⟩:=ownsRow_len hb
 by_cases hl:xs.length=ys.length
 ·have HA:Hid (∀i x,xs[i]?=some x→∃g,pa=some ⟨g,0,none⟩∧g<w.heap.size∧w.cell? ⟨g,i,none⟩=some (.int .i64 x)):=by
   intro i x hi
   have hlt:=(List.getElem?_eq_some_iff.1 hi).1
   obtain ⟨g,cap,cur,hv,_,hg,_,_,_,ht⟩:=ownsRow_shape ha (by omega)
   injection hv with e1
   refine ⟨g,e1,lt_of_heap hg,?_⟩
   have:=ha.cells (g:=g) (by rw [e1];rfl) i (.int .i64 x) (by simp [hi])
   rwa [show (⟨g,0,none⟩:Addr).add i=⟨g,i,none⟩ by unfold Addr.add;split <;> simp_all] at this
  have HB:Hid (∀i x,ys[i]?=some x→∃g,pb=some ⟨g,0,none⟩∧g<w.heap.size∧w.cell? ⟨g,i,none⟩=some (.int .i64 x)):=by
   intro i x hi
   have hlt:=(List.getElem?_eq_some_iff.1 hi).1
   obtain ⟨g,cap,cur,hv,_,hg,_,_,_,ht⟩:=ownsRow_shape hb (by omega)
   injection hv with e1
   refine ⟨g,e1,lt_of_heap hg,?_⟩
   have:=hb.cells (g:=g) (by rw [e1];rfl) i (.int .i64 x) (by simp [hi])
   rwa [show (⟨g,0,none⟩:Addr).add i=⟨g,i,none⟩ by unfold Addr.add;split <;> simp_all] at this
  have HL:=hide hl
  rw [←hl]
  clear ha hb hl
  go_enter Tryz.func33,Tryz.ntmps33
  go_wp2
  go_loopw [5] (fun i wr=>∃j:Nat,j≤xs.length∧i=.int .i64 j∧xs.take j=ys.take j∧Below w.heap.size w wr) (fun i _=>xs.length - (intOf i).toNat)
  case atStart=>exact ⟨0,Nat.zero_le _,rfl,by simp,Below.refl _ _⟩
  case round =>
   obtain ⟨j,hj,rfl,heq,hB⟩:=hrel
   have HE:=hide heq
   have HW:=hide hB
   clear heq hB
   by_cases hlt:j<xs.length
   ·obtain ⟨x,hx1⟩:∃x,xs[j]?=some x:=⟨xs[j],List.getElem?_eq_getElem hlt⟩
    obtain ⟨y,hy1⟩:∃y,ys[j]?=some y:=⟨ys[j]'(by have:=uh HL;omega),List.getElem?_eq_getElem _⟩
    obtain ⟨g,rfl,hg,hc⟩:=uh HA j x hx1
    obtain ⟨g',rfl,hg',hc'⟩:=uh HB j y hy1
    have k1:=((uh HW).cell (p:=⟨g,j,none⟩) hg).trans hc
    have k2:=((uh HW).cell (p:=⟨g',j,none⟩) hg').trans hc'
    have HX:=hide hx1
    have HY:=hide hy1
    clear hc hc' hx1 hy1 HA HB
    by_cases hxy:x=y
    ·have hne:(x != y)=false:=by rw [hxy];simp
     have HQ:=hide hxy
     clear hxy
     go_wp2
     go_quiet (fail)
     go_wp2
     go_roundw
     case rel =>
      refine ⟨j+1,by omega,by go_num,?_,?_⟩
      ·have e1:=(List.getElem?_eq_some_iff.1 (uh HX))
       have e2:=(List.getElem?_eq_some_iff.1 (uh HY))
       rw [List.take_succ_eq_append_getElem e1.1,List.take_succ_eq_append_getElem e2.1,uh HE,e1.2,e2.2,uh HQ]
      ·exact (uh HW).trans ⟨rfl,rfl,rfl,Nat.le_refl _,fun _ _=>rfl⟩
     case measure=>simp [intOf];omega
    ·have hne:(x != y)=true:=by rw [bne_iff_ne];exact hxy
     have HQ:Hid (decide (xs=ys)=false):=by
      refine hide ?_
      rw [decide_eq_false_iff_not]
      rintro rfl
      have h1:=uh HX
      rw [uh HY] at h1
      injection h1 with h1
      exact hxy h1.symm
     clear hxy
     go_wp2
     go_quiet (fail)
     go_wp2
     go_ret
     exact ⟨ret_bool (by rw [uh HQ]),(uh HW).trans ⟨rfl,rfl,rfl,Nat.le_refl _,fun _ _=>rfl⟩⟩
   ·have HQ:Hid (decide (xs=ys)=true):=by
     refine hide ?_
     rw [decide_eq_true_eq]
     have h1:=uh HE
     rwa [List.take_of_length_le (by omega),List.take_of_length_le (by have:=uh HL;omega)] at h1
    go_wp2
    go_ret
    exact ⟨ret_bool (by rw [uh HQ]),uh HW⟩
 ·have hne:((xs.length:Int) != (ys.length:Int))=true:=by rw [bne_iff_ne];omega
  have HQ:Hid (decide (xs=ys)=false):=by
   refine hide ?_
   rw [decide_eq_false_iff_not]
   rintro rfl
   exact hl rfl
  clear ha hb hl
  go_enter Tryz.func33,Tryz.ntmps33
  go_wp2
  go_ret
  exact ⟨ret_bool (by rw [uh HQ]),Below.refl _ _⟩
structure Ke where
 a:Option Addr
 n:Nat
 cap:Nat
 m:Int
def entV (x:Ke):Value:=.slice x.a x.n x.cap
def entM (x:Ke):Value:=.int .i64 x.m
def HoldsAll (w:World) (size:Nat) (pat:Int→List Value) (x:Ke):Prop:=∀k,k<x.n→∃b,x.a=some ⟨b,0,none⟩∧b<w.heap.size∧∀j u,(pat x.m)[j]?=some u→w.cell? ⟨b,k*size+j,none⟩=some u
structure KRows (w:World) (te:TypeId) (size:Nat) (pat:Int→List Value) (v mv:Value) (L:List Ke):Prop where
 row:w.ownsRow 0 te 1 v L.length (L.map entV)
 ms:w.ownsRow 0 3 1 mv L.length (L.map entM)
 all:∀x ∈ L,HoldsAll w size pat x∧x.n≤1000000000
 len:L.length≤1000000000
theorem row_at {w:World} {te:TypeId} {v:Value} {n:Nat} {xs:List Value} (h:w.ownsRow 0 te 1 v n xs) (i:Nat) (u:Value) (hi:xs[i]?=some u):∃g cap,v=.slice (some ⟨g,0,none⟩) n cap∧g<w.heap.size∧w.cell? ⟨g,i,none⟩=some u:=by
 have hlt:=(List.getElem?_eq_some_iff.1 hi).1
 have h1:=h.1
 obtain ⟨g,cap,cur,hv,_,hg,_,_,_,ht⟩:=ownsRow_shape h (by omega)
 refine ⟨g,cap,hv,lt_of_heap hg,?_⟩
 have:=h.cells (g:=g) (by rw [hv];rfl) i u hi
 rwa [show (⟨g,0,none⟩:Addr).add i=⟨g,i,none⟩ by unfold Addr.add;split <;> simp_all] at this
theorem KRows.at {w:World} {te:TypeId} {size:Nat} {pat:Int→List Value} {v mv:Value} {L:List Ke} (h:KRows w te size pat v mv L) (i:Nat) (x:Ke) (hi:L[i]?=some x) :
 ∃g c g' c',v=.slice (some ⟨g,0,none⟩) L.length c∧g<w.heap.size∧w.cell? ⟨g,i,none⟩=some (.slice x.a x.n x.cap)∧mv=.slice (some ⟨g',0,none⟩) L.length c'∧g'<w.heap.size∧w.cell? ⟨g',i,none⟩=some (.int .i64 x.m)∧HoldsAll w size pat x∧x.n≤1000000000:=by
 obtain ⟨g,c,e1,e2,e3⟩:=row_at h.row i (entV x) (by simp [hi])
 obtain ⟨g',c',e4,e5,e6⟩:=row_at h.ms i (entM x) (by simp [hi])
 have hx:=h.all x (List.mem_of_getElem? hi)
 exact ⟨g,c,g',c',e1,e2,e3,e4,e5,e6,hx.1,hx.2⟩
def patI (m:Int):List Value:=[.int .i64 m]
def patS (m:Int):List Value:=[.int .i64 m,.int .i64 0,.bool false,.slice none 0 0,.int .i64 0]
def patH (m:Int):List Value:=[.int .i64 m,.int .i64 0,.int .i64 0,.int .i64 0]
set_option maxRecDepth 100000 in
set_option maxHeartbeats 4000000 in
theorem kept_any {w:World} {wb:Nat} {sv iv hv m1 m2 m3:Value} {Ls Li Lh:List Ke} (hwb:wb<w.heap.size) (hS:KRows w 98 5 patS sv m2 Ls) (hI:KRows w 34 1 patI iv m1 Li) (hH:KRows w 81 4 patH hv m3 Lh)
 (c1:w.cell? ⟨wb,1,none⟩=some sv) (c2:w.cell? ⟨wb,2,none⟩=some iv) (c3:w.cell? ⟨wb,3,none⟩=some hv) (c4:w.cell? ⟨wb,4,none⟩=some m1) (c5:w.cell? ⟨wb,5,none⟩=some m2) (c6:w.cell? ⟨wb,6,none⟩=some m3) :
 Calls Tryz.prog 11 #[.pointer (some ⟨wb,0,none⟩)] w fun e w'=>e=.returned (.bool true)∧Below w.heap.size w w':=by
 obtain ⟨ia,ic,rfl⟩:=ownsRow_len hI.row
 obtain ⟨sa,sc,rfl⟩:=ownsRow_len hS.row
 obtain ⟨ha,hc,rfl⟩:=ownsRow_len hH.row
 obtain ⟨ia',ic',rfl⟩:=ownsRow_len hI.ms
 obtain ⟨sa',sc',rfl⟩:=ownsRow_len hS.ms
 obtain ⟨ha',hc',rfl⟩:=ownsRow_len hH.ms
 have hlI:=hI.len
 have hlS:=hS.len
 have hlH:=hH.len
 have HI:=hide hI
 have HS:=hide hS
 have HH:=hide hH
 clear hI hS hH
 go_enter Tryz.func11,Tryz.ntmps11
 go_wp2
 go_loopw [3] (fun i wr=>∃j:Nat,j≤Li.length∧i=.int .i64 j∧Below w.heap.size w wr) (fun i _=>Li.length - (intOf i).toNat)
 case atStart=>exact ⟨0,Nat.zero_le _,rfl,Below.refl _ _⟩
 case round =>
  obtain ⟨j,hj,rfl,hB⟩:=hrel
  have k2:=(hB.cell (p:=⟨wb,2,none⟩) hwb).trans c2
  have HB:=hide hB
  clear hB
  by_cases hlt:j<Li.length
  ·obtain ⟨x,hx⟩:∃x,Li[j]?=some x:=⟨Li[j],List.getElem?_eq_getElem hlt⟩
   obtain ⟨g,cc,g',cc',e1,hg,hc1,e2,hg',hc2,hall,hxn⟩:=(uh HI).at j x hx
   injection e1 with e1 e1'
   injection e2 with e2 e2'
   subst e1 e2
   have HX:=hide hall
   clear hall hx e1' e2'
   go_wp2
   go_loopw [4] (fun i wq=>∃t:Nat,t≤x.n∧i=.int .i64 t∧Below w.heap.size w wq) (fun i _=>x.n - (intOf i).toNat)
   case atStart=>exact ⟨0,Nat.zero_le _,rfl,uh HB⟩
   case round =>
    obtain ⟨t,ht,rfl,hBq⟩:=hrel
    have q2:=(hBq.cell (p:=⟨wb,2,none⟩) hwb).trans c2
    have q4:=(hBq.cell (p:=⟨wb,4,none⟩) hwb).trans c4
    have qg:=(hBq.cell (p:=⟨g,j,none⟩) hg).trans hc1
    have qm:=(hBq.cell (p:=⟨g',j,none⟩) hg').trans hc2
    by_cases hlt2:t<x.n
    ·obtain ⟨b,hb1,hb2,hb3⟩:=uh HX t hlt2
     have qb:=(hBq.cell (p:=⟨b,t,none⟩) hb2).trans (by simpa using hb3 0 (.int .i64 x.m) rfl)
     rw [hb1] at qg
     have HQ:=hide hBq
     clear hb3 hBq k2 hb1
     go_wp2
     go_quiet (fail)
     go_wp2
     go_roundw
     case rel=>exact ⟨t+1,by omega,by go_num,(uh HQ).trans ⟨rfl,rfl,rfl,Nat.le_refl _,fun _ _=>rfl⟩⟩
     case measure=>simp [intOf];omega
    ·have HQ:=hide hBq
     clear hBq k2
     go_wp2
     go_roundw
     case rel=>exact ⟨j+1,by omega,by go_num,uh HQ⟩
     case measure=>simp [intOf];omega
  ·go_wp2
   clear k2
   go_loopw [5] (fun i wr=>∃j:Nat,j≤Ls.length∧i=.int .i64 j∧Below w.heap.size w wr) (fun i _=>Ls.length - (intOf i).toNat)
   case atStart=>exact ⟨0,Nat.zero_le _,rfl,uh HB⟩
   case round =>
    obtain ⟨j,hj,rfl,hB⟩:=hrel
    have k2:=(hB.cell (p:=⟨wb,1,none⟩) hwb).trans c1
    clear HB
    have HB:=hide hB
    clear hB
    by_cases hlt:j<Ls.length
    ·obtain ⟨x,hx⟩:∃x,Ls[j]?=some x:=⟨Ls[j],List.getElem?_eq_getElem hlt⟩
     obtain ⟨g,cc,g',cc',e1,hg,hc1,e2,hg',hc2,hall,hxn⟩:=(uh HS).at j x hx
     injection e1 with e1 e1'
     injection e2 with e2 e2'
     subst e1 e2
     have HX:=hide hall
     clear hall hx e1' e2'
     go_wp2
     go_loopw [6] (fun i wq=>∃t:Nat,t≤x.n∧i=.int .i64 t∧Below w.heap.size w wq) (fun i _=>x.n - (intOf i).toNat)
     case atStart=>exact ⟨0,Nat.zero_le _,rfl,uh HB⟩
     case round =>
      obtain ⟨t,ht,rfl,hBq⟩:=hrel
      have q2:=(hBq.cell (p:=⟨wb,1,none⟩) hwb).trans c1
      have q4:=(hBq.cell (p:=⟨wb,5,none⟩) hwb).trans c5
      have qg:=(hBq.cell (p:=⟨g,j,none⟩) hg).trans hc1
      have qm:=(hBq.cell (p:=⟨g',j,none⟩) hg').trans hc2
      by_cases hlt2:t<x.n
      ·obtain ⟨b,hb1,hb2,hb3⟩:=uh HX t hlt2
       have qb0:=(hBq.cell (p:=⟨b,t*5,none⟩) hb2).trans (by simpa using hb3 0 (.int .i64 x.m) rfl)
       have qb1:=(hBq.cell (p:=⟨b,t*5+1,none⟩) hb2).trans (hb3 1 (.int .i64 0) rfl)
       have qb2:=(hBq.cell (p:=⟨b,t*5+2,none⟩) hb2).trans (hb3 2 (.bool false) rfl)
       have qb3:=(hBq.cell (p:=⟨b,t*5+3,none⟩) hb2).trans (hb3 3 (.slice none 0 0) rfl)
       have qb4:=(hBq.cell (p:=⟨b,t*5+4,none⟩) hb2).trans (hb3 4 (.int .i64 0) rfl)
       rw [hb1] at qg
       have hwl:=hBq.size
       have n1:wb<wr.heap.size:=by omega
       have n2:g'<wr.heap.size:=by omega
       have HQ:=hide hBq
       clear hb3 hBq k2 hb1
       go_wp2
       have hnew:=heap_alloc_new wr (.cells #[.int .i64 x.m,.int .i64 0,.bool false,.slice none 0 0,.int .i64 0] 100)
       have HZ:Hid (Below w.heap.size w (wr.alloc (.cells #[.int .i64 x.m,.int .i64 0,.bool false,.slice none 0 0,.int .i64 0] 100))):=(uh HQ).alloc hwl _
       have z5:(wr.alloc (.cells #[.int .i64 x.m,.int .i64 0,.bool false,.slice none 0 0,.int .i64 0] 100)).cell? ⟨wb,5,none⟩=_:=(World.cell?_of_block (w:=wr) (Below.heap_alloc _ _ _ n1)).trans q4
       have zm:(wr.alloc (.cells #[.int .i64 x.m,.int .i64 0,.bool false,.slice none 0 0,.int .i64 0] 100)).cell? ⟨g',j,none⟩=_:=(World.cell?_of_block (w:=wr) (Below.heap_alloc _ _ _ n2)).trans qm
       generalize wr.alloc (.cells #[.int .i64 x.m,.int .i64 0,.bool false,.slice none 0 0,.int .i64 0] 100)=Z at *
       have z0:=cell_of hnew 0
       have z1:=cell_of hnew 1
       have z2:=cell_of hnew 2
       have z3:=cell_of hnew 3
       have z4:=cell_of hnew 4
       simp at z0 z1 z2 z3 z4
       generalize wr.heap.size=nb at *
       clear hnew q2 q4 qg qm qb0 qb1 qb2 qb3 qb4 HQ
       go_quiet (fail)
       go_wp2
       go_roundw
       case rel=>exact ⟨t+1,by omega,by go_num,(uh HZ).trans ⟨rfl,rfl,rfl,Nat.le_refl _,fun _ _=>rfl⟩⟩
       case measure=>simp [intOf];omega
      ·have HQ:=hide hBq
       clear hBq k2
       go_wp2
       go_roundw
       case rel=>exact ⟨j+1,by omega,by go_num,uh HQ⟩
       case measure=>simp [intOf];omega
    ·go_wp2
     clear k2
     go_loopw [8] (fun i wr=>∃j:Nat,j≤Lh.length∧i=.int .i64 j∧Below w.heap.size w wr) (fun i _=>Lh.length - (intOf i).toNat)
     case atStart=>exact ⟨0,Nat.zero_le _,rfl,uh HB⟩
     case round =>
      obtain ⟨j,hj,rfl,hB⟩:=hrel
      have k2:=(hB.cell (p:=⟨wb,3,none⟩) hwb).trans c3
      clear HB
      have HB:=hide hB
      clear hB
      by_cases hlt:j<Lh.length
      ·obtain ⟨x,hx⟩:∃x,Lh[j]?=some x:=⟨Lh[j],List.getElem?_eq_getElem hlt⟩
       obtain ⟨g,cc,g',cc',e1,hg,hc1,e2,hg',hc2,hall,hxn⟩:=(uh HH).at j x hx
       injection e1 with e1 e1'
       injection e2 with e2 e2'
       subst e1 e2
       have HX:=hide hall
       clear hall hx e1' e2'
       go_wp2
       go_loopw [9] (fun i wq=>∃t:Nat,t≤x.n∧i=.int .i64 t∧Below w.heap.size w wq) (fun i _=>x.n - (intOf i).toNat)
       case atStart=>exact ⟨0,Nat.zero_le _,rfl,uh HB⟩
       case round =>
        obtain ⟨t,ht,rfl,hBq⟩:=hrel
        have q2:=(hBq.cell (p:=⟨wb,3,none⟩) hwb).trans c3
        have q4:=(hBq.cell (p:=⟨wb,6,none⟩) hwb).trans c6
        have qg:=(hBq.cell (p:=⟨g,j,none⟩) hg).trans hc1
        have qm:=(hBq.cell (p:=⟨g',j,none⟩) hg').trans hc2
        by_cases hlt2:t<x.n
        ·obtain ⟨b,hb1,hb2,hb3⟩:=uh HX t hlt2
         have qb0:=(hBq.cell (p:=⟨b,t*4,none⟩) hb2).trans (by simpa using hb3 0 (.int .i64 x.m) rfl)
         have qb1:=(hBq.cell (p:=⟨b,t*4+1,none⟩) hb2).trans (hb3 1 (.int .i64 0) rfl)
         have qb2:=(hBq.cell (p:=⟨b,t*4+2,none⟩) hb2).trans (hb3 2 (.int .i64 0) rfl)
         have qb3:=(hBq.cell (p:=⟨b,t*4+3,none⟩) hb2).trans (hb3 3 (.int .i64 0) rfl)
         rw [hb1] at qg
         have hwl:=hBq.size
         have n1:wb<wr.heap.size:=by omega
         have n2:g'<wr.heap.size:=by omega
         have HQ:=hide hBq
         clear hb3 hBq k2 hb1
         go_wp2
         have hnew:=heap_alloc_new wr (.cells #[.int .i64 x.m,.int .i64 0,.int .i64 0,.int .i64 0] 102)
         have HZ:Hid (Below w.heap.size w (wr.alloc (.cells #[.int .i64 x.m,.int .i64 0,.int .i64 0,.int .i64 0] 102))):=(uh HQ).alloc hwl _
         have z5:(wr.alloc (.cells #[.int .i64 x.m,.int .i64 0,.int .i64 0,.int .i64 0] 102)).cell? ⟨wb,6,none⟩=_:=(World.cell?_of_block (w:=wr) (Below.heap_alloc _ _ _ n1)).trans q4
         have zm:(wr.alloc (.cells #[.int .i64 x.m,.int .i64 0,.int .i64 0,.int .i64 0] 102)).cell? ⟨g',j,none⟩=_:=(World.cell?_of_block (w:=wr) (Below.heap_alloc _ _ _ n2)).trans qm
         generalize wr.alloc (.cells #[.int .i64 x.m,.int .i64 0,.int .i64 0,.int .i64 0] 102)=Z at *
         have z0:=cell_of hnew 0
         have z1:=cell_of hnew 1
         have z2:=cell_of hnew 2
         have z3:=cell_of hnew 3
         simp at z0 z1 z2 z3
         generalize wr.heap.size=nb at *
         clear hnew q2 q4 qg qm qb0 qb1 qb2 qb3 HQ
         go_quiet (fail)
         go_wp2
         go_roundw
         case rel=>exact ⟨t+1,by omega,by go_num,(uh HZ).trans ⟨rfl,rfl,rfl,Nat.le_refl _,fun _ _=>rfl⟩⟩
         case measure=>simp [intOf];omega
        ·have HQ:=hide hBq
         clear hBq k2
         go_wp2
         go_roundw
         case rel=>exact ⟨j+1,by omega,by go_num,uh HQ⟩
         case measure=>simp [intOf];omega
      ·go_wp2
       go_ret
       exact ⟨rfl,uh HB⟩
end Go.Proofs.YtpnkmnmchdabkaaGreat
