import Derived.Test.YtpnkmnmchdabkaaGreatLawR
import Derived.ProofKit
import Derived.OpenShut
import Derived.ShutString
import Derived.ChangeOld
import Derived.Below
import Derived.Lib.SmallJoins
import Derived.Deep.Slices
import Derived.JoinedCond
namespace Go.Proofs.YtpnkmnmchdabkaaGreat
open Go.ChangeShapes Go.WideShapes Go.ChangeAt Go.RowKit Go.Joins Go.Deep
theorem cellsOf23:Tryz.prog.cellsOf 23=6:=by kernel_rfl
theorem cellsOfOp:Tryz.prog.cellsOf 48=6:=by kernel_rfl
theorem cellsOf3:Tryz.prog.cellsOf 3=1:=by kernel_rfl
theorem cellsOf4:Tryz.prog.cellsOf 4=1:=by kernel_rfl
theorem cellsOf9:Tryz.prog.cellsOf 9=1:=by kernel_rfl
theorem bulk_one {H:Type} (d:DataW H):1≤Rows.uptoBulk d:=by
 cases d with
 | lit l=>cases l <;> simp [Rows.uptoBulk]
 | nil=>simp [Rows.uptoBulk]
 | ptr d=>simp [Rows.uptoBulk]
 | slice elems spare=>simp [Rows.uptoBulk]
 | agg parts=>simp [Rows.uptoBulk]
 | iface t d=>simp [Rows.uptoBulk]
 | map entries=>simp [Rows.uptoBulk]
 | held h=>simp [Rows.uptoBulk]
theorem bulk_seven {H:Type} (l:List (DataW H)) (h:∀d ∈ l,7≤Rows.uptoBulk d):7*l.length≤Rows.uptoBulkAll l:=by
 induction l with
 | nil=>simp
 | cons x r ih =>
   have h1:=h x (by simp)
   have h2:=ih (fun d hd=>h d (by simp [hd]))
   simp only [Rows.uptoBulkAll,List.length_cons]
   omega
theorem list6 {α:Type} {l:List α} (h:l.length=6):∃a b c d e f,l=[a,b,c,d,e,f]:=by
 match l,h with
 | [a,b,c,d,e,f],_=>exact ⟨a,b,c,d,e,f,rfl⟩
section
variable {H:Type} {enc:TypeId × Value→H} {w:World} {base:Nat} {spare:Nat→Bool} {held:Bool} {fuel:Nat} {x:DataW H × List MemPlace}
theorem cfg_open {cs:List Value} (h:DataW.trod enc Tryz.prog w base spare held fuel 23 cs=some x):∃C:Cfg,cs=C.arr.toList:=by
 obtain ⟨xs,n,_,_,hl,hlen,hf⟩:=DataW.trod_struct Tryz.underlying23 h
 rw [cellsOf23] at hl
 obtain ⟨c0,c1,c2,c3,c4,c5,rfl⟩:=list6 hl
 obtain ⟨y0,y1,y2,y3,y4,y5,rfl⟩:=list6 hlen
 have g0:DataW.trod enc Tryz.prog w base spare held n 3 [c0]=some y0:=by
  have h1:DataW.trod enc Tryz.prog w base spare held n 3 ((([c0,c1,c2,c3,c4,c5]:List Value).drop 0).take (Tryz.prog.cellsOf 3))=some y0:=hf 0 _ rfl
  rw [cellsOf3] at h1
  exact h1
 have g1:DataW.trod enc Tryz.prog w base spare held n 3 [c1]=some y1:=by
  have h1:DataW.trod enc Tryz.prog w base spare held n 3 ((([c0,c1,c2,c3,c4,c5]:List Value).drop 1).take (Tryz.prog.cellsOf 3))=some y1:=hf 1 _ rfl
  rw [cellsOf3] at h1
  exact h1
 have g2:DataW.trod enc Tryz.prog w base spare held n 3 [c2]=some y2:=by
  have h1:DataW.trod enc Tryz.prog w base spare held n 3 ((([c0,c1,c2,c3,c4,c5]:List Value).drop 2).take (Tryz.prog.cellsOf 3))=some y2:=hf 2 _ rfl
  rw [cellsOf3] at h1
  exact h1
 have g3:DataW.trod enc Tryz.prog w base spare held n 3 [c3]=some y3:=by
  have h1:DataW.trod enc Tryz.prog w base spare held n 3 ((([c0,c1,c2,c3,c4,c5]:List Value).drop 3).take (Tryz.prog.cellsOf 3))=some y3:=hf 3 _ rfl
  rw [cellsOf3] at h1
  exact h1
 have g4:DataW.trod enc Tryz.prog w base spare held n 3 [c4]=some y4:=by
  have h1:DataW.trod enc Tryz.prog w base spare held n 3 ((([c0,c1,c2,c3,c4,c5]:List Value).drop 4).take (Tryz.prog.cellsOf 3))=some y4:=hf 4 _ rfl
  rw [cellsOf3] at h1
  exact h1
 have g5:DataW.trod enc Tryz.prog w base spare held n 3 [c5]=some y5:=by
  have h1:DataW.trod enc Tryz.prog w base spare held n 3 ((([c0,c1,c2,c3,c4,c5]:List Value).drop 5).take (Tryz.prog.cellsOf 3))=some y5:=hf 5 _ rfl
  rw [cellsOf3] at h1
  exact h1
 obtain ⟨n0,e0,_⟩:=DataW.trod_int Tryz.underlying3 g0
 obtain ⟨n1,e1,_⟩:=DataW.trod_int Tryz.underlying3 g1
 obtain ⟨n2,e2,_⟩:=DataW.trod_int Tryz.underlying3 g2
 obtain ⟨n3,e3,_⟩:=DataW.trod_int Tryz.underlying3 g3
 obtain ⟨n4,e4,_⟩:=DataW.trod_int Tryz.underlying3 g4
 obtain ⟨n5,e5,_⟩:=DataW.trod_int Tryz.underlying3 g5
 injection e0 with e0 _
 injection e1 with e1 _
 injection e2 with e2 _
 injection e3 with e3 _
 injection e4 with e4 _
 injection e5 with e5 _
 subst e0 e1 e2 e3 e4 e5
 exact ⟨⟨n0,n1,n2,n3,n4,n5⟩,rfl⟩
theorem op_open {cs:List Value} (h:DataW.trod enc Tryz.prog w base spare held fuel 48 cs=some x):∃o:Opn,cs=o.arr.toList∧o.s.size≤maxLen∧7≤Rows.uptoBulk x.1:=by
 obtain ⟨xs,n,_,hxx,hl,hlen,hf⟩:=DataW.trod_struct Tryz.underlying48 h
 rw [cellsOfOp] at hl
 obtain ⟨c0,c1,c2,c3,c4,c5,rfl⟩:=list6 hl
 obtain ⟨y0,y1,y2,y3,y4,y5,rfl⟩:=list6 hlen
 have g0:DataW.trod enc Tryz.prog w base spare held n 3 [c0]=some y0:=by
  have h1:DataW.trod enc Tryz.prog w base spare held n 3 ((([c0,c1,c2,c3,c4,c5]:List Value).drop 0).take (Tryz.prog.cellsOf 3))=some y0:=hf 0 _ rfl
  rw [cellsOf3] at h1
  exact h1
 have g1:DataW.trod enc Tryz.prog w base spare held n 3 [c1]=some y1:=by
  have h1:DataW.trod enc Tryz.prog w base spare held n 3 ((([c0,c1,c2,c3,c4,c5]:List Value).drop 1).take (Tryz.prog.cellsOf 3))=some y1:=hf 1 _ rfl
  rw [cellsOf3] at h1
  exact h1
 have g2:DataW.trod enc Tryz.prog w base spare held n 3 [c2]=some y2:=by
  have h1:DataW.trod enc Tryz.prog w base spare held n 3 ((([c0,c1,c2,c3,c4,c5]:List Value).drop 2).take (Tryz.prog.cellsOf 3))=some y2:=hf 2 _ rfl
  rw [cellsOf3] at h1
  exact h1
 have g3:DataW.trod enc Tryz.prog w base spare held n 9 [c3]=some y3:=by
  have h1:DataW.trod enc Tryz.prog w base spare held n 9 ((([c0,c1,c2,c3,c4,c5]:List Value).drop 3).take (Tryz.prog.cellsOf 9))=some y3:=hf 3 _ rfl
  rw [cellsOf9] at h1
  exact h1
 have g4:DataW.trod enc Tryz.prog w base spare held n 4 [c4]=some y4:=by
  have h1:DataW.trod enc Tryz.prog w base spare held n 4 ((([c0,c1,c2,c3,c4,c5]:List Value).drop 4).take (Tryz.prog.cellsOf 4))=some y4:=hf 4 _ rfl
  rw [cellsOf4] at h1
  exact h1
 have g5:DataW.trod enc Tryz.prog w base spare held n 4 [c5]=some y5:=by
  have h1:DataW.trod enc Tryz.prog w base spare held n 4 ((([c0,c1,c2,c3,c4,c5]:List Value).drop 5).take (Tryz.prog.cellsOf 4))=some y5:=hf 5 _ rfl
  rw [cellsOf4] at h1
  exact h1
 obtain ⟨n0,e0,_⟩:=DataW.trod_int Tryz.underlying3 g0
 obtain ⟨n1,e1,_⟩:=DataW.trod_int Tryz.underlying3 g1
 obtain ⟨n2,e2,_⟩:=DataW.trod_int Tryz.underlying3 g2
 obtain ⟨n3,e3,_,w3⟩:=DataW.trod_string Tryz.underlying9 g3
 obtain ⟨n4,e4,_⟩:=DataW.trod_bool Tryz.underlying4 g4
 obtain ⟨n5,e5,_⟩:=DataW.trod_bool Tryz.underlying4 g5
 injection e0 with e0 _
 injection e1 with e1 _
 injection e2 with e2 _
 injection e3 with e3 _
 injection e4 with e4 _
 injection e5 with e5 _
 subst e0 e1 e2 e3 e4 e5
 refine ⟨⟨n0,n1,n2,n3,n4,n5⟩,rfl,w3,?_⟩
 have b0:=bulk_one y0.1
 have b1:=bulk_one y1.1
 have b2:=bulk_one y2.1
 have b3:=bulk_one y3.1
 have b4:=bulk_one y4.1
 have b5:=bulk_one y5.1
 rw [hxx]
 simp only [List.map_cons,List.map_nil,Rows.uptoBulk,Rows.uptoBulkAll]
 omega
theorem addK (ab ao k:Nat):(⟨ab,ao,none⟩:Addr).add k=⟨ab,ao+k,none⟩:=by unfold Addr.add;split <;> simp_all
theorem spot_none {a:Addr} {cs:List Value} (h:w.cells? base (a.add (0*6)) 6=some cs):a.spot=none:=by
 obtain ⟨_,hl,hc⟩:=World.cells?_some h
 have h0:w.cell? a=cs[0]?:=hc 0 (by omega)
 cases hs:a.spot with
 | none=>rfl
 | some s =>
   exfalso
   have:w.cell? a=none:=by
    unfold World.cell?
    split
    ·simp [hs]
    ·rfl
   rw [this] at h0
   have:=(List.getElem?_eq_none_iff.1 h0.symm)
   omega
theorem cells6 {ab ao i:Nat} {cs:List Value} (h:w.cells? base ((⟨ab,ao,none⟩:Addr).add (i*6)) 6=some cs):ab<w.heap.size∧∀j,j<6→w.cell? ⟨ab,ao+i*6+j,none⟩=cs[j]?:=by
 have hb:=World.cells?_block h (by omega)
 obtain ⟨_,_,hc⟩:=World.cells?_some h
 rw [addK] at hb hc
 refine ⟨hb,fun j hj=>?_⟩
 have:=hc j hj
 rw [addK] at this
 exact this
theorem ops_open {a0:Option Addr} {len cap:Nat} (h:DataW.trod enc Tryz.prog w base (fun _=>true) held fuel 24 [.slice a0 len cap]=some x):7*len≤Rows.uptoBulk x.1∧∃os:List Opn,IsOps w a0 len os:=by
 rcases open_slice Tryz.underlying24 h with ⟨hcs,_⟩ | ⟨a,len',cap',m,n,D,Pl,hcs,_,hl,hm,hmm,hx,hel⟩
 ·injection hcs with hcs _
  injection hcs with e1 e2 e3
  subst e1 e2 e3
  exact ⟨by omega,[],rfl,fun i o hi=>by simp at hi⟩
 ·injection hcs with hcs _
  injection hcs with e1 e2 e3
  subst e1 e2 e3
  simp only [if_true] at hmm
  subst hmm
  rw [cellsOfOp] at hel
  have ex:∀i,i<len→∃o:Opn,(o.s.size≤maxLen∧7≤Rows.uptoBulk (D i))∧w.cells? base (a.add (i*6)) 6=some o.arr.toList:=by
   intro i hi
   obtain ⟨cs,h1,h2⟩:=hel i (by omega)
   obtain ⟨o,rfl,ho,hb⟩:=op_open h2
   exact ⟨o,⟨ho,hb⟩,h1⟩
  refine ⟨?_,?_⟩
  ·have h7:=bulk_seven ((List.range len).map D) (fun d hd=>by
    obtain ⟨i,hi,rfl⟩:=List.mem_map.1 hd
    obtain ⟨o,ho,_⟩:=ex i (List.mem_range.1 hi)
    exact ho.2)
   rw [hx]
   simp only [Rows.uptoBulk]
   simp at h7
   omega
  have:∃f:Nat→Opn,∀i,i<len→(f i).s.size≤maxLen∧w.cells? base (a.add (i*6)) 6=some (f i).arr.toList:=by
   classical
   refine ⟨fun i=>if hi:i<len then Classical.choose (ex i hi) else ⟨0,0,0,ByteArray.empty,false,false⟩,fun i hi=>?_⟩
   simp only [dif_pos hi]
   exact ⟨(Classical.choose_spec (ex i hi)).1.1,(Classical.choose_spec (ex i hi)).2⟩
  obtain ⟨f,hf⟩:=this
  refine ⟨(List.range len).map f,by simp,fun i o hi=>?_⟩
  have hil:i<len:=by
   have:=(List.getElem?_eq_some_iff.1 hi).1
   simpa using this
  have hoi:o=f i:=by
   have:((List.range len).map f)[i]?=some (f i):=by simp [hil]
   rw [this] at hi
   cases hi;rfl
  subst hoi
  obtain ⟨hok,hc⟩:=hf i hil
  have hsp:=spot_none (hf 0 (by omega)).2
  obtain ⟨ab,ao,asp⟩:=a
  simp at hsp
  subst hsp
  obtain ⟨hb,hcell⟩:=cells6 hc
  exact ⟨hok,ab,ao,rfl,hb,hcell 0 (by omega),hcell 1 (by omega),hcell 2 (by omega),hcell 3 (by omega),hcell 4 (by omega),hcell 5 (by omega)⟩
end
attribute [local go_sem ↓] Go.wp_at_zero Go.wp_at_succ
set_option maxRecDepth 100000 in
set_option maxHeartbeats 4000000 in
theorem logsLaw_any (C:Cfg) (a0:Option Addr) (n cap:Nat) (os:List Opn) (w:World) (hos:IsOps w a0 n os) (hn:n≤149998) :
 Calls Tryz.prog 3 #[.agg C.arr,.slice a0 n cap] w fun e w'=>e=.returned (.bool true)∧Below w.heap.size w w':=by
 have HP:Hid (∀W cb,Below w.heap.size w W→W.heap[cb]?=some (.cells #[.int .i64 C.a,.int .i64 C.l,.int .i64 C.b,.int .i64 C.n,.int .i64 C.s,.int .i64 C.t] 23 (0,0))→Calls Tryz.prog 7 #[.slice (some ⟨cb,0,none⟩) 1 1,.slice a0 n cap,.int .i64 5] W fun e w'=>e=.returned (.bool true)∧Below w.heap.size w w'):=fun W cb hb hc=>by
  have hz:=hb.size
  have hos':IsOps W a0 n os:=⟨hos.1,fun i o hi=>by
   obtain ⟨h1,ab,ao,h2,h3,p0,p1,p2,p3,p4,p5⟩:=hos.2 i o hi
   exact ⟨h1,ab,ao,h2,by omega,(hb.cell (p:=⟨ab,_,none⟩) h3).trans p0,(hb.cell (p:=⟨ab,_,none⟩) h3).trans p1,(hb.cell (p:=⟨ab,_,none⟩) h3).trans p2,(hb.cell (p:=⟨ab,_,none⟩) h3).trans p3,(hb.cell (p:=⟨ab,_,none⟩) h3).trans p4,(hb.cell (p:=⟨ab,_,none⟩) h3).trans p5⟩⟩
  have fin:∀e w',e=Ending.returned (.bool true)∧Below W.heap.size W w'→e=.returned (.bool true)∧Below w.heap.size w w':=fun e w' h=>⟨h.1,hb.trans (h.2.mono hz)⟩
  cases hv:validB C.a C.l C.b C.n C.s C.t with
  | false=>exact (play_bad W C cb n cap a0 5 (lt_of_heap hc) hv (cell_of hc 0) (cell_of hc 1) (cell_of hc 2) (cell_of hc 3) (cell_of hc 4) (cell_of hc 5)).mono fin
  | true=>exact (play_logs W C cb n cap a0 os hn (lt_of_heap hc) hv hos' (cell_of hc 0) (cell_of hc 1) (cell_of hc 2) (cell_of hc 3) (cell_of hc 4) (cell_of hc 5)).mono fin
 clear hos
 unfold Cfg.arr
 go_enter Tryz.func3,Tryz.ntmps3
 go_wp2_with (go_at_call 7;refine (uh HP _ _ (((Below.refl _ w).alloc (Nat.le_refl _) _).alloc (by simp) _) ?blk).mono ?_;rotate_left;rintro e w' ⟨rfl,hb⟩;have HB:=hide hb;clear hb)
 case blk =>
  have:=heap_alloc_new (w.alloc (.cells #[.int .i64 C.a,.int .i64 C.l,.int .i64 C.b,.int .i64 C.n,.int .i64 C.s,.int .i64 C.t] 23)) (.cells #[.int .i64 C.a,.int .i64 C.l,.int .i64 C.b,.int .i64 C.n,.int .i64 C.s,.int .i64 C.t] 23)
  simpa using this
 go_ret
 exact ⟨rfl,uh HB⟩
end Go.Proofs.YtpnkmnmchdabkaaGreat
