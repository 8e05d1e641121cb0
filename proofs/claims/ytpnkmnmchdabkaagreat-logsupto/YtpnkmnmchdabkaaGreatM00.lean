import Derived.Test.YtpnkmnmchdabkaaGreatRows
import Derived.WalkKit
import Derived.WalkSpells
import Derived.WalkLawsBesides
import Derived.BigQuiet
import Derived.Deep.QuietTactic
import Derived.Deep.AppendLies
import Derived.Deep.RegionHeld3
namespace Go.Proofs.YtpnkmnmchdabkaaGreat
open Go.RowKit
theorem hide {p:Prop} (h:p):Hid p:=h
theorem uh {p:Prop} (h:Hid p):p:=h
theorem ret_int {k:IntKind} {a b:Int} (h:a=b):Ending.returned (.int k a)=.returned (.int k b):=by rw [h]
theorem ret_bool {a b:Bool} (h:a=b):Ending.returned (.bool a)=.returned (.bool b):=by rw [h]
structure Keeps (S:Nat→Prop) (w w':World):Prop where
 os:w'.os=w.os
 tape:w'.tape=w.tape
 output:w'.output=w.output
 size:w.heap.size≤w'.heap.size
 block:∀k,k<w.heap.size→¬S k→w'.heap[k]?=w.heap[k]?
theorem Keeps.refl (S:Nat→Prop) (w:World):Keeps S w w:=⟨rfl,rfl,rfl,Nat.le_refl _,fun _ _ _=>rfl⟩
theorem Keeps.trans {S:Nat→Prop} {a b c:World} (h:Keeps S a b) (k:Keeps S b c):Keeps S a c :=
 ⟨k.os.trans h.os,k.tape.trans h.tape,k.output.trans h.output,Nat.le_trans h.size k.size,fun i hi hs=>(k.block i (Nat.lt_of_lt_of_le hi h.size) hs).trans (h.block i hi hs)⟩
theorem Keeps.mono {S T:Nat→Prop} {w w':World} (h:Keeps S w w') (hT:∀k,k<w.heap.size→S k→T k):Keeps T w w' :=
 ⟨h.os,h.tape,h.output,h.size,fun k hk hn=>h.block k hk fun hs=>hn (hT k hk hs)⟩
theorem Keeps.drew {S:Nat→Prop} {a w:World} (h:Keeps S a w):Keeps S a w.drew:=⟨h.os,h.tape,h.output,h.size,h.block⟩
theorem Keeps.alloc {S:Nat→Prop} {a w:World} (h:Keeps S a w) (o:Obj):Keeps S a (w.alloc o) :=
 ⟨h.os,h.tape,h.output,by have:=h.size;simp;omega,fun k hk hs=>(Below.heap_alloc _ _ _ (Nat.lt_of_lt_of_le hk h.size)).trans (h.block k hk hs)⟩
theorem Keeps.setCell {S:Nat→Prop} {a w:World} (h:Keeps S a w) {p:Addr} (hp:S p.block∨a.heap.size≤p.block) (u:Value):Keeps S a (w.setCell p u) :=
 ⟨h.os,h.tape,h.output,by have:=h.size;simp [World.setCell];omega,fun k hk hs=>(Below.heap_setCell _ _ _ _ (by rintro rfl;rcases hp with hp | hp;exact hs hp;omega)).trans (h.block k hk hs)⟩
theorem Keeps.grown {S:Nat→Prop} {a w w':World} {row:Option Nat} (h:Keeps S a w) (hg:w.grownBy w' row) (hr:∀k,row=some k→S k∨a.heap.size≤k):Keeps S a w' :=
 ⟨hg.os.trans h.os,hg.tape.trans h.tape,hg.output.trans h.output,Nat.le_trans h.size hg.size,fun k hk hs =>
  (hg.block k (Nat.lt_of_lt_of_le hk h.size) (fun e=>by rcases hr k e.symm with h | h;exact hs h;omega)).trans (h.block k hk hs)⟩
theorem Keeps.of_below {B:Nat} {w w':World} (h:Below B w w'):Keeps (fun k=>B≤k) w w':=⟨h.os,h.tape,h.output,h.size,fun k _ hs=>h.block k (by omega)⟩
theorem Keeps.below {S:Nat→Prop} {B:Nat} {w w':World} (h:Keeps S w w') (hB:B≤w.heap.size) (hS:∀k,k<w.heap.size→S k→B≤k):Below B w w' :=
 ⟨h.os,h.tape,h.output,h.size,fun k hk=>h.block k (by omega) fun hs=>by have:=hS k (by omega) hs;omega⟩
theorem Keeps.cell {S:Nat→Prop} {w w':World} (h:Keeps S w w') {p:Addr} (hp:p.block<w.heap.size) (hs:¬S p.block):w'.cell? p=w.cell? p:=World.cell?_of_block (w:=w) (h.block p.block hp hs)
theorem cell_of {w:World} {b:Nat} {cs:Array Value} {e:TypeId} {f:Nat × Nat} (h:w.heap[b]?=some (.cells cs e f)) (i:Nat):w.cell? ⟨b,i,none⟩=cs[i]?:=by
 simp [World.cell?,h]
theorem frozen_of {w:World} {b:Nat} {cs:Array Value} {e:TypeId} (h:w.heap[b]?=some (.cells cs e (0,0))) (i:Nat):w.frozen? ⟨b,i,none⟩=false:=by
 simp [World.frozen?,h]
theorem lt_of_heap {w:World} {b:Nat} {o:Obj} (h:w.heap[b]?=some o):b<w.heap.size:=by
 rcases Nat.lt_or_ge b w.heap.size with hh | hh
 ·exact hh
 ·rw [Array.getElem?_eq_none hh] at h;cases h
theorem heap_setCell_same {w:World} {b i:Nat} {cs:Array Value} {e:TypeId} {f:Nat × Nat} (h:w.heap[b]?=some (.cells cs e f)) (u:Value) :
 (w.setCell ⟨b,i,none⟩ u).heap[b]?=some (.cells (cs.setIfInBounds i u) e f):=by
 simp [World.setCell,Array.getElem?_modify,h]
theorem ownsRow_of_block {w w':World} {base:Nat} {e:TypeId} {size:Nat} {v:Value} {n:Nat} {xs:List Value} (h:w.ownsRow base e size v n xs)
 (hb:∀k,v.ownBlock=some k→w'.heap[k]?=w.heap[k]?):w'.ownsRow base e size v n xs:=by
 obtain ⟨h1,h2⟩:=h
 refine ⟨h1,?_⟩
 rcases h2 with h2 | ⟨g,cap,cur,hv,hg,hh,r⟩
 ·exact Or.inl h2
 ·refine Or.inr ⟨g,cap,cur,hv,hg,?_,r⟩
  rw [hb g (by rw [hv];rfl)];exact hh
theorem ownsRow_base {w:World} {base base':Nat} {e:TypeId} {size:Nat} {v:Value} {n:Nat} {xs:List Value} (h:w.ownsRow base e size v n xs) (hb:base'≤base):w.ownsRow base' e size v n xs:=by
 obtain ⟨h1,h2⟩:=h
 refine ⟨h1,?_⟩
 rcases h2 with h2 | ⟨g,cap,cur,hv,hg,r⟩
 ·exact Or.inl h2
 ·exact Or.inr ⟨g,cap,cur,hv,by omega,r⟩
theorem ownsRow_keeps {S:Nat→Prop} {w w':World} {base:Nat} {e:TypeId} {size:Nat} {v:Value} {n:Nat} {xs:List Value} (h:w.ownsRow base e size v n xs)
 (hk:Keeps S w w') (hs:∀k,v.ownBlock=some k→¬S k):w'.ownsRow base e size v n xs :=
 ownsRow_of_block h fun k hkk=>hk.block k (h.lt k hkk).2 (hs k hkk)
theorem ownsRow_shape {w:World} {base:Nat} {e:TypeId} {size:Nat} {v:Value} {n:Nat} {xs:List Value} (h:w.ownsRow base e size v n xs) (hn:0<n) :
 ∃g cap cur,v=.slice (some ⟨g,0,none⟩) n cap∧base≤g∧w.heap[g]?=some (.cells cur e (0,0))∧n≤cap∧cap≤maxLen∧cur.size=cap*size∧cur.toList.take (n*size)=xs:=by
 rcases h.2 with h2 | h2
 ·omega
 ·exact h2
theorem ownsRow_len {w:World} {base:Nat} {e:TypeId} {size:Nat} {v:Value} {n:Nat} {xs:List Value} (h:w.ownsRow base e size v n xs) :
 ∃a cap,v=.slice a n cap:=by
 rcases h.2 with ⟨h1,h2⟩ | ⟨g,cap,cur,hv,_⟩
 ·exact ⟨none,0,by rw [h1,h2]⟩
 ·exact ⟨_,_,hv⟩
def accB (o:Bool) (lo hi h:Int):Bool:=o && decide (lo≤h) && decide (h<hi)
def withinB (n a b:Int):Bool:=decide (a≤n∧n≤b)
def winB (width slide:Int):Bool:=decide (1≤width∧width≤100∧1≤slide∧slide≤width∧width≤4*slide)
def validB (w l b width slide late:Int):Bool:=decide ((1≤w∧w≤4)∧(1≤l∧l≤10)∧(1≤b∧b≤8)∧(0≤late∧late≤100)∧(1≤width∧width≤100)∧(1≤slide∧slide≤width)∧width≤4*slide)
def inRange (x:Int):Prop:=-9223372036854775808≤x∧x≤9223372036854775807
theorem validB_iff (w l b width slide late:Int):validB w l b width slide late=true ↔ ((1≤w∧w≤4)∧(1≤l∧l≤10)∧(1≤b∧b≤8)∧(0≤late∧late≤100)∧(1≤width∧width≤100)∧(1≤slide∧slide≤width)∧width≤4*slide):=by
 simp only [validB,decide_eq_true_eq]
def byteAt (l:List UInt8) (i:Nat):Int:=((l[i]?.getD 0).toNat:Int)
def recArr (l:List UInt8) (v t:Int):Array Value:=#[.int .u8 (byteAt l 0),.int .u8 (byteAt l 1),.int .u8 (byteAt l 2),.int .u8 (byteAt l 3),.int .u8 (byteAt l 4),.int .u8 (byteAt l 5),.int .u8 (byteAt l 6),.int .u8 (byteAt l 7),.int .i64 v,.int .i64 t]
structure Rc where
 kb:List UInt8
 v:Int
 t:Int
def rcCells (r:Rc):List Value:=(recArr r.kb r.v r.t).toList
def rcRow:List Rc→List Value
 | []=>[]
 | r :: s=>rcCells r ++ rcRow s
theorem rcRow_append (l k:List Rc):rcRow (l ++ k)=rcRow l ++ rcRow k:=by
 induction l with
 | nil=>rfl
 | cons s r ih=>simp [rcRow,ih]
theorem rcRow_get (l:List Rc) (i j:Nat) (hj:j<10) (s:Rc) (h:l[i]?=some s):(rcRow l)[i*10+j]?=(rcCells s)[j]?:=by
 induction l generalizing i with
 | nil=>simp at h
 | cons x r ih =>
   cases i with
   | zero =>
     simp at h;subst h
     simp only [rcRow,Nat.zero_mul,Nat.zero_add]
     rw [List.getElem?_append_left (by simpa [rcCells,recArr] using hj)]
   | succ i =>
     simp at h
     simp only [rcRow]
     rw [List.getElem?_append_right (by simp only [rcCells,recArr,List.length_cons,List.length_nil];omega),←ih i h]
     congr 1
     simp only [rcCells,recArr,List.length_cons,List.length_nil];omega
structure Sh where
 lo:Int
 hi:Int
 op:Bool
 par:List Int
 rl:List Rc
def Sh.cnt (s:Sh):Nat:=s.rl.length
@[simp] theorem Sh.cnt_nil (a b:Int) (o:Bool) (p:List Int):(⟨a,b,o,p,[]⟩:Sh).cnt=0:=rfl
@[simp] theorem Sh.cnt_add (s:Sh) (r:Rc):({ s with rl:=s.rl ++ [r] }:Sh).cnt=s.cnt+1:=by simp [Sh.cnt]
@[simp] theorem Sh.cnt_op (s:Sh) (b:Bool):({ s with op:=b }:Sh).cnt=s.cnt:=rfl
structure Cs where
 s:Sh
 pv:Value
 rv:Value
def shCells (s:Cs):List Value:=[.int .i64 s.s.lo,.int .i64 s.s.hi,.bool s.s.op,s.pv,s.rv]
def logCells:List Cs→List Value
 | []=>[]
 | s :: r=>shCells s ++ logCells r
theorem logCells_append (l k:List Cs):logCells (l ++ k)=logCells l ++ logCells k:=by
 induction l with
 | nil=>rfl
 | cons s r ih=>simp [logCells,ih]
theorem logCells_get (l:List Cs) (i j:Nat) (hj:j<5) (s:Cs) (h:l[i]?=some s):(logCells l)[i*5+j]?=(shCells s)[j]?:=by
 induction l generalizing i with
 | nil=>simp at h
 | cons x r ih =>
   cases i with
   | zero =>
     simp at h;subst h
     simp only [logCells,Nat.zero_mul,Nat.zero_add]
     rw [List.getElem?_append_left (by simpa [shCells] using hj)]
   | succ i =>
     simp at h
     simp only [logCells]
     rw [List.getElem?_append_right (by simp only [shCells,List.length_cons,List.length_nil];omega),←ih i h]
     congr 1
     simp only [shCells,List.length_cons,List.length_nil];omega
theorem logCells_set (l:List Cs) (i j:Nat) (hj:j<5) (s s':Cs) (h:l[i]?=some s) (v:Value) (hs:(shCells s).set j v=shCells s') :
 (logCells l).set (i*5+j) v=logCells (l.set i s'):=by
 induction l generalizing i with
 | nil=>simp at h
 | cons x r ih =>
   cases i with
   | zero =>
     simp at h;subst h
     simp only [logCells,Nat.zero_mul,Nat.zero_add,List.set_cons_zero]
     rw [List.set_append_left _ _ (by simpa [shCells] using hj),hs]
   | succ i =>
     simp at h
     simp only [logCells,List.set_cons_succ]
     rw [List.set_append_right _ _ (by simp only [shCells,List.length_cons,List.length_nil];omega),←ih i h]
     congr 2
     simp only [shCells,List.length_cons,List.length_nil];omega
structure LogAt (w:World) (ρ:Nat→Nat) (sv:Value) (m:List Cs):Prop where
 row:w.ownsRow 0 113 5 sv m.length (logCells m)
 rowT:∀k,sv.ownBlock=some k→ρ k=2
 par:∀(i:Nat) (s:Cs),m[i]?=some s→w.ownsRow 0 3 1 s.pv s.s.par.length (s.s.par.map (Value.int .i64))
 parT:∀(i:Nat) (s:Cs),m[i]?=some s→∀k,s.pv.ownBlock=some k→ρ k=3+2*i
 rcv:∀(i:Nat) (s:Cs),m[i]?=some s→w.ownsRow 0 137 10 s.rv s.s.cnt (rcRow s.s.rl)
 rcT:∀(i:Nat) (s:Cs),m[i]?=some s→∀k,s.rv.ownBlock=some k→ρ k=4+2*i
theorem LogAt.rcs {w:World} {ρ:Nat→Nat} {sv:Value} {m:List Cs} (h:LogAt w ρ sv m) (i:Nat) (s:Cs) (hi:m[i]?=some s):∃xs,w.ownsRow 0 137 10 s.rv s.s.cnt xs:=⟨_,h.rcv i s hi⟩
structure Cfg where
 a:Int
 l:Int
 b:Int
 n:Int
 s:Int
 t:Int
def Cfg.arr (C:Cfg):Array Value:=#[.int .i64 C.a,.int .i64 C.l,.int .i64 C.b,.int .i64 C.n,.int .i64 C.s,.int .i64 C.t]
structure Le where
 o:Int
 c:Int
 e:Int
def leCells:List Le→List Value
 | []=>[]
 | x :: r=>.int .i64 x.o :: .int .i64 x.c :: .int .i64 x.e :: leCells r
structure Rest where
 t:Int
 dn:List Int
 ls:List Le
 wv:Value
 n:Nat
 mem:List Value
def Rest.cells (r:Rest):List Value:=r.dn.map (Value.int .i64) ++ (leCells r.ls ++ [r.wv])
def grpArr (C:Cfg) (sv:Value) (now:Rest):Array Value:=(.int .i64 C.a :: .int .i64 C.l :: .int .i64 C.b :: .int .i64 C.n :: .int .i64 C.s :: .int .i64 C.t :: .int .i64 now.t :: sv :: now.cells).toArray
structure GrpAt (w:World) (ρ:Nat→Nat) (gb:Nat) (C:Cfg) (now:Rest) (sv:Value) (m:List Cs):Prop where
 blk:w.heap[gb]?=some (.cells (grpArr C sv now) 71 (0,0))
 tag:ρ gb=1
 log:LogAt w ρ sv m
 wk:w.ownsRow 0 162 128 now.wv now.n now.mem
 wkT:∀k,now.wv.ownBlock=some k→ρ k=40
 dnL:now.dn.length=32
 lsL:now.ls.length=16
def mine (ρ:Nat→Nat) (k:Nat):Prop:=1≤ρ k∧ρ k<100
def Ext (N:Nat) (ρ ρ':Nat→Nat):Prop:=(∀k,k<N→ρ' k=ρ k)∧∀k,N≤k→ρ' k<100
def Fits (w:World) (ρ:Nat→Nat):Prop:=∀k,w.heap.size≤k→ρ k=0
theorem LogAt.keeps {S:Nat→Prop} {w w':World} {ρ ρ':Nat→Nat} {sv:Value} {m:List Cs} (h:LogAt w ρ sv m) (hk:Keeps S w w') (hS:∀k,S k→¬mine ρ k∨w.heap.size≤k) (he:∀k,k<w.heap.size→ρ' k=ρ k) (hm:m.length≤16):LogAt w' ρ' sv m:=by
 have lt:∀{i:Nat} {s:Cs},m[i]?=some s→i<16:=fun hi=>by have:=(List.getElem?_eq_some_iff.1 hi).1;omega
 refine ⟨?_,?_,?_,?_,?_,?_⟩
 ·refine ownsRow_keeps h.row hk fun k hkk hs=>?_
  have:=h.rowT k hkk;have:=(h.row.lt k hkk).2
  rcases hS k hs with h1 | h1
  ·exact h1 ⟨by omega,by omega⟩
  ·omega
 ·intro k hkk;rw [he k (h.row.lt k hkk).2];exact h.rowT k hkk
 ·intro i s hi
  refine ownsRow_keeps (h.par i s hi) hk fun k hkk hs=>?_
  have:=h.parT i s hi k hkk;have:=((h.par i s hi).lt k hkk).2;have:=lt hi
  rcases hS k hs with h1 | h1
  ·exact h1 ⟨by omega,by omega⟩
  ·omega
 ·intro i s hi k hkk;rw [he k ((h.par i s hi).lt k hkk).2];exact h.parT i s hi k hkk
 ·intro i s hi
  have hx:=h.rcv i s hi
  refine ownsRow_keeps hx hk fun k hkk hs=>?_
  have:=h.rcT i s hi k hkk;have:=(hx.lt k hkk).2;have:=lt hi
  rcases hS k hs with h1 | h1
  ·exact h1 ⟨by omega,by omega⟩
  ·omega
 ·intro i s hi k hkk
  obtain ⟨xs,hx⟩:=h.rcs i s hi
  rw [he k (hx.lt k hkk).2];exact h.rcT i s hi k hkk
theorem GrpAt.keeps {S:Nat→Prop} {w w':World} {ρ ρ':Nat→Nat} {gb:Nat} {C:Cfg} {now:Rest} {sv:Value} {m:List Cs} (h:GrpAt w ρ gb C now sv m) (hk:Keeps S w w') (hS:∀k,S k→¬mine ρ k∨w.heap.size≤k) (he:∀k,k<w.heap.size→ρ' k=ρ k) (hm:m.length≤16):GrpAt w' ρ' gb C now sv m:=by
 have hlt:=lt_of_heap h.blk
 refine ⟨?_,?_,h.log.keeps hk hS he hm,?_,fun k hkk=>by rw [he k (h.wk.lt k hkk).2];exact h.wkT k hkk,h.dnL,h.lsL⟩
 ·rw [hk.block gb hlt fun hs=>?_]
  ·exact h.blk
  ·rcases hS gb hs with h1 | h1
   ·exact h1 (by rw [mine,h.tag];omega)
   ·omega
 ·rw [he gb hlt];exact h.tag
 ·refine ownsRow_keeps h.wk hk fun k hkk hs=>?_
  have:=h.wkT k hkk;have:=(h.wk.lt k hkk).2
  rcases hS k hs with h1 | h1
  ·exact h1 ⟨by omega,by omega⟩
  ·omega
theorem LogAt.shape {w:World} {ρ:Nat→Nat} {sv:Value} {m:List Cs} (h:LogAt w ρ sv m) (hm:0<m.length) :
 ∃bs cap,sv=.slice (some ⟨bs,0,none⟩) m.length cap∧ρ bs=2∧bs<w.heap.size∧m.length≤cap∧cap≤maxLen∧(∀j,w.frozen? ⟨bs,j,none⟩=false) ∧
  (∀(i:Nat) (s:Cs),m[i]?=some s→w.cell? ⟨bs,i*5,none⟩=some (.int .i64 s.s.lo)∧w.cell? ⟨bs,i*5+1,none⟩=some (.int .i64 s.s.hi)∧w.cell? ⟨bs,i*5+2,none⟩=some (.bool s.s.op) ∧
   w.cell? ⟨bs,i*5+3,none⟩=some s.pv∧w.cell? ⟨bs,i*5+4,none⟩=some s.rv):=by
 obtain ⟨g,cap,cur,hv,hb,hg,hn,hc,hsz,ht⟩:=ownsRow_shape h.row hm
 subst hv
 refine ⟨g,cap,rfl,h.rowT g rfl,lt_of_heap hg,hn,hc,fun j=>frozen_of hg j,fun i s hi=>?_⟩
 have hlt:=(List.getElem?_eq_some_iff.1 hi).1
 have hcell:∀j,j<5→w.cell? ⟨g,i*5+j,none⟩=(shCells s)[j]?:=by
  intro j hj
  have:=World.ownsRow.cellAt h.row (i*5+j) (by omega)
  rw [this,logCells_get m i j hj s hi]
 exact ⟨hcell 0 (by omega),hcell 1 (by omega),hcell 2 (by omega),hcell 3 (by omega),hcell 4 (by omega)⟩
def GrpPostV (w:World) (ρ:Nat→Nat) (gb:Nat) (C:Cfg) (now:Rest) (sv':Value) (l':List Sh) (w':World):Prop :=
 ∃ρ' m',m'.map (·.s)=l'∧GrpAt w' ρ' gb C now sv' m'∧Keeps (mine ρ) w w'∧Ext w.heap.size ρ ρ'∧Fits w' ρ'
def GrpPost (w:World) (ρ:Nat→Nat) (gb:Nat) (C:Cfg) (now:Rest) (l':List Sh) (w':World):Prop :=
 ∃ρ' sv' m',m'.map (·.s)=l'∧GrpAt w' ρ' gb C now sv' m'∧Keeps (mine ρ) w w'∧Ext w.heap.size ρ ρ'∧Fits w' ρ'
theorem GrpPostV.post {w w':World} {ρ:Nat→Nat} {gb:Nat} {C:Cfg} {now:Rest} {sv':Value} {l':List Sh} (h:GrpPostV w ρ gb C now sv' l' w'):GrpPost w ρ gb C now l' w':=by
 obtain ⟨ρ',m',a,b⟩:=h
 exact ⟨ρ',sv',m',a,b⟩
theorem Ext.refl {w:World} {ρ:Nat→Nat} (hf:Fits w ρ):Ext w.heap.size ρ ρ:=⟨fun _ _=>rfl,fun k hk=>by rw [hf k hk];omega⟩
theorem Ext.trans {N M:Nat} {ρ ρ' ρ'':Nat→Nat} (h:Ext N ρ ρ') (h':Ext M ρ' ρ'') (hN:N≤M):Ext N ρ ρ'' :=
 ⟨fun k hk=>(h'.1 k (by omega)).trans (h.1 k hk),fun k hk=>by
  by_cases hM:k<M
  ·rw [h'.1 k hM];exact h.2 k hk
  ·exact h'.2 k (by omega)⟩
theorem Keeps.mineTrans {w w1 w2:World} {ρ ρ':Nat→Nat} (h:Keeps (mine ρ) w w1) (h':Keeps (mine ρ') w1 w2) (he:Ext w.heap.size ρ ρ'):Keeps (mine ρ) w w2 :=
 ⟨h'.os.trans h.os,h'.tape.trans h.tape,h'.output.trans h.output,Nat.le_trans h.size h'.size,fun k hk hs =>
  (h'.block k (Nat.lt_of_lt_of_le hk h.size) (fun hm=>hs (by unfold mine at hm ⊢;rw [he.1 k hk] at hm;exact hm))).trans (h.block k hk hs)⟩
theorem GrpPost.trans {w w1 w2:World} {ρ ρ1:Nat→Nat} {gb:Nat} {C:Cfg} {now:Rest} {l':List Sh} (hk:Keeps (mine ρ) w w1) (he:Ext w.heap.size ρ ρ1) (h:GrpPost w1 ρ1 gb C now l' w2):GrpPost w ρ gb C now l' w2:=by
 obtain ⟨ρ',sv',m',a,b,c,d,e⟩:=h
 exact ⟨ρ',sv',m',a,b,hk.mineTrans c he,he.trans d hk.size,e⟩
theorem grpArr_set (C:Cfg) (sv sv':Value) (now:Rest):(grpArr C sv now).setIfInBounds 7 sv'=grpArr C sv' now:=by
 unfold grpArr
 rw [List.setIfInBounds_toArray]
 rfl
theorem GrpAt.cells {w:World} {ρ:Nat→Nat} {gb:Nat} {C:Cfg} {now:Rest} {sv:Value} {m:List Cs} (h:GrpAt w ρ gb C now sv m) :
 w.cell? ⟨gb,7,none⟩=some sv∧w.frozen? ⟨gb,7,none⟩=false∧w.cell? ⟨gb,6,none⟩=some (.int .i64 now.t)∧w.frozen? ⟨gb,6,none⟩=false∧gb<w.heap.size :=
 ⟨cell_of h.blk 7,frozen_of h.blk 7,cell_of h.blk 6,frozen_of h.blk 6,lt_of_heap h.blk⟩
theorem GrpAt.store {w:World} {ρ:Nat→Nat} {gb:Nat} {C:Cfg} {now:Rest} {bs cap:Nat} {m:List Cs} (h:GrpAt w ρ gb C now (.slice (some ⟨bs,0,none⟩) m.length cap) m)
 (i j:Nat) (hj:j<5) (s s':Cs) (hi:m[i]?=some s) (v:Value) (hs:(shCells s).set j v=shCells s')
 (hp:w.ownsRow 0 3 1 s'.pv s'.s.par.length (s'.s.par.map (Value.int .i64))) (hpT:∀k,s'.pv.ownBlock=some k→ρ k=3+2*i)
 (hr:w.ownsRow 0 137 10 s'.rv s'.s.cnt (rcRow s'.s.rl)) (hrT:∀k,s'.rv.ownBlock=some k→ρ k=4+2*i) :
 GrpAt (w.setCell ⟨bs,i*5+j,none⟩ v) ρ gb C now (.slice (some ⟨bs,0,none⟩) m.length cap) (m.set i s'):=by
 have hbs:ρ bs=2:=h.log.rowT bs rfl
 have keepO:∀{e:TypeId} {size:Nat} {u:Value} {n:Nat} {xs:List Value},w.ownsRow 0 e size u n xs→(∀k,u.ownBlock=some k→ρ k≠2)→(w.setCell ⟨bs,i*5+j,none⟩ v).ownsRow 0 e size u n xs:=by
  intro e size u n xs ho hne
  refine ownsRow_of_block ho fun k hk=>Below.heap_setCell _ _ _ _ ?_
  rintro rfl
  exact hne _ hk hbs
 refine ⟨?_,h.tag,⟨?_,?_,?_,?_,?_,?_⟩,keepO h.wk (fun k hk=>by rw [h.wkT k hk];omega),h.wkT,h.dnL,h.lsL⟩
 ·rw [Below.heap_setCell _ _ _ _ (by rintro rfl;have:=h.tag;omega)]
  exact h.blk
 ·have:=(World.ownsRow.stored h.log.row (i*5+j) v).1
  rw [logCells_set m i j hj s s' hi v hs] at this
  simpa using this
 ·exact h.log.rowT
 ·intro i' t ht
  rw [List.getElem?_set] at ht
  split at ht
  ·rename_i e;subst e
   split at ht
   ·cases ht
    exact keepO hp fun k hk=>by rw [hpT k hk];omega
   ·cases ht
  ·exact keepO (h.log.par i' t ht) fun k hk=>by rw [h.log.parT i' t ht k hk];omega
 ·intro i' t ht
  rw [List.getElem?_set] at ht
  split at ht
  ·rename_i e;subst e
   split at ht
   ·cases ht;exact hpT
   ·cases ht
  ·exact h.log.parT i' t ht
 ·intro i' t ht
  rw [List.getElem?_set] at ht
  split at ht
  ·rename_i e;subst e
   split at ht
   ·cases ht
    exact keepO hr fun k hk=>by rw [hrT k hk];omega
   ·cases ht
  ·exact keepO (h.log.rcv i' t ht) fun k hk=>by rw [h.log.rcT i' t ht k hk];omega
 ·intro i' t ht
  rw [List.getElem?_set] at ht
  split at ht
  ·rename_i e;subst e
   split at ht
   ·cases ht;exact hrT
   ·cases ht
  ·exact h.log.rcT i' t ht
theorem GrpAt.close {w:World} {ρ:Nat→Nat} {gb:Nat} {C:Cfg} {now:Rest} {bs cap:Nat} {m:List Cs} (h:GrpAt w ρ gb C now (.slice (some ⟨bs,0,none⟩) m.length cap) m)
 (i:Nat) (s:Cs) (hi:m[i]?=some s) :
 GrpAt (w.setCell ⟨bs,i*5+2,none⟩ (.bool false)) ρ gb C now (.slice (some ⟨bs,0,none⟩) (m.set i { s with s:={ s.s with op:=false } }).length cap) (m.set i { s with s:={ s.s with op:=false } }):=by
 have:=h.store i 2 (by omega) s { s with s:={ s.s with op:=false } } hi (.bool false) rfl (h.log.par i s hi) (h.log.parT i s hi) (h.log.rcv i s hi) (h.log.rcT i s hi)
 simpa using this
theorem GrpAt.grow {w w2:World} {ρ:Nat→Nat} {gb:Nat} {C:Cfg} {now:Rest} {sv:Value} {m:List Cs} (h:GrpAt w ρ gb C now sv m) (hf:Fits w ρ) (hm:m.length≤15)
 (lo hi:Int) (ps:List Int) (hps:ps.length≤2) (g cap N:Nat) (hN:w.heap.size=N)
 (hown:w2.ownsRow 0 113 5 (.slice (some ⟨g,0,none⟩) (m.length+1) cap) (m.length+1) (logCells m ++ [.int .i64 lo,.int .i64 hi,.bool true,.slice (some ⟨N,0,none⟩) ps.length ps.length,.slice none 0 0]))
 (W:World) (hW:W.heap[N]?=some (.cells (ps.map (Value.int .i64)).toArray 3 (0,0))) (hWk:Keeps (fun _=>False) w W) (hWs:w.heap.size<W.heap.size)
 (hgrow:W.grownBy w2 sv.ownBlock) (hat:sv.ownBlock=some g∨g=W.heap.size) :
 GrpPostV w ρ gb C now (.slice (some ⟨g,0,none⟩) (m.length+1) cap) (m.map (·.s) ++ [⟨lo,hi,true,ps,[]⟩]) (w2.setCell ⟨gb,7,none⟩ (.slice (some ⟨g,0,none⟩) (m.length+1) cap)):=by
 subst hN
 have hgb:=lt_of_heap h.blk
 have hsz:=hgrow.size
 have hsv:∀k,sv.ownBlock=some k→ρ k=2∧k<w.heap.size:=fun k hk=>⟨h.log.rowT k hk,(h.log.row.lt k hk).2⟩
 have hnew:∀k,w.heap.size≤k→ρ k=0:=hf
 have hg2:g<w2.heap.size:=by
  obtain ⟨g',cap',cur,hv,_,hg,_⟩:=ownsRow_shape hown (by omega)
  cases hv;exact lt_of_heap hg
 have hgne:g≠gb:=by
  rintro rfl
  rcases hat with e | e
  ·have:=(hsv _ e).1;rw [h.tag] at this;omega
  ·omega
 have hgP:g≠w.heap.size:=by
  rintro rfl
  rcases hat with e | e
  ·have:=(hsv _ e).2;omega
  ·omega
 have hgbne:some gb≠sv.ownBlock:=fun e=>by have:=(hsv gb e.symm).1;rw [h.tag] at this;omega
 -- what was there and is not the row stands
 have old:∀k,k<w.heap.size→sv.ownBlock≠some k→k≠gb→(w2.setCell ⟨gb,7,none⟩ (.slice (some ⟨g,0,none⟩) (m.length+1) cap)).heap[k]?=w.heap[k]?:=by
  intro k hk hne hkg
  rw [Below.heap_setCell _ _ _ _ (by simpa using hkg),hgrow.block k (by have:=hWk.size;omega) (fun e=>hne e.symm),hWk.block k hk (fun h=>h)]
 refine ⟨fun k=>if k=w.heap.size then 3+2*m.length else if k=g then 2 else ρ k,m ++ [⟨⟨lo,hi,true,ps,[]⟩,.slice (some ⟨w.heap.size,0,none⟩) ps.length ps.length,.slice none 0 0⟩],by simp,⟨?_,?_,?_,ownsRow_of_block h.wk fun k hk=>old k (h.wk.lt k hk).2 (fun e=>by have:=(hsv k e).1;have:=h.wkT k hk;omega) (by rintro rfl;have:=h.tag;have:=h.wkT _ hk;omega),fun k hk=>?_,h.dnL,h.lsL⟩,?_,?_,?_⟩
 ·have:w2.heap[gb]?=some (.cells (grpArr C sv now) 71 (0,0)):=by
   rw [hgrow.block gb (by have:=hWk.size;omega) hgbne,hWk.block gb hgb (fun h=>h),h.blk]
  rw [heap_setCell_same this,grpArr_set]
 ·show (if gb=w.heap.size then _ else if gb=g then 2 else ρ gb)=1
  rw [if_neg (by omega),if_neg (fun e=>hgne e.symm)];exact h.tag
 ·have lt:∀{i:Nat} {s:Cs},m[i]?=some s→i<m.length:=fun hi=>(List.getElem?_eq_some_iff.1 hi).1
  have tagOf:∀k,k<w.heap.size→ρ k≠2→(if k=w.heap.size then 3+2*m.length else if k=g then 2 else ρ k)=ρ k:=by
   intro k hk h2
   rw [if_neg (by omega)]
   split
   ·rename_i e;subst e
    rcases hat with e | e
    ·exact absurd (hsv _ e).1 h2
    ·have:=hWk.size;omega
   ·rfl
  have keepO:∀{e:TypeId} {size:Nat} {u:Value} {n:Nat} {xs:List Value} {t:Nat},w.ownsRow 0 e size u n xs→(∀k,u.ownBlock=some k→ρ k=t)→3≤t →
   (w2.setCell ⟨gb,7,none⟩ (.slice (some ⟨g,0,none⟩) (m.length+1) cap)).ownsRow 0 e size u n xs:=by
   intro e size u n xs t ho ht h3
   refine ownsRow_of_block ho fun k hk=>old k (ho.lt k hk).2 ?_ ?_
   ·intro e;have:=(hsv k e).1;have:=ht k hk;omega
   ·rintro rfl;have:=h.tag;have:=ht _ hk;omega
  refine ⟨?_,?_,?_,?_,?_,?_⟩
  ·have e1:logCells (m ++ [⟨⟨lo,hi,true,ps,[]⟩,.slice (some ⟨w.heap.size,0,none⟩) ps.length ps.length,.slice none 0 0⟩])=logCells m ++ [.int .i64 lo,.int .i64 hi,.bool true,.slice (some ⟨w.heap.size,0,none⟩) ps.length ps.length,.slice none 0 0]:=by
    rw [logCells_append];rfl
   rw [e1,List.length_append]
   refine ownsRow_of_block hown fun k hk=>Below.heap_setCell _ _ _ _ ?_
   rintro rfl
   simp [Value.ownBlock] at hk
   omega
  ·intro k hk
   simp [Value.ownBlock] at hk
   subst hk
   show (if g=w.heap.size then _ else if g=g then 2 else ρ g)=2
   rw [if_neg hgP,if_pos rfl]
  ·intro i s hi'
   by_cases hlt:i<m.length
   ·rw [List.getElem?_append_left hlt] at hi'
    exact keepO (h.log.par i s hi') (h.log.parT i s hi') (by omega)
   ·rw [List.getElem?_append_right (by omega)] at hi'
    obtain ⟨hz,he⟩:i - m.length=0∧_:=by
     have:=(List.getElem?_eq_some_iff.1 hi').1
     simp at this
     exact ⟨by omega,trivial⟩
    rw [hz] at hi'
    simp at hi'
    subst hi'
    refine ⟨by simp,.inr ⟨w.heap.size,ps.length,(ps.map (Value.int .i64)).toArray,rfl,Nat.zero_le _,?_,Nat.le_refl _,by unfold maxLen;omega,by simp,by simp [List.take_of_length_le]⟩⟩
    rw [Below.heap_setCell _ _ _ _ (by show w.heap.size≠gb;omega),hgrow.block _ (by omega) (fun e=>by have:=(hsv _ e.symm).2;omega),hW]
  ·intro i s hi' k hk
   by_cases hlt:i<m.length
   ·rw [List.getElem?_append_left hlt] at hi'
    have e:=h.log.parT i s hi' k hk
    rw [tagOf k ((h.log.par i s hi').lt k hk).2 (by omega)];exact e
   ·rw [List.getElem?_append_right (by omega)] at hi'
    have hz:i - m.length=0:=by
     have:=(List.getElem?_eq_some_iff.1 hi').1
     simp at this;omega
    rw [hz] at hi'
    simp at hi'
    subst hi'
    simp [Value.ownBlock] at hk
    subst hk
    show (if w.heap.size=w.heap.size then _ else _)=_
    rw [if_pos rfl];omega
  ·intro i s hi'
   by_cases hlt:i<m.length
   ·rw [List.getElem?_append_left hlt] at hi'
    exact keepO (h.log.rcv i s hi') (h.log.rcT i s hi') (by omega)
   ·rw [List.getElem?_append_right (by omega)] at hi'
    have hz:i - m.length=0:=by
     have:=(List.getElem?_eq_some_iff.1 hi').1
     simp at this;omega
    rw [hz] at hi'
    simp at hi'
    subst hi'
    exact World.ownsRow_nil _ _ _ _
  ·intro i s hi' k hk
   by_cases hlt:i<m.length
   ·rw [List.getElem?_append_left hlt] at hi'
    obtain ⟨xs,hx⟩:=h.log.rcs i s hi'
    have e:=h.log.rcT i s hi' k hk
    rw [tagOf k (hx.lt k hk).2 (by omega)];exact e
   ·rw [List.getElem?_append_right (by omega)] at hi'
    have hz:i - m.length=0:=by
     have:=(List.getElem?_eq_some_iff.1 hi').1
     simp at this;omega
    rw [hz] at hi'
    simp at hi'
    subst hi'
    simp [Value.ownBlock] at hk
 ·have a:=h.wkT k hk
  have b:=(h.wk.lt k hk).2
  show (if k=w.heap.size then _ else if k=g then 2 else ρ k)=40
  rw [if_neg (by omega),if_neg]
  ·exact a
  ·rintro rfl
   rcases hat with e | e
   ·have:=(hsv _ e).1;omega
   ·have:=hWk.size;omega
 ·refine ⟨?_,?_,?_,?_,?_⟩
  ·show w2.os=w.os;rw [hgrow.os,hWk.os]
  ·show w2.tape=w.tape;rw [hgrow.tape,hWk.tape]
  ·show w2.output=w.output;rw [hgrow.output,hWk.output]
  ·have:=hWk.size;simp [World.setCell];omega
  ·intro k hk hs
   refine old k hk ?_ ?_
   ·intro e;exact hs (by unfold mine;rw [(hsv k e).1];omega)
   ·rintro rfl;exact hs (by unfold mine;rw [h.tag];omega)
 ·refine ⟨fun k hk=>?_,fun k hk=>?_⟩
  ·show (if k=w.heap.size then _ else if k=g then 2 else ρ k)=ρ k
   rw [if_neg (by omega)]
   split
   ·rename_i e;subst e
    rcases hat with e | e
    ·exact (hsv _ e).1.symm
    ·have:=hWk.size;omega
   ·rfl
  ·show (if k=w.heap.size then _ else if k=g then 2 else ρ k)<100
   split
   ·omega
   ·split
    ·omega
    ·rw [hnew k hk];omega
 ·intro k hk
  have hk':w2.heap.size≤k:=by simpa [World.setCell] using hk
  show (if k=w.heap.size then _ else if k=g then 2 else ρ k)=0
  have:=hWk.size
  rw [if_neg (by omega),if_neg (by omega)]
  exact hnew k (by omega)
set_option maxHeartbeats 400000 in
theorem within_any (n a b:Int) (w:World) :
 Calls Tryz.prog 37 #[.int .i64 n,.int .i64 a,.int .i64 b] w fun e w'=>e=.returned (.bool (withinB n a b))∧w=w':=by
 by_cases h1:a≤n
 ·by_cases h2:n≤b
  all_goals
   go_enter Tryz.func37,Tryz.ntmps37
   go_wp2
   go_ret
   exact ⟨by simp [withinB,h1,h2],rfl⟩
 ·go_enter Tryz.func37,Tryz.ntmps37
  go_wp2
  go_ret
  exact ⟨by simp [withinB];omega,rfl⟩
set_option maxHeartbeats 400000 in
theorem validWindows_any (n s:Int) (w:World) :
 Calls Tryz.prog 38 #[.int .i64 n,.int .i64 s] w fun e w'=>e=.returned (.bool (winB n s))∧w=w':=by
 cases h1:withinB n 1 100
 ·have H1:=hide h1
  clear h1
  go_enter Tryz.func38,Tryz.ntmps38
  go_wp2_with fail
  refine (within_any _ _ _ _).mono ?_;rintro e w' ⟨rfl,rfl⟩
  rw [uh H1]
  go_wp2_with fail
  refine (within_any _ _ _ _).mono ?_;rintro e w' ⟨rfl,rfl⟩
  go_wp2
  go_ret
  exact ⟨ret_bool (by have:=uh H1;simp [winB,withinB] at *;omega),rfl⟩
 ·cases h2:withinB s 1 n
  ·have H1:=hide h1
   have H2:=hide h2
   clear h1 h2
   go_enter Tryz.func38,Tryz.ntmps38
   go_wp2_with fail
   refine (within_any _ _ _ _).mono ?_;rintro e w' ⟨rfl,rfl⟩
   rw [uh H1]
   go_wp2_with fail
   refine (within_any _ _ _ _).mono ?_;rintro e w' ⟨rfl,rfl⟩
   rw [uh H2]
   go_wp2
   go_ret
   exact ⟨ret_bool (by have:=uh H1;have:=uh H2;simp [winB,withinB] at *;omega),rfl⟩
  ·have H1:=hide h1
   have H2:=hide h2
   have b1:1≤n∧n≤100:=by simpa [withinB] using h1
   have b2:1≤s∧s≤n:=by simpa [withinB] using h2
   obtain ⟨b11,b12⟩:=b1
   obtain ⟨b21,b22⟩:=b2
   clear h1 h2
   go_enter Tryz.func38,Tryz.ntmps38
   go_wp2_with fail
   refine (within_any _ _ _ _).mono ?_;rintro e w' ⟨rfl,rfl⟩
   rw [uh H1]
   go_wp2_with fail
   refine (within_any _ _ _ _).mono ?_;rintro e w' ⟨rfl,rfl⟩
   rw [uh H2]
   go_wp2
   go_ret
   exact ⟨ret_bool (by rw [Bool.eq_iff_iff];simp [winB];omega),rfl⟩
set_option maxHeartbeats 1000000 in
theorem valid_any (a l b n s t:Int) (w:World) :
 Calls Tryz.prog 15 #[.agg #[.int .i64 a,.int .i64 l,.int .i64 b,.int .i64 n,.int .i64 s,.int .i64 t]] w fun e w'=>e=.returned (.bool (validB a l b n s t))∧Below w.heap.size w w':=by
 have hv:validB a l b n s t=(withinB a 1 4 && withinB l 1 10 && withinB b 1 8 && withinB t 0 100 && winB n s):=by
  rw [Bool.eq_iff_iff];simp [validB,withinB,winB,and_assoc]
 rw [hv];clear hv
 go_enter Tryz.func15,Tryz.ntmps15
 go_wp2_with fail
 refine (within_any _ _ _ _).mono ?_;rintro e w' ⟨rfl,rfl⟩
 generalize hq1:withinB a 1 4=q1
 have H1:=hide hq1
 clear hq1
 go_wp2_with fail
 refine (within_any _ _ _ _).mono ?_;rintro e w' ⟨rfl,rfl⟩
 generalize hq2:withinB l 1 10=q2
 have H2:=hide hq2
 clear hq2
 go_wp2_with fail
 refine (within_any _ _ _ _).mono ?_;rintro e w' ⟨rfl,rfl⟩
 generalize hq3:withinB b 1 8=q3
 have H3:=hide hq3
 clear hq3
 go_wp2_with fail
 refine (within_any _ _ _ _).mono ?_;rintro e w' ⟨rfl,rfl⟩
 generalize hq4:withinB t 0 100=q4
 have H4:=hide hq4
 clear hq4
 go_wp2_with fail
 refine (validWindows_any _ _ _).mono ?_;rintro e w' ⟨rfl,rfl⟩
 generalize hq5:winB n s=q5
 have H5:=hide hq5
 clear hq5
 cases q1 <;> cases q2 <;> cases q3 <;> cases q4
 all_goals
  go_wp2
  go_ret
  exact ⟨ret_bool (by rw [uh H1,uh H2,uh H3,uh H4,uh H5];simp),(Below.refl _ _).alloc (Nat.le_refl _) _⟩
def hashL (l:List UInt8):Int:=l.foldl (fun h b=>(31*h+(b.toNat:Int)) % 256) 0
def letter (b:UInt8):Bool:=decide (97≤b.toNat∧b.toNat≤122)
def keyB (s:ByteArray):Bool:=decide (1≤s.size∧s.size≤8) && s.data.toList.all letter
theorem hashL_bd (l:List UInt8):0≤hashL l∧hashL l<256:=by
 have:∀(l:List UInt8) (h:Int),0≤h→h<256→0≤l.foldl (fun h b=>(31*h+(b.toNat:Int)) % 256) h∧l.foldl (fun h b=>(31*h+(b.toNat:Int)) % 256) h<256:=by
  intro l
  induction l with
  | nil=>intro h a b;exact ⟨a,b⟩
  | cons x r ih=>intro h a b;exact ih _ (by show 0≤(31*h+(x.toNat:Int)) % 256;omega) (by show (31*h+(x.toNat:Int)) % 256<256;omega)
 exact this l 0 (by omega) (by omega)
theorem hashL_snoc (l:List UInt8) (c:UInt8):hashL (l ++ [c])=(31*hashL l+(c.toNat:Int)) % 256:=by simp [hashL]
theorem take_snoc (s:ByteArray) (k:Nat) (h:k<s.size):s.data.toList.take (k+1)=s.data.toList.take k ++ [s[k]]:=by
 rw [List.take_succ_eq_append_getElem (by simpa using h)];rfl
theorem all_take_succ (s:ByteArray) (k:Nat) (h:k<s.size):(s.data.toList.take (k+1)).all letter=((s.data.toList.take k).all letter && letter s[k]):=by
 rw [take_snoc s k h,List.all_append];simp
theorem all_false (s:ByteArray) (k:Nat) (h:k<s.size) (hl:letter s[k]=false):s.data.toList.all letter=false:=by
 rw [List.all_eq_false]
 refine ⟨s[k],?_,by simp [hl]⟩
 have:s[k]=s.data.toList[k]'(by simpa using h):=rfl
 rw [this];exact List.getElem_mem _
def keyArr (l:List UInt8):Array Value:=#[.int .u8 (byteAt l 0),.int .u8 (byteAt l 1),.int .u8 (byteAt l 2),.int .u8 (byteAt l 3),.int .u8 (byteAt l 4),.int .u8 (byteAt l 5),.int .u8 (byteAt l 6),.int .u8 (byteAt l 7)]
theorem keyArr_get (l:List UInt8) (k:Nat) (hk:k<8):(keyArr l)[k]?=some (.int .u8 (byteAt l k)):=by
 match k,hk with
 | 0,_=>rfl
 | 1,_=>rfl
 | 2,_=>rfl
 | 3,_=>rfl
 | 4,_=>rfl
 | 5,_=>rfl
 | 6,_=>rfl
 | 7,_=>rfl
theorem byteAt_bd (l:List UInt8) (k:Nat):0≤byteAt l k∧byteAt l k<256:=by
 have:=(l[k]?.getD 0).toNat_lt
 unfold byteAt;omega
theorem hash_step (l:List UInt8) (k:Nat) (hk:k<l.length):hashL (l.take (k+1))=(31*hashL (l.take k)+byteAt l k) % 256:=by
 rw [List.take_succ_eq_append_getElem hk,hashL_snoc]
 simp [byteAt,List.getElem?_eq_getElem hk]
set_option maxRecDepth 100000 in
set_option maxHeartbeats 400000 in
theorem hash_any (l:List UInt8) (w:World) (hl:l.length≤8) (hz:∀b ∈ l,b.toNat≠0) :
 Calls Tryz.prog 132 #[.agg (keyArr l)] w fun e w'=>e=.returned (.int .i64 (hashL l))∧Below w.heap.size w w':=by
 have hc:∀k,k<8→(w.alloc (.cells (keyArr l) 130)).cell? ⟨w.heap.size,k,none⟩=some (.int .u8 (byteAt l k)):=by
  intro k hk
  rw [cell_of (heap_alloc_new w _),keyArr_get l k hk]
 have hb:Below w.heap.size w (w.alloc (.cells (keyArr l) 130)):=(Below.refl _ _).alloc (Nat.le_refl _) _
 have HZ:Hid (∀k,k<l.length→byteAt l k≠0):=by
  intro k hk h
  have:=hz _ (List.getElem_mem hk)
  simp only [byteAt,List.getElem?_eq_getElem hk,Option.getD_some] at h
  omega
 have HO:Hid (∀k,l.length≤k→byteAt l k=0):=by
  intro k hk
  simp [byteAt,List.getElem?_eq_none hk]
 unfold keyArr at hc hb ⊢
 clear hz
 go_enter Tryz.func132,Tryz.ntmps132
 go_wp2
 generalize World.alloc w _=W at *
 go_loop [3,4] (fun n i=>∃k:Nat,k≤l.length∧i=.int .i64 k∧n=.int .i64 (hashL (l.take k))) (fun _ i=>l.length - (intOf i).toNat)
 case atStart=>exact ⟨0,Nat.zero_le _,rfl,rfl⟩
 case round =>
  obtain ⟨k,hk,rfl,rfl⟩:=hrel
  obtain ⟨hd1,hd2⟩:=hashL_bd (l.take k)
  by_cases hlt:k<l.length
  ·have HS:=hide (hash_step l k hlt)
   obtain ⟨hb1,hb2⟩:=byteAt_bd l k
   have hck:=hc k (by omega)
   have hk8:k<8:=by omega
   have hne:(byteAt l k != 0)=true:=by rw [bne_iff_ne];exact uh HZ k hlt
   clear hc
   go_wp2
   go_round
   case rel=>exact ⟨k+1,by omega,by go_num,by rw [uh HS]⟩
   case measure=>simp [intOf];omega
  ·have hkl:k=l.length:=by omega
   have HK:=hide hkl
   clear hkl
   by_cases hk8:k<8
   ·have hck:=hc k hk8
    have hne:(byteAt l k != 0)=false:=by rw [uh HO k (by omega)];rfl
    clear hc
    go_wp2
    go_ret
    exact ⟨ret_int (by rw [uh HK,List.take_length]),hb⟩
   ·go_wp2
    go_ret
    exact ⟨ret_int (by rw [uh HK,List.take_length]),hb⟩
theorem keyArr_set (l:List UInt8) (c:UInt8) (hk:l.length<8):(keyArr l).setIfInBounds l.length (.int .u8 (c.toNat:Int))=keyArr (l ++ [c]):=by
 match l,hk with
 | [],_=>rfl
 | [_],_=>rfl
 | [_,_],_=>rfl
 | [_,_,_],_=>rfl
 | [_,_,_,_],_=>rfl
 | [_,_,_,_,_],_=>rfl
 | [_,_,_,_,_,_],_=>rfl
 | [_,_,_,_,_,_,_],_=>rfl
theorem len_take (s:ByteArray) (k:Nat) (hk:k≤s.size):(s.data.toList.take k).length=k:=by
 rw [List.length_take];have:s.data.toList.length=s.size:=by simp
 omega
def set8 (w:World) (b:Nat) (v0 v1 v2 v3 v4 v5 v6 v7:Value):World :=
 (((((((w.setCell ⟨b,0,none⟩ v0).setCell ⟨b,1,none⟩ v1).setCell ⟨b,2,none⟩ v2).setCell ⟨b,3,none⟩ v3).setCell ⟨b,4,none⟩ v4).setCell ⟨b,5,none⟩ v5).setCell ⟨b,6,none⟩ v6).setCell ⟨b,7,none⟩ v7
theorem set8_heap {w:World} {b:Nat} {l:List UInt8} {e:TypeId} (h:w.heap[b]?=some (.cells (keyArr l) e (0,0))) (v0 v1 v2 v3 v4 v5 v6 v7:Value) :
 (set8 w b v0 v1 v2 v3 v4 v5 v6 v7).heap[b]?=some (.cells #[v0,v1,v2,v3,v4,v5,v6,v7] e (0,0)):=by
 unfold set8
 have h:=heap_setCell_same (i:=0) h v0
 have h:=heap_setCell_same (i:=1) h v1
 have h:=heap_setCell_same (i:=2) h v2
 have h:=heap_setCell_same (i:=3) h v3
 have h:=heap_setCell_same (i:=4) h v4
 have h:=heap_setCell_same (i:=5) h v5
 have h:=heap_setCell_same (i:=6) h v6
 have h:=heap_setCell_same (i:=7) h v7
 rw [h]
 simp [keyArr]
theorem set8_below {B:Nat} {a w:World} {b:Nat} (h:Below B a w) (hb:B≤b) (v0 v1 v2 v3 v4 v5 v6 v7:Value):Below B a (set8 w b v0 v1 v2 v3 v4 v5 v6 v7) :=
 (((((((h.setCell (p:=⟨b,0,none⟩) hb _).setCell (p:=⟨b,1,none⟩) hb _).setCell (p:=⟨b,2,none⟩) hb _).setCell (p:=⟨b,3,none⟩) hb _).setCell (p:=⟨b,4,none⟩) hb _).setCell (p:=⟨b,5,none⟩) hb _).setCell (p:=⟨b,6,none⟩) hb _).setCell (p:=⟨b,7,none⟩) hb _
theorem load8 {w:World} {b:Nat} {v0 v1 v2 v3 v4 v5 v6 v7:Value} {e:TypeId} {f:Nat × Nat} (h:w.heap[b]?=some (.cells #[v0,v1,v2,v3,v4,v5,v6,v7] e f)) :
 w.cell? ⟨b,0,none⟩=some v0∧w.cell? ⟨b,1,none⟩=some v1∧w.cell? ⟨b,2,none⟩=some v2∧w.cell? ⟨b,3,none⟩=some v3∧w.cell? ⟨b,4,none⟩=some v4∧w.cell? ⟨b,5,none⟩=some v5∧w.cell? ⟨b,6,none⟩=some v6∧w.cell? ⟨b,7,none⟩=some v7 :=
 ⟨cell_of h 0,cell_of h 1,cell_of h 2,cell_of h 3,cell_of h 4,cell_of h 5,cell_of h 6,cell_of h 7⟩
def parsed (s:ByteArray):Value:=if keyB s then .tuple #[.agg (keyArr s.data.toList),.bool true] else .tuple #[.agg (keyArr []),.bool false]
theorem parsed_no {s:ByteArray} (h:keyB s=false):parsed s=.tuple #[.agg (keyArr []),.bool false]:=by simp [parsed,h]
theorem parsed_yes {s:ByteArray} (h:keyB s=true):parsed s=.tuple #[.agg (keyArr s.data.toList),.bool true]:=by simp [parsed,h]
set_option maxHeartbeats 1000000 in
theorem parse_any (s:ByteArray) (w:World) (hs:s.size≤maxLen) :
 Calls Tryz.prog 51 #[.string s] w fun e w'=>e=.returned (parsed s)∧Below w.heap.size w w':=by
 unfold maxLen at hs
 by_cases h1:s.size<1
 ·have HP:=hide (parsed_no (s:=s) (by simp [keyB];omega))
  go_enter Tryz.func51,Tryz.ntmps51
  go_wp2
  refine bodyPost_ret (v:=.tuple #[.agg (keyArr []),.bool false]) (by simp [results,Tryz.results51,go_sem];rfl) rfl ⟨by rw [uh HP],?_⟩
  exact (Below.refl _ _).alloc (Nat.le_refl _) _
 ·by_cases h2:8<s.size
  ·have HP:=hide (parsed_no (s:=s) (by simp [keyB];omega))
   go_enter Tryz.func51,Tryz.ntmps51
   go_wp2
   refine bodyPost_ret (v:=.tuple #[.agg (keyArr []),.bool false]) (by simp [results,Tryz.results51,go_sem];rfl) rfl ⟨by rw [uh HP],?_⟩
   exact (Below.refl _ _).alloc (Nat.le_refl _) _
  ·have d1:decide ((s.size:Int)<1)=false:=by simp;omega
   have d2:decide (8<(s.size:Int))=false:=by simp;omega
   go_enter Tryz.func51,Tryz.ntmps51
   go_wp2
   go_loopw [5] (fun i wr=>∃k:Nat,k≤s.size∧i=.int .i64 k∧(s.data.toList.take k).all letter=true∧wr.heap[w.heap.size+1]?=some (.cells (keyArr (s.data.toList.take k)) 130 (0,0))∧wr.heap[w.heap.size]?=some (.cells (keyArr []) 130 (0,0))∧Below w.heap.size w wr) (fun i _=>s.size - (intOf i).toNat)
   case atStart =>
    refine ⟨0,Nat.zero_le _,rfl,by simp,?_,?_,((Below.refl _ _).alloc (Nat.le_refl _) _).alloc (by simp) _⟩
    ·have:=heap_alloc_new (w.alloc (.cells (keyArr []) 130)) (.cells (keyArr []) 130)
     rw [show (w.alloc (.cells (keyArr []) 130)).heap.size=w.heap.size+1 by simp] at this
     exact this
    ·have:=heap_alloc_new w (.cells (keyArr []) 130)
     rw [Below.heap_alloc _ _ _ (by simp)]
     exact this
   case round =>
    obtain ⟨k,hk,rfl,ha,hb1,hb0,hbel⟩:=hrel
    have HA:=hide ha
    clear ha
    by_cases hlt:k<s.size
    ·have HS:=hide (all_take_succ s k hlt)
     have HF:=hide (all_false s k hlt)
     by_cases h3:s[k].toNat<97
     ·have hb:(s[k].toNat:Int)<97:=by omega
      have HP:=hide (parsed_no (s:=s) (by have:=uh HF (by simp [letter];omega);simp [keyB,this]))
      have f0:=fun i=>frozen_of hb0 i
      obtain ⟨k0,k1,k2,k3,k4,k5,k6,k7⟩:=load8 hb0
      go_wp2
      have hN:=set8_heap hb0 (.int .u8 0) (.int .u8 0) (.int .u8 0) (.int .u8 0) (.int .u8 0) (.int .u8 0) (.int .u8 0) (.int .u8 0)
      have hB:=set8_below hbel (Nat.le_refl _) (.int .u8 0) (.int .u8 0) (.int .u8 0) (.int .u8 0) (.int .u8 0) (.int .u8 0) (.int .u8 0) (.int .u8 0)
      unfold set8 at hN hB
      generalize World.setCell _ _ _=W8 at *
      obtain ⟨m0,m1,m2,m3,m4,m5,m6,m7⟩:=load8 hN
      refine bodyPost_ret (v:=.tuple #[.agg (keyArr []),.bool false]) (by simp [results,Tryz.results51,go_sem,m0,m1,m2,m3,m4,m5,m6,m7];rfl) rfl ⟨by rw [uh HP],?_⟩
      exact hB
     ·by_cases h4:s[k].toNat≤122
      ·have hb:¬(s[k].toNat:Int)<97:=by omega
       have hb2:¬(122<(s[k].toNat:Int)):=by omega
       have hcell:=cell_of hb1 k
       rw [keyArr_get _ _ (by omega)] at hcell
       have hfro:=frozen_of hb1 k
       have hk8:k<8:=by omega
       have HB1:=hide hb1
       have HB0:=hide hb0
       have HBE:=hide hbel
       clear hb1 hb0 hbel
       go_wp2
       go_roundw
       case rel =>
        refine ⟨k+1,by omega,by go_num,by rw [uh HS,uh HA];simp [letter];omega,?_,?_,(uh HBE).setCell (by simp) _⟩
        ·rw [heap_setCell_same (uh HB1),take_snoc s k hlt,←keyArr_set _ _ (by rw [len_take s k hk];omega),len_take s k hk]
        ·rw [Below.heap_setCell _ _ _ _ (by simp)];exact uh HB0
       case measure=>simp [intOf];omega
      ·have hb:¬(s[k].toNat:Int)<97:=by omega
       have hb2:(122<(s[k].toNat:Int)):=by omega
       have HP:=hide (parsed_no (s:=s) (by have:=uh HF (by simp [letter];omega);simp [keyB,this]))
       have f0:=fun i=>frozen_of hb0 i
       obtain ⟨k0,k1,k2,k3,k4,k5,k6,k7⟩:=load8 hb0
       go_wp2
       have hN:=set8_heap hb0 (.int .u8 0) (.int .u8 0) (.int .u8 0) (.int .u8 0) (.int .u8 0) (.int .u8 0) (.int .u8 0) (.int .u8 0)
       have hB:=set8_below hbel (Nat.le_refl _) (.int .u8 0) (.int .u8 0) (.int .u8 0) (.int .u8 0) (.int .u8 0) (.int .u8 0) (.int .u8 0) (.int .u8 0)
       unfold set8 at hN hB
       generalize World.setCell _ _ _=W8 at *
       obtain ⟨m0,m1,m2,m3,m4,m5,m6,m7⟩:=load8 hN
       refine bodyPost_ret (v:=.tuple #[.agg (keyArr []),.bool false]) (by simp [results,Tryz.results51,go_sem,m0,m1,m2,m3,m4,m5,m6,m7];rfl) rfl ⟨by rw [uh HP],?_⟩
       exact hB
    ·have hkl:s.data.toList.take k=s.data.toList:=List.take_of_length_le (by simp;omega)
     rw [hkl] at hb1
     have HP:=hide (parsed_yes (s:=s) (by have:=uh HA;rw [hkl] at this;simp [keyB,this];omega))
     clear hkl
     have f0:=fun i=>frozen_of hb0 i
     obtain ⟨k0,k1,k2,k3,k4,k5,k6,k7⟩:=load8 hb0
     obtain ⟨j0,j1,j2,j3,j4,j5,j6,j7⟩:=load8 hb1
     go_wp2
     have hN:=set8_heap hb0 (.int .u8 (byteAt s.data.toList 0)) (.int .u8 (byteAt s.data.toList 1)) (.int .u8 (byteAt s.data.toList 2)) (.int .u8 (byteAt s.data.toList 3)) (.int .u8 (byteAt s.data.toList 4)) (.int .u8 (byteAt s.data.toList 5)) (.int .u8 (byteAt s.data.toList 6)) (.int .u8 (byteAt s.data.toList 7))
     have hB:=set8_below hbel (Nat.le_refl _) (.int .u8 (byteAt s.data.toList 0)) (.int .u8 (byteAt s.data.toList 1)) (.int .u8 (byteAt s.data.toList 2)) (.int .u8 (byteAt s.data.toList 3)) (.int .u8 (byteAt s.data.toList 4)) (.int .u8 (byteAt s.data.toList 5)) (.int .u8 (byteAt s.data.toList 6)) (.int .u8 (byteAt s.data.toList 7))
     unfold set8 at hN hB
     generalize World.setCell _ _ _=W8 at *
     obtain ⟨m0,m1,m2,m3,m4,m5,m6,m7⟩:=load8 hN
     refine bodyPost_ret (v:=.tuple #[.agg (keyArr s.data.toList),.bool true]) (by simp [results,Tryz.results51,go_sem,m0,m1,m2,m3,m4,m5,m6,m7];rfl) rfl ⟨by rw [uh HP],?_⟩
     exact hB
end Go.Proofs.YtpnkmnmchdabkaaGreat
