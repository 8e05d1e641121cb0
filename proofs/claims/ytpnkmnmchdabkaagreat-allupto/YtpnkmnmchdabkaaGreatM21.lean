import Derived.Test.YtpnkmnmchdabkaaGreatM15
import Derived.Test.YtpnkmnmchdabkaaGreatM20
namespace Go.Proofs.YtpnkmnmchdabkaaGreat
open Go.RowKit
theorem LogAt.keepsT {S:Nat→Prop} {w w':World} {ρ:Nat→Nat} {sv:Value} {m:List Cs} (h:LogAt w ρ sv m) (hk:Keeps S w w') (hS:∀k,k<w.heap.size→S k→ρ k<2∨40≤ρ k) (hm:m.length≤16):LogAt w' ρ sv m:=by
 have lt:∀{i:Nat} {s:Cs},m[i]?=some s→i<16:=fun hi=>by have:=(List.getElem?_eq_some_iff.1 hi).1;omega
 refine ⟨?_,h.rowT,?_,h.parT,?_,h.rcT⟩
 ·refine ownsRow_keeps h.row hk fun k hkk hs=>?_
  have:=h.rowT k hkk;have:=hS k (h.row.lt k hkk).2 hs
  omega
 ·intro i s hi
  refine ownsRow_keeps (h.par i s hi) hk fun k hkk hs=>?_
  have:=h.parT i s hi k hkk;have:=hS k ((h.par i s hi).lt k hkk).2 hs;have:=lt hi
  omega
 ·intro i s hi
  have hx:=h.rcv i s hi
  refine ownsRow_keeps hx hk fun k hkk hs=>?_
  have:=h.rcT i s hi k hkk;have:=hS k (hx.lt k hkk).2 hs;have:=lt hi
  omega
structure GrpL (w:World) (ρ:Nat→Nat) (gb:Nat) (C:Cfg) (now:Rest) (sv:Value) (m:List Cs) (g cap:Nat) (P:List Pl):Prop where
 G:GrpAt w ρ gb C now sv m
 hw:now.wv=.slice (some ⟨g,0,none⟩) now.n cap
 hm:now.mem=plsCells P
 hl:P.length=now.n*16
 le:m.length≤16
 fits:Fits w ρ
def grpA (C:Cfg) (sv:Value) (now:Rest):List Value:=[.int .i64 C.a,.int .i64 C.l,.int .i64 C.b,.int .i64 C.n,.int .i64 C.s,.int .i64 C.t,.int .i64 now.t,sv] ++ now.dn.map (Value.int .i64)
theorem grpArr_A (C:Cfg) (sv:Value) (now:Rest):grpArr C sv now=(grpA C sv now ++ (leCells now.ls ++ [now.wv])).toArray:=by
 unfold grpArr grpA Rest.cells
 simp
theorem grpA_len (C:Cfg) (sv:Value) (now:Rest) (h:now.dn.length=32):(grpA C sv now).length=40:=by
 unfold grpA;simp [h]
theorem GrpL.pls {w:World} {ρ:Nat→Nat} {gb:Nat} {C:Cfg} {now:Rest} {sv:Value} {m:List Cs} {g cap:Nat} {P:List Pl} (h:GrpL w ρ gb C now sv m g cap P):PlsAt w g cap now.n P :=
 ⟨by have:=h.G.wk;rw [h.hw,h.hm] at this;exact this,h.hl⟩
theorem GrpL.gT {w:World} {ρ:Nat→Nat} {gb:Nat} {C:Cfg} {now:Rest} {sv:Value} {m:List Cs} {g cap:Nat} {P:List Pl} (h:GrpL w ρ gb C now sv m g cap P):ρ g=40∧ρ gb=1∧gb<w.heap.size∧g<w.heap.size :=
 ⟨h.G.wkT g (by rw [h.hw];rfl),h.G.tag,lt_of_heap h.G.blk,h.pls.lt⟩
theorem GrpL.row {w:World} {ρ:Nat→Nat} {gb:Nat} {C:Cfg} {now:Rest} {sv:Value} {m:List Cs} {g cap:Nat} {P:List Pl} (h:GrpL w ρ gb C now sv m g cap P):LeRow w gb 71 (grpA C sv now) now.ls [now.wv] :=
 ⟨by rw [←grpArr_A];exact h.G.blk,h.G.lsL⟩
theorem GrpL.wcell {w:World} {ρ:Nat→Nat} {gb:Nat} {C:Cfg} {now:Rest} {sv:Value} {m:List Cs} {g cap:Nat} {P:List Pl} (h:GrpL w ρ gb C now sv m g cap P):w.cell? ⟨gb,88,none⟩=some (.slice (some ⟨g,0,none⟩) now.n cap):=by
 rw [cell_of h.G.blk,grpArr_A,List.getElem?_toArray,List.getElem?_append_right (by rw [grpA_len _ _ _ h.G.dnL];omega),grpA_len _ _ _ h.G.dnL,List.getElem?_append_right (by rw [leCells_len,h.G.lsL];omega),leCells_len,h.G.lsL]
 simp [h.hw]
theorem GrpL.dcell {w:World} {ρ:Nat→Nat} {gb:Nat} {C:Cfg} {now:Rest} {sv:Value} {m:List Cs} {g cap:Nat} {P:List Pl} (h:GrpL w ρ gb C now sv m g cap P) (j:Nat) (d:Int) (hj:now.dn[j]?=some d):w.cell? ⟨gb,8+j,none⟩=some (.int .i64 d):=by
 have hlt:=(List.getElem?_eq_some_iff.1 hj).1
 have:=h.G.dnL
 rw [cell_of h.G.blk,grpArr_A,List.getElem?_toArray,List.getElem?_append_left (by rw [grpA_len _ _ _ h.G.dnL];omega)]
 unfold grpA
 rw [List.getElem?_append_right (by simp)]
 simp [hj]
theorem GrpL.tcell {w:World} {ρ:Nat→Nat} {gb:Nat} {C:Cfg} {now:Rest} {sv:Value} {m:List Cs} {g cap:Nat} {P:List Pl} (h:GrpL w ρ gb C now sv m g cap P):w.cell? ⟨gb,6,none⟩=some (.int .i64 now.t)∧w.cell? ⟨gb,7,none⟩=some sv∧w.cell? ⟨gb,1,none⟩=some (.int .i64 C.l)∧w.cell? ⟨gb,2,none⟩=some (.int .i64 C.b) :=
 ⟨cell_of h.G.blk 6,cell_of h.G.blk 7,cell_of h.G.blk 1,cell_of h.G.blk 2⟩
theorem GrpL.setPl {w w':World} {ρ:Nat→Nat} {gb:Nat} {C:Cfg} {now:Rest} {sv:Value} {m:List Cs} {g cap:Nat} {P P':List Pl} (h:GrpL w ρ gb C now sv m g cap P) (hp:PlPost w g cap now.n P' w'):GrpL w' ρ gb C { now with mem:=plsCells P' } sv m g cap P'∧Keeps (mine ρ) w w':=by
 obtain ⟨t1,t2,l1,l2⟩:=h.gT
 have hk:=hp.2
 refine ⟨⟨⟨?_,h.G.tag,h.G.log.keepsT hk (fun k _ e=>by subst e;omega) h.le,?_,h.G.wkT,h.G.dnL,h.G.lsL⟩,h.hw,rfl,hp.1.len,h.le,fun k hk'=>h.fits k (by have:=hk.size;omega)⟩,hk.mono fun k _ e=>by subst e;unfold mine;omega⟩
 ·rw [hk.block gb l1 (by rintro rfl;omega)];exact h.G.blk
 ·have:=hp.1.row
  simpa [h.hw] using this
theorem GrpL.setLe {w w':World} {ρ:Nat→Nat} {gb:Nat} {C:Cfg} {now:Rest} {sv:Value} {m:List Cs} {g cap:Nat} {P:List Pl} {ls':List Le} (h:GrpL w ρ gb C now sv m g cap P) (hp:LePost w gb 71 (grpA C sv now) ls' [now.wv] w'):GrpL w' ρ gb C { now with ls:=ls' } sv m g cap P∧Keeps (mine ρ) w w':=by
 obtain ⟨t1,t2,l1,l2⟩:=h.gT
 have hk:=hp.2
 refine ⟨⟨⟨?_,h.G.tag,h.G.log.keepsT hk (fun k _ e=>by subst e;omega) h.le,?_,h.G.wkT,h.G.dnL,hp.1.len⟩,h.hw,h.hm,h.hl,h.le,fun k hk'=>h.fits k (by have:=hk.size;omega)⟩,hk.mono fun k _ e=>by subst e;unfold mine;omega⟩
 ·rw [hp.1.blk,grpArr_A];rfl
 ·refine ownsRow_keeps h.G.wk hk fun k hkk e=>?_
  subst e
  have:=h.G.wkT _ hkk
  omega
theorem GrpL.below {w w':World} {ρ:Nat→Nat} {gb:Nat} {C:Cfg} {now:Rest} {sv:Value} {m:List Cs} {g cap:Nat} {P:List Pl} (h:GrpL w ρ gb C now sv m g cap P) (hb:Below w.heap.size w w'):GrpL w' ρ gb C now sv m g cap P∧Keeps (mine ρ) w w' :=
 ⟨⟨h.G.keeps (Keeps.of_below hb) (fun j hj=>Or.inr hj) (fun _ _=>rfl) h.le,h.hw,h.hm,h.hl,h.le,fun k hk=>h.fits k (by have:=hb.size;omega)⟩,(Keeps.of_below hb).mono fun k hk hs=>by omega⟩
theorem GrpL.setDn {w:World} {ρ:Nat→Nat} {gb:Nat} {C:Cfg} {now:Rest} {sv:Value} {m:List Cs} {g cap:Nat} {P:List Pl} (h:GrpL w ρ gb C now sv m g cap P) (j:Nat) (hj:j<32) (v:Int):GrpL (w.setCell ⟨gb,8+j,none⟩ (.int .i64 v)) ρ gb C { now with dn:=now.dn.set j v } sv m g cap P∧Keeps (mine ρ) w (w.setCell ⟨gb,8+j,none⟩ (.int .i64 v)):=by
 obtain ⟨t1,t2,l1,l2⟩:=h.gT
 have hk:Keeps (fun k=>k=gb) w (w.setCell ⟨gb,8+j,none⟩ (.int .i64 v)):=Keeps.setCell (S:=fun k=>k=gb) (Keeps.refl _ w) (by exact Or.inl rfl) _
 refine ⟨⟨⟨?_,h.G.tag,h.G.log.keepsT hk (fun k _ e=>by subst e;omega) h.le,?_,h.G.wkT,by simpa using h.G.dnL,h.G.lsL⟩,h.hw,h.hm,h.hl,h.le,fun k hk'=>h.fits k (by simpa [World.setCell] using hk')⟩,hk.mono fun k _ e=>by subst e;unfold mine;omega⟩
 ·have hd:=h.G.dnL
  rw [heap_setCell_same h.G.blk,grpArr_A,grpArr_A,List.setIfInBounds_toArray,List.set_append_left _ _ (by rw [grpA_len _ _ _ hd];omega)]
  unfold grpA
  rw [List.set_append_right _ _ (by simp)]
  simp [List.map_set]
 ·refine ownsRow_keeps h.G.wk hk fun k hkk e=>?_
  subst e
  have:=h.G.wkT _ hkk
  omega
def LP (w:World) (ρ:Nat→Nat) (gb:Nat) (C:Cfg) (now:Rest) (sv:Value) (m:List Cs) (g cap:Nat) (P:List Pl) (w':World):Prop:=GrpL w' ρ gb C now sv m g cap P∧Keeps (mine ρ) w w'
theorem LP.refl {w:World} {ρ:Nat→Nat} {gb:Nat} {C:Cfg} {now:Rest} {sv:Value} {m:List Cs} {g cap:Nat} {P:List Pl} (h:GrpL w ρ gb C now sv m g cap P):LP w ρ gb C now sv m g cap P w:=⟨h,Keeps.refl _ w⟩
theorem LP.trans {w w1 w2:World} {ρ:Nat→Nat} {gb:Nat} {C:Cfg} {now now':Rest} {sv:Value} {m:List Cs} {g cap:Nat} {P P':List Pl} (h:LP w ρ gb C now sv m g cap P w1) (h':LP w1 ρ gb C now' sv m g cap P' w2):LP w ρ gb C now' sv m g cap P' w2:=⟨h'.1,h.2.trans h'.2⟩
theorem gOf_any {w:World} {ρ:Nat→Nat} {gb:Nat} {C:Cfg} {now:Rest} {sv:Value} {m:List Cs} {g cap:Nat} {P:List Pl} (h:GrpL w ρ gb C now sv m g cap P) (n:Nat) (x:Le) (hx:now.ls[n]?=some x) :
 Calls Tryz.prog 97 #[.pointer (some ⟨gb,40,none⟩),.int .i64 n] w fun e w'=>e=.returned (.agg #[.int .i64 x.o,.int .i64 x.c,.int .i64 x.e])∧LP w ρ gb C now sv m g cap P w':=by
 have:=rowOf_any w gb _ _ _ _ n x h.row hx
 rw [grpA_len _ _ _ h.G.dnL] at this
 exact this.mono fun _ _ q=>⟨q.1,h.below q.2⟩
theorem gGive_any {w:World} {ρ:Nat→Nat} {gb:Nat} {C:Cfg} {now:Rest} {sv:Value} {m:List Cs} {g cap:Nat} {P:List Pl} (h:GrpL w ρ gb C now sv m g cap P) (n:Nat) (x:Le) (hx:now.ls[n]?=some x) (wk:Int) :
 Calls Tryz.prog 121 #[.pointer (some ⟨gb,40,none⟩),.int .i64 n,.int .i64 wk] w fun e w'=>e=.returned (.int .i64 (inc x.e))∧LP w ρ gb C { now with ls:=now.ls.set n ⟨wk,inc x.c,inc x.e⟩ } sv m g cap P w':=by
 have:=rowGive_any w gb _ _ _ _ n x wk h.row hx
 rw [grpA_len _ _ _ h.G.dnL] at this
 exact this.mono fun _ _ q=>⟨q.1,h.setLe q.2⟩
theorem gLRenew_any {w:World} {ρ:Nat→Nat} {gb:Nat} {C:Cfg} {now:Rest} {sv:Value} {m:List Cs} {g cap:Nat} {P:List Pl} (h:GrpL w ρ gb C now sv m g cap P) (n:Nat) (x:Le) (hx:now.ls[n]?=some x) :
 Calls Tryz.prog 118 #[.pointer (some ⟨gb,40,none⟩),.int .i64 n] w fun e w'=>e=.returned (.tuple #[])∧LP w ρ gb C { now with ls:=now.ls.set n { x with c:=inc x.c } } sv m g cap P w':=by
 have:=rowRenew_any w gb _ _ _ _ n x h.row hx
 rw [grpA_len _ _ _ h.G.dnL] at this
 exact this.mono fun _ _ q=>⟨q.1,h.setLe q.2⟩
theorem gFree_any {w:World} {ρ:Nat→Nat} {gb:Nat} {C:Cfg} {now:Rest} {sv:Value} {m:List Cs} {g cap:Nat} {P:List Pl} (h:GrpL w ρ gb C now sv m g cap P) (n:Nat) (x:Le) (hx:now.ls[n]?=some x) :
 Calls Tryz.prog 117 #[.pointer (some ⟨gb,40,none⟩),.int .i64 n] w fun e w'=>e=.returned (.tuple #[])∧LP w ρ gb C { now with ls:=now.ls.set n ⟨-1,inc x.c,x.e⟩ } sv m g cap P w':=by
 have:=rowFree_any w gb _ _ _ _ n x h.row hx
 rw [grpA_len _ _ _ h.G.dnL] at this
 exact this.mono fun _ _ q=>⟨q.1,h.setLe q.2⟩
theorem gHold_any {w:World} {ρ:Nat→Nat} {gb:Nat} {C:Cfg} {now:Rest} {sv:Value} {m:List Cs} {g cap:Nat} {P:List Pl} (h:GrpL w ρ gb C now sv m g cap P) (i n:Nat) (hn:n<16) (p:Pl) (hp:P[i*16+n]?=some p) :
 Calls Tryz.prog 77 #[.pointer (some ⟨g,i*128,none⟩),.int .i64 n] w fun e w'=>e=.returned (.tuple #[if p.held=true then .agg #[.int .i64 p.h.sh,.int .i64 p.h.ep,.int .i64 p.h.at_,.int .i64 p.h.bf] else .agg #[.int .i64 0,.int .i64 0,.int .i64 0,.int .i64 0],.bool p.held])∧LP w ρ gb C now sv m g cap P w' :=
 (plHold_any w g cap now.n P i n hn p h.pls hp).mono fun _ _ q=>⟨q.1,h.below q.2⟩
theorem gKeep_any {w:World} {ρ:Nat→Nat} {gb:Nat} {C:Cfg} {now:Rest} {sv:Value} {m:List Cs} {g cap:Nat} {P:List Pl} (h:GrpL w ρ gb C now sv m g cap P) (i n:Nat) (hn:n<16) (p:Pl) (hp:P[i*16+n]?=some p) (ep at_ bf:Int) :
 Calls Tryz.prog 41 #[.pointer (some ⟨g,i*128,none⟩),.agg #[.int .i64 n,.int .i64 ep,.int .i64 at_,.int .i64 bf]] w fun e w'=>e=.returned (.tuple #[])∧LP w ρ gb C { now with mem:=plsCells (P.set (i*16+n) { p with held:=true,h:=⟨n,ep,at_,bf⟩ }) } sv m g cap (P.set (i*16+n) { p with held:=true,h:=⟨n,ep,at_,bf⟩ }) w' :=
 (plKeep_any w g cap now.n P i n hn p ep at_ bf h.pls hp).mono fun _ _ q=>⟨q.1,h.setPl q.2⟩
theorem gDrop_any {w:World} {ρ:Nat→Nat} {gb:Nat} {C:Cfg} {now:Rest} {sv:Value} {m:List Cs} {g cap:Nat} {P:List Pl} (h:GrpL w ρ gb C now sv m g cap P) (i n:Nat) (hn:n<16) (p:Pl) (hp:P[i*16+n]?=some p) :
 Calls Tryz.prog 82 #[.pointer (some ⟨g,i*128,none⟩),.int .i64 n] w fun e w'=>e=.returned (.tuple #[])∧LP w ρ gb C { now with mem:=plsCells (P.set (i*16+n) { p with held:=false,h:=⟨0,0,0,0⟩ }) } sv m g cap (P.set (i*16+n) { p with held:=false,h:=⟨0,0,0,0⟩ }) w' :=
 (plDrop_any w g cap now.n P i n hn p h.pls hp).mono fun _ _ q=>⟨q.1,h.setPl q.2⟩
theorem gNote_any {w:World} {ρ:Nat→Nat} {gb:Nat} {C:Cfg} {now:Rest} {sv:Value} {m:List Cs} {g cap:Nat} {P:List Pl} (h:GrpL w ρ gb C now sv m g cap P) (i n:Nat) (hn:n<16) (p:Pl) (hp:P[i*16+n]?=some p) (c s:Int) :
 Calls Tryz.prog 119 #[.pointer (some ⟨g,i*128,none⟩),.int .i64 n,.int .i64 c,.int .i64 s] w fun e w'=>e=.returned (.tuple #[])∧LP w ρ gb C { now with mem:=plsCells (P.set (i*16+n) (noted p c s)) } sv m g cap (P.set (i*16+n) (noted p c s)) w' :=
 (plNote_any w g cap now.n P i n hn p c s h.pls hp).mono fun _ _ q=>⟨q.1,h.setPl q.2⟩
theorem gNoted_any {w:World} {ρ:Nat→Nat} {gb:Nat} {C:Cfg} {now:Rest} {sv:Value} {m:List Cs} {g cap:Nat} {P:List Pl} (h:GrpL w ρ gb C now sv m g cap P) (i n:Nat) (hn:n<16) (p:Pl) (hp:P[i*16+n]?=some p) (c s u:Int) :
 Calls Tryz.prog 131 #[.pointer (some ⟨g,i*128,none⟩),.int .i64 n,.int .i64 c,.int .i64 s,.int .i64 u] w fun e w'=>e=.returned (.bool (p.made && decide (p.c=c) && decide (u≤dif s p.s)))∧LP w ρ gb C now sv m g cap P w' :=
 (memNoted_any g (i*128) n hn p c s u w (h.pls.place hp)).mono fun _ _ q=>⟨q.1,h.below q.2⟩
theorem gForget_any {w:World} {ρ:Nat→Nat} {gb:Nat} {C:Cfg} {now:Rest} {sv:Value} {m:List Cs} {g cap:Nat} {P:List Pl} (h:GrpL w ρ gb C now sv m g cap P) (i:Nat) (hi:i<now.n) :
 Calls Tryz.prog 96 #[.pointer (some ⟨g,i*128,none⟩)] w fun e w'=>e=.returned (.tuple #[])∧LP w ρ gb C { now with mem:=plsCells (forgetP P i 16) } sv m g cap (forgetP P i 16) w' :=
 (plForget_any w g cap now.n P i hi h.pls).mono fun _ _ q=>⟨q.1,h.setPl q.2⟩
end Go.Proofs.YtpnkmnmchdabkaaGreat
namespace Go.Proofs.YtpnkmnmchdabkaaGreat
open Go.RowKit
attribute [local go_sem ↓] Go.wp_at_zero Go.wp_at_succ
def stA (L:List Int):Array Value:=(L.map (Value.int .i64)).toArray
theorem stA_size {L:List Int} (h:L.length=16):(stA L).size=16:=by unfold stA;simp [h]
theorem stCells_one (L:List Int):∀v ∈ L.map (Value.int .i64),v.oneCell'=true:=by
 intro v hv
 obtain ⟨x,_,rfl⟩:=List.mem_map.1 hv
 rfl
def st0:List Int:=List.replicate 16 0
theorem st0_len:st0.length=16:=by simp [st0]
theorem infoStg:(Tryz.prog.info? 175).map (fun i=>(i.zero,i.size))=some (some (.agg (stA st0)),16):=by kernel_rfl
theorem infoStgSize:(Tryz.prog.info? 175).map (·.size)=some 16:=by kernel_rfl
theorem zvStg (w:World):(zeroValue 175).run Tryz.prog w=.ok (.agg (stA st0)) w:=(zero_of_info infoStg).1 w
theorem ldStg {w:World} {b:Nat} {L:List Int} {t:TypeId} {f:Nat × Nat} (h:w.heap[b]?=some (.cells (stA L) t f)) (hL:L.length=16):(loadVar 175 ⟨b,0,none⟩).run Tryz.prog w=.ok (.agg (stA L)) w :=
 run_loadVar_row w b t _ (stA L) f _ h Tryz.underlying175 rfl (by rw [stA_size hL];exact infoStgSize)
theorem stStg {w:World} {b:Nat} {K L:List Int} {t:TypeId} (h:w.heap[b]?=some (.cells (stA K) t (0,0))) (hK:K.length=16) (hL:L.length=16):(storeVar 175 ⟨b,0,none⟩ (.agg (stA L))).run Tryz.prog w=.ok () (w.setRow b (stA L)) :=
 run_storeVar_row w b t _ (stA K) (stA L) h (by rw [stA_size hL];exact infoStgSize) (by rw [stA_size hK,stA_size hL]) (all_oneCell_toArray (stCells_one L))
def ldS (a:Addr):Sem Value:=loadVar 175 a
def stS (a:Addr) (v:Value):Sem Unit:=storeVar 175 a v
theorem ldS_shut (a:Addr):loadVar 175 a=ldS a:=rfl
theorem stS_shut (a:Addr) (v:Value):storeVar 175 a v=stS a v:=rfl
theorem ldS_is {w:World} {b:Nat} {L:List Int} {t:TypeId} {f:Nat × Nat} (h:w.heap[b]?=some (.cells (stA L) t f)) (hL:L.length=16):(ldS ⟨b,0,none⟩).run Tryz.prog w=.ok (.agg (stA L)) w:=ldStg h hL
theorem stS_is {w:World} {b:Nat} {K L:List Int} {t:TypeId} (h:w.heap[b]?=some (.cells (stA K) t (0,0))) (hK:K.length=16) (hL:L.length=16):(stS ⟨b,0,none⟩ (.agg (stA L))).run Tryz.prog w=.ok () (w.setRow b (stA L)):=stStg h hK hL
theorem stS_new (w:World) (n:Nat) (K L:List Int) (hn:n=w.heap.size) (hK:K.length=16) (hL:L.length=16):(stS ⟨n,0,none⟩ (.agg (stA L))).run Tryz.prog (w.alloc (.cells (stA K) 175))=.ok () (w.alloc (.cells (stA L) 175)):=by
 subst hn
 rw [stS_is (heap_alloc_new w _) hK hL,World.setRow_alloc_new]
attribute [local go_sem ↓] zvStg ldS_shut stS_shut
attribute [local go_sem] stS_new
theorem stA_set {L:List Int} {k:Nat} {v:Int}:(stA L).setIfInBounds k (.int .i64 v)=stA (L.set k v):=by
 unfold stA
 rw [List.setIfInBounds_toArray,List.map_set]
theorem gParents_any {w:World} {ρ:Nat→Nat} {gb:Nat} {C:Cfg} {now:Rest} {sv:Value} {m:List Cs} {g cap:Nat} {P:List Pl} (h:GrpL w ρ gb C now sv m g cap P) {k:Nat} {s:Cs} (hk:m[k]?=some s) (hp:s.s.par.length≤2) :
 Calls Tryz.prog 109 #[.pointer (some ⟨gb,7,none⟩),.int .i64 k] w (CopyPost w s.s.par):=by
 have hk':=(List.getElem?_eq_some_iff.1 hk).1
 obtain ⟨bs,cp,rfl,hbs,hbsl,hcap,hcm,ff,cc⟩:=h.G.log.shape (by omega)
 obtain ⟨a0,a1,a2,a3,a4⟩:=cc k s hk
 obtain ⟨pa,pcap,hpv⟩:=ownsRow_len (h.G.log.par k s hk)
 refine logParents_any gb 7 m.length cp bs k s.s.par pcap pa w hk' hp hbsl h.tcell.2.1 (by rw [a3,hpv]) ?_
 intro j hj
 obtain ⟨q,cap',cur,hv,_,hg,_⟩:=ownsRow_shape (h.G.log.par k s hk) (by omega)
 rw [hpv] at hv
 injection hv with e1 e2 e3
 refine ⟨q,e1,lt_of_heap hg,?_⟩
 have hrow:=h.G.log.par k s hk
 rw [hpv,e1] at hrow
 rw [World.ownsRow.cellAt hrow j (by omega)]
 simp [hj]
theorem gFolded_any {w:World} {ρ:Nat→Nat} {gb:Nat} {C:Cfg} {now:Rest} {sv:Value} {m:List Cs} {g cap:Nat} {P:List Pl} (h:GrpL w ρ gb C now sv m g cap P) {k:Nat} {s:Cs} (hk:m[k]?=some s) :
 Calls Tryz.prog 116 #[.pointer (some ⟨gb,8,none⟩),.pointer (some ⟨gb,7,none⟩),.int .i64 k] w fun e w'=>e=.returned (.bool (!s.s.op && decide ((s.s.cnt:Int)≤dnP now.dn k)))∧w=w':=by
 have hk':=(List.getElem?_eq_some_iff.1 hk).1
 have h16:=h.le
 obtain ⟨bs,cp,rfl,hbs,hbsl,hcap,hcm,ff,cc⟩:=h.G.log.shape (by omega)
 obtain ⟨a0,a1,a2,a3,a4⟩:=cc k s hk
 obtain ⟨xs,hx⟩:=h.G.log.rcs k s hk
 obtain ⟨ra,rcap,hrv⟩:=ownsRow_len hx
 exact sinkFolded_any gb 8 7 k m.length cp bs s.s.cnt rcap ra s.s.op (by omega) hk' (dnP now.dn k) w (h.dcell (k*2) _ (dnP_get h.G.dnL (by omega))) h.tcell.2.1 a2 (by rw [a4,hrv])
theorem gDone_any {w:World} {ρ:Nat→Nat} {gb:Nat} {C:Cfg} {now:Rest} {sv:Value} {m:List Cs} {g cap:Nat} {P:List Pl} (h:GrpL w ρ gb C now sv m g cap P) (k:Nat) (hk:k<16) :
 Calls Tryz.prog 111 #[.pointer (some ⟨gb,8,none⟩),.int .i64 k] w fun e w'=>e=.returned (.int .i64 (dnP now.dn k))∧w=w' :=
 sinkDone_any gb 8 k hk (dnP now.dn k) w (h.dcell (k*2) _ (dnP_get h.G.dnL hk))
theorem gLen_any {w:World} {ρ:Nat→Nat} {gb:Nat} {C:Cfg} {now:Rest} {sv:Value} {m:List Cs} {g cap:Nat} {P:List Pl} (h:GrpL w ρ gb C now sv m g cap P) (h0:0<m.length) :
 Calls Tryz.prog 108 #[.pointer (some ⟨gb,7,none⟩)] w fun e w'=>e=.returned (.int .i64 m.length)∧w=w':=by
 obtain ⟨bs,cp,rfl,_⟩:=h.G.log.shape h0
 exact logLen_any gb 7 m.length cp (some ⟨bs,0,none⟩) w h.tcell.2.1
theorem gAllFin_any (st:List Int) (hst:st.length=16) (par:List Int) (q qc:Nat) (w:World) (hr:∀p ∈ par,0≤p∧p<16) (hl:par.length≤2) (hrow:w.ownsRow 0 3 1 (.slice (some ⟨q,0,none⟩) par.length qc) par.length (par.map (Value.int .i64))) :
 Calls Tryz.prog 115 #[.agg (stA st),.slice (some ⟨q,0,none⟩) par.length qc] w fun e w'=>e=.returned (.bool (allTwo st par))∧Below w.heap.size w w' :=
 allFinished_any st hst par (some ⟨q,0,none⟩) qc w hr hl fun j hj=>⟨q,rfl,(hrow.lt q rfl).2,by rw [World.ownsRow.cellAt hrow j (by omega)];simp [hj]⟩
def StInv (w:World) (ans loc:Nat) (st:List Int) (wr:World):Prop:=wr.heap[ans]?=some (.cells (stA st0) 175 (0,0))∧wr.heap[loc]?=some (.cells (stA st) 175 (0,0))∧Below w.heap.size w wr
set_option maxRecDepth 100000 in
set_option maxHeartbeats 4000000 in
theorem stages_any {w:World} {ρ:Nat→Nat} {gb:Nat} {C:Cfg} {now:Rest} {sv:Value} {m:List Cs} {g cap:Nat} {P:List Pl} (h:GrpL w ρ gb C now sv m g cap P) (hI:Inv (m.map (·.s))) :
 Calls Tryz.prog 86 #[.pointer (some ⟨gb,8,none⟩),.pointer (some ⟨gb,7,none⟩)] w fun e w'=>e=.returned (.agg (stA (stgUp (m.map (·.s)) (dnP now.dn) m.length)))∧Below w.heap.size w w':=by
 have h0:0<m.length:=by have:=hI.pos;simpa using this
 have h16:=h.le
 have z0:=st0_len
 have s0:=stA_size z0
 have HN:Hid (∀W,Below w.heap.size w W→Calls Tryz.prog 108 #[.pointer (some ⟨gb,7,none⟩)] W fun e w'=>e=.returned (.int .i64 m.length)∧W=w'):=fun W hb=>gLen_any (h.below hb).1 h0
 have HP:Hid (∀W,Below w.heap.size w W→∀(k:Nat) (s:Cs),m[k]?=some s→Calls Tryz.prog 109 #[.pointer (some ⟨gb,7,none⟩),.int .i64 k] W (CopyPost W s.s.par)):=fun W hb k s hk=>gParents_any (h.below hb).1 hk (hI.parL k s.s (by simp [hk])).1
 have HF:Hid (∀W,Below w.heap.size w W→∀(k:Nat) (s:Cs),m[k]?=some s→Calls Tryz.prog 116 #[.pointer (some ⟨gb,8,none⟩),.pointer (some ⟨gb,7,none⟩),.int .i64 k] W fun e w'=>e=.returned (.bool (!s.s.op && decide ((s.s.cnt:Int)≤dnP now.dn k)))∧W=w'):=fun W hb k s hk=>gFolded_any (h.below hb).1 hk
 have HA:Hid (∀(k:Nat) (s:Cs),m[k]?=some s→(∀p ∈ s.s.par,0≤p∧p<16)∧s.s.par.length≤2):=fun k s hk=>⟨fun p hp=>by
  obtain ⟨q,t,rfl,hq,_⟩:=hI.parR k s.s (by simp [hk]) p hp
  have:=(List.getElem?_eq_some_iff.1 hk).1
  omega,(hI.parL k s.s (by simp [hk])).1⟩
 have HU:Hid (∀(k:Nat) (s:Cs),m[k]?=some s→stgUp (m.map (·.s)) (dnP now.dn) (k+1)=(stgUp (m.map (·.s)) (dnP now.dn) k).set k (stgV (stgUp (m.map (·.s)) (dnP now.dn) k) (dnP now.dn k) s.s)):=fun k s hk=>stgUp_succ (by simp [hk])
 have HL:Hid (∀k,(stgUp (m.map (·.s)) (dnP now.dn) k).length=16):=fun k=>stgUp_len _ _ k
 have HZ:Hid (∀k j,k≤j→j<16→(stgUp (m.map (·.s)) (dnP now.dn) k)[j]?=some 0):=fun k j hkj hj=>stgUp_zero _ _ k j hkj hj
 have H00:Hid (stgUp (m.map (·.s)) (dnP now.dn) 0=st0):=rfl
 generalize hU:stgUp (m.map (·.s)) (dnP now.dn)=U at HU HL HZ H00 ⊢
 generalize hdn:dnP now.dn=dn at HF HU
 clear h hI hU hdn
 go_enter Tryz.func86,Tryz.ntmps86
 go_wp2_with fail
 have h0':Hid (((w.alloc (.cells (stA st0) 175)).alloc (.cells (stA st0) 175)).heap[w.heap.size]?=some (.cells (stA st0) 175 (0,0))):=by
  unfold Hid
  rw [Below.heap_alloc _ _ _ (by simp)];exact heap_alloc_new w _
 have h1':Hid (((w.alloc (.cells (stA st0) 175)).alloc (.cells (stA st0) 175)).heap[w.heap.size+1]?=some (.cells (stA st0) 175 (0,0))):=by
  unfold Hid
  have:=heap_alloc_new (w.alloc (.cells (stA st0) 175)) (.cells (stA st0) 175)
  simpa using this
 have hb':Hid (Below w.heap.size w ((w.alloc (.cells (stA st0) 175)).alloc (.cells (stA st0) 175))):=((Below.refl _ w).alloc (Nat.le_refl _) _).alloc (by simp) _
 generalize (w.alloc (.cells (stA st0) 175)).alloc (.cells (stA st0) 175)=W at *
 refine (uh HN _ (uh hb')).mono ?_
 rintro e w1 ⟨rfl,rfl⟩
 go_wp2
 go_loopw [7] (fun i wr=>∃k:Nat,k≤m.length∧i=.int .i64 k∧StInv w w.heap.size (w.heap.size+1) (U k) wr) (fun i _=>m.length - (intOf i).toNat)
 case atStart=>exact ⟨0,by omega,rfl,uh h0',by rw [uh H00];exact uh h1',uh hb'⟩
 case round =>
  obtain ⟨k,hk,rfl,q0,q1,qb⟩:=hrel
  have hlk:=uh HL k
  by_cases hlt:k<m.length
  ·obtain ⟨s,hs⟩:∃s,m[k]?=some s:=⟨m[k],List.getElem?_eq_getElem hlt⟩
   have k16:k<16:=by omega
   have Q0:=hide q0
   have Q1:=hide q1
   have QB:=hide qb
   have HS:=hide hs
   clear q0 q1 qb hs
   go_wp2_with fail
   refine (uh HP _ (uh QB) k s (uh HS)).mono ?_
   intro e w1 hcp
   obtain ⟨q,qc,rfl,hrow,hcb⟩:=hcp
   have ROW:=hide (ownsRow_base hrow (Nat.zero_le _))
   have L1:w1.heap[w.heap.size+1]?=some (.cells (stA (U k)) 175 (0,0)):=(hcb.block _ (lt_of_heap (uh Q1))).trans (uh Q1)
   have A1:Hid (w1.heap[w.heap.size]?=some (.cells (stA st0) 175 (0,0))):=(hcb.block _ (lt_of_heap (uh Q0))).trans (uh Q0)
   have B1:Hid (Below w.heap.size w w1):=(uh QB).trans (hcb.mono (uh QB).size)
   have hld:=ldS_is L1 hlk
   have LL:=hide L1
   clear hrow hcb L1 Q0 Q1 QB
   go_wp2_with fail
   refine (gAllFin_any (U k) hlk s.s.par q qc w1 (uh HA k s (uh HS)).1 (uh HA k s (uh HS)).2 (uh ROW)).mono ?_
   rintro e w2 ⟨rfl,hb2⟩
   have L2:w2.heap[w.heap.size+1]?=some (.cells (stA (U k)) 175 (0,0)):=(hb2.block _ (lt_of_heap (uh LL))).trans (uh LL)
   have A2:Hid (w2.heap[w.heap.size]?=some (.cells (stA st0) 175 (0,0))):=(hb2.block _ (lt_of_heap (uh A1))).trans (uh A1)
   have B2:Hid (Below w.heap.size w w2):=(uh B1).trans (hb2.mono (uh B1).size)
   have hf2:=frozen_of L2 k
   have hck:k<(U k).length:=by omega
   have hc2:w2.cell? ⟨w.heap.size+1,k,none⟩=some (.int .i64 (U k)[k]):=by
    rw [cell_of L2]
    unfold stA
    simp [hck]
   have LL2:=hide L2
   have HUk:=hide (uh HU k s (uh HS))
   have nxt:Hid (∀v:Int,U (k+1)=(U k).set k v→StInv w w.heap.size (w.heap.size+1) (U (k+1)) (w2.setCell ⟨w.heap.size+1,k,none⟩ (.int .i64 v))):=by
    intro v hv
    refine ⟨?_,?_,(uh B2).setCell (p:=⟨w.heap.size+1,k,none⟩) (by simp) _⟩
    ·rw [Below.heap_setCell _ _ _ _ (by simp)];exact uh A2
    ·rw [heap_setCell_same (uh LL2),stA_set,hv]
   have nxt0:Hid (U (k+1)=(U k).set k 0→(U k)[k]?=some 0→StInv w w.heap.size (w.heap.size+1) (U (k+1)) w2):=by
    intro hv h0
    refine ⟨uh A2,?_,uh B2⟩
    have:(U k).set k 0=U k:=by
     have h9:=List.getElem?_eq_some_iff.1 h0
     rw [←h9.2,List.set_getElem_self]
    rw [hv,this]
    exact uh LL2
   generalize (U k)[k]=old at hc2
   clear hb2 L2 hld A1 B1 LL ROW
   go_wp2_with fail
   refine (uh HF _ (uh B2) k s (uh HS)).mono ?_
   rintro e w3 ⟨rfl,rfl⟩
   generalize hr:allTwo (U k) s.s.par=rd
   generalize hfo:(!s.s.op && decide ((s.s.cnt:Int)≤dn k))=fo
   have HV:Hid (stgV (U k) (dn k) s.s=if rd=true then (if fo=true then 2 else 1) else 0):=by unfold Hid stgV;rw [hr,hfo]
   clear hr hfo
   rw [uh HV] at HUk
   cases rd
   ·go_wp2
    go_roundw
    case rel=>exact ⟨k+1,by omega,by go_num,uh nxt0 (uh HUk) (uh HZ k k (Nat.le_refl _) k16)⟩
    case measure=>simp [intOf];omega
   ·cases fo
    ·go_wp2
     go_roundw
     case rel=>exact ⟨k+1,by omega,by go_num,uh nxt _ (uh HUk)⟩
     case measure=>simp [intOf];omega
    ·go_wp2
     go_roundw
     case rel=>exact ⟨k+1,by omega,by go_num,uh nxt _ (uh HUk)⟩
     case measure=>simp [intOf];omega
  ·have e:k=m.length:=by omega
   subst e
   have HLd:=ldS_is q1 hlk
   have HSt:=stS_is q0 z0 hlk
   have hs16:=stA_size hlk
   have H2:=hide (setRow_same (cs':=stA (U m.length)) q0)
   have QB:=hide (setRow_below qb (Nat.le_refl _) (stA (U m.length)))
   clear q0 q1 qb
   go_wp2
   refine bodyPost_ret (v:=.agg (stA (U m.length))) ?_ rfl ⟨rfl,uh QB⟩
   exact results_cell_row rfl _ _ w.heap.size _ _ _ _ rfl (uh H2) Tryz.underlying175 rfl (by rw [hs16];exact infoStgSize)
def Rest.up (now:Rest) (ls:List Le) (P:List Pl):Rest:={ now with ls:=ls,mem:=plsCells P }
def GS (w:World) (ρ:Nat→Nat) (gb:Nat) (C:Cfg) (now:Rest) (sv:Value) (m:List Cs) (g cap:Nat) (ls:List Le) (P:List Pl):Prop:=GrpL w ρ gb C (now.up ls P) sv m g cap P
def GSP (w:World) (ρ:Nat→Nat) (gb:Nat) (C:Cfg) (now:Rest) (sv:Value) (m:List Cs) (g cap:Nat) (ls:List Le) (P:List Pl) (w':World):Prop:=GS w' ρ gb C now sv m g cap ls P∧Keeps (mine ρ) w w'
theorem GrpL.gs {w:World} {ρ:Nat→Nat} {gb:Nat} {C:Cfg} {now:Rest} {sv:Value} {m:List Cs} {g cap:Nat} {P:List Pl} (h:GrpL w ρ gb C now sv m g cap P):GS w ρ gb C now sv m g cap now.ls P:=by
 have e:now.up now.ls P=now:=by
  have:=h.hm
  cases now
  simp only [Rest.up] at this ⊢
  rw [this]
 unfold GS
 rw [e]
 exact h
theorem GSP.refl {w:World} {ρ:Nat→Nat} {gb:Nat} {C:Cfg} {now:Rest} {sv:Value} {m:List Cs} {g cap:Nat} {ls:List Le} {P:List Pl} (h:GS w ρ gb C now sv m g cap ls P):GSP w ρ gb C now sv m g cap ls P w:=⟨h,Keeps.refl _ w⟩
theorem GSP.trans {w w1 w2:World} {ρ:Nat→Nat} {gb:Nat} {C:Cfg} {now:Rest} {sv:Value} {m:List Cs} {g cap:Nat} {ls ls':List Le} {P P':List Pl} (h:GSP w ρ gb C now sv m g cap ls P w1) (h':GSP w1 ρ gb C now sv m g cap ls' P' w2):GSP w ρ gb C now sv m g cap ls' P' w2:=⟨h'.1,h.2.trans h'.2⟩
theorem GS.below {w:World} {ρ:Nat→Nat} {gb:Nat} {C:Cfg} {now:Rest} {sv:Value} {m:List Cs} {g cap:Nat} {ls:List Le} {P:List Pl} (h:GS w ρ gb C now sv m g cap ls P) {w':World} (hb:Below w.heap.size w w'):GSP w ρ gb C now sv m g cap ls P w':=GrpL.below h hb
theorem GSP.alloc {w w1:World} {ρ:Nat→Nat} {gb:Nat} {C:Cfg} {now:Rest} {sv:Value} {m:List Cs} {g cap:Nat} {ls:List Le} {P:List Pl} (h:GSP w ρ gb C now sv m g cap ls P w1) (o:Obj):GSP w ρ gb C now sv m g cap ls P (w1.alloc o):=h.trans (h.1.below ((Below.refl _ w1).alloc (Nat.le_refl _) o))
theorem GS.alloc {w:World} {ρ:Nat→Nat} {gb:Nat} {C:Cfg} {now:Rest} {sv:Value} {m:List Cs} {g cap:Nat} {ls:List Le} {P:List Pl} (h:GS w ρ gb C now sv m g cap ls P) (o:Obj):GSP w ρ gb C now sv m g cap ls P (w.alloc o):=h.below ((Below.refl _ w).alloc (Nat.le_refl _) o)
theorem new_stands {w1 w2:World} {ρ:Nat→Nat} {cs:Array Value} {t:TypeId} (hf:Fits w1 ρ) (hk:Keeps (mine ρ) (w1.alloc (.cells cs t)) w2):w2.heap[w1.heap.size]?=some (.cells cs t (0,0)) :=
 (hk.block _ (by simp) (by unfold mine;rw [hf _ (Nat.le_refl _)];omega)).trans (heap_alloc_new w1 _)
theorem GS.fits {w:World} {ρ:Nat→Nat} {gb:Nat} {C:Cfg} {now:Rest} {sv:Value} {m:List Cs} {g cap:Nat} {ls:List Le} {P:List Pl} (h:GS w ρ gb C now sv m g cap ls P):Fits w ρ:=GrpL.fits h
theorem cell_alloc {w:World} {b i:Nat} {v:Value} {cs:Array Value} {t:TypeId} {f:Nat × Nat} (h:w.heap[b]?=some (.cells cs t f)) (hv:cs[i]?=some v) (o:Obj):(w.alloc o).cell? ⟨b,i,none⟩=some v:=by
 rw [World.cell?_of_block (w:=w) (Below.heap_alloc _ _ _ (lt_of_heap h)),cell_of h,hv]
theorem GS.lsL {w:World} {ρ:Nat→Nat} {gb:Nat} {C:Cfg} {now:Rest} {sv:Value} {m:List Cs} {g cap:Nat} {ls:List Le} {P:List Pl} (h:GS w ρ gb C now sv m g cap ls P):ls.length=16:=GrpAt.lsL (GrpL.G h)
theorem GS.plL {w:World} {ρ:Nat→Nat} {gb:Nat} {C:Cfg} {now:Rest} {sv:Value} {m:List Cs} {g cap:Nat} {ls:List Le} {P:List Pl} (h:GS w ρ gb C now sv m g cap ls P):P.length=now.n*16:=(GrpL.hl (show GrpL w ρ gb C (now.up ls P) sv m g cap P from h) :)
theorem GS.lease {w:World} {ρ:Nat→Nat} {gb:Nat} {C:Cfg} {now:Rest} {sv:Value} {m:List Cs} {g cap:Nat} {ls:List Le} {P:List Pl} (h:GS w ρ gb C now sv m g cap ls P) {n:Nat} (hn:n<16):∃x,ls[n]?=some x:=⟨ls[n]'(by rw [h.lsL];exact hn),List.getElem?_eq_getElem _⟩
theorem GS.pl {w:World} {ρ:Nat→Nat} {gb:Nat} {C:Cfg} {now:Rest} {sv:Value} {m:List Cs} {g cap:Nat} {ls:List Le} {P:List Pl} (h:GS w ρ gb C now sv m g cap ls P) {i n:Nat} (hi:i<now.n) (hn:n<16):∃p,P[i*16+n]?=some p:=⟨P[i*16+n]'(by rw [h.plL];omega),List.getElem?_eq_getElem _⟩
set_option maxHeartbeats 400000 in
theorem hasWorker_any {w:World} {ρ:Nat→Nat} {gb:Nat} {C:Cfg} {now:Rest} {sv:Value} {m:List Cs} {g cap:Nat} {ls:List Le} {P:List Pl} (h:GS w ρ gb C now sv m g cap ls P) (i:Int) :
 Calls Tryz.prog 76 #[.pointer (some ⟨gb,0,none⟩),.int .i64 i] w fun e w'=>e=.returned (.bool (decide (0≤i∧i<now.n)))∧w=w':=by
 have c:=GrpL.wcell h
 have c0:w.cell? ⟨gb,88,none⟩=some (.slice (some ⟨g,0,none⟩) now.n cap):=c
 clear h c
 by_cases h1:0≤i
 ·by_cases h2:i<now.n
  all_goals
   go_enter Tryz.func76,Tryz.ntmps76
   go_wp2
   go_ret
   exact ⟨by simp [h1,h2],rfl⟩
 ·go_enter Tryz.func76,Tryz.ntmps76
  go_wp2
  go_ret
  exact ⟨by simp;omega,rfl⟩
def dropped (p:Pl):Pl:={ p with held:=false,h:=⟨0,0,0,0⟩ }
def rhLs (i n:Nat) (f:Bool) (ls:List Le) (P:List Pl):List Le:=match ls[n]?,P[i*16+n]? with
 | some x,some p=>if p.held=true∧x.o=i∧x.e=p.h.ep then (if f=true then ls.set n ⟨-1,inc x.c,x.e⟩ else ls.set n { x with c:=inc x.c }) else ls
 | _,_=>ls
def rhP (i n:Nat) (f:Bool) (ls:List Le) (P:List Pl):List Pl:=match ls[n]?,P[i*16+n]? with
 | some x,some p=>if p.held=true∧¬(x.o=i∧x.e=p.h.ep∧f=false) then P.set (i*16+n) (dropped p) else P
 | _,_=>P
def rhKeep (i n:Nat) (f:Bool) (ls:List Le) (P:List Pl):Bool:=match ls[n]?,P[i*16+n]? with
 | some x,some p=>decide (p.held=true∧x.o=i∧x.e=p.h.ep∧f=false)
 | _,_=>false
set_option maxRecDepth 100000 in
set_option maxHeartbeats 2000000 in
theorem renewHold_any {w:World} {ρ:Nat→Nat} {gb:Nat} {C:Cfg} {now:Rest} {sv:Value} {m:List Cs} {g cap:Nat} {ls:List Le} {P:List Pl} (h:GS w ρ gb C now sv m g cap ls P) (i n:Nat) (hi:i<now.n) (hn:n<16) (f:Bool) :
 Calls Tryz.prog 87 #[.pointer (some ⟨gb,0,none⟩),.int .i64 i,.pointer (some ⟨g,i*128,none⟩),.int .i64 n,.bool f] w fun e w'=>e=.returned (.bool (rhKeep i n f ls P))∧GSP w ρ gb C now sv m g cap (rhLs i n f ls P) (rhP i n f ls P) w':=by
 obtain ⟨x,hx⟩:=h.lease hn
 obtain ⟨p,hp⟩:=h.pl hi hn
 have E1:Hid (rhKeep i n f ls P=decide (p.held=true∧x.o=i∧x.e=p.h.ep∧f=false)):=by unfold Hid rhKeep;rw [hx,hp]
 have E2:Hid (rhLs i n f ls P=if p.held=true∧x.o=i∧x.e=p.h.ep then (if f=true then ls.set n ⟨-1,inc x.c,x.e⟩ else ls.set n { x with c:=inc x.c }) else ls):=by unfold Hid rhLs;rw [hx,hp]
 have E3:Hid (rhP i n f ls P=if p.held=true∧¬(x.o=i∧x.e=p.h.ep∧f=false) then P.set (i*16+n) (dropped p) else P):=by unfold Hid rhP;rw [hx,hp]
 have H1:=hide (gHold_any h i n hn p hp)
 have H2:Hid (∀W,GS W ρ gb C now sv m g cap ls P→Calls Tryz.prog 97 #[.pointer (some ⟨gb,40,none⟩),.int .i64 n] W fun e w'=>e=.returned (.agg #[.int .i64 x.o,.int .i64 x.c,.int .i64 x.e])∧GSP W ρ gb C now sv m g cap ls P w'):=fun W hW=>gOf_any hW n x hx
 have H3:Hid (∀W ls',GS W ρ gb C now sv m g cap ls' P→Calls Tryz.prog 82 #[.pointer (some ⟨g,i*128,none⟩),.int .i64 n] W fun e w'=>e=.returned (.tuple #[])∧GSP W ρ gb C now sv m g cap ls' (P.set (i*16+n) (dropped p)) w'):=fun W ls' hW=>gDrop_any hW i n hn p hp
 have H4:Hid (∀W,GS W ρ gb C now sv m g cap ls P→Calls Tryz.prog 117 #[.pointer (some ⟨gb,40,none⟩),.int .i64 n] W fun e w'=>e=.returned (.tuple #[])∧GSP W ρ gb C now sv m g cap (ls.set n ⟨-1,inc x.c,x.e⟩) P w'):=fun W hW=>gFree_any hW n x hx
 have H5:Hid (∀W,GS W ρ gb C now sv m g cap ls P→Calls Tryz.prog 118 #[.pointer (some ⟨gb,40,none⟩),.int .i64 n] W fun e w'=>e=.returned (.tuple #[])∧GSP W ρ gb C now sv m g cap (ls.set n { x with c:=inc x.c }) P w'):=fun W hW=>gLRenew_any hW n x hx
 have H0:=hide h
 clear h hx hp
 cases hh:p.held
 ·rw [hh] at H1 E1 E2 E3
  simp only [Bool.false_eq_true,if_false] at H1
  go_enter Tryz.func87,Tryz.ntmps87
  go_wp2_with fail
  refine (uh H1).mono ?_
  rintro e w1 ⟨rfl,q1⟩
  have Q1:Hid (GSP w ρ gb C now sv m g cap ls P w1):=q1
  clear q1
  go_wp2
  go_ret
  refine ⟨by rw [uh E1];simp,?_⟩
  rw [uh E2,uh E3,if_neg (by simp),if_neg (by simp)]
  exact (uh Q1).alloc _
 ·rw [hh] at H1 E1 E2 E3
  simp only [if_true] at H1
  by_cases ho:x.o=i∧x.e=p.h.ep
  ·obtain ⟨ho,he⟩:=ho
   rw [ho,he] at H2
   cases f
   ·go_enter Tryz.func87,Tryz.ntmps87
    go_wp2_with fail
    refine (uh H1).mono ?_
    rintro e w1 ⟨rfl,q1⟩
    have Q1:Hid (GSP w ρ gb C now sv m g cap ls P w1):=q1
    clear q1
    go_wp2_with fail
    have A1:=hide ((uh Q1).alloc (w1:=w1) (.cells #[.int .i64 p.h.sh,.int .i64 p.h.ep,.int .i64 p.h.at_,.int .i64 p.h.bf] 102))
    refine (uh H2 _ (uh A1).1).mono ?_
    rintro e w2 ⟨rfl,q2⟩
    have S2:=new_stands (uh Q1).1.fits q2.2
    have ce:(w2.alloc (.cells #[.int .i64 i,.int .i64 x.c,.int .i64 p.h.ep] 59)).cell? ⟨w1.heap.size,1,none⟩=some (.int .i64 p.h.ep):=cell_alloc S2 rfl _
    have Q2:=hide (q2.alloc (w1:=w2) (.cells #[.int .i64 i,.int .i64 x.c,.int .i64 p.h.ep] 59))
    clear q2 S2
    go_wp2_with fail
    refine (uh H5 _ (uh Q2).1).mono ?_
    rintro e w3 ⟨rfl,q3⟩
    have Q3:=hide q3
    clear q3
    go_wp2
    go_ret
    refine ⟨by rw [uh E1];simp [ho,he],?_⟩
    rw [show rhLs i n false ls P=ls.set n { x with c:=inc x.c } from by rw [uh E2];simp [ho,he],show rhP i n false ls P=P from by rw [uh E3];simp [ho,he]]
    exact (uh A1).trans ((uh Q2).trans (uh Q3))
   ·go_enter Tryz.func87,Tryz.ntmps87
    go_wp2_with fail
    refine (uh H1).mono ?_
    rintro e w1 ⟨rfl,q1⟩
    have Q1:Hid (GSP w ρ gb C now sv m g cap ls P w1):=q1
    clear q1
    go_wp2_with fail
    have A1:=hide ((uh Q1).alloc (w1:=w1) (.cells #[.int .i64 p.h.sh,.int .i64 p.h.ep,.int .i64 p.h.at_,.int .i64 p.h.bf] 102))
    refine (uh H2 _ (uh A1).1).mono ?_
    rintro e w2 ⟨rfl,q2⟩
    have S2:=new_stands (uh Q1).1.fits q2.2
    have ce:(w2.alloc (.cells #[.int .i64 i,.int .i64 x.c,.int .i64 p.h.ep] 59)).cell? ⟨w1.heap.size,1,none⟩=some (.int .i64 p.h.ep):=cell_alloc S2 rfl _
    have Q2:=hide (q2.alloc (w1:=w2) (.cells #[.int .i64 i,.int .i64 x.c,.int .i64 p.h.ep] 59))
    clear q2 S2
    go_wp2_with fail
    refine (uh H4 _ (uh Q2).1).mono ?_
    rintro e w3 ⟨rfl,q3⟩
    have Q3:=hide q3
    clear q3
    go_wp2_with fail
    refine (uh H3 _ _ (uh Q3).1).mono ?_
    rintro e w4 ⟨rfl,q4⟩
    have Q4:=hide q4
    clear q4
    go_wp2
    go_ret
    refine ⟨by rw [uh E1];simp,?_⟩
    rw [show rhLs i n true ls P=ls.set n ⟨-1,inc x.c,x.e⟩ from by rw [uh E2];simp [ho,he],show rhP i n true ls P=P.set (i*16+n) (dropped p) from by rw [uh E3];simp]
    exact (uh A1).trans ((uh Q2).trans ((uh Q3).trans (uh Q4)))
  ·have hb:(x.o=i∧¬x.e=p.h.ep)∨¬x.o=i:=by
    by_cases h1:x.o=i
    ·exact Or.inl ⟨h1,fun e=>ho ⟨h1,e⟩⟩
    ·exact Or.inr h1
   have e2:Hid (rhLs i n f ls P=ls):=by unfold Hid;rw [uh E2,if_neg (fun hc=>ho hc.2)]
   have e3:Hid (rhP i n f ls P=P.set (i*16+n) (dropped p)):=by unfold Hid;rw [uh E3,if_pos ⟨rfl,fun hc=>ho ⟨hc.1,hc.2.1⟩⟩]
   have e1:Hid (rhKeep i n f ls P=false):=by unfold Hid;rw [uh E1];simp only [decide_eq_false_iff_not];exact fun hc=>ho ⟨hc.2.1,hc.2.2.1⟩
   clear E1 E2 E3 ho
   rcases hb with ⟨h1,h2⟩ | h1
   ·rw [h1] at H2
    go_enter Tryz.func87,Tryz.ntmps87
    go_wp2_with fail
    refine (uh H1).mono ?_
    rintro e w1 ⟨rfl,q1⟩
    have Q1:Hid (GSP w ρ gb C now sv m g cap ls P w1):=q1
    clear q1
    go_wp2_with fail
    have A1:=hide ((uh Q1).alloc (w1:=w1) (.cells #[.int .i64 p.h.sh,.int .i64 p.h.ep,.int .i64 p.h.at_,.int .i64 p.h.bf] 102))
    refine (uh H2 _ (uh A1).1).mono ?_
    rintro e w2 ⟨rfl,q2⟩
    have S2:=new_stands (uh Q1).1.fits q2.2
    have ce:(w2.alloc (.cells #[.int .i64 i,.int .i64 x.c,.int .i64 x.e] 59)).cell? ⟨w1.heap.size,1,none⟩=some (.int .i64 p.h.ep):=cell_alloc S2 rfl _
    have Q2:=hide (q2.alloc (w1:=w2) (.cells #[.int .i64 i,.int .i64 x.c,.int .i64 x.e] 59))
    clear q2 S2
    go_wp2_with fail
    refine (uh H3 _ _ (uh Q2).1).mono ?_
    rintro e w4 ⟨rfl,q4⟩
    have Q4:=hide q4
    clear q4
    go_wp2
    go_ret
    refine ⟨by rw [uh e1];rfl,?_⟩
    rw [uh e2,uh e3]
    exact (uh A1).trans ((uh Q2).trans (uh Q4))
   ·go_enter Tryz.func87,Tryz.ntmps87
    go_wp2_with fail
    refine (uh H1).mono ?_
    rintro e w1 ⟨rfl,q1⟩
    have Q1:Hid (GSP w ρ gb C now sv m g cap ls P w1):=q1
    clear q1
    go_wp2_with fail
    have A1:=hide ((uh Q1).alloc (w1:=w1) (.cells #[.int .i64 p.h.sh,.int .i64 p.h.ep,.int .i64 p.h.at_,.int .i64 p.h.bf] 102))
    refine (uh H2 _ (uh A1).1).mono ?_
    rintro e w2 ⟨rfl,q2⟩
    have S2:=new_stands (uh Q1).1.fits q2.2
    have ce:(w2.alloc (.cells #[.int .i64 x.o,.int .i64 x.c,.int .i64 x.e] 59)).cell? ⟨w1.heap.size,1,none⟩=some (.int .i64 p.h.ep):=cell_alloc S2 rfl _
    have Q2:=hide (q2.alloc (w1:=w2) (.cells #[.int .i64 x.o,.int .i64 x.c,.int .i64 x.e] 59))
    clear q2 S2
    go_wp2_with fail
    refine (uh H3 _ _ (uh Q2).1).mono ?_
    rintro e w4 ⟨rfl,q4⟩
    have Q4:=hide q4
    clear q4
    go_wp2
    go_ret
    refine ⟨by rw [uh e1];rfl,?_⟩
    rw [uh e2,uh e3]
    exact (uh A1).trans ((uh Q2).trans (uh Q4))
def giveLs (i n:Nat) (ls:List Le):List Le:=match ls[n]? with
 | some x=>ls.set n ⟨i,inc x.c,inc x.e⟩
 | none=>ls
def giveP (d:Int) (i n:Nat) (ls:List Le) (P:List Pl):List Pl:=match ls[n]?,P[i*16+n]? with
 | some x,some p=>P.set (i*16+n) { p with held:=true,h:=⟨n,inc x.e,d,0⟩ }
 | _,_=>P
set_option maxRecDepth 100000 in
set_option maxHeartbeats 2000000 in
theorem give_any {w:World} {ρ:Nat→Nat} {gb:Nat} {C:Cfg} {now:Rest} {sv:Value} {m:List Cs} {g cap:Nat} {ls:List Le} {P:List Pl} (h:GS w ρ gb C now sv m g cap ls P) (i n:Nat) (hi:i<now.n) (hn:n<16) :
 Calls Tryz.prog 91 #[.pointer (some ⟨gb,0,none⟩),.int .i64 i,.pointer (some ⟨g,i*128,none⟩),.int .i64 n] w fun e w'=>e=.returned (.tuple #[])∧GSP w ρ gb C now sv m g cap (giveLs i n ls) (giveP (dnP now.dn n) i n ls P) w':=by
 obtain ⟨x,hx⟩:=h.lease hn
 obtain ⟨p,hp⟩:=h.pl hi hn
 have E2:Hid (giveLs i n ls=ls.set n ⟨i,inc x.c,inc x.e⟩):=by unfold Hid giveLs;rw [hx]
 have E3:Hid (giveP (dnP now.dn n) i n ls P=P.set (i*16+n) { p with held:=true,h:=⟨n,inc x.e,dnP now.dn n,0⟩ }):=by unfold Hid giveP;rw [hx,hp]
 have H1:Hid (Calls Tryz.prog 121 #[.pointer (some ⟨gb,40,none⟩),.int .i64 n,.int .i64 i] w fun e w'=>e=.returned (.int .i64 (inc x.e))∧GSP w ρ gb C now sv m g cap (ls.set n ⟨i,inc x.c,inc x.e⟩) P w'):=gGive_any h n x hx i
 have H2:Hid (∀W ls',GS W ρ gb C now sv m g cap ls' P→Calls Tryz.prog 111 #[.pointer (some ⟨gb,8,none⟩),.int .i64 n] W fun e w'=>e=.returned (.int .i64 (dnP now.dn n))∧W=w'):=fun W ls' hW=>gDone_any hW n hn
 have H3:Hid (∀W ls' ep at_,GS W ρ gb C now sv m g cap ls' P→Calls Tryz.prog 41 #[.pointer (some ⟨g,i*128,none⟩),.agg #[.int .i64 n,.int .i64 ep,.int .i64 at_,.int .i64 0]] W fun e w'=>e=.returned (.tuple #[])∧GSP W ρ gb C now sv m g cap ls' (P.set (i*16+n) { p with held:=true,h:=⟨n,ep,at_,0⟩ }) w'):=fun W ls' ep at_ hW=>gKeep_any hW i n hn p hp ep at_ 0
 clear h hx hp
 generalize inc x.c=xc at *
 generalize inc x.e=xe at *
 generalize dnP now.dn n=d at *
 go_enter Tryz.func91,Tryz.ntmps91
 go_wp2_with fail
 refine (uh H1).mono ?_
 rintro e w1 ⟨rfl,q1⟩
 have Q1:=hide q1
 clear q1
 go_wp2_with fail
 refine (uh H2 _ _ (uh Q1).1).mono ?_
 rintro e w2 ⟨rfl,rfl⟩
 go_wp2_with fail
 refine (uh H3 _ _ _ _ (uh Q1).1).mono ?_
 rintro e w3 ⟨rfl,q3⟩
 have Q3:=hide q3
 clear q3
 go_wp2
 go_end0
 refine ⟨rfl,?_⟩
 rw [uh E2,uh E3]
 exact (uh Q1).trans (uh Q3)
end Go.Proofs.YtpnkmnmchdabkaaGreat
