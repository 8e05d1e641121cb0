import Derived.Test.YtpnkmnmchdabkaaGreatM21
namespace Go.Proofs.YtpnkmnmchdabkaaGreat
open Go.RowKit
attribute [local go_sem ↓] Go.wp_at_zero Go.wp_at_succ
def plus (a b:Int):Int:=IntKind.i64.wrap (a+b)
theorem below_set2 {B:Nat} {a w:World} (h:Below B a w) (p:Addr) (u:Value):Below B (a.setCell p u) (w.setCell p u) :=
 ⟨h.os,h.tape,h.output,by simpa [World.setCell] using h.size,fun k hk=>by
  simp only [World.setCell,Array.getElem?_modify]
  split
  ·rw [h.block k hk]
  ·exact h.block k hk⟩
theorem cell_alloc' {W:World} {b i:Nat} {v:Value} (h:W.cell? ⟨b,i,none⟩=some v) (hb:b<W.heap.size) (o:Obj):(W.alloc o).drew.cell? ⟨b,i,none⟩=some v:=by
 have:(W.alloc o).cell? ⟨b,i,none⟩=some v:=by rw [World.cell?_of_block (w:=W) (Below.heap_alloc _ _ _ hb)];exact h
 exact this
set_option maxRecDepth 100000 in
set_option maxHeartbeats 1000000 in
theorem sinkCommit_yes (b o k:Nat) (hk:k<16) (d e:Int) (ep at_ bf:Int) (w:World) (hb:b<w.heap.size) (c0:w.cell? ⟨b,o+k*2,none⟩=some (.int .i64 d)) (c1:w.cell? ⟨b,o+k*2+1,none⟩=some (.int .i64 e)) (f:∀q,w.frozen? ⟨b,q,none⟩=false) (he:e≤ep) (ha:at_=d) :
 Calls Tryz.prog 44 #[.pointer (some ⟨b,o,none⟩),.agg #[.int .i64 k,.int .i64 ep,.int .i64 at_,.int .i64 bf]] w fun r w'=>r=.returned (.bool true)∧Below w.heap.size ((w.setCell ⟨b,o+k*2,none⟩ (.int .i64 (plus d bf))).setCell ⟨b,o+k*2+1,none⟩ (.int .i64 ep)) w':=by
 subst ha
 have wp:IntKind.i64.wrap (at_+bf)=plus at_ bf:=rfl
 have HZ:=fun w=>hide (sinkHas_any k w)
 rw [hasS16 hk] at HZ
 have a0:(w.alloc (.cells #[.int .i64 k,.int .i64 ep,.int .i64 at_,.int .i64 bf] 102)).cell? ⟨b,o+k*2,none⟩=some (.int .i64 at_):=(World.cell?_of_block (w:=w) (Below.heap_alloc _ _ _ hb)).trans c0
 have a1:(w.alloc (.cells #[.int .i64 k,.int .i64 ep,.int .i64 at_,.int .i64 bf] 102)).cell? ⟨b,o+k*2+1,none⟩=some (.int .i64 e):=(World.cell?_of_block (w:=w) (Below.heap_alloc _ _ _ hb)).trans c1
 have hne:¬ep<e:=by omega
 have q1:¬((k:Int)<0):=by omega
 have q2:(k:Int)<16:=by omega
 have hBW:=(Below.refl w.heap.size w).alloc (Nat.le_refl _) (.cells #[.int .i64 k,.int .i64 ep,.int .i64 at_,.int .i64 bf] 102)
 go_enter Tryz.func44,Tryz.ntmps44
 go_wp2_with (go_at_call 81;refine (uh (HZ _)).mono ?_;rintro e w1 ⟨rfl,rfl⟩)
 have b0:(w.alloc (.cells #[.int .i64 k,.int .i64 ep,.int .i64 at_,.int .i64 bf] 102)).cell? ⟨w.heap.size,0,none⟩=some (.int .i64 k):=cell_of (heap_alloc_new w _) 0
 have b1:(w.alloc (.cells #[.int .i64 k,.int .i64 ep,.int .i64 at_,.int .i64 bf] 102)).cell? ⟨w.heap.size,1,none⟩=some (.int .i64 ep):=cell_of (heap_alloc_new w _) 1
 have b2:(w.alloc (.cells #[.int .i64 k,.int .i64 ep,.int .i64 at_,.int .i64 bf] 102)).cell? ⟨w.heap.size,2,none⟩=some (.int .i64 at_):=cell_of (heap_alloc_new w _) 2
 have b3:(w.alloc (.cells #[.int .i64 k,.int .i64 ep,.int .i64 at_,.int .i64 bf] 102)).cell? ⟨w.heap.size,3,none⟩=some (.int .i64 bf):=cell_of (heap_alloc_new w _) 3
 have hsz:(w.alloc (.cells #[.int .i64 k,.int .i64 ep,.int .i64 at_,.int .i64 bf] 102)).heap.size=w.heap.size+1:=by simp
 generalize w.alloc (.cells #[.int .i64 k,.int .i64 ep,.int .i64 at_,.int .i64 bf] 102)=W at *
 go_region_held3 (fun w'=>w'.cell? ⟨w.heap.size,0,none⟩=some (.int .i64 k)∧w'.cell? ⟨b,o+k*2,none⟩=some (.int .i64 at_)∧w'.cell? ⟨b,o+k*2+1,none⟩=some (.int .i64 e)) (first | go_keep | trivial) (fail)
 have hbW:Below w.heap.size w W:=hBW
 have hb1:b<W.heap.size:=by omega
 have hw1:w.heap.size<W.heap.size:=by omega
 have V0:=cell_alloc' (W:=W) a0 hb1 (.cells #[.int .i64 at_,.int .i64 e] 66)
 have V1:=cell_alloc' (W:=W) a1 hb1 (.cells #[.int .i64 at_,.int .i64 e] 66)
 have U0:=cell_alloc' (W:=W) b0 hw1 (.cells #[.int .i64 at_,.int .i64 e] 66)
 have U1:=cell_alloc' (W:=W) b1 hw1 (.cells #[.int .i64 at_,.int .i64 e] 66)
 have U2:=cell_alloc' (W:=W) b2 hw1 (.cells #[.int .i64 at_,.int .i64 e] 66)
 have U3:=cell_alloc' (W:=W) b3 hw1 (.cells #[.int .i64 at_,.int .i64 e] 66)
 have M0:(W.alloc (.cells #[.int .i64 at_,.int .i64 e] 66)).drew.cell? ⟨w.heap.size+1,0,none⟩=some (.int .i64 at_):=by rw [←hsz];exact cell_of (heap_alloc_new W _) 0
 have M1:(W.alloc (.cells #[.int .i64 at_,.int .i64 e] 66)).drew.cell? ⟨w.heap.size+1,1,none⟩=some (.int .i64 e):=by rw [←hsz];exact cell_of (heap_alloc_new W _) 1
 have hV:Hid (Below w.heap.size w (W.alloc (.cells #[.int .i64 at_,.int .i64 e] 66)).drew):=(hbW.alloc (by omega) _).drew
 have fV:∀q,(W.alloc (.cells #[.int .i64 at_,.int .i64 e] 66)).drew.frozen? ⟨b,q,none⟩=false:=fun q=>((uh hV).frozen (p:=⟨b,q,none⟩) hb).trans (f q)
 have f0:=fV (o+k*2)
 have f1:=fV (o+k*2+1)
 generalize (W.alloc (.cells #[.int .i64 at_,.int .i64 e] 66)).drew=V at *
 clear fV a0 a1 b0 b1 b2 b3 hBW hbW f c0 c1 HZ
 go_wp2_with fail
 have hn1:b≠w.heap.size:=by omega
 have hn2:b≠w.heap.size+1:=by omega
 go_region_held3 (fun w'=>w'.cell? ⟨w.heap.size,0,none⟩=some (.int .i64 k)∧w'.cell? ⟨w.heap.size,1,none⟩=some (.int .i64 ep)∧w'.cell? ⟨w.heap.size,3,none⟩=some (.int .i64 bf)∧w'.cell? ⟨w.heap.size+1,0,none⟩=some (.int .i64 at_)) (first | go_keep | trivial) (fail)
 go_wp2
 go_ret
 exact ⟨rfl,(below_set2 (below_set2 (uh hV) _ _) _ _).drew⟩
set_option maxRecDepth 100000 in
set_option maxHeartbeats 1000000 in
theorem sinkCommit_no (b o k:Nat) (hk:k<16) (d e:Int) (ep at_ bf:Int) (w:World) (hb:b<w.heap.size) (c0:w.cell? ⟨b,o+k*2,none⟩=some (.int .i64 d)) (c1:w.cell? ⟨b,o+k*2+1,none⟩=some (.int .i64 e)) (f:∀q,w.frozen? ⟨b,q,none⟩=false) (hno:¬(e≤ep∧at_=d)) :
 Calls Tryz.prog 44 #[.pointer (some ⟨b,o,none⟩),.agg #[.int .i64 k,.int .i64 ep,.int .i64 at_,.int .i64 bf]] w fun r w'=>r=.returned (.bool false)∧Below w.heap.size w w':=by
 have HZ:=fun w=>hide (sinkHas_any k w)
 rw [hasS16 hk] at HZ
 have a0:(w.alloc (.cells #[.int .i64 k,.int .i64 ep,.int .i64 at_,.int .i64 bf] 102)).cell? ⟨b,o+k*2,none⟩=some (.int .i64 d):=(World.cell?_of_block (w:=w) (Below.heap_alloc _ _ _ hb)).trans c0
 have a1:(w.alloc (.cells #[.int .i64 k,.int .i64 ep,.int .i64 at_,.int .i64 bf] 102)).cell? ⟨b,o+k*2+1,none⟩=some (.int .i64 e):=(World.cell?_of_block (w:=w) (Below.heap_alloc _ _ _ hb)).trans c1
 have q1:¬((k:Int)<0):=by omega
 have q2:(k:Int)<16:=by omega
 have hBW:=(Below.refl w.heap.size w).alloc (Nat.le_refl _) (.cells #[.int .i64 k,.int .i64 ep,.int .i64 at_,.int .i64 bf] 102)
 go_enter Tryz.func44,Tryz.ntmps44
 go_wp2_with (go_at_call 81;refine (uh (HZ _)).mono ?_;rintro e w1 ⟨rfl,rfl⟩)
 have b0:(w.alloc (.cells #[.int .i64 k,.int .i64 ep,.int .i64 at_,.int .i64 bf] 102)).cell? ⟨w.heap.size,0,none⟩=some (.int .i64 k):=cell_of (heap_alloc_new w _) 0
 have b1:(w.alloc (.cells #[.int .i64 k,.int .i64 ep,.int .i64 at_,.int .i64 bf] 102)).cell? ⟨w.heap.size,1,none⟩=some (.int .i64 ep):=cell_of (heap_alloc_new w _) 1
 have b2:(w.alloc (.cells #[.int .i64 k,.int .i64 ep,.int .i64 at_,.int .i64 bf] 102)).cell? ⟨w.heap.size,2,none⟩=some (.int .i64 at_):=cell_of (heap_alloc_new w _) 2
 have b3:(w.alloc (.cells #[.int .i64 k,.int .i64 ep,.int .i64 at_,.int .i64 bf] 102)).cell? ⟨w.heap.size,3,none⟩=some (.int .i64 bf):=cell_of (heap_alloc_new w _) 3
 have hsz:(w.alloc (.cells #[.int .i64 k,.int .i64 ep,.int .i64 at_,.int .i64 bf] 102)).heap.size=w.heap.size+1:=by simp
 generalize w.alloc (.cells #[.int .i64 k,.int .i64 ep,.int .i64 at_,.int .i64 bf] 102)=W at *
 go_region_held3 (fun w'=>w'.cell? ⟨w.heap.size,0,none⟩=some (.int .i64 k)∧w'.cell? ⟨b,o+k*2,none⟩=some (.int .i64 d)∧w'.cell? ⟨b,o+k*2+1,none⟩=some (.int .i64 e)) (first | go_keep | trivial) (fail)
 have hbW:Below w.heap.size w W:=hBW
 have hb1:b<W.heap.size:=by omega
 have hw1:w.heap.size<W.heap.size:=by omega
 have V0:=cell_alloc' (W:=W) a0 hb1 (.cells #[.int .i64 d,.int .i64 e] 66)
 have V1:=cell_alloc' (W:=W) a1 hb1 (.cells #[.int .i64 d,.int .i64 e] 66)
 have U0:=cell_alloc' (W:=W) b0 hw1 (.cells #[.int .i64 d,.int .i64 e] 66)
 have U1:=cell_alloc' (W:=W) b1 hw1 (.cells #[.int .i64 d,.int .i64 e] 66)
 have U2:=cell_alloc' (W:=W) b2 hw1 (.cells #[.int .i64 d,.int .i64 e] 66)
 have U3:=cell_alloc' (W:=W) b3 hw1 (.cells #[.int .i64 d,.int .i64 e] 66)
 have M0:(W.alloc (.cells #[.int .i64 d,.int .i64 e] 66)).drew.cell? ⟨w.heap.size+1,0,none⟩=some (.int .i64 d):=by rw [←hsz];exact cell_of (heap_alloc_new W _) 0
 have M1:(W.alloc (.cells #[.int .i64 d,.int .i64 e] 66)).drew.cell? ⟨w.heap.size+1,1,none⟩=some (.int .i64 e):=by rw [←hsz];exact cell_of (heap_alloc_new W _) 1
 have hV:Hid (Below w.heap.size w (W.alloc (.cells #[.int .i64 d,.int .i64 e] 66)).drew):=(hbW.alloc (by omega) _).drew
 have fV:∀q,(W.alloc (.cells #[.int .i64 d,.int .i64 e] 66)).drew.frozen? ⟨b,q,none⟩=false:=fun q=>((uh hV).frozen (p:=⟨b,q,none⟩) hb).trans (f q)
 have f0:=fV (o+k*2)
 have f1:=fV (o+k*2+1)
 generalize (W.alloc (.cells #[.int .i64 d,.int .i64 e] 66)).drew=V at *
 clear fV a0 a1 b0 b1 b2 b3 hBW hbW f c0 c1 HZ
 by_cases h1:ep<e
 ·go_wp2
  go_ret
  exact ⟨rfl,uh hV⟩
 ·have h2:¬at_=d:=fun h2=>hno ⟨by omega,h2⟩
  go_wp2
  go_ret
  exact ⟨rfl,uh hV⟩
def dnSet (dn:List Int) (k:Nat) (d e:Int):List Int:=(dn.set (k*2) d).set (k*2+1) e
def epP (dn:List Int) (k:Nat):Int:=(dn[k*2+1]?).getD 0
theorem epP_get {dn:List Int} (h:dn.length=32) {k:Nat} (hk:k<16):dn[k*2+1]?=some (epP dn k):=by
 unfold epP
 rw [List.getElem?_eq_getElem (by omega)]
 rfl
def folds (dn:List Int) (k:Nat) (ep at_:Int):Bool:=decide (epP dn k≤ep∧at_=dnP dn k)
def Rest.fold (now:Rest) (k:Nat) (ep at_ bf:Int):Rest:=if folds now.dn k ep at_=true then { now with dn:=dnSet now.dn k (plus (dnP now.dn k) bf) ep } else now
theorem gsCommit_any {w:World} {ρ:Nat→Nat} {gb:Nat} {C:Cfg} {now:Rest} {sv:Value} {m:List Cs} {g cap:Nat} {ls:List Le} {P:List Pl} (h:GS w ρ gb C now sv m g cap ls P) (k:Nat) (hk:k<16) (ep at_ bf:Int) :
 Calls Tryz.prog 44 #[.pointer (some ⟨gb,8,none⟩),.agg #[.int .i64 k,.int .i64 ep,.int .i64 at_,.int .i64 bf]] w fun r w'=>r=.returned (.bool (folds now.dn k ep at_))∧GSP w ρ gb C (now.fold k ep at_ bf) sv m g cap ls P w':=by
 have hG:GrpL w ρ gb C (now.up ls P) sv m g cap P:=h
 have hl:now.dn.length=32:=hG.G.dnL
 have c0:=hG.dcell (k*2) _ (dnP_get (dn:=now.dn) hl hk)
 have c1:=hG.dcell (k*2+1) _ (epP_get (dn:=now.dn) hl hk)
 have fz:=fun q=>frozen_of hG.G.blk q
 have hlt:=lt_of_heap hG.G.blk
 by_cases hf:epP now.dn k≤ep∧at_=dnP now.dn k
 ·refine (sinkCommit_yes gb 8 k hk _ _ ep at_ bf w hlt c0 c1 fz hf.1 hf.2).mono fun r w' q=>⟨?_,?_⟩
  ·rw [q.1,folds,decide_eq_true hf]
  ·have e:now.fold k ep at_ bf={ now with dn:=dnSet now.dn k (plus (dnP now.dn k) bf) ep }:=by unfold Rest.fold folds;rw [decide_eq_true hf,if_pos rfl]
   rw [e]
   have s1:=hG.setDn (k*2) (by omega) (plus (dnP now.dn k) bf)
   have s2:=s1.1.setDn (k*2+1) (by omega) ep
   rw [show 8+(k*2+1)=8+k*2+1 by omega] at s2
   have s3:=s2.1.below (w':=w') (by simpa [World.setCell] using q.2)
   exact ⟨s3.1,s1.2.trans (s2.2.trans s3.2)⟩
 ·refine (sinkCommit_no gb 8 k hk _ _ ep at_ bf w hlt c0 c1 fz hf).mono fun r w' q=>⟨?_,?_⟩
  ·rw [q.1,folds,decide_eq_false hf]
  ·have e:now.fold k ep at_ bf=now:=by unfold Rest.fold folds;rw [decide_eq_false hf,if_neg (by simp)]
   rw [e]
   exact h.below q.2
theorem GSP.setNew {w W:World} {ρ:Nat→Nat} {gb:Nat} {C:Cfg} {now:Rest} {sv:Value} {m:List Cs} {g cap:Nat} {ls:List Le} {P:List Pl} (hW:GSP w ρ gb C now sv m g cap ls P W) (hf:Fits w ρ) {b i:Nat} (hb:w.heap.size≤b) (u:Value):GSP w ρ gb C now sv m g cap ls P (W.setCell ⟨b,i,none⟩ u):=by
 have hz:ρ b=0:=hf b hb
 have hk:Keeps (fun k=>k=b) W (W.setCell ⟨b,i,none⟩ u):=Keeps.setCell (S:=fun k=>k=b) (Keeps.refl _ W) (by exact Or.inl rfl) _
 have hG:GrpL W ρ gb C (now.up ls P) sv m g cap P:=hW.1
 refine ⟨⟨hG.G.keeps hk (fun k e=>Or.inl (by subst e;unfold mine;omega)) (fun _ _=>rfl) hG.le,hG.hw,hG.hm,hG.hl,hG.le,fun k hk'=>hG.fits k (by simpa [World.setCell] using hk')⟩,?_⟩
 exact Keeps.setCell hW.2 (Or.inr hb) _
theorem four_set {V:World} {b:Nat} {u0 u1 u2 u3:Value} {t:TypeId} (h:V.heap[b]?=some (.cells #[u0,u1,u2,u3] t (0,0))) (v0 v1 v2 v3:Value) :
 ((((V.setCell ⟨b,0,none⟩ v0).setCell ⟨b,1,none⟩ v1).setCell ⟨b,2,none⟩ v2).setCell ⟨b,3,none⟩ v3).heap[b]?=some (.cells #[v0,v1,v2,v3] t (0,0)):=by
 have M1:=heap_setCell_same (i:=0) h v0
 have M2:=heap_setCell_same (i:=1) M1 v1
 have M3:=heap_setCell_same (i:=2) M2 v2
 have M4:=heap_setCell_same (i:=3) M3 v3
 simpa using M4
theorem four_cells {V:World} {b:Nat} {u0 u1 u2 u3:Value} {t:TypeId} (h:V.heap[b]?=some (.cells #[u0,u1,u2,u3] t (0,0))) :
 V.cell? ⟨b,0,none⟩=some u0∧V.cell? ⟨b,1,none⟩=some u1∧V.cell? ⟨b,2,none⟩=some u2∧V.cell? ⟨b,3,none⟩=some u3∧V.frozen? ⟨b,0,none⟩=false∧V.frozen? ⟨b,1,none⟩=false∧V.frozen? ⟨b,2,none⟩=false∧V.frozen? ⟨b,3,none⟩=false :=
 ⟨cell_of h 0,cell_of h 1,cell_of h 2,cell_of h 3,frozen_of h 0,frozen_of h 1,frozen_of h 2,frozen_of h 3⟩
set_option maxRecDepth 100000 in
set_option maxHeartbeats 2000000 in
theorem findHold_any {w:World} {ρ:Nat→Nat} {gb:Nat} {C:Cfg} {now:Rest} {sv:Value} {m:List Cs} {g cap:Nat} {ls:List Le} {P:List Pl} (h:GS w ρ gb C now sv m g cap ls P) (i:Nat) (hi:i<now.n) (k:Nat) (hk:k<m.length) (p:Pl) (hp:P[i*16+k]?=some p) :
 Calls Tryz.prog 39 #[.pointer (some ⟨gb,0,none⟩),.int .i64 i,.int .i64 k] w fun e w'=>e=.returned (if p.held=true then .tuple #[.pointer (some ⟨g,i*128,none⟩),.agg #[.int .i64 p.h.sh,.int .i64 p.h.ep,.int .i64 p.h.at_,.int .i64 p.h.bf],.int .i64 0] else .tuple #[.pointer none,.agg #[.int .i64 0,.int .i64 0,.int .i64 0,.int .i64 0],.int .i64 13])∧GSP w ρ gb C now sv m g cap ls P w':=by
 have h0:0<m.length:=by omega
 have h16:m.length≤16:=GrpL.le h
 have k16:k<16:=by omega
 have hA:=h.alloc (.cells #[.int .i64 0,.int .i64 0,.int .i64 0,.int .i64 0] 102)
 have HK:=hide (hasWorker_any hA.1 i)
 rw [show decide (0≤(i:Int)∧(i:Int)<now.n)=true by simp;omega] at HK
 have HL:=hide (gHas_any hA.1 h0 k)
 rw [show decide (0≤(k:Int)∧(k:Int)<m.length)=true by simp;omega] at HL
 have c88:(w.alloc (.cells #[.int .i64 0,.int .i64 0,.int .i64 0,.int .i64 0] 102)).cell? ⟨gb,88,none⟩=some (.slice (some ⟨g,0,none⟩) now.n cap):=hA.1.wcell
 have H1:Hid (Calls Tryz.prog 77 #[.pointer (some ⟨g,i*128,none⟩),.int .i64 k] (w.alloc (.cells #[.int .i64 0,.int .i64 0,.int .i64 0,.int .i64 0] 102)) fun e w'=>e=.returned (.tuple #[if p.held=true then .agg #[.int .i64 p.h.sh,.int .i64 p.h.ep,.int .i64 p.h.at_,.int .i64 p.h.bf] else .agg #[.int .i64 0,.int .i64 0,.int .i64 0,.int .i64 0],.bool p.held])∧GSP (w.alloc (.cells #[.int .i64 0,.int .i64 0,.int .i64 0,.int .i64 0] 102)) ρ gb C now sv m g cap ls P w'):=gHold_any (now:=now.up ls P) hA.1 i k k16 p hp
 have N0:=heap_alloc_new w (.cells #[.int .i64 0,.int .i64 0,.int .i64 0,.int .i64 0] 102)
 have HA:=hide hA
 have HN:=hide N0
 have HFit:=hide h.fits
 have hz:Hid (¬mine ρ w.heap.size):=fun hm=>by have:=h.fits _ (Nat.le_refl _);unfold mine at hm;omega
 clear h hp hA N0
 cases hh:p.held
 ·rw [hh] at H1
  simp only [Bool.false_eq_true,if_false] at H1 ⊢
  go_enter Tryz.func39,Tryz.ntmps39
  go_wp2_with (first | (go_at_call 76;refine (uh HK).mono ?_;rintro e w1 ⟨rfl,rfl⟩) | (go_at_call 47;refine (uh HL).mono ?_;rintro e w1 ⟨rfl,rfl⟩))
  generalize w.alloc (.cells #[.int .i64 0,.int .i64 0,.int .i64 0,.int .i64 0] 102)=W at *
  refine (uh H1).mono ?_
  rintro e w1 ⟨rfl,q1⟩
  have hN1:=(q1.2.block _ (lt_of_heap (uh HN)) (uh hz)).trans (uh HN)
  have hN2:=(Below.heap_alloc w1 (.cells #[.int .i64 0,.int .i64 0,.int .i64 0,.int .i64 0] 102) _ (lt_of_heap hN1)).trans hN1
  have hH:=heap_alloc_new w1 (.cells #[.int .i64 0,.int .i64 0,.int .i64 0,.int .i64 0] 102)
  have Q1:=hide (((uh HA).trans q1).alloc (w1:=w1) (.cells #[.int .i64 0,.int .i64 0,.int .i64 0,.int .i64 0] 102))
  have hlt1:=hide (lt_of_heap hN1)
  clear q1 hN1
  obtain ⟨r0,r1,r2,r3,f0,f1,f2,f3⟩:=four_cells hN2
  obtain ⟨t0,t1,t2,t3,_⟩:=four_cells hH
  have HN2:=hide hN2
  clear hN2 hH
  go_wp2
  have M:=four_set (uh HN2) (.int .i64 0) (.int .i64 0) (.int .i64 0) (.int .i64 0)
  have HQ:=hide ((((( uh Q1).setNew (uh HFit) (b:=w.heap.size) (i:=0) (Nat.le_refl _) (.int .i64 0)).setNew (uh HFit) (b:=w.heap.size) (i:=1) (Nat.le_refl _) (.int .i64 0)).setNew (uh HFit) (b:=w.heap.size) (i:=2) (Nat.le_refl _) (.int .i64 0)).setNew (uh HFit) (b:=w.heap.size) (i:=3) (Nat.le_refl _) (.int .i64 0))
  generalize ((((w1.alloc (.cells #[.int .i64 0,.int .i64 0,.int .i64 0,.int .i64 0] 102)).setCell ⟨w.heap.size,0,none⟩ (.int .i64 0)).setCell ⟨w.heap.size,1,none⟩ (.int .i64 0)).setCell ⟨w.heap.size,2,none⟩ (.int .i64 0)).setCell ⟨w.heap.size,3,none⟩ (.int .i64 0)=U at *
  obtain ⟨m0,m1,m2,m3,_⟩:=four_cells M
  refine bodyPost_ret (v:=.tuple #[.pointer none,.agg #[.int .i64 0,.int .i64 0,.int .i64 0,.int .i64 0],.int .i64 13]) ?_ rfl ⟨rfl,uh HQ⟩
  simp [results,Tryz.results39,go_sem,m0,m1,m2,m3]
 ·rw [hh] at H1
  simp only [if_true] at H1 ⊢
  go_enter Tryz.func39,Tryz.ntmps39
  go_wp2_with (first | (go_at_call 76;refine (uh HK).mono ?_;rintro e w1 ⟨rfl,rfl⟩) | (go_at_call 47;refine (uh HL).mono ?_;rintro e w1 ⟨rfl,rfl⟩))
  generalize w.alloc (.cells #[.int .i64 0,.int .i64 0,.int .i64 0,.int .i64 0] 102)=W at *
  refine (uh H1).mono ?_
  rintro e w1 ⟨rfl,q1⟩
  have hN1:=(q1.2.block _ (lt_of_heap (uh HN)) (uh hz)).trans (uh HN)
  have hN2:=(Below.heap_alloc w1 (.cells #[.int .i64 p.h.sh,.int .i64 p.h.ep,.int .i64 p.h.at_,.int .i64 p.h.bf] 102) _ (lt_of_heap hN1)).trans hN1
  have hH:=heap_alloc_new w1 (.cells #[.int .i64 p.h.sh,.int .i64 p.h.ep,.int .i64 p.h.at_,.int .i64 p.h.bf] 102)
  have Q1:=hide (((uh HA).trans q1).alloc (w1:=w1) (.cells #[.int .i64 p.h.sh,.int .i64 p.h.ep,.int .i64 p.h.at_,.int .i64 p.h.bf] 102))
  have hlt1:=hide (lt_of_heap hN1)
  clear q1 hN1
  obtain ⟨r0,r1,r2,r3,f0,f1,f2,f3⟩:=four_cells hN2
  obtain ⟨t0,t1,t2,t3,_⟩:=four_cells hH
  have HN2:=hide hN2
  clear hN2 hH
  go_wp2_with fail
  have hne:w.heap.size≠w1.heap.size:=by have:=uh hlt1;omega
  generalize w1.alloc (.cells #[.int .i64 p.h.sh,.int .i64 p.h.ep,.int .i64 p.h.at_,.int .i64 p.h.bf] 102)=V at *
  go_region_held3 (fun w'=>w'.cell? ⟨w1.heap.size,0,none⟩=some (.int .i64 p.h.sh)∧w'.cell? ⟨w1.heap.size,1,none⟩=some (.int .i64 p.h.ep)∧w'.cell? ⟨w1.heap.size,2,none⟩=some (.int .i64 p.h.at_)∧w'.cell? ⟨w1.heap.size,3,none⟩=some (.int .i64 p.h.bf)) (first | go_keep | trivial) (fail)
  go_wp2
  have M:=four_set (uh HN2) (.int .i64 p.h.sh) (.int .i64 p.h.ep) (.int .i64 p.h.at_) (.int .i64 p.h.bf)
  have HQ:=hide (((((uh Q1).setNew (uh HFit) (b:=w.heap.size) (i:=0) (Nat.le_refl _) (.int .i64 p.h.sh)).setNew (uh HFit) (b:=w.heap.size) (i:=1) (Nat.le_refl _) (.int .i64 p.h.ep)).setNew (uh HFit) (b:=w.heap.size) (i:=2) (Nat.le_refl _) (.int .i64 p.h.at_)).setNew (uh HFit) (b:=w.heap.size) (i:=3) (Nat.le_refl _) (.int .i64 p.h.bf))
  generalize (((V.setCell ⟨w.heap.size,0,none⟩ (.int .i64 p.h.sh)).setCell ⟨w.heap.size,1,none⟩ (.int .i64 p.h.ep)).setCell ⟨w.heap.size,2,none⟩ (.int .i64 p.h.at_)).setCell ⟨w.heap.size,3,none⟩ (.int .i64 p.h.bf)=U at *
  obtain ⟨m0,m1,m2,m3,_⟩:=four_cells (V:=U.drew) M
  refine bodyPost_ret (v:=.tuple #[.pointer (some ⟨g,i*128,none⟩),.agg #[.int .i64 p.h.sh,.int .i64 p.h.ep,.int .i64 p.h.at_,.int .i64 p.h.bf],.int .i64 0]) ?_ rfl ⟨rfl,(uh HQ).trans ((uh HQ).1.below (Below.refl _ _).drew)⟩
  simp [results,Tryz.results39,go_sem,m0,m1,m2,m3]
theorem GSP.transN {w w1 w2:World} {ρ:Nat→Nat} {gb:Nat} {C:Cfg} {now now':Rest} {sv:Value} {m:List Cs} {g cap:Nat} {ls ls':List Le} {P P':List Pl} (h:GSP w ρ gb C now sv m g cap ls P w1) (h':GSP w1 ρ gb C now' sv m g cap ls' P' w2):GSP w ρ gb C now' sv m g cap ls' P' w2:=⟨h'.1,h.2.trans h'.2⟩
theorem gCount_any {w:World} {ρ:Nat→Nat} {gb:Nat} {C:Cfg} {now:Rest} {sv:Value} {m:List Cs} {g cap:Nat} {ls:List Le} {P:List Pl} (h:GS w ρ gb C now sv m g cap ls P) (k:Nat) (s:Cs) (hs:m[k]?=some s) :
 Calls Tryz.prog 40 #[.pointer (some ⟨gb,7,none⟩),.int .i64 k] w fun e w'=>e=.returned (.int .i64 s.s.cnt)∧w=w':=by
 have hG:GrpL w ρ gb C (now.up ls P) sv m g cap P:=h
 have hk':=(List.getElem?_eq_some_iff.1 hs).1
 obtain ⟨bs,cp,rfl,hbs,hbsl,hcap,hcm,ff,cc⟩:=hG.G.log.shape (by omega)
 obtain ⟨a0,a1,a2,a3,a4⟩:=cc k s hs
 obtain ⟨xs,hx⟩:=hG.G.log.rcs k s hs
 obtain ⟨ra,rcap,hrv⟩:=ownsRow_len hx
 exact logCount_any gb 7 m.length cp bs k s.s.cnt rcap ra w hk' hG.tcell.2.1 (by rw [a4,hrv])
def bufV (cnt:Nat) (at_ b:Int):Int:=if b<dif cnt at_ then b else dif cnt at_
set_option maxRecDepth 100000 in
set_option maxHeartbeats 2000000 in
theorem gFetch_no {w:World} {ρ:Nat→Nat} {gb:Nat} {C:Cfg} {now:Rest} {sv:Value} {m:List Cs} {g cap:Nat} {ls:List Le} {P:List Pl} (h:GS w ρ gb C now sv m g cap ls P) (i:Nat) (hi:i<now.n) (k:Nat) (hk:k<m.length) (p:Pl) (hp:P[i*16+k]?=some p) (hh:p.held=false) :
 Calls Tryz.prog 20 #[.pointer (some ⟨gb,0,none⟩),.int .i64 i,.int .i64 k] w fun e w'=>e=.returned (.tuple #[.int .i64 0,.int .i64 13])∧GSP w ρ gb C now sv m g cap ls P w':=by
 have H1:=hide (findHold_any h i hi k hk p hp)
 rw [hh] at H1
 simp only [Bool.false_eq_true,if_false] at H1
 clear h
 go_enter Tryz.func20,Tryz.ntmps20
 go_wp2_with fail
 refine (uh H1).mono ?_
 rintro e w1 ⟨rfl,q1⟩
 have Q1:=hide (q1.alloc (w1:=w1) (.cells #[.int .i64 0,.int .i64 0,.int .i64 0,.int .i64 0] 102))
 clear q1
 go_wp2
 go_ret2
 exact ⟨rfl,uh Q1⟩
set_option maxRecDepth 100000 in
set_option maxHeartbeats 2000000 in
theorem gFetch_yes {w:World} {ρ:Nat→Nat} {gb:Nat} {C:Cfg} {now:Rest} {sv:Value} {m:List Cs} {g cap:Nat} {ls:List Le} {P:List Pl} (h:GS w ρ gb C now sv m g cap ls P) (i:Nat) (hi:i<now.n) (k:Nat) (hk:k<m.length) (p:Pl) (hp:P[i*16+k]?=some p) (hh:p.held=true) (hsh:p.h.sh=k) (s:Cs) (hs:m[k]?=some s) :
 Calls Tryz.prog 20 #[.pointer (some ⟨gb,0,none⟩),.int .i64 i,.int .i64 k] w fun e w'=>e=.returned (.tuple #[.int .i64 (bufV s.s.cnt p.h.at_ C.b),.int .i64 0])∧GSP w ρ gb C now sv m g cap ls (P.set (i*16+k) { p with held:=true,h:=⟨k,p.h.ep,p.h.at_,bufV s.s.cnt p.h.at_ C.b⟩ }) w':=by
 have h16:m.length≤16:=GrpL.le h
 have k16:k<16:=by omega
 have H1:=hide (findHold_any h i hi k hk p hp)
 rw [hh,hsh] at H1
 simp only [if_true] at H1
 have H2:Hid (∀W,GS W ρ gb C now sv m g cap ls P→Calls Tryz.prog 40 #[.pointer (some ⟨gb,7,none⟩),.int .i64 k] W fun e w'=>e=.returned (.int .i64 s.s.cnt)∧W=w'):=fun W hW=>gCount_any hW k s hs
 have H3:Hid (∀W,GS W ρ gb C now sv m g cap ls P→∀bf:Int,Calls Tryz.prog 41 #[.pointer (some ⟨g,i*128,none⟩),.agg #[.int .i64 k,.int .i64 p.h.ep,.int .i64 p.h.at_,.int .i64 bf]] W fun e w'=>e=.returned (.tuple #[])∧GSP W ρ gb C now sv m g cap ls (P.set (i*16+k) { p with held:=true,h:=⟨k,p.h.ep,p.h.at_,bf⟩ }) w'):=fun W hW bf=>gKeep_any (now:=now.up ls P) hW i k k16 p hp p.h.ep p.h.at_ bf
 have H4:Hid (∀W,GS W ρ gb C now sv m g cap ls P→W.cell? ⟨gb,2,none⟩=some (.int .i64 C.b)):=fun W hW=>(GrpL.tcell hW).2.2.2
 have HFit:=hide h.fits
 have wd:IntKind.i64.wrap ((s.s.cnt:Int) - p.h.at_)=dif s.s.cnt p.h.at_:=rfl
 clear h hp hs
 go_enter Tryz.func20,Tryz.ntmps20
 go_wp2_with fail
 refine (uh H1).mono ?_
 rintro e w1 ⟨rfl,q1⟩
 have Q1:=hide (q1.alloc (w1:=w1) (.cells #[.int .i64 k,.int .i64 p.h.ep,.int .i64 p.h.at_,.int .i64 p.h.bf] 102))
 have hsz:=q1.2.size
 clear q1
 go_wp2_with fail
 obtain ⟨t0,t1,t2,t3,f0,f1,f2,f3⟩:=four_cells (heap_alloc_new w1 (.cells #[.int .i64 k,.int .i64 p.h.ep,.int .i64 p.h.at_,.int .i64 p.h.bf] 102))
 have HN:=hide (heap_alloc_new w1 (.cells #[.int .i64 k,.int .i64 p.h.ep,.int .i64 p.h.at_,.int .i64 p.h.bf] 102))
 generalize w1.alloc (.cells #[.int .i64 k,.int .i64 p.h.ep,.int .i64 p.h.at_,.int .i64 p.h.bf] 102)=V at *
 have QD:=hide ((uh Q1).trans ((uh Q1).1.below (Below.refl _ _).drew))
 have HC:=hide (uh H2 _ (uh QD).1)
 have hoff:∀u,(V.setCell ⟨w1.heap.size,3,none⟩ u).drew.cell? ⟨w1.heap.size,2,none⟩=some (.int .i64 p.h.at_):=fun u=>cell_of (heap_setCell_same (i:=3) (uh HN) u) 2
 go_region_held3 (fun w'=>w'.cell? ⟨w1.heap.size,2,none⟩=some (.int .i64 p.h.at_)) (first | go_keep | exact hoff _ | (simp only [hoff])) ((go_at_call 40;refine (uh HC).mono ?_;rintro e w2 ⟨rfl,rfl⟩))
 have N1:=heap_setCell_same (i:=3) (uh HN) (.int .i64 (dif (s.s.cnt:Int) p.h.at_))
 have Q2:=hide ((uh Q1).setNew (uh HFit) (b:=w1.heap.size) (i:=3) hsz (.int .i64 (dif (s.s.cnt:Int) p.h.at_)))
 have Q3:=hide ((uh Q2).trans ((uh Q2).1.below (Below.refl _ _).drew))
 have N2:(V.setCell ⟨w1.heap.size,3,none⟩ (.int .i64 (dif (s.s.cnt:Int) p.h.at_))).drew.heap[w1.heap.size]?=some (.cells #[.int .i64 k,.int .i64 p.h.ep,.int .i64 p.h.at_,.int .i64 (dif (s.s.cnt:Int) p.h.at_)] 102 (0,0)):=N1
 have HU:Hid (bufV s.s.cnt p.h.at_ C.b=if C.b<dif (s.s.cnt:Int) p.h.at_ then C.b else dif (s.s.cnt:Int) p.h.at_):=rfl
 clear N1 Q2 HN t0 t1 t2 t3 f0 f1 f2 f3 hoff HC QD
 generalize dif (s.s.cnt:Int) p.h.at_=d at *
 generalize (V.setCell ⟨w1.heap.size,3,none⟩ (.int .i64 d)).drew=U at *
 obtain ⟨t0,t1,t2,t3,f0,f1,f2,f3⟩:=four_cells N2
 have c2:=uh H4 _ (uh Q3).1
 have HN:=hide N2
 clear N2 wd
 by_cases hbd:C.b<d
 ·have hbe:Hid (bufV s.s.cnt p.h.at_ C.b=C.b):=by unfold Hid;rw [uh HU,if_pos hbd]
  go_wp2_with fail
  go_region_held3 (fun w'=>w'.cell? ⟨w1.heap.size,3,none⟩=some (.int .i64 d)∧w'.cell? ⟨gb,2,none⟩=some (.int .i64 C.b)) (first | go_keep | trivial) (fail)
  have NE:U.drew.heap[w1.heap.size]?=some (.cells #[.int .i64 k,.int .i64 p.h.ep,.int .i64 p.h.at_,.int .i64 d] 102 (0,0)):=uh HN
  have QE:=hide ((uh Q3).trans ((uh Q3).1.below (Below.refl _ _).drew))
  clear t0 t1 t2 t3 f0 f1 f2 f3 c2 HN Q3
  generalize U.drew=U1 at *
  obtain ⟨t0,t1,t2,t3,f0,f1,f2,f3⟩:=four_cells NE
  have c2:=uh H4 _ (uh QE).1
  have HNE:=hide NE
  clear NE
  go_wp2_with fail
  have NK:(U1.setCell ⟨w1.heap.size,3,none⟩ (.int .i64 C.b)).heap[w1.heap.size]?=some (.cells #[.int .i64 k,.int .i64 p.h.ep,.int .i64 p.h.at_,.int .i64 C.b] 102 (0,0)):=heap_setCell_same (i:=3) (uh HNE) (.int .i64 C.b)
  have QK:=hide ((uh QE).setNew (uh HFit) (b:=w1.heap.size) (i:=3) hsz (.int .i64 C.b))
  generalize U1.setCell ⟨w1.heap.size,3,none⟩ (.int .i64 C.b)=U2 at *
  clear t0 t1 t2 t3 f0 f1 f2 f3
  have hz:¬mine ρ w1.heap.size:=by unfold mine;rw [uh HFit _ hsz];omega
  have HC:=hide (uh H3 _ (uh QK).1 C.b)
  have hltk:=lt_of_heap NK
  refine (uh HC).mono ?_
  rintro e w3 ⟨rfl,q3⟩
  have c3:w3.cell? ⟨w1.heap.size,3,none⟩=some (.int .i64 C.b):=(q3.2.cell (p:=⟨w1.heap.size,3,none⟩) hltk hz).trans (cell_of NK 3)
  have QF:=hide ((uh QK).trans q3)
  clear q3
  go_wp2
  go_ret2
  rw [uh hbe]
  exact ⟨rfl,uh QF⟩
 ·have hbe:Hid (bufV s.s.cnt p.h.at_ C.b=d):=by unfold Hid;rw [uh HU,if_neg hbd]
  go_wp2_with fail
  go_region_held3 (fun w'=>w'.cell? ⟨w1.heap.size,3,none⟩=some (.int .i64 d)∧w'.cell? ⟨gb,2,none⟩=some (.int .i64 C.b)) (first | go_keep | trivial) (fail)
  have NE:U.drew.heap[w1.heap.size]?=some (.cells #[.int .i64 k,.int .i64 p.h.ep,.int .i64 p.h.at_,.int .i64 d] 102 (0,0)):=uh HN
  have QE:=hide ((uh Q3).trans ((uh Q3).1.below (Below.refl _ _).drew))
  clear t0 t1 t2 t3 f0 f1 f2 f3 c2 HN Q3
  generalize U.drew=U1 at *
  obtain ⟨t0,t1,t2,t3,f0,f1,f2,f3⟩:=four_cells NE
  have c2:=uh H4 _ (uh QE).1
  have HNE:=hide NE
  clear NE
  go_wp2_with fail
  have NK:=uh HNE
  have QK:=QE
  clear t0 t1 t2 t3 f0 f1 f2 f3
  have hz:¬mine ρ w1.heap.size:=by unfold mine;rw [uh HFit _ hsz];omega
  have HC:=hide (uh H3 _ (uh QK).1 d)
  have hltk:=lt_of_heap NK
  refine (uh HC).mono ?_
  rintro e w3 ⟨rfl,q3⟩
  have c3:w3.cell? ⟨w1.heap.size,3,none⟩=some (.int .i64 d):=(q3.2.cell (p:=⟨w1.heap.size,3,none⟩) hltk hz).trans (cell_of NK 3)
  have QF:=hide ((uh QK).trans q3)
  clear q3
  go_wp2
  go_ret2
  rw [uh hbe]
  exact ⟨rfl,uh QF⟩
set_option maxRecDepth 100000 in
set_option maxHeartbeats 2000000 in
theorem hear_no {w:World} {ρ:Nat→Nat} {gb:Nat} {C:Cfg} {now:Rest} {sv:Value} {m:List Cs} {g cap:Nat} {ls:List Le} {P:List Pl} (h:GS w ρ gb C now sv m g cap ls P) (i k:Nat) (k16:k<16) (p:Pl) (hp:P[i*16+k]?=some p) (ep at_ bf:Int) :
 Calls Tryz.prog 45 #[.pointer (some ⟨g,i*128,none⟩),.agg #[.int .i64 k,.int .i64 ep,.int .i64 at_,.int .i64 bf],.bool false] w fun e w'=>e=.returned (.tuple #[])∧GSP w ρ gb C now sv m g cap ls (P.set (i*16+k) (dropped p)) w':=by
 have H3:Hid (∀W,GS W ρ gb C now sv m g cap ls P→Calls Tryz.prog 82 #[.pointer (some ⟨g,i*128,none⟩),.int .i64 k] W fun e w'=>e=.returned (.tuple #[])∧GSP W ρ gb C now sv m g cap ls (P.set (i*16+k) (dropped p)) w'):=fun W hW=>gDrop_any (now:=now.up ls P) hW i k k16 p hp
 have Q1:=hide (h.alloc (.cells #[.int .i64 k,.int .i64 ep,.int .i64 at_,.int .i64 bf] 102))
 clear h hp
 go_enter Tryz.func45,Tryz.ntmps45
 go_wp2_with fail
 refine (uh H3 _ (uh Q1).1).mono ?_
 rintro e w3 ⟨rfl,q3⟩
 have QF:=hide ((uh Q1).trans q3)
 clear q3
 go_wp2
 refine bodyPost_ret (v:=.tuple #[]) ?_ rfl ⟨rfl,uh QF⟩
 simp [results,Tryz.results45,go_sem]
set_option maxRecDepth 100000 in
set_option maxHeartbeats 2000000 in
theorem hear_yes {w:World} {ρ:Nat→Nat} {gb:Nat} {C:Cfg} {now:Rest} {sv:Value} {m:List Cs} {g cap:Nat} {ls:List Le} {P:List Pl} (h:GS w ρ gb C now sv m g cap ls P) (i k:Nat) (k16:k<16) (p:Pl) (hp:P[i*16+k]?=some p) (ep at_ bf:Int) :
 Calls Tryz.prog 45 #[.pointer (some ⟨g,i*128,none⟩),.agg #[.int .i64 k,.int .i64 ep,.int .i64 at_,.int .i64 bf],.bool true] w fun e w'=>e=.returned (.tuple #[])∧GSP w ρ gb C now sv m g cap ls (P.set (i*16+k) { p with held:=true,h:=⟨k,ep,plus at_ bf,0⟩ }) w':=by
 have H3:Hid (∀W,GS W ρ gb C now sv m g cap ls P→∀a:Int,Calls Tryz.prog 41 #[.pointer (some ⟨g,i*128,none⟩),.agg #[.int .i64 k,.int .i64 ep,.int .i64 a,.int .i64 0]] W fun e w'=>e=.returned (.tuple #[])∧GSP W ρ gb C now sv m g cap ls (P.set (i*16+k) { p with held:=true,h:=⟨k,ep,a,0⟩ }) w'):=fun W hW a=>gKeep_any (now:=now.up ls P) hW i k k16 p hp ep a 0
 have Q1:=hide (h.alloc (.cells #[.int .i64 k,.int .i64 ep,.int .i64 (plus at_ bf),.int .i64 0] 102))
 have HFit:=hide h.fits
 have wp:IntKind.i64.wrap (at_+bf)=plus at_ bf:=rfl
 clear h hp
 go_enter Tryz.func45,Tryz.ntmps45
 go_wp2_with fail
 refine (uh H3 _ (uh Q1).1 _).mono ?_
 rintro e w3 ⟨rfl,q3⟩
 have QF:=hide ((uh Q1).trans q3)
 clear q3
 go_wp2
 go_end0
 exact ⟨rfl,uh QF⟩
set_option maxRecDepth 100000 in
set_option maxHeartbeats 2000000 in
theorem gCommit_no {w:World} {ρ:Nat→Nat} {gb:Nat} {C:Cfg} {now:Rest} {sv:Value} {m:List Cs} {g cap:Nat} {ls:List Le} {P:List Pl} (h:GS w ρ gb C now sv m g cap ls P) (i:Nat) (hi:i<now.n) (k:Nat) (hk:k<m.length) (p:Pl) (hp:P[i*16+k]?=some p) (hh:p.held=false) (lost:Bool) :
 Calls Tryz.prog 22 #[.pointer (some ⟨gb,0,none⟩),.int .i64 i,.int .i64 k,.bool lost] w fun e w'=>e=.returned (.int .i64 13)∧GSP w ρ gb C now sv m g cap ls P w':=by
 have H1:=hide (findHold_any h i hi k hk p hp)
 rw [hh] at H1
 simp only [Bool.false_eq_true,if_false] at H1
 clear h
 go_enter Tryz.func22,Tryz.ntmps22
 go_wp2_with fail
 refine (uh H1).mono ?_
 rintro e w1 ⟨rfl,q1⟩
 have Q1:=hide (q1.alloc (w1:=w1) (.cells #[.int .i64 0,.int .i64 0,.int .i64 0,.int .i64 0] 102))
 clear q1
 go_wp2
 go_ret
 exact ⟨rfl,uh Q1⟩
set_option maxRecDepth 100000 in
set_option maxHeartbeats 2000000 in
theorem gCommit_empty {w:World} {ρ:Nat→Nat} {gb:Nat} {C:Cfg} {now:Rest} {sv:Value} {m:List Cs} {g cap:Nat} {ls:List Le} {P:List Pl} (h:GS w ρ gb C now sv m g cap ls P) (i:Nat) (hi:i<now.n) (k:Nat) (hk:k<m.length) (p:Pl) (hp:P[i*16+k]?=some p) (hh:p.held=true) (hbf:p.h.bf=0) (lost:Bool) :
 Calls Tryz.prog 22 #[.pointer (some ⟨gb,0,none⟩),.int .i64 i,.int .i64 k,.bool lost] w fun e w'=>e=.returned (.int .i64 14)∧GSP w ρ gb C now sv m g cap ls P w':=by
 have H1:=hide (findHold_any h i hi k hk p hp)
 rw [hh,hbf] at H1
 simp only [if_true] at H1
 clear h
 go_enter Tryz.func22,Tryz.ntmps22
 go_wp2_with fail
 refine (uh H1).mono ?_
 rintro e w1 ⟨rfl,q1⟩
 have Q1:=hide (q1.alloc (w1:=w1) (.cells #[.int .i64 p.h.sh,.int .i64 p.h.ep,.int .i64 p.h.at_,.int .i64 0] 102))
 clear q1
 go_wp2
 go_ret
 exact ⟨rfl,uh Q1⟩
def heardP (f:Bool) (i k:Nat) (p:Pl) (P:List Pl):List Pl:=if f=true then P.set (i*16+k) { p with held:=true,h:=⟨k,p.h.ep,plus p.h.at_ p.h.bf,0⟩ } else P.set (i*16+k) (dropped p)
def commitV (f:Bool):Int:=if f=true then 0 else 15
theorem hear_any {w:World} {ρ:Nat→Nat} {gb:Nat} {C:Cfg} {now:Rest} {sv:Value} {m:List Cs} {g cap:Nat} {ls:List Le} {P:List Pl} (h:GS w ρ gb C now sv m g cap ls P) (i k:Nat) (k16:k<16) (p:Pl) (hp:P[i*16+k]?=some p) (f:Bool) :
 Calls Tryz.prog 45 #[.pointer (some ⟨g,i*128,none⟩),.agg #[.int .i64 k,.int .i64 p.h.ep,.int .i64 p.h.at_,.int .i64 p.h.bf],.bool f] w fun e w'=>e=.returned (.tuple #[])∧GSP w ρ gb C now sv m g cap ls (heardP f i k p P) w':=by
 cases f
 ·exact hear_no h i k k16 p hp _ _ _
 ·exact hear_yes h i k k16 p hp _ _ _
set_option maxRecDepth 100000 in
set_option maxHeartbeats 2000000 in
theorem gCommit_any {w:World} {ρ:Nat→Nat} {gb:Nat} {C:Cfg} {now:Rest} {sv:Value} {m:List Cs} {g cap:Nat} {ls:List Le} {P:List Pl} (h:GS w ρ gb C now sv m g cap ls P) (i:Nat) (hi:i<now.n) (k:Nat) (hk:k<m.length) (p:Pl) (hp:P[i*16+k]?=some p) (hh:p.held=true) (hsh:p.h.sh=k) (hbf:¬p.h.bf=0) (lost:Bool) :
 Calls Tryz.prog 22 #[.pointer (some ⟨gb,0,none⟩),.int .i64 i,.int .i64 k,.bool lost] w fun e w'=>e=.returned (.int .i64 (commitV (folds now.dn k p.h.ep p.h.at_)))∧GSP w ρ gb C (now.fold k p.h.ep p.h.at_ p.h.bf) sv m g cap ls (if lost=true then P else heardP (folds now.dn k p.h.ep p.h.at_) i k p P) w':=by
 have h16:m.length≤16:=GrpL.le h
 have k16:k<16:=by omega
 have H1:=hide (findHold_any h i hi k hk p hp)
 rw [hh,hsh] at H1
 simp only [if_true] at H1
 have H2:Hid (∀W,GS W ρ gb C now sv m g cap ls P→Calls Tryz.prog 44 #[.pointer (some ⟨gb,8,none⟩),.agg #[.int .i64 k,.int .i64 p.h.ep,.int .i64 p.h.at_,.int .i64 p.h.bf]] W fun r w'=>r=.returned (.bool (folds now.dn k p.h.ep p.h.at_))∧GSP W ρ gb C (now.fold k p.h.ep p.h.at_ p.h.bf) sv m g cap ls P w'):=fun W hW=>gsCommit_any hW k k16 _ _ _
 have H3:Hid (∀W now' f,GS W ρ gb C now' sv m g cap ls P→Calls Tryz.prog 45 #[.pointer (some ⟨g,i*128,none⟩),.agg #[.int .i64 k,.int .i64 p.h.ep,.int .i64 p.h.at_,.int .i64 p.h.bf],.bool f] W fun e w'=>e=.returned (.tuple #[])∧GSP W ρ gb C now' sv m g cap ls (heardP f i k p P) w'):=fun W now' f hW=>hear_any hW i k k16 p hp f
 have HFit:=hide h.fits
 generalize folds now.dn k p.h.ep p.h.at_=fo at *
 generalize now.fold k p.h.ep p.h.at_ p.h.bf=now2 at *
 clear h hp
 go_enter Tryz.func22,Tryz.ntmps22
 go_wp2_with fail
 refine (uh H1).mono ?_
 rintro e w1 ⟨rfl,q1⟩
 have hsz:=q1.2.size
 have hN:=heap_alloc_new w1 (.cells #[.int .i64 k,.int .i64 p.h.ep,.int .i64 p.h.at_,.int .i64 p.h.bf] 102)
 have Q1:=hide (q1.alloc (w1:=w1) (.cells #[.int .i64 k,.int .i64 p.h.ep,.int .i64 p.h.at_,.int .i64 p.h.bf] 102))
 clear q1
 go_wp2_with fail
 obtain ⟨t0,t1,t2,t3,f0,f1,f2,f3⟩:=four_cells hN
 have hz:Hid (¬mine ρ w1.heap.size):=by unfold Hid mine;rw [uh HFit _ hsz];omega
 have hlt:=hide (lt_of_heap hN)
 have HN:=hide hN
 generalize w1.alloc (.cells #[.int .i64 k,.int .i64 p.h.ep,.int .i64 p.h.at_,.int .i64 p.h.bf] 102)=V at *
 have QD:=hide ((uh Q1).trans ((uh Q1).1.below (Below.refl _ _).drew))
 have HC:=hide (uh H2 _ (uh QD).1)
 clear hN
 go_region_held3 (fun w'=>w'.cell? ⟨w1.heap.size,0,none⟩=some (.int .i64 k)∧w'.cell? ⟨w1.heap.size,1,none⟩=some (.int .i64 p.h.ep)∧w'.cell? ⟨w1.heap.size,2,none⟩=some (.int .i64 p.h.at_)∧w'.cell? ⟨w1.heap.size,3,none⟩=some (.int .i64 p.h.bf)) (first | go_keep | trivial) ((go_at_call 44;refine (uh HC).mono ?_;rintro e w2 ⟨rfl,q2⟩;have n2:=(q2.2.block _ (uh hlt) (uh hz)).trans (uh HN);obtain ⟨u0,u1,u2,u3,_⟩:=four_cells n2))
 have Q2:=hide ((uh QD).transN q2)
 clear q2 n2
 cases lost
 ·go_wp2_with fail
  refine (uh H3 _ _ _ (uh Q2).1).mono ?_
  rintro e w3 ⟨rfl,q3⟩
  have Q3:=hide ((uh Q2).trans q3)
  clear q3
  cases fo
  ·go_wp2
   go_ret
   exact ⟨rfl,uh Q3⟩
  ·go_wp2
   go_ret
   exact ⟨rfl,uh Q3⟩
 ·cases fo
  ·go_wp2
   go_ret
   exact ⟨rfl,uh Q2⟩
  ·go_wp2
   go_ret
   exact ⟨rfl,uh Q2⟩
end Go.Proofs.YtpnkmnmchdabkaaGreat
