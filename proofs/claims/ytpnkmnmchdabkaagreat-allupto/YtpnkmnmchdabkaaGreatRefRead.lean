import Derived.Test.YtpnkmnmchdabkaaGreatRefWin
import Derived.Test.YtpnkmnmchdabkaaGreatSumI
import Derived.Test.YtpnkmnmchdabkaaGreatM25
import Derived.Deep.CutRange
namespace Go.Proofs.YtpnkmnmchdabkaaGreat
open Go.RowKit
attribute [local go_sem ↓] Go.wp_at_zero Go.wp_at_succ
def rdSu (x:Su):Array Value:=#[.int .i64 x.c,.int .i64 0,.int .i64 x.mn,.int .i64 x.mx,.int .i64 x.f,.int .i64 x.l,.int .i64 x.lt,.bool x.o]
def RdW (w:World) (fb pb:Nat) (e:En) (cs:Array Value) (wc:World):Prop :=
 wc.heap[w.heap.size+1]?=some (.cells cs 93 (0,0))∧wc.heap[w.heap.size]?=some (.cells #[.int .i64 0,.int .i64 0,.int .i64 0,.int .i64 0,.int .i64 0,.int .i64 0,.int .i64 0,.bool false] 93 (0,0))∧wc.heap[fb]?=some (.cells #[.int .i64 e.shard,.int .i64 e.place] 124 (0,0))∧wc.heap[pb]?=some (.cells #[.int .i64 e.shard,.string e.key,.int .i64 e.value,.int .i64 e.time] 144 (0,0))∧Below w.heap.size w wc
theorem RdW.set {w:World} {fb pb:Nat} {e:En} {cs cs':Array Value} {wc:World} (h:RdW w fb pb e cs wc) (hf:fb≠w.heap.size+1) (hp:pb≠w.heap.size+1) (i:Nat) (v:Value) (he:cs.setIfInBounds i v=cs'):RdW w fb pb e cs' (wc.setCell ⟨w.heap.size+1,i,none⟩ v):=by
 obtain ⟨a,b,c,d,g⟩:=h
 refine ⟨by rw [heap_setCell_same a,he],by rw [Below.heap_setCell _ _ _ _ (show w.heap.size≠w.heap.size+1 by omega)];exact b,by rw [Below.heap_setCell _ _ _ _ hf];exact c,by rw [Below.heap_setCell _ _ _ _ hp];exact d,below_set (Nat.le_succ _) g i v⟩
theorem RdW.drewN {w:World} {fb pb:Nat} {e:En} {cs:Array Value} {wc:World} (h:RdW w fb pb e cs wc) (q:Nat):RdW w fb pb e cs (wc.drewN q):=by
 obtain ⟨a,b,c,d,g⟩:=h
 exact ⟨a,b,c,d,⟨g.os,g.tape,g.output,g.size,g.block⟩⟩
theorem RdW.below {w:World} {fb pb:Nat} {e:En} {cs:Array Value} {wc w3:World} (h:RdW w fb pb e cs wc) (hb:Below wc.heap.size wc w3):RdW w fb pb e cs w3:=by
 obtain ⟨a,b,c,d,g⟩:=h
 exact ⟨(hb.block _ (lt_of_heap a)).trans a,(hb.block _ (lt_of_heap b)).trans b,(hb.block _ (lt_of_heap c)).trans c,(hb.block _ (lt_of_heap d)).trans d,g.trans (hb.mono g.size)⟩
theorem RdW.eq {w:World} {fb pb:Nat} {e:En} {cs cs':Array Value} {wc:World} (h:RdW w fb pb e cs wc) (he:cs=cs'):RdW w fb pb e cs' wc:=he ▸ h
set_option maxRecDepth 100000 in
set_option maxHeartbeats 1000000 in
theorem refRead_no {w:World} (yb:Nat) (s:ByteArray) (st:Int) (hs:s.size≤maxLen) (hk:keyB s=false) :
 Calls Tryz.prog 27 #[.pointer (some ⟨yb,0,none⟩),.string s,.int .i64 st] w fun e w'=>e=.returned (.tuple #[suV su0,.int .i64 2])∧Below w.heap.size w w':=by
 have HK:=fun W=>hide (refIsKey_any s W hs)
 rw [hk] at HK
 have N1:((w.alloc (.cells #[.int .i64 0,.int .i64 0,.int .i64 0,.int .i64 0,.int .i64 0,.int .i64 0,.int .i64 0,.bool false] 93)).alloc (.cells #[.int .i64 0,.int .i64 0,.int .i64 0,.int .i64 0,.int .i64 0,.int .i64 0,.int .i64 0,.bool false] 93)).heap[w.heap.size]?=some (.cells #[.int .i64 0,.int .i64 0,.int .i64 0,.int .i64 0,.int .i64 0,.int .i64 0,.int .i64 0,.bool false] 93 (0,0)):=by rw [Below.heap_alloc _ _ _ (by simp)];exact heap_alloc_new w _
 have N2:((w.alloc (.cells #[.int .i64 0,.int .i64 0,.int .i64 0,.int .i64 0,.int .i64 0,.int .i64 0,.int .i64 0,.bool false] 93)).alloc (.cells #[.int .i64 0,.int .i64 0,.int .i64 0,.int .i64 0,.int .i64 0,.int .i64 0,.int .i64 0,.bool false] 93)).heap[w.heap.size+1]?=some (.cells #[.int .i64 0,.int .i64 0,.int .i64 0,.int .i64 0,.int .i64 0,.int .i64 0,.int .i64 0,.bool false] 93 (0,0)):=new_two w _ _
 have B1:Below w.heap.size w ((w.alloc (.cells #[.int .i64 0,.int .i64 0,.int .i64 0,.int .i64 0,.int .i64 0,.int .i64 0,.int .i64 0,.bool false] 93)).alloc (.cells #[.int .i64 0,.int .i64 0,.int .i64 0,.int .i64 0,.int .i64 0,.int .i64 0,.int .i64 0,.bool false] 93)):=((Below.refl _ w).alloc (Nat.le_refl _) _).alloc (by simp) _
 have hsz:((w.alloc (.cells #[.int .i64 0,.int .i64 0,.int .i64 0,.int .i64 0,.int .i64 0,.int .i64 0,.int .i64 0,.bool false] 93)).alloc (.cells #[.int .i64 0,.int .i64 0,.int .i64 0,.int .i64 0,.int .i64 0,.int .i64 0,.int .i64 0,.bool false] 93)).heap.size=w.heap.size+2:=by simp
 rw [suV_zero]
 clear hk hs
 go_enter Tryz.func27,Tryz.ntmps27
 go_wp2_with fail
 generalize ((w.alloc (.cells #[.int .i64 0,.int .i64 0,.int .i64 0,.int .i64 0,.int .i64 0,.int .i64 0,.int .i64 0,.bool false] 93)).alloc (.cells #[.int .i64 0,.int .i64 0,.int .i64 0,.int .i64 0,.int .i64 0,.int .i64 0,.int .i64 0,.bool false] 93))=V at *
 refine (uh (HK _)).mono ?_
 rintro e w1 ⟨rfl,rfl⟩
 have y0:=cell_of N1 0
 have z0:=frozen_of N1 0
 have y1:=cell_of N1 1
 have z1:=frozen_of N1 1
 have y2:=cell_of N1 2
 have z2:=frozen_of N1 2
 have y3:=cell_of N1 3
 have z3:=frozen_of N1 3
 have y4:=cell_of N1 4
 have z4:=frozen_of N1 4
 have y5:=cell_of N1 5
 have z5:=frozen_of N1 5
 have y6:=cell_of N1 6
 have z6:=frozen_of N1 6
 have y7:=cell_of N1 7
 have z7:=frozen_of N1 7
 simp only [List.getElem?_toArray,List.getElem?_cons_zero,List.getElem?_cons_succ] at y0 y1 y2 y3 y4 y5 y6 y7
 have p0:=cell_of N2 0
 have q0:=frozen_of N2 0
 have p1:=cell_of N2 1
 have q1:=frozen_of N2 1
 have p2:=cell_of N2 2
 have q2:=frozen_of N2 2
 have p3:=cell_of N2 3
 have q3:=frozen_of N2 3
 have p4:=cell_of N2 4
 have q4:=frozen_of N2 4
 have p5:=cell_of N2 5
 have q5:=frozen_of N2 5
 have p6:=cell_of N2 6
 have q6:=frozen_of N2 6
 have p7:=cell_of N2 7
 have q7:=frozen_of N2 7
 simp only [List.getElem?_toArray,List.getElem?_cons_zero,List.getElem?_cons_succ] at p0 p1 p2 p3 p4 p5 p6 p7
 have S8:=hide (set8_new (o0:=.int .i64 0) (o1:=.int .i64 0) (o2:=.int .i64 0) (o3:=.int .i64 0) (o4:=.int .i64 0) (o5:=.int .i64 0) (o6:=.int .i64 0) (o7:=.bool false) B1 (Nat.le_refl _) N1)
 clear B1 N1 N2
 go_wp2
 obtain ⟨hx,hB⟩:=uh S8
 have x0:=cell_of hx 0
 have x1:=cell_of hx 1
 have x2:=cell_of hx 2
 have x3:=cell_of hx 3
 have x4:=cell_of hx 4
 have x5:=cell_of hx 5
 have x6:=cell_of hx 6
 have x7:=cell_of hx 7
 simp only [List.getElem?_toArray,List.getElem?_cons_zero,List.getElem?_cons_succ] at x0 x1 x2 x3 x4 x5 x6 x7
 refine bodyPost_ret (v:=.tuple #[.agg #[.int .i64 0,.int .i64 0,.int .i64 0,.int .i64 0,.int .i64 0,.int .i64 0,.int .i64 0,.bool false],.int .i64 2]) ?_ rfl ⟨rfl,hB⟩
 simp [results,Tryz.results27,go_sem,x0,x1,x2,x3,x4,x5,x6,x7]
set_option maxRecDepth 100000 in
set_option maxHeartbeats 1000000 in
theorem refRead_win {w:World} {ρ:Nat→Nat} {yb:Nat} {C:Cfg} {time:Int} {rs:List Rf} {P:List Pt} {wv:Wks} {fv sv lv:Value} (h:RefAt w ρ yb C time rs P wv fv sv lv) (s:ByteArray) (st:Int) (hs:s.size≤maxLen) (hk:keyB s=true) (hC:1≤C.s∧C.s≤100) (hb:¬(0≤st∧st % C.s=0)) :
 Calls Tryz.prog 27 #[.pointer (some ⟨yb,0,none⟩),.string s,.int .i64 st] w fun e w'=>e=.returned (.tuple #[suV su0,.int .i64 16])∧Below w.heap.size w w':=by
 have HK:=fun W=>hide (refIsKey_any s W hs)
 rw [hk] at HK
 have N1:((w.alloc (.cells #[.int .i64 0,.int .i64 0,.int .i64 0,.int .i64 0,.int .i64 0,.int .i64 0,.int .i64 0,.bool false] 93)).alloc (.cells #[.int .i64 0,.int .i64 0,.int .i64 0,.int .i64 0,.int .i64 0,.int .i64 0,.int .i64 0,.bool false] 93)).heap[w.heap.size]?=some (.cells #[.int .i64 0,.int .i64 0,.int .i64 0,.int .i64 0,.int .i64 0,.int .i64 0,.int .i64 0,.bool false] 93 (0,0)):=by rw [Below.heap_alloc _ _ _ (by simp)];exact heap_alloc_new w _
 have N2:((w.alloc (.cells #[.int .i64 0,.int .i64 0,.int .i64 0,.int .i64 0,.int .i64 0,.int .i64 0,.int .i64 0,.bool false] 93)).alloc (.cells #[.int .i64 0,.int .i64 0,.int .i64 0,.int .i64 0,.int .i64 0,.int .i64 0,.int .i64 0,.bool false] 93)).heap[w.heap.size+1]?=some (.cells #[.int .i64 0,.int .i64 0,.int .i64 0,.int .i64 0,.int .i64 0,.int .i64 0,.int .i64 0,.bool false] 93 (0,0)):=new_two w _ _
 have B1:Below w.heap.size w ((w.alloc (.cells #[.int .i64 0,.int .i64 0,.int .i64 0,.int .i64 0,.int .i64 0,.int .i64 0,.int .i64 0,.bool false] 93)).alloc (.cells #[.int .i64 0,.int .i64 0,.int .i64 0,.int .i64 0,.int .i64 0,.int .i64 0,.int .i64 0,.bool false] 93)):=((Below.refl _ w).alloc (Nat.le_refl _) _).alloc (by simp) _
 have k4:((w.alloc (.cells #[.int .i64 0,.int .i64 0,.int .i64 0,.int .i64 0,.int .i64 0,.int .i64 0,.int .i64 0,.bool false] 93)).alloc (.cells #[.int .i64 0,.int .i64 0,.int .i64 0,.int .i64 0,.int .i64 0,.int .i64 0,.int .i64 0,.bool false] 93)).cell? ⟨yb,4,none⟩=some (.int .i64 C.s):=(B1.cell (p:=⟨yb,4,none⟩) (lt_of_heap h.blk)).trans (cell_of h.blk 4)
 have hsz0:¬C.s=0:=by omega
 rw [suV_zero]
 clear hk hs h
 go_enter Tryz.func27,Tryz.ntmps27
 go_wp2_with fail
 generalize ((w.alloc (.cells #[.int .i64 0,.int .i64 0,.int .i64 0,.int .i64 0,.int .i64 0,.int .i64 0,.int .i64 0,.bool false] 93)).alloc (.cells #[.int .i64 0,.int .i64 0,.int .i64 0,.int .i64 0,.int .i64 0,.int .i64 0,.int .i64 0,.bool false] 93))=V at *
 refine (uh (HK _)).mono ?_
 rintro e w1 ⟨rfl,rfl⟩
 have y0:=cell_of N1 0
 have z0:=frozen_of N1 0
 have y1:=cell_of N1 1
 have z1:=frozen_of N1 1
 have y2:=cell_of N1 2
 have z2:=frozen_of N1 2
 have y3:=cell_of N1 3
 have z3:=frozen_of N1 3
 have y4:=cell_of N1 4
 have z4:=frozen_of N1 4
 have y5:=cell_of N1 5
 have z5:=frozen_of N1 5
 have y6:=cell_of N1 6
 have z6:=frozen_of N1 6
 have y7:=cell_of N1 7
 have z7:=frozen_of N1 7
 simp only [List.getElem?_toArray,List.getElem?_cons_zero,List.getElem?_cons_succ] at y0 y1 y2 y3 y4 y5 y6 y7
 have p0:=cell_of N2 0
 have q0:=frozen_of N2 0
 have p1:=cell_of N2 1
 have q1:=frozen_of N2 1
 have p2:=cell_of N2 2
 have q2:=frozen_of N2 2
 have p3:=cell_of N2 3
 have q3:=frozen_of N2 3
 have p4:=cell_of N2 4
 have q4:=frozen_of N2 4
 have p5:=cell_of N2 5
 have q5:=frozen_of N2 5
 have p6:=cell_of N2 6
 have q6:=frozen_of N2 6
 have p7:=cell_of N2 7
 have q7:=frozen_of N2 7
 simp only [List.getElem?_toArray,List.getElem?_cons_zero,List.getElem?_cons_succ] at p0 p1 p2 p3 p4 p5 p6 p7
 have S8:=hide (set8_new (o0:=.int .i64 0) (o1:=.int .i64 0) (o2:=.int .i64 0) (o3:=.int .i64 0) (o4:=.int .i64 0) (o5:=.int .i64 0) (o6:=.int .i64 0) (o7:=.bool false) B1 (Nat.le_refl _) N1)
 clear B1 N1 N2
 by_cases h0:st<0
 ·go_wp2
  obtain ⟨hx,hB⟩:=uh S8
  have x0:=cell_of hx 0
  have x1:=cell_of hx 1
  have x2:=cell_of hx 2
  have x3:=cell_of hx 3
  have x4:=cell_of hx 4
  have x5:=cell_of hx 5
  have x6:=cell_of hx 6
  have x7:=cell_of hx 7
  simp only [List.getElem?_toArray,List.getElem?_cons_zero,List.getElem?_cons_succ] at x0 x1 x2 x3 x4 x5 x6 x7
  refine bodyPost_ret (v:=.tuple #[.agg #[.int .i64 0,.int .i64 0,.int .i64 0,.int .i64 0,.int .i64 0,.int .i64 0,.int .i64 0,.bool false],.int .i64 16]) ?_ rfl ⟨rfl,hB⟩
  simp [results,Tryz.results27,go_sem,x0,x1,x2,x3,x4,x5,x6,x7]
 ·have hm:¬st % C.s=0:=fun e=>hb ⟨by omega,e⟩
  have hm1:=Int.emod_nonneg st hsz0
  have hm2:=Int.emod_lt_of_pos st (show 0<C.s by omega)
  have hrem2:st.tmod C.s=st % C.s:=Int.tmod_eq_emod_of_nonneg (by omega)
  have hrem3:IntKind.i64.wrap (st % C.s)=st % C.s:=by rw [IntKind.wrap_i64];omega
  have hne:(st % C.s != 0)=true:=by rw [bne_iff_ne];exact hm
  clear hb
  go_wp2
  obtain ⟨hx,hB⟩:=uh S8
  have x0:=cell_of hx 0
  have x1:=cell_of hx 1
  have x2:=cell_of hx 2
  have x3:=cell_of hx 3
  have x4:=cell_of hx 4
  have x5:=cell_of hx 5
  have x6:=cell_of hx 6
  have x7:=cell_of hx 7
  simp only [List.getElem?_toArray,List.getElem?_cons_zero,List.getElem?_cons_succ] at x0 x1 x2 x3 x4 x5 x6 x7
  refine bodyPost_ret (v:=.tuple #[.agg #[.int .i64 0,.int .i64 0,.int .i64 0,.int .i64 0,.int .i64 0,.int .i64 0,.int .i64 0,.bool false],.int .i64 16]) ?_ rfl ⟨rfl,hB⟩
  simp [results,Tryz.results27,go_sem,x0,x1,x2,x3,x4,x5,x6,x7]
def rQ (C:Cfg) (st:Int) (l:List Sh) (d:Nat→Nat) (F:List En) (key:ByteArray) (j:Nat):Su:=rdOf C st (((F.take j).filter (fun e=>decide (e.key=key))).map (enFd l d))
theorem rQ_next {C:Cfg} {st:Int} {l:List Sh} {d:Nat→Nat} {F:List En} {key:ByteArray} {j:Nat} {e:En} (h:F[j]?=some e):rQ C st l d F key (j+1)=if e.key=key then (if holdsW C.n st e.time=true then addS (rQ C st l d F key j) e.value (decide (e.time+C.t<ahd l d e.shard e.place)) else rQ C st l d F key j) else rQ C st l d F key j:=by
 obtain ⟨h1,rfl⟩:=List.getElem?_eq_some_iff.1 h
 unfold rQ
 rw [List.take_succ_eq_append_getElem h1,List.filter_append,List.map_append]
 by_cases hk:F[j].key=key
 ·rw [if_pos hk]
  unfold rdOf
  rw [List.foldl_append]
  simp only [hk,decide_true,List.filter_cons_of_pos,List.filter_nil,List.map_cons,List.map_nil,List.foldl_cons,List.foldl_nil]
  rfl
 ·rw [if_neg hk]
  simp [hk]
set_option maxRecDepth 100000 in
set_option maxHeartbeats 4000000 in
theorem refRead_any {w:World} {ρ:Nat→Nat} {yb:Nat} {C:Cfg} {time:Int} {rs:List Rf} {P:List Pt} {wv:Wks} {fv sv lv:Value} (h:RefAt w ρ yb C time rs P wv fv sv lv) (hP:P.length≤1000000) {l:List Sh} (hl9:absR rs P=l) (hI:Inv l) {d:Nat→Nat} (hd:∀(k:Nat) (r:Rf),rs[k]?=some r→r.done=(d k:Int)) (hd32:∀k,d k≤32) (F:List En) (hF:F.map enFo=wv.fo) (hl:F.length≤1000) (hR:∀e ∈ F,(ofShard P e.shard)[e.place]?=some (enPt e)∧(0≤e.time∧e.time≤1000000)∧(-1000000≤e.value∧e.value≤1000000)∧e.shard<rs.length∧e.place≤1000) (s:ByteArray) (hs:s.size≤maxLen) (hk:keyB s=true) (st:Int) (hst:0≤st∧st % C.s=0) (hC:(1≤C.s∧C.s≤100)∧(1≤C.n∧C.n≤100)∧(0≤C.t∧C.t≤100)) :
 Calls Tryz.prog 27 #[.pointer (some ⟨yb,0,none⟩),.string s,.int .i64 st] w fun e w'=>e=.returned (.tuple #[suV (rQ C st l d F s F.length),.int .i64 0])∧Below w.heap.size w w':=by
 have HK:=fun W=>hide (refIsKey_any s W hs)
 rw [hk] at HK
 have hyb:=lt_of_heap h.blk
 obtain ⟨fa,fc,hfv,hfc⟩:=h.foldsAt
 have hFl:wv.fo.length=F.length:=by rw [←hF];simp
 rw [hFl] at hfv
 have HFc:Hid (∀W,Below w.heap.size w W→∀(j:Nat) (e:En),F[j]?=some e→∃fb,fa=some ⟨fb,0,none⟩∧W.cell? ⟨fb,j*2,none⟩=some (.int .i64 e.shard)∧W.cell? ⟨fb,j*2+1,none⟩=some (.int .i64 e.place)):=fun W hW j e hj=>by
  obtain ⟨fb,e1,e2,e3,e4⟩:=hfc j (enFo e) (by rw [←hF,List.getElem?_map,hj];rfl)
  exact ⟨fb,e1,(hW.cell (p:=⟨fb,j*2,none⟩) e2).trans e3,(hW.cell (p:=⟨fb,j*2+1,none⟩) e2).trans e4⟩
 have HYc:Hid (∀W,Below w.heap.size w W→W.cell? ⟨yb,3,none⟩=some (.int .i64 C.n)∧W.cell? ⟨yb,4,none⟩=some (.int .i64 C.s)∧W.cell? ⟨yb,5,none⟩=some (.int .i64 C.t)∧W.cell? ⟨yb,10,none⟩=some (.slice fa F.length fc)):=fun W hW =>
  ⟨(hW.cell (p:=⟨yb,3,none⟩) hyb).trans (cell_of h.blk 3),(hW.cell (p:=⟨yb,4,none⟩) hyb).trans (cell_of h.blk 4),(hW.cell (p:=⟨yb,5,none⟩) hyb).trans (cell_of h.blk 5),(hW.cell (p:=⟨yb,10,none⟩) hyb).trans (by rw [←hfv];exact cell_of h.blk 10)⟩
 have HRec:Hid (∀W,Below w.heap.size w W→∀k:Nat,Calls Tryz.prog 43 #[.pointer (some ⟨yb,0,none⟩),.int .i64 k] W fun e w'=>∃a cap,e=.returned (.slice a (ofShard P k).length cap)∧w'.ownsRow W.heap.size 144 4 (.slice a (ofShard P k).length cap) (ofShard P k).length (rowPt (ofShard P k))∧Below W.heap.size W w'):=fun W hW k =>
  records_any (h.keeps (Keeps.of_below hW) (fun _ hk=>Or.inr hk) (ρ':=ρ) (fun _ _=>rfl)) hP k
 have HBe:Hid (∀(e:En) (W:World),e ∈ F→Below w.heap.size w W→Calls Tryz.prog 50 #[.pointer (some ⟨yb,0,none⟩),.int .i64 e.shard,.int .i64 e.place] W fun e9 w'=>e9=.returned (.int .i64 (ahd l d e.shard e.place))∧Below W.heap.size W w'):=fun e W he hW=>by
  have:=refBefore_any (ρ:=ρ) (yb:=yb) (by rw [hl9];exact hI) hP hd hd32 e.shard (hR e he).2.2.2.1 e.place W (hR e he).2.2.2.2 (h.keeps (Keeps.of_below hW) (fun _ hk=>Or.inr hk) (fun _ _=>rfl))
  rw [hl9] at this
  exact this
 have HR:=hide hR
 have HQs:Hid (∀(j:Nat) (e:En),F[j]?=some e→rQ C st l d F s (j+1)=if e.key=s then (if holdsW C.n st e.time=true then addS (rQ C st l d F s j) e.value (decide (e.time+C.t<ahd l d e.shard e.place)) else rQ C st l d F s j) else rQ C st l d F s j):=fun j e hj=>rQ_next hj
 have HQ0:Hid (rQ C st l d F s 0=su0):=by unfold Hid rQ;simp [rdOf]
 generalize rQ C st l d F s=Q at *
 have hsz0:¬C.s=0:=by omega
 have hrem:IntKind.i64.wrap (st.tmod C.s)=0:=by rw [Int.tmod_eq_emod_of_nonneg hst.1,hst.2];rfl
 have hrem2:st.tmod C.s=0:=by rw [Int.tmod_eq_emod_of_nonneg hst.1,hst.2]
 have hst0:=hst.1
 have HI0:Hid (((w.alloc (.cells #[.int .i64 0,.int .i64 0,.int .i64 0,.int .i64 0,.int .i64 0,.int .i64 0,.int .i64 0,.bool false] 93)).alloc (.cells #[.int .i64 0,.int .i64 0,.int .i64 0,.int .i64 0,.int .i64 0,.int .i64 0,.int .i64 0,.bool false] 93)).heap[w.heap.size+1]?=some (.cells (rdSu (Q 0)) 93 (0,0))∧((w.alloc (.cells #[.int .i64 0,.int .i64 0,.int .i64 0,.int .i64 0,.int .i64 0,.int .i64 0,.int .i64 0,.bool false] 93)).alloc (.cells #[.int .i64 0,.int .i64 0,.int .i64 0,.int .i64 0,.int .i64 0,.int .i64 0,.int .i64 0,.bool false] 93)).heap[w.heap.size]?=some (.cells #[.int .i64 0,.int .i64 0,.int .i64 0,.int .i64 0,.int .i64 0,.int .i64 0,.int .i64 0,.bool false] 93 (0,0))∧Below w.heap.size w ((w.alloc (.cells #[.int .i64 0,.int .i64 0,.int .i64 0,.int .i64 0,.int .i64 0,.int .i64 0,.int .i64 0,.bool false] 93)).alloc (.cells #[.int .i64 0,.int .i64 0,.int .i64 0,.int .i64 0,.int .i64 0,.int .i64 0,.int .i64 0,.bool false] 93))):=by
  refine ⟨?_,?_,((Below.refl _ w).alloc (Nat.le_refl _) _).alloc (by simp) _⟩
  ·rw [uh HQ0];exact new_two w _ _
  ·rw [Below.heap_alloc _ _ _ (by simp)];exact heap_alloc_new w _
 clear h hfc hF hR hk hfv hFl hl9 hI hd hd32 hst hs
 unfold suV
 go_enter Tryz.func27,Tryz.ntmps27
 go_wp2_with fail
 generalize ((w.alloc (.cells #[.int .i64 0,.int .i64 0,.int .i64 0,.int .i64 0,.int .i64 0,.int .i64 0,.int .i64 0,.bool false] 93)).alloc (.cells #[.int .i64 0,.int .i64 0,.int .i64 0,.int .i64 0,.int .i64 0,.int .i64 0,.int .i64 0,.bool false] 93))=V0 at *
 refine (uh (HK _)).mono ?_
 rintro e w1 ⟨rfl,rfl⟩
 obtain ⟨k3,k4,k5,k10⟩:=uh HYc _ (uh HI0).2.2
 go_wp2
 go_loopw [10,11] (fun t i wr=>∃(j:Nat) (T:Int),j≤F.length∧i=.int .i64 j∧t=.int .i64 T∧SumI j (Q j) T∧wr.heap[w.heap.size+1]?=some (.cells (rdSu (Q j)) 93 (0,0))∧wr.heap[w.heap.size]?=some (.cells #[.int .i64 0,.int .i64 0,.int .i64 0,.int .i64 0,.int .i64 0,.int .i64 0,.int .i64 0,.bool false] 93 (0,0))∧Below w.heap.size w wr) (fun _ i _=>F.length - (intOf i).toNat)
 case atStart=>exact ⟨0,0,Nat.zero_le _,rfl,rfl,by rw [uh HQ0];exact SumI.zero,(uh HI0).1,(uh HI0).2.1,(uh HI0).2.2⟩
 case round =>
  obtain ⟨j,T,hj,rfl,rfl,hS,hb,hr,hB⟩:=hrel
  clear k3 k4 k5 k10 HI0
  obtain ⟨k3,k4,k5,k10⟩:=uh HYc wr hB
  by_cases hlt:j<F.length
  ·obtain ⟨e,he⟩:∃e,F[j]?=some e:=⟨F[j],List.getElem?_eq_getElem hlt⟩
   obtain ⟨fb,rfl,f0,f1⟩:=uh HFc wr hB j e he
   obtain ⟨hrc,⟨t1,t2⟩,⟨v1,v2⟩,_,_⟩:=uh HR e (List.mem_of_getElem? he)
   have HQj:=hide (uh HQs j e he)
   have CB:Hid (∀W,Below w.heap.size w W→Calls Tryz.prog 50 #[.pointer (some ⟨yb,0,none⟩),.int .i64 e.shard,.int .i64 e.place] W fun e9 w'=>e9=.returned (.int .i64 (ahd l d e.shard e.place))∧Below W.heap.size W w'):=fun W hW=>uh HBe e W (List.mem_of_getElem? he) hW
   have hbl:=lt_of_heap hb
   have hrl:=lt_of_heap hr
   have HRc:=hide hrc
   have hsum:=hide (hS.add (by omega) e.value)
   have HS:=hide hS
   obtain ⟨hxc0,hxc1⟩:=hS.c
   obtain ⟨hxl0,hxl1⟩:=hS.lt
   obtain ⟨hT0,hT1⟩:=hS.t
   have HB:=hide hB
   have HSb:=hide hb
   have HRb:=hide hr
   clear hB he hS hb hr hrc
   generalize hx:Q j=x at *
   clear hx
   go_wp2_with fail
   have A1:Hid (Below w.heap.size w (wr.alloc (.cells #[.int .i64 e.shard,.int .i64 e.place] 124))):=(uh HB).alloc (uh HB).size _
   have N1:=heap_alloc_new wr (.cells #[.int .i64 e.shard,.int .i64 e.place] 124)
   have z1:(wr.alloc (.cells #[.int .i64 e.shard,.int .i64 e.place] 124)).heap.size=wr.heap.size+1:=by simp
   have S1:=(Below.heap_alloc wr (.cells #[.int .i64 e.shard,.int .i64 e.place] 124) (w.heap.size+1) hbl).trans (uh HSb)
   have R1:=(Below.heap_alloc wr (.cells #[.int .i64 e.shard,.int .i64 e.place] 124) w.heap.size hrl).trans (uh HRb)
   generalize wr.alloc (.cells #[.int .i64 e.shard,.int .i64 e.place] 124)=W1 at *
   refine (uh HRec W1 (uh A1) e.shard).mono ?_
   rintro e9 w3 ⟨ra,rcp,rfl,hrow,hb3⟩
   obtain ⟨pb,rfl,hpb,hpc⟩:=recs_cell hrow (uh HRc)
   have p0:w3.cell? ⟨pb,e.place*4,none⟩=some (.int .i64 e.shard):=hpc 0 (by omega)
   have p1:w3.cell? ⟨pb,e.place*4+1,none⟩=some (.string e.key):=hpc 1 (by omega)
   have p2:w3.cell? ⟨pb,e.place*4+2,none⟩=some (.int .i64 e.value):=hpc 2 (by omega)
   have p3:w3.cell? ⟨pb,e.place*4+3,none⟩=some (.int .i64 e.time):=hpc 3 (by omega)
   have hpl:e.place<(ofShard P e.shard).length:=(List.getElem?_eq_some_iff.1 (uh HRc)).1
   have M1:=(hb3.block _ (lt_of_heap N1)).trans N1
   have S3:=(hb3.block _ (lt_of_heap S1)).trans S1
   have R3:=(hb3.block _ (lt_of_heap R1)).trans R1
   have g1:w3.cell? ⟨wr.heap.size,1,none⟩=some (.int .i64 e.place):=cell_of M1 1
   have B3:=(uh A1).trans (hb3.mono (uh A1).size)
   have hz3:=hb3.size
   have RD:Hid (RdW w wr.heap.size w3.heap.size e (rdSu x) (w3.alloc (.cells #[.int .i64 e.shard,.string e.key,.int .i64 e.value,.int .i64 e.time] 144))) :=
    ⟨(Below.heap_alloc _ _ _ (lt_of_heap S3)).trans S3,(Below.heap_alloc _ _ _ (lt_of_heap R3)).trans R3,(Below.heap_alloc _ _ _ (lt_of_heap M1)).trans M1,heap_alloc_new w3 _,B3.alloc B3.size _⟩
   have hple:(ofShard P e.shard).length≤1000000:=by have:=ofShard_le P e.shard;omega
   have hnf:wr.heap.size≠w.heap.size+1:=by omega
   have hnp:w3.heap.size≠w.heap.size+1:=by omega
   generalize (ofShard P e.shard).length=rn at *
   clear hrow hb3 hpc M1 N1 A1 HB HRc k3 k4 k5 k10 f0 f1 z1 S1 R1 S3 R3 B3 HSb HRb hz3 hbl hrl
   go_wp2_with fail
   generalize w3.alloc (.cells #[.int .i64 e.shard,.string e.key,.int .i64 e.value,.int .i64 e.time] 144)=V at *
   clear p0 p1 p2 p3 g1
   have q1:V.cell? ⟨w3.heap.size,1,none⟩=some (.string e.key):=cell_of (uh RD).2.2.2.1 1
   have q3:V.cell? ⟨w3.heap.size,3,none⟩=some (.int .i64 e.time):=cell_of (uh RD).2.2.2.1 3
   obtain ⟨k3,k4,k5,k10⟩:=uh HYc V (uh RD).2.2.2.2
   by_cases hke:e.key=s
   ·have hn3:(e.key.toList == s.toList)=true:=by simp [hke]
    by_cases h1:e.time<st
    ·have HH:Hid (Q (j+1)=x):=by unfold Hid;rw [uh HQj,if_pos hke,if_neg (by unfold holdsW;simp;omega)]
     clear hke HQj
     go_quiet (fail)
     have HW:=hide ((uh RD).drewN nq)
     clear RD q1 q3 k3 k4 k5 k10
     generalize V.drewN nq=V2 at *
     go_wp2
     go_roundw
     case rel=>exact ⟨j+1,T,by omega,by go_num,rfl,by rw [uh HH];exact (uh HS).same,by rw [uh HH];exact (uh HW).1,(uh HW).2.1,(uh HW).2.2.2.2⟩
     case measure=>simp [intOf];omega
    ·by_cases h2:C.n≤e.time - st
     ·have HH:Hid (Q (j+1)=x):=by unfold Hid;rw [uh HQj,if_pos hke,if_neg (by unfold holdsW;simp;omega)]
      have hw2:IntKind.i64.wrap (e.time - st)=e.time - st:=by rw [IntKind.wrap_i64];omega
      clear hke HQj
      go_quiet (fail)
      have HW:=hide ((uh RD).drewN nq)
      clear RD q1 q3 k3 k4 k5 k10
      generalize V.drewN nq=V2 at *
      go_wp2
      go_roundw
      case rel=>exact ⟨j+1,T,by omega,by go_num,rfl,by rw [uh HH];exact (uh HS).same,by rw [uh HH];exact (uh HW).1,(uh HW).2.1,(uh HW).2.2.2.2⟩
      case measure=>simp [intOf];omega
     ·have HH:Hid (Q (j+1)=addS x e.value (decide (e.time+C.t<ahd l d e.shard e.place))):=by unfold Hid;rw [uh HQj,if_pos hke,if_pos (by unfold holdsW;simp;omega)]
      have hw2:IntKind.i64.wrap (e.time - st)=e.time - st:=by rw [IntKind.wrap_i64];omega
      clear hke HQj
      go_quiet (fail)
      have HW:=hide ((uh RD).drewN nq)
      clear RD q1 q3 k3 k4 k5 k10
      generalize V.drewN nq=V2 at *
      have RW:=(uh HW).eq (show rdSu x=#[.int .i64 x.c,.int .i64 0,.int .i64 x.mn,.int .i64 x.mx,.int .i64 x.f,.int .i64 x.l,.int .i64 x.lt,.bool x.o] from rfl)
      clear HW
      have HW:=hide RW
      clear RW
      generalize hvv:e.value=v at *
      have HVV:=hide hvv
      have u0:V2.cell? ⟨w3.heap.size,2,none⟩=some (.int .i64 v):=by rw [←hvv];exact cell_of (uh HW).2.2.2.1 2
      clear hvv
      have s0:V2.cell? ⟨w.heap.size+1,0,none⟩=some (.int .i64 x.c):=cell_of (uh HW).1 0
      have g0:=frozen_of (uh HW).1 0
      have s1:V2.cell? ⟨w.heap.size+1,1,none⟩=some (.int .i64 0):=cell_of (uh HW).1 1
      have g1:=frozen_of (uh HW).1 1
      have s2:V2.cell? ⟨w.heap.size+1,2,none⟩=some (.int .i64 x.mn):=cell_of (uh HW).1 2
      have g2:=frozen_of (uh HW).1 2
      have s3:V2.cell? ⟨w.heap.size+1,3,none⟩=some (.int .i64 x.mx):=cell_of (uh HW).1 3
      have g3:=frozen_of (uh HW).1 3
      have s4:V2.cell? ⟨w.heap.size+1,4,none⟩=some (.int .i64 x.f):=cell_of (uh HW).1 4
      have g4:=frozen_of (uh HW).1 4
      have s5:V2.cell? ⟨w.heap.size+1,5,none⟩=some (.int .i64 x.l):=cell_of (uh HW).1 5
      have g5:=frozen_of (uh HW).1 5
      have s6:V2.cell? ⟨w.heap.size+1,6,none⟩=some (.int .i64 x.lt):=cell_of (uh HW).1 6
      have g6:=frozen_of (uh HW).1 6
      have s7:V2.cell? ⟨w.heap.size+1,7,none⟩=some (.bool x.o):=cell_of (uh HW).1 7
      have g7:=frozen_of (uh HW).1 7
      go_upto_region 15 with fail
      go_cut [90] from 34 to 154 (fun sl wc=>sl=.bool (decide (x.c=0∨v<x.mn))∧RdW w wr.heap.size w3.heap.size e #[.int .i64 x.c,.int .i64 0,.int .i64 x.mn,.int .i64 x.mx,.int .i64 x.f,.int .i64 x.l,.int .i64 x.lt,.bool x.o] wc)
      case first =>
       by_cases hc0:x.c=0
       ·have d3:(x.c == 0)=true:=by simpa using hc0
        have D:Hid (decide (x.c=0∨v<x.mn)=true):=by unfold Hid;simp [hc0]
        rw [hc0] at s0
        clear hc0 d3
        go_wp2
        go_meet
        case rel=>exact ⟨by rw [uh D],uh HW⟩
       ·have d3:(x.c == 0)=false:=by simpa using hc0
        have D:Hid (decide (x.c=0∨v<x.mn)=decide (v<x.mn)):=by unfold Hid;simp [hc0]
        go_wp2
        go_meet
        case rel=>exact ⟨by rw [uh D],uh HW⟩
      case rest =>
       obtain ⟨rfl,hW⟩:=hcut
       have HX90:=hide hW
       clear hW u0 s0 g0 s1 g1 s2 g2 s3 g3 s4 g4 s5 g5 s6 g6 s7 g7 HW
       generalize wc=wc90 at *
       have u0:wc90.cell? ⟨w3.heap.size,2,none⟩=some (.int .i64 v):=by rw [←uh HVV];exact cell_of (uh HX90).2.2.2.1 2
       have s0:wc90.cell? ⟨w.heap.size+1,0,none⟩=some (.int .i64 x.c):=cell_of (uh HX90).1 0
       have g0:=frozen_of (uh HX90).1 0
       have s1:wc90.cell? ⟨w.heap.size+1,1,none⟩=some (.int .i64 0):=cell_of (uh HX90).1 1
       have g1:=frozen_of (uh HX90).1 1
       have s2:wc90.cell? ⟨w.heap.size+1,2,none⟩=some (.int .i64 x.mn):=cell_of (uh HX90).1 2
       have g2:=frozen_of (uh HX90).1 2
       have s3:wc90.cell? ⟨w.heap.size+1,3,none⟩=some (.int .i64 x.mx):=cell_of (uh HX90).1 3
       have g3:=frozen_of (uh HX90).1 3
       have s4:wc90.cell? ⟨w.heap.size+1,4,none⟩=some (.int .i64 x.f):=cell_of (uh HX90).1 4
       have g4:=frozen_of (uh HX90).1 4
       have s5:wc90.cell? ⟨w.heap.size+1,5,none⟩=some (.int .i64 x.l):=cell_of (uh HX90).1 5
       have g5:=frozen_of (uh HX90).1 5
       have s6:wc90.cell? ⟨w.heap.size+1,6,none⟩=some (.int .i64 x.lt):=cell_of (uh HX90).1 6
       have g6:=frozen_of (uh HX90).1 6
       have s7:wc90.cell? ⟨w.heap.size+1,7,none⟩=some (.bool x.o):=cell_of (uh HX90).1 7
       have g7:=frozen_of (uh HX90).1 7
       generalize hB1:decide (x.c=0∨v<x.mn)=b1 at *
       have HB1:=hide hB1
       clear hB1
       go_upto_if 90 with fail
       go_cut [] from 34 to 154 (fun wd=>RdW w wr.heap.size w3.heap.size e #[.int .i64 x.c,.int .i64 0,.int .i64 (if x.c=0∨v<x.mn then v else x.mn),.int .i64 x.mx,.int .i64 x.f,.int .i64 x.l,.int .i64 x.lt,.bool x.o] wd)
       case first =>
        cases b1
        ·have hb1:=hide (of_decide_eq_false (uh HB1))
         go_wp2
         go_meet
         case rel=>exact (uh HX90).eq (by rw [if_neg (uh hb1)])
        ·have hb1:=hide (of_decide_eq_true (uh HB1))
         have HZ:=hide ((uh HX90).set hnf hnp 2 (.int .i64 v) (show _=#[.int .i64 x.c,.int .i64 0,.int .i64 (if x.c=0∨v<x.mn then v else x.mn),.int .i64 x.mx,.int .i64 x.f,.int .i64 x.l,.int .i64 x.lt,.bool x.o] by rw [if_pos (uh hb1)];rfl))
         go_wp2
         go_meet
         case rel=>exact uh HZ
       case rest =>
        have HY90:=hide hcut
        clear hcut u0 s0 g0 s1 g1 s2 g2 s3 g3 s4 g4 s5 g5 s6 g6 s7 g7 HX90 HB1 b1
        generalize wc=we90 at *
        have u0:we90.cell? ⟨w3.heap.size,2,none⟩=some (.int .i64 v):=by rw [←uh HVV];exact cell_of (uh HY90).2.2.2.1 2
        have s0:we90.cell? ⟨w.heap.size+1,0,none⟩=some (.int .i64 x.c):=cell_of (uh HY90).1 0
        have g0:=frozen_of (uh HY90).1 0
        have s1:we90.cell? ⟨w.heap.size+1,1,none⟩=some (.int .i64 0):=cell_of (uh HY90).1 1
        have g1:=frozen_of (uh HY90).1 1
        have s2:we90.cell? ⟨w.heap.size+1,2,none⟩=some (.int .i64 (if x.c=0∨v<x.mn then v else x.mn)):=cell_of (uh HY90).1 2
        have g2:=frozen_of (uh HY90).1 2
        have s3:we90.cell? ⟨w.heap.size+1,3,none⟩=some (.int .i64 x.mx):=cell_of (uh HY90).1 3
        have g3:=frozen_of (uh HY90).1 3
        have s4:we90.cell? ⟨w.heap.size+1,4,none⟩=some (.int .i64 x.f):=cell_of (uh HY90).1 4
        have g4:=frozen_of (uh HY90).1 4
        have s5:we90.cell? ⟨w.heap.size+1,5,none⟩=some (.int .i64 x.l):=cell_of (uh HY90).1 5
        have g5:=frozen_of (uh HY90).1 5
        have s6:we90.cell? ⟨w.heap.size+1,6,none⟩=some (.int .i64 x.lt):=cell_of (uh HY90).1 6
        have g6:=frozen_of (uh HY90).1 6
        have s7:we90.cell? ⟨w.heap.size+1,7,none⟩=some (.bool x.o):=cell_of (uh HY90).1 7
        have g7:=frozen_of (uh HY90).1 7
        go_upto_region 17 with fail
        go_cut [103] from 34 to 154 (fun sl wc=>sl=.bool (decide (x.c=0∨x.mx<v))∧RdW w wr.heap.size w3.heap.size e #[.int .i64 x.c,.int .i64 0,.int .i64 (if x.c=0∨v<x.mn then v else x.mn),.int .i64 x.mx,.int .i64 x.f,.int .i64 x.l,.int .i64 x.lt,.bool x.o] wc)
        case first =>
         by_cases hc0:x.c=0
         ·have d3:(x.c == 0)=true:=by simpa using hc0
          have D:Hid (decide (x.c=0∨x.mx<v)=true):=by unfold Hid;simp [hc0]
          rw [hc0] at s0
          clear hc0 d3
          go_wp2
          go_meet
          case rel=>exact ⟨by rw [uh D],uh HY90⟩
         ·have d3:(x.c == 0)=false:=by simpa using hc0
          have D:Hid (decide (x.c=0∨x.mx<v)=decide (x.mx<v)):=by unfold Hid;simp [hc0]
          go_wp2
          go_meet
          case rel=>exact ⟨by rw [uh D],uh HY90⟩
        case rest =>
         obtain ⟨rfl,hW⟩:=hcut
         have HX103:=hide hW
         clear hW u0 s0 g0 s1 g1 s2 g2 s3 g3 s4 g4 s5 g5 s6 g6 s7 g7 HY90
         generalize wc=wc103 at *
         have u0:wc103.cell? ⟨w3.heap.size,2,none⟩=some (.int .i64 v):=by rw [←uh HVV];exact cell_of (uh HX103).2.2.2.1 2
         have s0:wc103.cell? ⟨w.heap.size+1,0,none⟩=some (.int .i64 x.c):=cell_of (uh HX103).1 0
         have g0:=frozen_of (uh HX103).1 0
         have s1:wc103.cell? ⟨w.heap.size+1,1,none⟩=some (.int .i64 0):=cell_of (uh HX103).1 1
         have g1:=frozen_of (uh HX103).1 1
         have s2:wc103.cell? ⟨w.heap.size+1,2,none⟩=some (.int .i64 (if x.c=0∨v<x.mn then v else x.mn)):=cell_of (uh HX103).1 2
         have g2:=frozen_of (uh HX103).1 2
         have s3:wc103.cell? ⟨w.heap.size+1,3,none⟩=some (.int .i64 x.mx):=cell_of (uh HX103).1 3
         have g3:=frozen_of (uh HX103).1 3
         have s4:wc103.cell? ⟨w.heap.size+1,4,none⟩=some (.int .i64 x.f):=cell_of (uh HX103).1 4
         have g4:=frozen_of (uh HX103).1 4
         have s5:wc103.cell? ⟨w.heap.size+1,5,none⟩=some (.int .i64 x.l):=cell_of (uh HX103).1 5
         have g5:=frozen_of (uh HX103).1 5
         have s6:wc103.cell? ⟨w.heap.size+1,6,none⟩=some (.int .i64 x.lt):=cell_of (uh HX103).1 6
         have g6:=frozen_of (uh HX103).1 6
         have s7:wc103.cell? ⟨w.heap.size+1,7,none⟩=some (.bool x.o):=cell_of (uh HX103).1 7
         have g7:=frozen_of (uh HX103).1 7
         generalize hB1:decide (x.c=0∨x.mx<v)=b1 at *
         have HB1:=hide hB1
         clear hB1
         go_upto_if 103 with fail
         go_cut [] from 34 to 154 (fun wd=>RdW w wr.heap.size w3.heap.size e #[.int .i64 x.c,.int .i64 0,.int .i64 (if x.c=0∨v<x.mn then v else x.mn),.int .i64 (if x.c=0∨x.mx<v then v else x.mx),.int .i64 x.f,.int .i64 x.l,.int .i64 x.lt,.bool x.o] wd)
         case first =>
          cases b1
          ·have hb1:=hide (of_decide_eq_false (uh HB1))
           go_wp2
           go_meet
           case rel=>exact (uh HX103).eq (by rw [if_neg (uh hb1)])
          ·have hb1:=hide (of_decide_eq_true (uh HB1))
           have HZ:=hide ((uh HX103).set hnf hnp 3 (.int .i64 v) (show _=#[.int .i64 x.c,.int .i64 0,.int .i64 (if x.c=0∨v<x.mn then v else x.mn),.int .i64 (if x.c=0∨x.mx<v then v else x.mx),.int .i64 x.f,.int .i64 x.l,.int .i64 x.lt,.bool x.o] by rw [if_pos (uh hb1)];rfl))
           go_wp2
           go_meet
           case rel=>exact uh HZ
         case rest =>
          have HY103:=hide hcut
          clear hcut u0 s0 g0 s1 g1 s2 g2 s3 g3 s4 g4 s5 g5 s6 g6 s7 g7 HX103 HB1 b1
          generalize wc=we103 at *
          have u0:we103.cell? ⟨w3.heap.size,2,none⟩=some (.int .i64 v):=by rw [←uh HVV];exact cell_of (uh HY103).2.2.2.1 2
          have s0:we103.cell? ⟨w.heap.size+1,0,none⟩=some (.int .i64 x.c):=cell_of (uh HY103).1 0
          have g0:=frozen_of (uh HY103).1 0
          have s1:we103.cell? ⟨w.heap.size+1,1,none⟩=some (.int .i64 0):=cell_of (uh HY103).1 1
          have g1:=frozen_of (uh HY103).1 1
          have s2:we103.cell? ⟨w.heap.size+1,2,none⟩=some (.int .i64 (if x.c=0∨v<x.mn then v else x.mn)):=cell_of (uh HY103).1 2
          have g2:=frozen_of (uh HY103).1 2
          have s3:we103.cell? ⟨w.heap.size+1,3,none⟩=some (.int .i64 (if x.c=0∨x.mx<v then v else x.mx)):=cell_of (uh HY103).1 3
          have g3:=frozen_of (uh HY103).1 3
          have s4:we103.cell? ⟨w.heap.size+1,4,none⟩=some (.int .i64 x.f):=cell_of (uh HY103).1 4
          have g4:=frozen_of (uh HY103).1 4
          have s5:we103.cell? ⟨w.heap.size+1,5,none⟩=some (.int .i64 x.l):=cell_of (uh HY103).1 5
          have g5:=frozen_of (uh HY103).1 5
          have s6:we103.cell? ⟨w.heap.size+1,6,none⟩=some (.int .i64 x.lt):=cell_of (uh HY103).1 6
          have g6:=frozen_of (uh HY103).1 6
          have s7:we103.cell? ⟨w.heap.size+1,7,none⟩=some (.bool x.o):=cell_of (uh HY103).1 7
          have g7:=frozen_of (uh HY103).1 7
          go_upto_if 109 with fail
          go_cut [] from 34 to 154 (fun wd=>RdW w wr.heap.size w3.heap.size e #[.int .i64 x.c,.int .i64 0,.int .i64 (if x.c=0∨v<x.mn then v else x.mn),.int .i64 (if x.c=0∨x.mx<v then v else x.mx),.int .i64 (if x.c=0 then v else x.f),.int .i64 x.l,.int .i64 x.lt,.bool x.o] wd)
          case first =>
           by_cases hc0:x.c=0
           ·have HC0:=hide hc0
            have HZ:=hide ((uh HY103).set hnf hnp 4 (.int .i64 v) (show _=#[.int .i64 x.c,.int .i64 0,.int .i64 (if x.c=0∨v<x.mn then v else x.mn),.int .i64 (if x.c=0∨x.mx<v then v else x.mx),.int .i64 (if x.c=0 then v else x.f),.int .i64 x.l,.int .i64 x.lt,.bool x.o] by rw [if_pos hc0];rfl))
            have d3:(x.c == 0)=true:=by simpa using hc0
            clear hc0
            go_wp2
            go_meet
            case rel=>exact uh HZ
           ·have d3:(x.c == 0)=false:=by simpa using hc0
            have HC0:=hide hc0
            clear hc0
            go_wp2
            go_meet
            case rel=>exact (uh HY103).eq (by rw [if_neg (uh HC0)])
          case rest =>
           have HG:=hide hcut
           clear hcut u0 s0 g0 s1 g1 s2 g2 s3 g3 s4 g4 s5 g5 s6 g6 s7 g7 HY103
           generalize wc=wg at *
           generalize (if x.c=0∨v<x.mn then v else x.mn)=mn at *
           generalize (if x.c=0∨x.mx<v then v else x.mx)=mx at *
           generalize (if x.c=0 then v else x.f)=fi at *
           have u0:wg.cell? ⟨w3.heap.size,2,none⟩=some (.int .i64 v):=by rw [←uh HVV];exact cell_of (uh HG).2.2.2.1 2
           have t0:wg.cell? ⟨wr.heap.size,0,none⟩=some (.int .i64 e.shard):=cell_of (uh HG).2.2.1 0
           have t9:wg.cell? ⟨wr.heap.size,1,none⟩=some (.int .i64 e.place):=cell_of (uh HG).2.2.1 1
           have s0:wg.cell? ⟨w.heap.size+1,0,none⟩=some (.int .i64 x.c):=cell_of (uh HG).1 0
           have s5:wg.cell? ⟨w.heap.size+1,5,none⟩=some (.int .i64 x.l):=cell_of (uh HG).1 5
           have g0:=frozen_of (uh HG).1 0
           have g5:=frozen_of (uh HG).1 5
           have hwc:IntKind.i64.wrap (x.c+1)=x.c+1:=by rw [IntKind.wrap_i64];omega
           have HG2:=hide (((uh HG).set hnf hnp 5 (.int .i64 v) (show _=#[.int .i64 x.c,.int .i64 0,.int .i64 mn,.int .i64 mx,.int .i64 fi,.int .i64 v,.int .i64 x.lt,.bool x.o] from rfl)).set hnf hnp 0 (.int .i64 (x.c+1)) (show _=#[.int .i64 (x.c+1),.int .i64 0,.int .i64 mn,.int .i64 mx,.int .i64 fi,.int .i64 v,.int .i64 x.lt,.bool x.o] from rfl))
           go_wp2_with fail
           generalize ((wg.setCell ⟨w.heap.size+1,5,none⟩ (.int .i64 v)).setCell ⟨w.heap.size+1,0,none⟩ (.int .i64 (x.c+1)))=wh at *
           refine (uh CB _ (uh HG2).2.2.2.2).mono ?_
           rintro e9 w4 ⟨rfl,hb4⟩
           have HG4:=hide ((uh HG2).below hb4)
           clear hb4 HG HG2 u0 t0 t9 s0 s5 g0 g5
           obtain ⟨_,_,k5,_⟩:=uh HYc _ (uh HG4).2.2.2.2
           have q3:w4.cell? ⟨w3.heap.size,3,none⟩=some (.int .i64 e.time):=cell_of (uh HG4).2.2.2.1 3
           have hwt:IntKind.i64.wrap (e.time+C.t)=e.time+C.t:=by rw [IntKind.wrap_i64];omega
           generalize ahd l d e.shard e.place=ah at *
           go_wp2
           go_quiet (fail)
           have HG5:=hide ((uh HG4).drewN nq)
           clear HG4 k5 q3
           generalize w4.drewN nq=w5 at *
           generalize hla:decide (e.time+C.t<ah)=la at *
           clear hla
           have s6:w5.cell? ⟨w.heap.size+1,6,none⟩=some (.int .i64 x.lt):=cell_of (uh HG5).1 6
           have g6:=frozen_of (uh HG5).1 6
           have hwl:IntKind.i64.wrap (x.lt+1)=x.lt+1:=by rw [IntKind.wrap_i64];omega
           go_upto_if 135 with fail
           go_cut [] from 34 to 154 (fun wd=>RdW w wr.heap.size w3.heap.size e #[.int .i64 (x.c+1),.int .i64 0,.int .i64 mn,.int .i64 mx,.int .i64 fi,.int .i64 v,.int .i64 (if la=true then x.lt+1 else x.lt),.bool x.o] wd)
           case first =>
            cases la
            ·go_wp2
             go_meet
             case rel=>exact uh HG5
            ·have HZ:=hide ((uh HG5).set hnf hnp 6 (.int .i64 (x.lt+1)) (show _=#[.int .i64 (x.c+1),.int .i64 0,.int .i64 mn,.int .i64 mx,.int .i64 fi,.int .i64 v,.int .i64 (x.lt+1),.bool x.o] from rfl))
             go_wp2
             go_meet
             case rel=>exact uh HZ
           case rest =>
            have HG6:=hide hcut
            clear hcut s6 g6 HG5
            generalize wc=w6 at *
            obtain ⟨s9,hadd,hnx⟩:=uh hsum la ⟨v1,v2⟩
            have HH2:Hid (Q (j+1)=⟨x.c+1,s9,mn,mx,fi,v,(if la=true then x.lt+1 else x.lt),ovr x (T+v)⟩):=by unfold Hid;rw [uh HH,hadd]
            have HNX:Hid (SumI (j+1) (Q (j+1)) (T+v)):=by unfold Hid;rw [uh HH];exact hnx
            clear hadd hnx HH hsum
            generalize (if la=true then x.lt+1 else x.lt)=lt at *
            have u0:w6.cell? ⟨w3.heap.size,2,none⟩=some (.int .i64 v):=by rw [←uh HVV];exact cell_of (uh HG6).2.2.2.1 2
            have s7:w6.cell? ⟨w.heap.size+1,7,none⟩=some (.bool x.o):=cell_of (uh HG6).1 7
            have g7:=frozen_of (uh HG6).1 7
            have hov:IntKind.i64.wrap (T+v)=T+v:=by rw [IntKind.wrap_i64];omega
            have HFin:Hid (∀b,ovr x (T+v)=b→(w6.setCell ⟨w.heap.size+1,7,none⟩ (.bool b)).heap[w.heap.size+1]?=some (.cells (rdSu (Q (j+1))) 93 (0,0))∧(w6.setCell ⟨w.heap.size+1,7,none⟩ (.bool b)).heap[w.heap.size]?=some (.cells #[.int .i64 0,.int .i64 0,.int .i64 0,.int .i64 0,.int .i64 0,.int .i64 0,.int .i64 0,.bool false] 93 (0,0))∧Below w.heap.size w (w6.setCell ⟨w.heap.size+1,7,none⟩ (.bool b))):=fun b hbb=>by
             have:=(uh HG6).set hnf hnp 7 (.bool b) (show _=#[.int .i64 (x.c+1),.int .i64 0,.int .i64 mn,.int .i64 mx,.int .i64 fi,.int .i64 v,.int .i64 lt,.bool (ovr x (T+v))] by rw [hbb];rfl)
             refine ⟨?_,this.2.1,this.2.2.2.2⟩
             rw [uh HH2]
             exact this.1
            clear HG6
            cases ho:x.o
            ·rw [ho] at s7
             by_cases ho1:1000000<T+v
             ·have HO:=hide (uh HFin true (by unfold ovr;simp [ho1]))
              have do1:decide (1000000<T+v)=true:=by simpa using ho1
              clear ho
              go_wp2
              go_roundw
              case rel=>exact ⟨j+1,T+v,by omega,by go_num,rfl,uh HNX,(uh HO).1,(uh HO).2.1,(uh HO).2.2⟩
              case measure=>simp [intOf];omega
             ·by_cases ho2:T+v < -1000000
              ·have HO:=hide (uh HFin true (by unfold ovr;simp [ho2]))
               clear ho
               go_wp2
               go_roundw
               case rel=>exact ⟨j+1,T+v,by omega,by go_num,rfl,uh HNX,(uh HO).1,(uh HO).2.1,(uh HO).2.2⟩
               case measure=>simp [intOf];omega
              ·have HO:=hide (uh HFin false (by unfold ovr;simp [ho1,ho2,ho]))
               clear ho
               go_wp2
               go_roundw
               case rel=>exact ⟨j+1,T+v,by omega,by go_num,rfl,uh HNX,(uh HO).1,(uh HO).2.1,(uh HO).2.2⟩
               case measure=>simp [intOf];omega
            ·rw [ho] at s7
             have HO:=hide (uh HFin true (by unfold ovr;simp [ho]))
             clear ho
             go_wp2
             go_roundw
             case rel=>exact ⟨j+1,T+v,by omega,by go_num,rfl,uh HNX,(uh HO).1,(uh HO).2.1,(uh HO).2.2⟩
             case measure=>simp [intOf];omega
   ·have HH:Hid (Q (j+1)=x):=by unfold Hid;rw [uh HQj,if_neg hke]
    have hn3:(e.key.toList == s.toList)=false:=by
     rw [beq_eq_false_iff_ne]
     exact fun hh=>hke (key_of hh)
    clear hke HQj
    go_quiet (fail)
    have HW:=hide ((uh RD).drewN nq)
    clear RD q1 q3 k3 k4 k5 k10
    generalize V.drewN nq=V2 at *
    go_wp2
    go_roundw
    case rel=>exact ⟨j+1,T,by omega,by go_num,rfl,by rw [uh HH];exact (uh HS).same,by rw [uh HH];exact (uh HW).1,(uh HW).2.1,(uh HW).2.2.2.2⟩
    case measure=>simp [intOf];omega
  ·have e:j=F.length:=by omega
   subst e
   have HS:=hide hS
   have hE0:=hS.end
   have HB7:=hide hB
   have l0:wr.cell? ⟨w.heap.size+1,0,none⟩=some (.int .i64 (Q F.length).c):=cell_of hb 0
   have l1:wr.cell? ⟨w.heap.size+1,1,none⟩=some (.int .i64 0):=cell_of hb 1
   have l2:wr.cell? ⟨w.heap.size+1,2,none⟩=some (.int .i64 (Q F.length).mn):=cell_of hb 2
   have l3:wr.cell? ⟨w.heap.size+1,3,none⟩=some (.int .i64 (Q F.length).mx):=cell_of hb 3
   have l4:wr.cell? ⟨w.heap.size+1,4,none⟩=some (.int .i64 (Q F.length).f):=cell_of hb 4
   have l5:wr.cell? ⟨w.heap.size+1,5,none⟩=some (.int .i64 (Q F.length).l):=cell_of hb 5
   have l6:wr.cell? ⟨w.heap.size+1,6,none⟩=some (.int .i64 (Q F.length).lt):=cell_of hb 6
   have l7:wr.cell? ⟨w.heap.size+1,7,none⟩=some (.bool (Q F.length).o):=cell_of hb 7
   have g1:=frozen_of hb 1
   have y0:=cell_of hr 0
   have z0:=frozen_of hr 0
   have y1:=cell_of hr 1
   have z1:=frozen_of hr 1
   have y2:=cell_of hr 2
   have z2:=frozen_of hr 2
   have y3:=cell_of hr 3
   have z3:=frozen_of hr 3
   have y4:=cell_of hr 4
   have z4:=frozen_of hr 4
   have y5:=cell_of hr 5
   have z5:=frozen_of hr 5
   have y6:=cell_of hr 6
   have z6:=frozen_of hr 6
   have y7:=cell_of hr 7
   have z7:=frozen_of hr 7
   simp only [List.getElem?_toArray,List.getElem?_cons_zero,List.getElem?_cons_succ] at y0 y1 y2 y3 y4 y5 y6 y7
   clear HS hS
   cases ho:(Q F.length).o
   ·rw [ho] at l7
    have HS1:Hid ((Q F.length).s=T):=by unfold Hid;rw [hE0,ho];simp
    have HO:=hide ho
    have S8:=hide (set8_new (o0:=.int .i64 (Q F.length).c) (o1:=.int .i64 T) (o2:=.int .i64 (Q F.length).mn) (o3:=.int .i64 (Q F.length).mx) (o4:=.int .i64 (Q F.length).f) (o5:=.int .i64 (Q F.length).l) (o6:=.int .i64 (Q F.length).lt) (o7:=.bool false) (below_set (Nat.le_succ _) hB 1 (.int .i64 T)) (Nat.le_refl _) ((Below.heap_setCell _ _ _ _ (show w.heap.size≠w.heap.size+1 by omega)).trans hr))
    clear hb hr hB hE0 ho
    go_wp2
    obtain ⟨hx,hB⟩:=uh S8
    have x0:=cell_of hx 0
    have x1:=cell_of hx 1
    have x2:=cell_of hx 2
    have x3:=cell_of hx 3
    have x4:=cell_of hx 4
    have x5:=cell_of hx 5
    have x6:=cell_of hx 6
    have x7:=cell_of hx 7
    simp only [List.getElem?_toArray,List.getElem?_cons_zero,List.getElem?_cons_succ] at x0 x1 x2 x3 x4 x5 x6 x7
    refine bodyPost_ret (v:=.tuple #[.agg #[.int .i64 (Q F.length).c,.int .i64 T,.int .i64 (Q F.length).mn,.int .i64 (Q F.length).mx,.int .i64 (Q F.length).f,.int .i64 (Q F.length).l,.int .i64 (Q F.length).lt,.bool false],.int .i64 0]) ?_ rfl ⟨by rw [uh HS1,uh HO],hB⟩
    simp [results,Tryz.results27,go_sem,x0,x1,x2,x3,x4,x5,x6,x7]
   ·rw [ho] at l7
    have HS1:Hid ((Q F.length).s=0):=by unfold Hid;rw [hE0,ho];simp
    have HO:=hide ho
    have S8:=hide (set8_new (o0:=.int .i64 (Q F.length).c) (o1:=.int .i64 0) (o2:=.int .i64 (Q F.length).mn) (o3:=.int .i64 (Q F.length).mx) (o4:=.int .i64 (Q F.length).f) (o5:=.int .i64 (Q F.length).l) (o6:=.int .i64 (Q F.length).lt) (o7:=.bool true) hB (Nat.le_refl _) hr)
    clear hb hr hB hE0 ho
    go_wp2
    obtain ⟨hx,hB⟩:=uh S8
    have x0:=cell_of hx 0
    have x1:=cell_of hx 1
    have x2:=cell_of hx 2
    have x3:=cell_of hx 3
    have x4:=cell_of hx 4
    have x5:=cell_of hx 5
    have x6:=cell_of hx 6
    have x7:=cell_of hx 7
    simp only [List.getElem?_toArray,List.getElem?_cons_zero,List.getElem?_cons_succ] at x0 x1 x2 x3 x4 x5 x6 x7
    refine bodyPost_ret (v:=.tuple #[.agg #[.int .i64 (Q F.length).c,.int .i64 0,.int .i64 (Q F.length).mn,.int .i64 (Q F.length).mx,.int .i64 (Q F.length).f,.int .i64 (Q F.length).l,.int .i64 (Q F.length).lt,.bool true],.int .i64 0]) ?_ rfl ⟨by rw [uh HS1,uh HO],hB⟩
    simp [results,Tryz.results27,go_sem,x0,x1,x2,x3,x4,x5,x6,x7]
end Go.Proofs.YtpnkmnmchdabkaaGreat
