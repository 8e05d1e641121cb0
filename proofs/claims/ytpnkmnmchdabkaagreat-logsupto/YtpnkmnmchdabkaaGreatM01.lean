import Derived.Test.YtpnkmnmchdabkaaGreatM00
import Derived.Deep.DeepMust
import Derived.Deep.MidRow
import Derived.Deep.WholeRow
import Derived.Laws.ResultCell
import Derived.Deep.DrawnRows
namespace Go.Proofs.YtpnkmnmchdabkaaGreat
open Go.RowKit
def set10 (w:World) (b:Nat) (v0 v1 v2 v3 v4 v5 v6 v7 v8 v9:Value):World :=
 ((((((((((w).setCell ⟨b,0,none⟩ v0).setCell ⟨b,1,none⟩ v1).setCell ⟨b,2,none⟩ v2).setCell ⟨b,3,none⟩ v3).setCell ⟨b,4,none⟩ v4).setCell ⟨b,5,none⟩ v5).setCell ⟨b,6,none⟩ v6).setCell ⟨b,7,none⟩ v7).setCell ⟨b,8,none⟩ v8).setCell ⟨b,9,none⟩ v9
theorem set10_heap {w:World} {b:Nat} {u0 u1 u2 u3 u4 u5 u6 u7 u8 u9:Value} {e:TypeId} (h:w.heap[b]?=some (.cells #[u0,u1,u2,u3,u4,u5,u6,u7,u8,u9] e (0,0))) (v0 v1 v2 v3 v4 v5 v6 v7 v8 v9:Value) :
 (set10 w b v0 v1 v2 v3 v4 v5 v6 v7 v8 v9).heap[b]?=some (.cells #[v0,v1,v2,v3,v4,v5,v6,v7,v8,v9] e (0,0)):=by
 unfold set10
 have h:=heap_setCell_same (i:=0) h v0
 have h:=heap_setCell_same (i:=1) h v1
 have h:=heap_setCell_same (i:=2) h v2
 have h:=heap_setCell_same (i:=3) h v3
 have h:=heap_setCell_same (i:=4) h v4
 have h:=heap_setCell_same (i:=5) h v5
 have h:=heap_setCell_same (i:=6) h v6
 have h:=heap_setCell_same (i:=7) h v7
 have h:=heap_setCell_same (i:=8) h v8
 have h:=heap_setCell_same (i:=9) h v9
 rw [h]
 simp
theorem set10_size (w:World) (b:Nat) (v0 v1 v2 v3 v4 v5 v6 v7 v8 v9:Value):(set10 w b v0 v1 v2 v3 v4 v5 v6 v7 v8 v9).heap.size=w.heap.size:=by simp [set10,World.setCell]
theorem set10_below {B:Nat} {a w:World} {b:Nat} (h:Below B a w) (hb:B≤b) (v0 v1 v2 v3 v4 v5 v6 v7 v8 v9:Value):Below B a (set10 w b v0 v1 v2 v3 v4 v5 v6 v7 v8 v9) :=
 ((((((((((h.setCell (p:=⟨b,0,none⟩) hb _).setCell (p:=⟨b,1,none⟩) hb _).setCell (p:=⟨b,2,none⟩) hb _).setCell (p:=⟨b,3,none⟩) hb _).setCell (p:=⟨b,4,none⟩) hb _).setCell (p:=⟨b,5,none⟩) hb _).setCell (p:=⟨b,6,none⟩) hb _).setCell (p:=⟨b,7,none⟩) hb _).setCell (p:=⟨b,8,none⟩) hb _).setCell (p:=⟨b,9,none⟩) hb _)
theorem load10 {w:World} {b:Nat} {v0 v1 v2 v3 v4 v5 v6 v7 v8 v9:Value} {e:TypeId} {f:Nat × Nat} (h:w.heap[b]?=some (.cells #[v0,v1,v2,v3,v4,v5,v6,v7,v8,v9] e f)) :
 w.cell? ⟨b,0,none⟩=some v0∧w.cell? ⟨b,1,none⟩=some v1∧w.cell? ⟨b,2,none⟩=some v2∧w.cell? ⟨b,3,none⟩=some v3∧w.cell? ⟨b,4,none⟩=some v4∧w.cell? ⟨b,5,none⟩=some v5∧w.cell? ⟨b,6,none⟩=some v6∧w.cell? ⟨b,7,none⟩=some v7∧w.cell? ⟨b,8,none⟩=some v8∧w.cell? ⟨b,9,none⟩=some v9 :=
 ⟨cell_of h 0,cell_of h 1,cell_of h 2,cell_of h 3,cell_of h 4,cell_of h 5,cell_of h 6,cell_of h 7,cell_of h 8,cell_of h 9⟩
theorem below_new {w w1:World} {o:Obj} (hb:Below (w.alloc o).heap.size (w.alloc o) w1):w1.heap[w.heap.size]?=some o∧Below w.heap.size w w1∧w.heap.size<w1.heap.size:=by
 refine ⟨?_,?_,?_⟩
 ·rw [hb.block _ (by simp)];exact heap_alloc_new w o
 ·exact ((Below.refl _ w).alloc (Nat.le_refl _) o).trans (hb.mono (by simp))
 ·have:=hb.size;simp at this;omega
def makeR (s:ByteArray) (v t:Int):Int :=
 if keyB s=false then 2 else if 1000000<v∨v < -1000000 then 3 else if t<0∨1000000<t then 4 else 0
def madeR (s:ByteArray) (v t:Int):Value :=
 if makeR s v t=0 then .tuple #[.agg (recArr s.data.toList v t),.int .i64 0] else .tuple #[.agg (recArr [] 0 0),.int .i64 (makeR s v t)]
theorem madeR_no {s:ByteArray} {v t:Int} {c:Int} (h:makeR s v t=c) (hc:c≠0):madeR s v t=.tuple #[.agg (recArr [] 0 0),.int .i64 c]:=by simp [madeR,h,hc]
theorem madeR_yes {s:ByteArray} {v t:Int} (h:makeR s v t=0):madeR s v t=.tuple #[.agg (recArr s.data.toList v t),.int .i64 0]:=by simp [madeR,h]
set_option maxRecDepth 100000 in
set_option maxHeartbeats 1000000 in
theorem make_nokey (s:ByteArray) (v t:Int) (w:World) (hs:s.size≤maxLen) (hk:keyB s=false) :
 Calls Tryz.prog 123 #[.string s,.int .i64 v,.int .i64 t] w fun e w'=>e=.returned (madeR s v t)∧Below w.heap.size w w':=by
 have HP:=fun w=>hide (parse_any s w hs)
 rw [parsed_no hk] at HP
 have HM:=hide (madeR_no (s:=s) (v:=v) (t:=t) (c:=2) (by simp [makeR,hk]) (by omega))
 unfold keyArr at HP
 clear hk
 go_enter Tryz.func123,Tryz.ntmps123
 go_wp2_with fail
 refine (uh (HP _)).mono ?_
 rintro e w1 ⟨rfl,hb⟩
 obtain ⟨h1,hB1,hsz⟩:=below_new hb
 clear hb
 have f1:=fun i=>frozen_of h1 i
 obtain ⟨k0,k1,k2,k3,k4,k5,k6,k7,k8,k9⟩:=load10 h1
 go_wp2
 have hN:=set10_heap h1 (.int .u8 0) (.int .u8 0) (.int .u8 0) (.int .u8 0) (.int .u8 0) (.int .u8 0) (.int .u8 0) (.int .u8 0) (.int .i64 0) (.int .i64 0)
 have hB:=set10_below hB1 (Nat.le_refl _) (.int .u8 0) (.int .u8 0) (.int .u8 0) (.int .u8 0) (.int .u8 0) (.int .u8 0) (.int .u8 0) (.int .u8 0) (.int .i64 0) (.int .i64 0)
 have hZ:=set10_size w1 w.heap.size (.int .u8 0) (.int .u8 0) (.int .u8 0) (.int .u8 0) (.int .u8 0) (.int .u8 0) (.int .u8 0) (.int .u8 0) (.int .i64 0) (.int .i64 0)
 unfold set10 at hN hB hZ
 generalize World.setCell _ _ _=W8 at *
 rw [←hZ] at hsz
 obtain ⟨m0,m1,m2,m3,m4,m5,m6,m7,m8,m9⟩:=load10 hN
 refine bodyPost_ret (v:=.tuple #[.agg (recArr [] 0 0),.int .i64 2]) (by simp [results,Tryz.results123,go_sem,hsz,m0,m1,m2,m3,m4,m5,m6,m7,m8,m9];rfl) rfl ⟨by rw [uh HM],?_⟩
 exact hB.alloc (by omega) _
set_option maxRecDepth 100000 in
set_option maxHeartbeats 1000000 in
theorem make_noval (s:ByteArray) (v t:Int) (w:World) (hs:s.size≤maxLen) (hk:keyB s=true) (hv:1000000<v∨v < -1000000) :
 Calls Tryz.prog 123 #[.string s,.int .i64 v,.int .i64 t] w fun e w'=>e=.returned (madeR s v t)∧Below w.heap.size w w':=by
 have HP:=fun w=>hide (parse_any s w hs)
 rw [parsed_yes hk] at HP
 have HM:=hide (madeR_no (s:=s) (v:=v) (t:=t) (c:=3) (by simp only [makeR,hk];rw [if_neg (by simp),if_pos hv]) (by omega))
 unfold keyArr at HP
 clear hk
 rcases hv with hv | hv
 ·go_enter Tryz.func123,Tryz.ntmps123
  go_wp2_with fail
  refine (uh (HP _)).mono ?_
  rintro e w1 ⟨rfl,hb⟩
  obtain ⟨h1,hB1,hsz⟩:=below_new hb
  clear hb
  have f1:=fun i=>frozen_of h1 i
  obtain ⟨k0,k1,k2,k3,k4,k5,k6,k7,k8,k9⟩:=load10 h1
  go_wp2
  have hN:=set10_heap h1 (.int .u8 0) (.int .u8 0) (.int .u8 0) (.int .u8 0) (.int .u8 0) (.int .u8 0) (.int .u8 0) (.int .u8 0) (.int .i64 0) (.int .i64 0)
  have hB:=set10_below hB1 (Nat.le_refl _) (.int .u8 0) (.int .u8 0) (.int .u8 0) (.int .u8 0) (.int .u8 0) (.int .u8 0) (.int .u8 0) (.int .u8 0) (.int .i64 0) (.int .i64 0)
  have hZ:=set10_size w1 w.heap.size (.int .u8 0) (.int .u8 0) (.int .u8 0) (.int .u8 0) (.int .u8 0) (.int .u8 0) (.int .u8 0) (.int .u8 0) (.int .i64 0) (.int .i64 0)
  unfold set10 at hN hB hZ
  generalize World.setCell _ _ _=W8 at *
  rw [←hZ] at hsz
  obtain ⟨m0,m1,m2,m3,m4,m5,m6,m7,m8,m9⟩:=load10 hN
  refine bodyPost_ret (v:=.tuple #[.agg (recArr [] 0 0),.int .i64 3]) (by simp [results,Tryz.results123,go_sem,hsz,m0,m1,m2,m3,m4,m5,m6,m7,m8,m9];rfl) rfl ⟨by rw [uh HM],?_⟩
  exact hB.alloc (by omega) _
 ·have hv2:¬1000000<v:=by omega
  go_enter Tryz.func123,Tryz.ntmps123
  go_wp2_with fail
  refine (uh (HP _)).mono ?_
  rintro e w1 ⟨rfl,hb⟩
  obtain ⟨h1,hB1,hsz⟩:=below_new hb
  clear hb
  have f1:=fun i=>frozen_of h1 i
  obtain ⟨k0,k1,k2,k3,k4,k5,k6,k7,k8,k9⟩:=load10 h1
  go_wp2
  have hN:=set10_heap h1 (.int .u8 0) (.int .u8 0) (.int .u8 0) (.int .u8 0) (.int .u8 0) (.int .u8 0) (.int .u8 0) (.int .u8 0) (.int .i64 0) (.int .i64 0)
  have hB:=set10_below hB1 (Nat.le_refl _) (.int .u8 0) (.int .u8 0) (.int .u8 0) (.int .u8 0) (.int .u8 0) (.int .u8 0) (.int .u8 0) (.int .u8 0) (.int .i64 0) (.int .i64 0)
  have hZ:=set10_size w1 w.heap.size (.int .u8 0) (.int .u8 0) (.int .u8 0) (.int .u8 0) (.int .u8 0) (.int .u8 0) (.int .u8 0) (.int .u8 0) (.int .i64 0) (.int .i64 0)
  unfold set10 at hN hB hZ
  generalize World.setCell _ _ _=W8 at *
  rw [←hZ] at hsz
  obtain ⟨m0,m1,m2,m3,m4,m5,m6,m7,m8,m9⟩:=load10 hN
  refine bodyPost_ret (v:=.tuple #[.agg (recArr [] 0 0),.int .i64 3]) (by simp [results,Tryz.results123,go_sem,hsz,m0,m1,m2,m3,m4,m5,m6,m7,m8,m9];rfl) rfl ⟨by rw [uh HM],?_⟩
  exact hB.alloc (by omega) _
set_option maxRecDepth 100000 in
set_option maxHeartbeats 1000000 in
theorem make_notime (s:ByteArray) (v t:Int) (w:World) (hs:s.size≤maxLen) (hk:keyB s=true) (hv:¬1000000<v) (hv2:¬v < -1000000) (ht:t<0∨1000000<t) :
 Calls Tryz.prog 123 #[.string s,.int .i64 v,.int .i64 t] w fun e w'=>e=.returned (madeR s v t)∧Below w.heap.size w w':=by
 have HP:=fun w=>hide (parse_any s w hs)
 rw [parsed_yes hk] at HP
 have HM:=hide (madeR_no (s:=s) (v:=v) (t:=t) (c:=4) (by simp only [makeR,hk];rw [if_neg (by simp),if_neg (by omega),if_pos ht]) (by omega))
 unfold keyArr at HP
 clear hk
 rcases ht with ht | ht
 ·go_enter Tryz.func123,Tryz.ntmps123
  go_wp2_with fail
  refine (uh (HP _)).mono ?_
  rintro e w1 ⟨rfl,hb⟩
  obtain ⟨h1,hB1,hsz⟩:=below_new hb
  clear hb
  have f1:=fun i=>frozen_of h1 i
  obtain ⟨k0,k1,k2,k3,k4,k5,k6,k7,k8,k9⟩:=load10 h1
  go_wp2
  have hN:=set10_heap h1 (.int .u8 0) (.int .u8 0) (.int .u8 0) (.int .u8 0) (.int .u8 0) (.int .u8 0) (.int .u8 0) (.int .u8 0) (.int .i64 0) (.int .i64 0)
  have hB:=set10_below hB1 (Nat.le_refl _) (.int .u8 0) (.int .u8 0) (.int .u8 0) (.int .u8 0) (.int .u8 0) (.int .u8 0) (.int .u8 0) (.int .u8 0) (.int .i64 0) (.int .i64 0)
  have hZ:=set10_size w1 w.heap.size (.int .u8 0) (.int .u8 0) (.int .u8 0) (.int .u8 0) (.int .u8 0) (.int .u8 0) (.int .u8 0) (.int .u8 0) (.int .i64 0) (.int .i64 0)
  unfold set10 at hN hB hZ
  generalize World.setCell _ _ _=W8 at *
  rw [←hZ] at hsz
  obtain ⟨m0,m1,m2,m3,m4,m5,m6,m7,m8,m9⟩:=load10 hN
  refine bodyPost_ret (v:=.tuple #[.agg (recArr [] 0 0),.int .i64 4]) (by simp [results,Tryz.results123,go_sem,hsz,m0,m1,m2,m3,m4,m5,m6,m7,m8,m9];rfl) rfl ⟨by rw [uh HM],?_⟩
  exact hB.alloc (by omega) _
 ·have ht2:¬t<0:=by omega
  go_enter Tryz.func123,Tryz.ntmps123
  go_wp2_with fail
  refine (uh (HP _)).mono ?_
  rintro e w1 ⟨rfl,hb⟩
  obtain ⟨h1,hB1,hsz⟩:=below_new hb
  clear hb
  have f1:=fun i=>frozen_of h1 i
  obtain ⟨k0,k1,k2,k3,k4,k5,k6,k7,k8,k9⟩:=load10 h1
  go_wp2
  have hN:=set10_heap h1 (.int .u8 0) (.int .u8 0) (.int .u8 0) (.int .u8 0) (.int .u8 0) (.int .u8 0) (.int .u8 0) (.int .u8 0) (.int .i64 0) (.int .i64 0)
  have hB:=set10_below hB1 (Nat.le_refl _) (.int .u8 0) (.int .u8 0) (.int .u8 0) (.int .u8 0) (.int .u8 0) (.int .u8 0) (.int .u8 0) (.int .u8 0) (.int .i64 0) (.int .i64 0)
  have hZ:=set10_size w1 w.heap.size (.int .u8 0) (.int .u8 0) (.int .u8 0) (.int .u8 0) (.int .u8 0) (.int .u8 0) (.int .u8 0) (.int .u8 0) (.int .i64 0) (.int .i64 0)
  unfold set10 at hN hB hZ
  generalize World.setCell _ _ _=W8 at *
  rw [←hZ] at hsz
  obtain ⟨m0,m1,m2,m3,m4,m5,m6,m7,m8,m9⟩:=load10 hN
  refine bodyPost_ret (v:=.tuple #[.agg (recArr [] 0 0),.int .i64 4]) (by simp [results,Tryz.results123,go_sem,hsz,m0,m1,m2,m3,m4,m5,m6,m7,m8,m9];rfl) rfl ⟨by rw [uh HM],?_⟩
  exact hB.alloc (by omega) _
set_option maxRecDepth 100000 in
set_option maxHeartbeats 1000000 in
theorem make_yes (s:ByteArray) (v t:Int) (w:World) (hs:s.size≤maxLen) (hk:keyB s=true) (hv:¬1000000<v) (hv2:¬v < -1000000) (ht:¬t<0) (ht2:¬1000000<t) :
 Calls Tryz.prog 123 #[.string s,.int .i64 v,.int .i64 t] w fun e w'=>e=.returned (madeR s v t)∧Below w.heap.size w w':=by
 have HP:=fun w=>hide (parse_any s w hs)
 rw [parsed_yes hk] at HP
 have HM:=hide (madeR_yes (s:=s) (v:=v) (t:=t) (by simp only [makeR,hk];rw [if_neg (by simp),if_neg (by omega),if_neg (by omega)]))
 unfold keyArr at HP
 clear hk
 go_enter Tryz.func123,Tryz.ntmps123
 go_wp2_with fail
 refine (uh (HP _)).mono ?_
 rintro e w1 ⟨rfl,hb⟩
 obtain ⟨h1,hB1,hsz⟩:=below_new hb
 clear hb
 have f1:=fun i=>frozen_of h1 i
 obtain ⟨k0,k1,k2,k3,k4,k5,k6,k7,k8,k9⟩:=load10 h1
 go_wp2
 have hN:=set10_heap h1 (.int .u8 (byteAt s.data.toList 0)) (.int .u8 (byteAt s.data.toList 1)) (.int .u8 (byteAt s.data.toList 2)) (.int .u8 (byteAt s.data.toList 3)) (.int .u8 (byteAt s.data.toList 4)) (.int .u8 (byteAt s.data.toList 5)) (.int .u8 (byteAt s.data.toList 6)) (.int .u8 (byteAt s.data.toList 7)) (.int .i64 v) (.int .i64 t)
 have hB:=set10_below hB1 (Nat.le_refl _) (.int .u8 (byteAt s.data.toList 0)) (.int .u8 (byteAt s.data.toList 1)) (.int .u8 (byteAt s.data.toList 2)) (.int .u8 (byteAt s.data.toList 3)) (.int .u8 (byteAt s.data.toList 4)) (.int .u8 (byteAt s.data.toList 5)) (.int .u8 (byteAt s.data.toList 6)) (.int .u8 (byteAt s.data.toList 7)) (.int .i64 v) (.int .i64 t)
 have hZ:=set10_size w1 w.heap.size (.int .u8 (byteAt s.data.toList 0)) (.int .u8 (byteAt s.data.toList 1)) (.int .u8 (byteAt s.data.toList 2)) (.int .u8 (byteAt s.data.toList 3)) (.int .u8 (byteAt s.data.toList 4)) (.int .u8 (byteAt s.data.toList 5)) (.int .u8 (byteAt s.data.toList 6)) (.int .u8 (byteAt s.data.toList 7)) (.int .i64 v) (.int .i64 t)
 unfold set10 at hN hB hZ
 generalize World.setCell _ _ _=W8 at *
 rw [←hZ] at hsz
 obtain ⟨m0,m1,m2,m3,m4,m5,m6,m7,m8,m9⟩:=load10 hN
 refine bodyPost_ret (v:=.tuple #[.agg (recArr s.data.toList v t),.int .i64 0]) (by simp [results,Tryz.results123,go_sem,hsz,m0,m1,m2,m3,m4,m5,m6,m7,m8,m9];rfl) rfl ⟨by rw [uh HM],?_⟩
 exact hB.alloc (by omega) _
theorem make_any (s:ByteArray) (v t:Int) (w:World) (hs:s.size≤maxLen) :
 Calls Tryz.prog 123 #[.string s,.int .i64 v,.int .i64 t] w fun e w'=>e=.returned (madeR s v t)∧Below w.heap.size w w':=by
 cases hk:keyB s
 ·exact make_nokey s v t w hs hk
 ·by_cases hv:1000000<v∨v < -1000000
  ·exact make_noval s v t w hs hk hv
  ·by_cases ht:t<0∨1000000<t
   ·exact make_notime s v t w hs hk (by omega) (by omega) ht
   ·exact make_yes s v t w hs hk (by omega) (by omega) (by omega) (by omega)
end Go.Proofs.YtpnkmnmchdabkaaGreat
namespace Go.Proofs.YtpnkmnmchdabkaaGreat
open Go.RowKit
attribute [local go_sem ↓] Go.wp_at_zero Go.wp_at_succ
theorem leCells_len (l:List Le):(leCells l).length=l.length*3:=by
 induction l with
 | nil=>rfl
 | cons s r ih=>simp only [leCells,List.length_cons,ih];omega
theorem leCells_get (l:List Le) (i:Nat) (x:Le) (h:l[i]?=some x):(leCells l)[i*3]?=some (.int .i64 x.o)∧(leCells l)[i*3+1]?=some (.int .i64 x.c)∧(leCells l)[i*3+2]?=some (.int .i64 x.e):=by
 induction l generalizing i with
 | nil=>simp at h
 | cons y r ih =>
   cases i with
   | zero=>simp at h;subst h;exact ⟨rfl,rfl,rfl⟩
   | succ i =>
     simp at h
     obtain ⟨a,b,c⟩:=ih i h
     rw [show (i+1)*3=i*3+3 by omega]
     exact ⟨a,b,c⟩
theorem leCells_set0 (l:List Le) (i:Nat) (x:Le) (h:l[i]?=some x) (v:Int):(leCells l).set (i*3) (.int .i64 v)=leCells (l.set i { x with o:=v }):=by
 induction l generalizing i with
 | nil=>simp at h
 | cons y r ih =>
   cases i with
   | zero=>simp at h;subst h;rfl
   | succ i =>
     simp at h
     rw [show (i+1)*3=i*3+3 by omega]
     simp only [leCells,List.set_cons_succ,ih i h]
theorem leCells_set1 (l:List Le) (i:Nat) (x:Le) (h:l[i]?=some x) (v:Int):(leCells l).set (i*3+1) (.int .i64 v)=leCells (l.set i { x with c:=v }):=by
 induction l generalizing i with
 | nil=>simp at h
 | cons y r ih =>
   cases i with
   | zero=>simp at h;subst h;rfl
   | succ i =>
     simp at h
     rw [show (i+1)*3+1=(i*3+1)+3 by omega]
     simp only [leCells,List.set_cons_succ,ih i h]
theorem leCells_set2 (l:List Le) (i:Nat) (x:Le) (h:l[i]?=some x) (v:Int):(leCells l).set (i*3+2) (.int .i64 v)=leCells (l.set i { x with e:=v }):=by
 induction l generalizing i with
 | nil=>simp at h
 | cons y r ih =>
   cases i with
   | zero=>simp at h;subst h;rfl
   | succ i =>
     simp at h
     rw [show (i+1)*3+2=(i*3+2)+3 by omega]
     simp only [leCells,List.set_cons_succ,ih i h]
def noneL (k:Nat):List Le:=List.replicate k ⟨-1,0,0⟩ ++ List.replicate (16 - k) ⟨0,0,0⟩
theorem noneL_set {k:Nat} (hk:k<16):(noneL k).set k ⟨-1,0,0⟩=noneL (k+1):=by
 unfold noneL
 rw [List.set_append_right _ _ (by simp),List.length_replicate,Nat.sub_self,show 16 - k=(16 - (k+1))+1 by omega,List.replicate_succ,List.set_cons_zero,List.replicate_succ',List.append_assoc]
 rfl
theorem noneL_get {k:Nat} (hk:k<16):(noneL k)[k]?=some ⟨0,0,0⟩:=by
 unfold noneL
 rw [List.getElem?_append_right (by simp),List.length_replicate,Nat.sub_self,show 16 - k=(16 - (k+1))+1 by omega,List.replicate_succ]
 rfl
def leA (L:List Le):Array Value:=(leCells L).toArray
theorem leA_size {L:List Le} (h:L.length=16):(leA L).size=48:=by unfold leA;simp [leCells_len,h]
theorem leCells_one (L:List Le):∀v ∈ leCells L,v.oneCell'=true:=by
 induction L with
 | nil=>intro v hv;cases hv
 | cons x r ih =>
   intro v hv
   simp only [leCells,List.mem_cons] at hv
   rcases hv with rfl | rfl | rfl | hv
   ·rfl
   ·rfl
   ·rfl
   ·exact ih v hv
theorem noneL_len {k:Nat} (hk:k≤16):(noneL k).length=16:=by unfold noneL;simp;omega
theorem infoTab:(Tryz.prog.info? 62).map (fun i=>(i.zero,i.size))=some (some (.agg (leA (noneL 0))),48):=by kernel_rfl
theorem infoTabSize:(Tryz.prog.info? 62).map (·.size)=some 48:=by kernel_rfl
theorem zvTab (w:World):(zeroValue 62).run Tryz.prog w=.ok (.agg (leA (noneL 0))) w:=(zero_of_info infoTab).1 w
theorem ldTab {w:World} {b:Nat} {L:List Le} {t:TypeId} {f:Nat × Nat} (h:w.heap[b]?=some (.cells (leA L) t f)) (hL:L.length=16):(loadVar 62 ⟨b,0,none⟩).run Tryz.prog w=.ok (.agg (leA L)) w :=
 run_loadVar_row w b t _ (leA L) f _ h Tryz.underlying62 rfl (by rw [leA_size hL];exact infoTabSize)
theorem stTab {w:World} {b:Nat} {K L:List Le} {t:TypeId} (h:w.heap[b]?=some (.cells (leA K) t (0,0))) (hK:K.length=16) (hL:L.length=16):(storeVar 62 ⟨b,0,none⟩ (.agg (leA L))).run Tryz.prog w=.ok () (w.setRow b (leA L)) :=
 run_storeVar_row w b t _ (leA K) (leA L) h (by rw [leA_size hL];exact infoTabSize) (by rw [leA_size hK,leA_size hL]) (all_oneCell_toArray (leCells_one L))
theorem setRow_same {w:World} {b:Nat} {cs cs':Array Value} {t:TypeId} {f:Nat × Nat} (h:w.heap[b]?=some (.cells cs t f)):(w.setRow b cs').heap[b]?=some (.cells cs' t f):=by
 simp only [World.setRow,Array.getElem?_modify,if_true,h]
 rfl
theorem setRow_other {w:World} {b k:Nat} {cs':Array Value} (hk:k≠b):(w.setRow b cs').heap[k]?=w.heap[k]?:=by
 simp only [World.setRow,Array.getElem?_modify]
 rw [if_neg (fun e=>hk e.symm)]
theorem setRow_below {B:Nat} {a w:World} {b:Nat} (h:Below B a w) (hb:B≤b) (cs:Array Value):Below B a (w.setRow b cs) :=
 h.trans ⟨rfl,rfl,rfl,by simp [World.setRow],fun k hk=>setRow_other (by omega)⟩
def ldT (a:Addr):Sem Value:=loadVar 62 a
def stT (a:Addr) (v:Value):Sem Unit:=storeVar 62 a v
theorem ldT_shut (a:Addr):loadVar 62 a=ldT a:=rfl
theorem stT_shut (a:Addr) (v:Value):storeVar 62 a v=stT a v:=rfl
theorem ldT_is {w:World} {b:Nat} {L:List Le} {t:TypeId} {f:Nat × Nat} (h:w.heap[b]?=some (.cells (leA L) t f)) (hL:L.length=16):(ldT ⟨b,0,none⟩).run Tryz.prog w=.ok (.agg (leA L)) w:=ldTab h hL
theorem stT_is {w:World} {b:Nat} {K L:List Le} {t:TypeId} (h:w.heap[b]?=some (.cells (leA K) t (0,0))) (hK:K.length=16) (hL:L.length=16):(stT ⟨b,0,none⟩ (.agg (leA L))).run Tryz.prog w=.ok () (w.setRow b (leA L)):=stTab h hK hL
theorem stT_new (w:World) (n:Nat) (K L:List Le) (hn:n=w.heap.size) (hK:K.length=16) (hL:L.length=16):(stT ⟨n,0,none⟩ (.agg (leA L))).run Tryz.prog (w.alloc (.cells (leA K) 62))=.ok () (w.alloc (.cells (leA L) 62)):=by
 subst hn
 rw [stT_is (heap_alloc_new w _) hK hL,World.setRow_alloc_new]
attribute [local go_sem ↓] zvTab ldT_shut stT_shut
attribute [local go_sem] stT_new
set_option maxRecDepth 100000 in
set_option maxHeartbeats 4000000 in
theorem leasesNew_any (w:World) :
 Calls Tryz.prog 17 #[] w fun e w'=>e=.returned (.agg (leA (noneL 16)))∧Below w.heap.size w w':=by
 have z0:=noneL_len (k:=0) (by omega)
 have s0:=leA_size z0
 go_enter Tryz.func17,Tryz.ntmps17
 go_wp2
 have h0:Hid (((w.alloc (.cells (leA (noneL 0)) 62)).alloc (.cells (leA (noneL 0)) 62)).heap[w.heap.size]?=some (.cells (leA (noneL 0)) 62 (0,0))):=by
  unfold Hid
  rw [Below.heap_alloc _ _ _ (by simp)];exact heap_alloc_new w _
 have h1:Hid (((w.alloc (.cells (leA (noneL 0)) 62)).alloc (.cells (leA (noneL 0)) 62)).heap[w.heap.size+1]?=some (.cells (leA (noneL 0)) 62 (0,0))):=by
  unfold Hid
  have:=heap_alloc_new (w.alloc (.cells (leA (noneL 0)) 62)) (.cells (leA (noneL 0)) 62)
  simpa using this
 have hb:Hid (Below w.heap.size w ((w.alloc (.cells (leA (noneL 0)) 62)).alloc (.cells (leA (noneL 0)) 62))):=((Below.refl _ w).alloc (Nat.le_refl _) _).alloc (by simp) _
 generalize (w.alloc (.cells (leA (noneL 0)) 62)).alloc (.cells (leA (noneL 0)) 62)=W at *
 go_loopw [2] (fun i wr=>∃k:Nat,k≤16∧i=.int .i64 k∧wr.heap[w.heap.size]?=some (.cells (leA (noneL 0)) 62 (0,0))∧wr.heap[w.heap.size+1]?=some (.cells (leA (noneL k)) 62 (0,0))∧Below w.heap.size w wr) (fun i _=>16 - (intOf i).toNat)
 case atStart=>exact ⟨0,by omega,rfl,uh h0,uh h1,uh hb⟩
 case round =>
  obtain ⟨k,hk,rfl,q0,q1,qb⟩:=hrel
  by_cases hlt:k<16
  ·have fz:=frozen_of q1 (k*3)
   have cz:wr.cell? ⟨w.heap.size+1,k*3,none⟩=some (.int .i64 0):=(cell_of q1 (k*3)).trans (by have:=(leCells_get _ k _ (noneL_get hlt)).1;simpa [leA] using this)
   have Q0:=hide q0
   have Q1:=hide q1
   have QB:=hide qb
   clear q0 q1 qb
   go_wp2
   go_roundw
   case rel =>
    refine ⟨k+1,by omega,by go_num,?_,?_,(uh QB).setCell (p:=⟨w.heap.size+1,k*3,none⟩) (by simp) _⟩
    ·rw [Below.heap_setCell _ _ _ _ (by simp)];exact uh Q0
    ·rw [heap_setCell_same (uh Q1)]
     unfold leA
     rw [List.setIfInBounds_toArray,leCells_set0 _ k _ (noneL_get hlt),noneL_set hlt]
   case measure=>simp [intOf];omega
  ·have e:k=16:=by omega
   subst e
   have z16:=noneL_len (k:=16) (by omega)
   have HL:=ldT_is q1 z16
   have HS:=stT_is q0 z0 z16
   have hs16:=leA_size z16
   have H2:=hide (setRow_same (cs':=leA (noneL 16)) q0)
   have QB:=hide (setRow_below qb (Nat.le_refl _) (leA (noneL 16)))
   clear q0 q1 qb
   go_wp2
   refine bodyPost_ret (v:=.agg (leA (noneL 16))) ?_ rfl ⟨rfl,uh QB⟩
   exact results_cell_row rfl _ _ w.heap.size _ _ _ _ rfl (uh H2) Tryz.underlying62 rfl (by rw [leA_size z16];exact infoTabSize)
def memZ:List Value:=(List.replicate 16 [.bool false,.int .i64 0,.int .i64 0,.int .i64 0,.int .i64 0,.bool false,.int .i64 0,.int .i64 0]).flatten
def memN (n:Nat):List Value:=(madeCells memZ.toArray (n*128)).toList
def rest0 (wv:Value) (n:Nat) (mem:List Value):Rest:=⟨0,List.replicate 32 0,noneL 16,wv,n,mem⟩
def bdG (parts:Array (Nat × Value)):Sem Value:=Instr.build 71 parts
theorem bdG_shut (parts:Array (Nat × Value)):Instr.build 71 parts=bdG parts:=rfl
theorem bdG_is (C:Cfg) (sv:Value) (wa:Option Addr) (k c n:Nat) (mem:List Value) (w:World) :
 (bdG #[(0,.agg C.arr),(2,.agg #[sv]),(4,.agg (leA (noneL 16))),(5,.slice wa k c)]).run Tryz.prog w=.ok (.agg (grpArr C sv (rest0 (.slice wa k c) n mem))) w:=by
 obtain ⟨a,l,b,c,s,t⟩:=C
 kernel_rfl
theorem infoMem:(Tryz.prog.info? 162).map (fun i=>(i.zero,i.size,i.bytes))=some (some (.agg (memZ).toArray),128,1024):=by kernel_rfl
set_option maxRecDepth 100000 in
set_option maxHeartbeats 1000000 in
theorem shardsNew_any (w:World) :
 Calls Tryz.prog 16 #[] w fun e w'=>∃g,e=.returned (.agg #[.slice (some ⟨g,0,none⟩) 1 1])∧w.heap.size≤g∧w'.heap[g]?=some (.cells #[.int .i64 0,.int .i64 256,.bool true,.slice none 0 0,.slice none 0 0] 113 (0,0))∧Below w.heap.size w w':=by
 go_enter Tryz.func16,Tryz.ntmps16
 go_wp2
 refine bodyPost_ret (v:=.agg #[.slice (some ⟨w.heap.size+1,0,none⟩) 1 1]) (by simp [results,Tryz.results16,go_sem]) rfl ⟨w.heap.size+1,rfl,by omega,?_,?_⟩
 ·have:=heap_alloc_new (w.alloc (.cells #[.slice (some ⟨w.heap.size+1,0,none⟩) 1 1] 56)) (.cells #[.int .i64 0,.int .i64 256,.bool true,.slice none 0 0,.slice none 0 0] 113)
  rw [show (w.alloc (.cells #[.slice (some ⟨w.heap.size+1,0,none⟩) 1 1] 56)).heap.size=w.heap.size+1 by simp] at this
  exact this
 ·exact ((Below.refl _ w).alloc (Nat.le_refl _) _).alloc (by simp) _
set_option maxRecDepth 100000 in
set_option maxHeartbeats 1000000 in
theorem new_bad (C:Cfg) (w:World) (hv:validB C.a C.l C.b C.n C.s C.t=false) :
 Calls Tryz.prog 8 #[.agg C.arr] w fun e w'=>e=.returned (.tuple #[.pointer none,.int .i64 1])∧Below w.heap.size w w':=by
 unfold Cfg.arr
 have HV:=fun w=>hide (valid_any C.a C.l C.b C.n C.s C.t w)
 rw [hv] at HV
 go_enter Tryz.func8,Tryz.ntmps8
 go_wp2_with (go_at_call 15;refine (uh (HV _)).mono ?_;rintro e w1 ⟨rfl,hb⟩)
 go_ret2
 exact ⟨rfl,((Below.refl _ w).alloc (Nat.le_refl _) _).trans (hb.mono (by simp))⟩
def first:Sh:=⟨0,256,true,[],[]⟩
attribute [local go_sem ↓] zvTab ldT_shut stT_shut bdG_shut
attribute [local go_sem] stT_new
def NewGood (C:Cfg) (w:World) (e:Ending) (w':World):Prop:=∃gb g wb kn:Nat,e=.returned (.tuple #[.pointer (some ⟨gb,0,none⟩),.int .i64 0])∧w.heap.size≤gb∧w.heap.size≤g∧w.heap.size≤wb∧g≠gb∧wb≠gb∧wb≠g∧(kn:Int)=C.a ∧
 w'.heap[gb]?=some (.cells (grpArr C (.slice (some ⟨g,0,none⟩) 1 1) (rest0 (.slice (some ⟨wb,0,none⟩) kn kn) kn (memN kn))) 71 (0,0))∧w'.heap[g]?=some (.cells #[.int .i64 0,.int .i64 256,.bool true,.slice none 0 0,.slice none 0 0] 113 (0,0)) ∧
 w'.ownsRow w.heap.size 162 128 (.slice (some ⟨wb,0,none⟩) kn kn) kn (memN kn)∧Below w.heap.size w w'
set_option maxRecDepth 100000 in
set_option maxHeartbeats 4000000 in
theorem new_good (C:Cfg) (w:World) (hv:validB C.a C.l C.b C.n C.s C.t=true) :
 Calls Tryz.prog 8 #[.agg C.arr] w (NewGood C w):=by
 obtain ⟨hw1,hw2⟩:=((validB_iff _ _ _ _ _ _).1 hv).1
 obtain ⟨wn,hwn⟩:∃wn:Nat,C.a=wn:=⟨C.a.toNat,by omega⟩
 have HW:=hide hwn
 clear hwn
 have HV:=fun w=>hide (valid_any C.a C.l C.b C.n C.s C.t w)
 rw [hv] at HV
 have HN:=fun w=>hide (shardsNew_any w)
 have HL:=fun w=>hide (leasesNew_any w)
 have z16:=noneL_len (k:=16) (by omega)
 have z0:=noneL_len (k:=0) (by omega)
 unfold Cfg.arr
 clear hv
 go_enter Tryz.func8,Tryz.ntmps8
 go_wp2_with (go_at_call 15;refine (uh (HV _)).mono ?_;rintro e w1 ⟨rfl,hb⟩)
 obtain ⟨h1,hB1,hsz⟩:=below_new hb
 clear hb
 have H1:=hide h1
 have HB1:=hide hB1
 clear h1 hB1
 go_wp2_with (go_at_call 16;refine (uh (HN _)).mono ?_;rintro e w2 ⟨g,rfl,hg,hgb,hb2⟩)
 refine (uh (HL _)).mono ?_
 rintro e w3 ⟨rfl,hb3⟩
 have hs2:=hb2.size
 have hs3:=hb3.size
 rw [World.size_alloc] at hs3
 have hgl:=lt_of_heap hgb
 have P3:w3.heap[w.heap.size]?=some (.cells #[.int .i64 C.a,.int .i64 C.l,.int .i64 C.b,.int .i64 C.n,.int .i64 C.s,.int .i64 C.t] 23 (0,0)):=by
  have:=lt_of_heap (uh H1)
  rw [hb3.block _ (by simp;omega),Below.heap_alloc _ _ _ (by omega),hb2.block _ (by omega)]
  exact uh H1
 have L3:w3.heap[w2.heap.size]?=some (.cells #[.slice (some ⟨g,0,none⟩) 1 1] 56 (0,0)):=by
  rw [hb3.block _ (by simp)];exact heap_alloc_new w2 _
 have G3:w3.heap[g]?=some (.cells #[.int .i64 0,.int .i64 256,.bool true,.slice none 0 0,.slice none 0 0] 113 (0,0)):=by
  rw [hb3.block _ (by simp;omega),Below.heap_alloc _ _ _ hgl];exact hgb
 have hwl:=lt_of_heap P3
 have BB:Below w.heap.size w w3:=(uh HB1).trans ((hb2.mono (by omega)).trans (((Below.refl _ w2).alloc (by omega) _).trans (hb3.mono (by simp;omega))))
 clear hb2 hb3 hgb H1 HB1
 have c0:(w3.alloc (.cells (leA (noneL 16)) 62)).cell? ⟨w.heap.size,0,none⟩=some (.int .i64 C.a):=(World.cell?_of_block (w:=w3) (Below.heap_alloc _ _ _ hwl)).trans (cell_of P3 0)
 obtain ⟨i0,hi0,hz0,hz1,hz2⟩:=info_parts infoMem
 have HG:=hide G3
 have HP:=hide P3
 have HL3:=hide L3
 have HBB:=hide BB
 clear G3 P3 L3 BB
 go_wp2_with (at_make;go_must (refine wpList_make_full _ rfl _ _ 64 rfl w.heap.size 162 i0 _ 128 Tryz.underlying64 hi0 hz0 hz1 _ _ _ _ wn rfl rfl (uh HW) (uh HW) ?bytes ?ml ?base ?mk))
 case bytes=>rw [hz2];have:=uh HW;omega
 case ml=>have:=uh HW;unfold maxLen;omega
 case base=>simp;omega
 case mk =>
  intro w4 hown hgrow
  have hs4:=hgrow.size
  rw [World.size_alloc] at hs4
  have old:∀k,k<w3.heap.size→w4.heap[k]?=w3.heap[k]?:=fun k hk=>(hgrow.block k (by simp;omega) (by simp)).trans (Below.heap_alloc _ _ _ hk)
  have P4:=(old _ hwl).trans (uh HP)
  have L4:=(old _ (lt_of_heap (uh HL3))).trans (uh HL3)
  have G4:=hide ((old _ (lt_of_heap (uh HG))).trans (uh HG))
  have T4:w4.heap[w3.heap.size]?=some (.cells (leA (noneL 16)) 62 (0,0)):=(hgrow.block _ (by simp) (by simp)).trans (heap_alloc_new w3 _)
  have B4:Hid (Below w.heap.size w w4):=((uh HBB).alloc (by omega) _).grown hgrow (by simp;omega) (fun k h=>by cases h)
  have k0:=cell_of P4 0
  have k1:=cell_of P4 1
  have k2:=cell_of P4 2
  have k3:=cell_of P4 3
  have k4:=cell_of P4 4
  have k5:=cell_of P4 5
  have q0:=cell_of L4 0
  simp at k0 k1 k2 k3 k4 k5 q0
  have hld:=ldT_is T4 z16
  have hbd:=bdG_is C (.slice (some ⟨g,0,none⟩) 1 1) (some ⟨w3.heap.size+1,0,none⟩) wn wn wn (memN wn) w4
  unfold Cfg.arr at hbd
  have HO:=hide hown
  have hwne:=(hown.lt _ rfl).2
  clear hown hgrow old P4 L4 T4 c0
  go_wp2
  go_ret2
  have hO:=uh HO
  refine ⟨w4.heap.size,g,w3.heap.size+1,wn,rfl,by omega,by omega,by omega,by omega,by omega,by omega,(uh HW).symm,heap_alloc_new w4 _,?_,?_,(uh B4).alloc (by omega) _⟩
  ·rw [Below.heap_alloc _ _ _ (by omega)];exact uh G4
  ·have:=hO.alloc (.cells (grpArr C (.slice (some ⟨g,0,none⟩) 1 1) (rest0 (.slice (some ⟨w3.heap.size+1,0,none⟩) wn wn) wn (memN wn))) 71)
   simpa [memN] using this
def inc (x:Int):Int:=IntKind.i64.wrap (x+1)
theorem inc_is {x:Int} (h:0≤x∧x≤1000000000000):inc x=x+1:=by unfold inc;rw [IntKind.wrap_i64];omega
def dif (s p:Int):Int:=IntKind.i64.wrap (s - p)
theorem dif_is {s p:Int} (h:0≤s∧s≤1000000000000) (h':0≤p∧p≤1000000000000):dif s p=s - p:=by unfold dif;rw [IntKind.wrap_i64];omega
set_option maxHeartbeats 400000 in
theorem leHas_any (b o:Nat) (n:Int) (w:World) :
 Calls Tryz.prog 122 #[.pointer (some ⟨b,o,none⟩),.int .i64 n] w fun e w'=>e=.returned (.bool (decide (0≤n∧n<16)))∧w=w':=by
 by_cases h1:0≤n
 ·by_cases h2:n<16
  all_goals
   go_enter Tryz.func122,Tryz.ntmps122
   go_wp2
   go_ret
   exact ⟨by simp [h1,h2],rfl⟩
 ·go_enter Tryz.func122,Tryz.ntmps122
  go_wp2
  go_ret
  exact ⟨by simp;omega,rfl⟩
theorem has16 {n:Nat} (h:n<16):decide (0≤(n:Int)∧(n:Int)<16)=true:=by simp;omega
set_option maxRecDepth 100000 in
set_option maxHeartbeats 1000000 in
theorem leOf_any (b o n:Nat) (hn:n<16) (x:Le) (w:World) (hb:b<w.heap.size) (c0:w.cell? ⟨b,o+n*3,none⟩=some (.int .i64 x.o)) (c1:w.cell? ⟨b,o+n*3+1,none⟩=some (.int .i64 x.c)) (c2:w.cell? ⟨b,o+n*3+2,none⟩=some (.int .i64 x.e)) :
 Calls Tryz.prog 97 #[.pointer (some ⟨b,o,none⟩),.int .i64 n] w fun e w'=>e=.returned (.agg #[.int .i64 x.o,.int .i64 x.c,.int .i64 x.e])∧Below w.heap.size w w':=by
 have HH:=fun w=>hide (leHas_any b o n w)
 rw [has16 hn] at HH
 go_enter Tryz.func97,Tryz.ntmps97
 go_wp2_with (go_at_call 122;refine (uh (HH _)).mono ?_;rintro e w1 ⟨rfl,rfl⟩)
 refine bodyPost_ret (v:=.agg #[.int .i64 x.o,.int .i64 x.c,.int .i64 x.e]) ?_ rfl ⟨rfl,(Below.refl _ w).alloc (Nat.le_refl _) _⟩
 simp [results,Tryz.results97,go_sem]
set_option maxRecDepth 100000 in
set_option maxHeartbeats 1000000 in
theorem leGive_any (b o n:Nat) (hn:n<16) (x:Le) (wk:Int) (w:World) (c0:w.cell? ⟨b,o+n*3,none⟩=some (.int .i64 x.o)) (c1:w.cell? ⟨b,o+n*3+1,none⟩=some (.int .i64 x.c)) (c2:w.cell? ⟨b,o+n*3+2,none⟩=some (.int .i64 x.e)) (f:∀q,w.frozen? ⟨b,q,none⟩=false) :
 Calls Tryz.prog 121 #[.pointer (some ⟨b,o,none⟩),.int .i64 n,.int .i64 wk] w fun e w'=>e=.returned (.int .i64 (inc x.e))∧Below w.heap.size (((w.setCell ⟨b,o+n*3,none⟩ (.int .i64 wk)).setCell ⟨b,o+n*3+1,none⟩ (.int .i64 (inc x.c))).setCell ⟨b,o+n*3+2,none⟩ (.int .i64 (inc x.e))) w':=by
 have we:IntKind.i64.wrap (x.e+1)=inc x.e:=rfl
 have wc:IntKind.i64.wrap (x.c+1)=inc x.c:=rfl
 have f0:w.frozen? ⟨b,o+n*3,none⟩=false:=f _
 have f1:w.frozen? ⟨b,o+n*3+1,none⟩=false:=f _
 have f2:w.frozen? ⟨b,o+n*3+2,none⟩=false:=f _
 have HH:=fun w=>hide (leHas_any b o n w)
 rw [has16 hn] at HH
 go_enter Tryz.func121,Tryz.ntmps121
 go_wp2_with (go_at_call 122;refine (uh (HH _)).mono ?_;rintro e w1 ⟨rfl,rfl⟩)
 go_region
 go_wp2
 go_region
 go_wp2
 go_ret
 exact ⟨rfl,(Below.refl _ _).drew.drew⟩
set_option maxRecDepth 100000 in
set_option maxHeartbeats 1000000 in
theorem leRenew_any (b o n:Nat) (hn:n<16) (x:Le) (w:World) (c1:w.cell? ⟨b,o+n*3+1,none⟩=some (.int .i64 x.c)) (f:∀q,w.frozen? ⟨b,q,none⟩=false) :
 Calls Tryz.prog 118 #[.pointer (some ⟨b,o,none⟩),.int .i64 n] w fun e w'=>e=.returned (.tuple #[])∧Below w.heap.size (w.setCell ⟨b,o+n*3+1,none⟩ (.int .i64 (inc x.c))) w':=by
 have wc:IntKind.i64.wrap (x.c+1)=inc x.c:=rfl
 have f0:w.frozen? ⟨b,o+n*3,none⟩=false:=f _
 have f1:w.frozen? ⟨b,o+n*3+1,none⟩=false:=f _
 have f2:w.frozen? ⟨b,o+n*3+2,none⟩=false:=f _
 have HH:=fun w=>hide (leHas_any b o n w)
 rw [has16 hn] at HH
 go_enter Tryz.func118,Tryz.ntmps118
 go_wp2_with (go_at_call 122;refine (uh (HH _)).mono ?_;rintro e w1 ⟨rfl,rfl⟩)
 go_region
 all_goals (try go_wp2)
 go_end0
 exact ⟨rfl,(Below.refl _ _).drew⟩
set_option maxRecDepth 100000 in
set_option maxHeartbeats 1000000 in
theorem leFree_any (b o n:Nat) (hn:n<16) (x:Le) (w:World) (c0:w.cell? ⟨b,o+n*3,none⟩=some (.int .i64 x.o)) (c1:w.cell? ⟨b,o+n*3+1,none⟩=some (.int .i64 x.c)) (f:∀q,w.frozen? ⟨b,q,none⟩=false) :
 Calls Tryz.prog 117 #[.pointer (some ⟨b,o,none⟩),.int .i64 n] w fun e w'=>e=.returned (.tuple #[])∧Below w.heap.size ((w.setCell ⟨b,o+n*3,none⟩ (.int .i64 (-1))).setCell ⟨b,o+n*3+1,none⟩ (.int .i64 (inc x.c))) w':=by
 have wc:IntKind.i64.wrap (x.c+1)=inc x.c:=rfl
 have f0:w.frozen? ⟨b,o+n*3,none⟩=false:=f _
 have f1:w.frozen? ⟨b,o+n*3+1,none⟩=false:=f _
 have f2:w.frozen? ⟨b,o+n*3+2,none⟩=false:=f _
 have HH:=fun w=>hide (leHas_any b o n w)
 rw [has16 hn] at HH
 go_enter Tryz.func117,Tryz.ntmps117
 go_wp2_with (go_at_call 122;refine (uh (HH _)).mono ?_;rintro e w1 ⟨rfl,rfl⟩)
 go_region
 all_goals (try go_wp2)
 go_end0
 exact ⟨rfl,(Below.refl _ _).drew⟩
end Go.Proofs.YtpnkmnmchdabkaaGreat
namespace Go.Proofs.YtpnkmnmchdabkaaGreat
open Go.RowKit
structure Hd where
 sh:Int
 ep:Int
 at_:Int
 bf:Int
def hdCells (x:Hd):List Value:=[.int .i64 x.sh,.int .i64 x.ep,.int .i64 x.at_,.int .i64 x.bf]
def rowHd:List Hd→List Value
 | []=>[]
 | s :: r=>hdCells s ++ rowHd r
theorem rowHd_get (l:List Hd) (i j:Nat) (hj:j<4) (s:Hd) (h:l[i]?=some s):(rowHd l)[i*4+j]?=(hdCells s)[j]?:=by
 induction l generalizing i with
 | nil=>simp at h
 | cons x r ih =>
   cases i with
   | zero =>
     simp at h;subst h
     simp only [rowHd,Nat.zero_mul,Nat.zero_add]
     rw [List.getElem?_append_left (by simpa [hdCells] using hj)]
   | succ i =>
     simp at h
     simp only [rowHd]
     rw [List.getElem?_append_right (by simp only [hdCells,List.length_cons,List.length_nil];omega),←ih i h]
     congr 1
     simp only [hdCells,List.length_cons,List.length_nil];omega
theorem rowHd_append (l k:List Hd):rowHd (l ++ k)=rowHd l ++ rowHd k:=by
 induction l with
 | nil=>rfl
 | cons s r ih=>simp [rowHd,ih]
theorem infoHold:(Tryz.prog.info? 102).map (fun i=>(i.zero,i.size,i.bytes))=some (some (.agg #[.int .i64 0,.int .i64 0,.int .i64 0,.int .i64 0]),4,32):=by kernel_rfl
end Go.Proofs.YtpnkmnmchdabkaaGreat
namespace Go.Proofs.YtpnkmnmchdabkaaGreat
open Go.RowKit
attribute [local go_sem ↓] Go.wp_at_zero Go.wp_at_succ
structure Pl where
 held:Bool
 h:Hd
 made:Bool
 c:Int
 s:Int
def plCells (p:Pl):List Value:=[.bool p.held,.int .i64 p.h.sh,.int .i64 p.h.ep,.int .i64 p.h.at_,.int .i64 p.h.bf,.bool p.made,.int .i64 p.c,.int .i64 p.s]
structure PlAt (w:World) (b o:Nat) (p:Pl):Prop where
 lt:b<w.heap.size
 a0:w.cell? ⟨b,o,none⟩=some (.bool p.held)
 a1:w.cell? ⟨b,o+1,none⟩=some (.int .i64 p.h.sh)
 a2:w.cell? ⟨b,o+1+1,none⟩=some (.int .i64 p.h.ep)
 a3:w.cell? ⟨b,o+1+2,none⟩=some (.int .i64 p.h.at_)
 a4:w.cell? ⟨b,o+1+3,none⟩=some (.int .i64 p.h.bf)
 a5:w.cell? ⟨b,o+5,none⟩=some (.bool p.made)
 a6:w.cell? ⟨b,o+5+1,none⟩=some (.int .i64 p.c)
 a7:w.cell? ⟨b,o+5+2,none⟩=some (.int .i64 p.s)
 fr:∀q,w.frozen? ⟨b,q,none⟩=false
set_option maxHeartbeats 400000 in
theorem memHas_any (n:Int) (w:World) :
 Calls Tryz.prog 78 #[.int .i64 n] w fun e w'=>e=.returned (.bool (decide (0≤n∧n<16)))∧w=w':=by
 by_cases h1:0≤n
 ·by_cases h2:n<16
  all_goals
   go_enter Tryz.func78,Tryz.ntmps78
   go_wp2
   go_ret
   exact ⟨by simp [h1,h2],rfl⟩
 ·go_enter Tryz.func78,Tryz.ntmps78
  go_wp2
  go_ret
  exact ⟨by simp;omega,rfl⟩
theorem hasM16 {n:Nat} (h:n<16):decide (0≤(n:Int)∧(n:Int)<16)=true:=by simp;omega
set_option maxRecDepth 100000 in
set_option maxHeartbeats 1000000 in
theorem memHold_any (b o n:Nat) (hn:n<16) (p:Pl) (w:World) (h:PlAt w b (o+n*8) p) :
 Calls Tryz.prog 77 #[.pointer (some ⟨b,o,none⟩),.int .i64 n] w fun e w'=>e=.returned (.tuple #[if p.held=true then .agg #[.int .i64 p.h.sh,.int .i64 p.h.ep,.int .i64 p.h.at_,.int .i64 p.h.bf] else .agg #[.int .i64 0,.int .i64 0,.int .i64 0,.int .i64 0],.bool p.held])∧Below w.heap.size w w':=by
 obtain ⟨hl,a0,a1,a2,a3,a4,a5,a6,a7,fr⟩:=h
 clear a5 a6 a7 fr
 have HH:=fun w=>hide (memHas_any n w)
 rw [hasM16 hn] at HH
 cases hh:p.held
 ·rw [hh] at a0
  go_enter Tryz.func77,Tryz.ntmps77
  go_wp2_with (go_at_call 78;refine (uh (HH _)).mono ?_;rintro e w1 ⟨rfl,rfl⟩)
  refine bodyPost_ret (v:=.tuple #[.agg #[.int .i64 0,.int .i64 0,.int .i64 0,.int .i64 0],.bool false]) ?_ rfl ⟨rfl,?_⟩
  ·simp [results,Tryz.results77,go_sem]
  ·exact (Below.refl _ w).alloc (Nat.le_refl _) _
 ·rw [hh] at a0
  go_enter Tryz.func77,Tryz.ntmps77
  go_wp2_with (go_at_call 78;refine (uh (HH _)).mono ?_;rintro e w1 ⟨rfl,rfl⟩)
  refine bodyPost_ret (v:=.tuple #[.agg #[.int .i64 p.h.sh,.int .i64 p.h.ep,.int .i64 p.h.at_,.int .i64 p.h.bf],.bool true]) ?_ rfl ⟨rfl,?_⟩
  ·simp [results,Tryz.results77,go_sem]
  ·exact (Below.refl _ w).alloc (Nat.le_refl _) _
set_option maxRecDepth 100000 in
set_option maxHeartbeats 1000000 in
theorem memKeep_any (b o n:Nat) (hn:n<16) (p:Pl) (ep at_ bf:Int) (w:World) (h:PlAt w b (o+n*8) p) :
 Calls Tryz.prog 41 #[.pointer (some ⟨b,o,none⟩),.agg #[.int .i64 n,.int .i64 ep,.int .i64 at_,.int .i64 bf]] w fun e w'=>e=.returned (.tuple #[])∧Below w.heap.size (((((w.setCell ⟨b,o+n*8,none⟩ (.bool true)).setCell ⟨b,o+n*8+1,none⟩ (.int .i64 n)).setCell ⟨b,o+n*8+1+1,none⟩ (.int .i64 ep)).setCell ⟨b,o+n*8+1+2,none⟩ (.int .i64 at_)).setCell ⟨b,o+n*8+1+3,none⟩ (.int .i64 bf)) w':=by
 obtain ⟨hl,a0,a1,a2,a3,a4,a5,a6,a7,fr⟩:=h
 have HH:=fun w=>hide (memHas_any n w)
 rw [hasM16 hn] at HH
 have f0:=fr (o+n*8)
 have f1:=fr (o+n*8+1)
 have f2:=fr (o+n*8+1+1)
 have f3:=fr (o+n*8+1+2)
 have f4:=fr (o+n*8+1+3)
 have f5:=fr (o+n*8+5)
 have f6:=fr (o+n*8+5+1)
 have f7:=fr (o+n*8+5+2)
 go_enter Tryz.func41,Tryz.ntmps41
 go_wp2_with (go_at_call 78;refine (uh (HH _)).mono ?_;rintro e w1 ⟨rfl,rfl⟩)
 go_region
 go_wp2
 go_region
 go_wp2
 go_end0
 exact ⟨rfl,((Below.refl _ _).alloc (by simp) _).drew.drew⟩
set_option maxRecDepth 100000 in
set_option maxHeartbeats 1000000 in
theorem memDrop_any (b o n:Nat) (hn:n<16) (p:Pl) (w:World) (h:PlAt w b (o+n*8) p) :
 Calls Tryz.prog 82 #[.pointer (some ⟨b,o,none⟩),.int .i64 n] w fun e w'=>e=.returned (.tuple #[])∧Below w.heap.size (((((w.setCell ⟨b,o+n*8,none⟩ (.bool false)).setCell ⟨b,o+n*8+1,none⟩ (.int .i64 0)).setCell ⟨b,o+n*8+1+1,none⟩ (.int .i64 0)).setCell ⟨b,o+n*8+1+2,none⟩ (.int .i64 0)).setCell ⟨b,o+n*8+1+3,none⟩ (.int .i64 0)) w':=by
 obtain ⟨hl,a0,a1,a2,a3,a4,a5,a6,a7,fr⟩:=h
 have HH:=fun w=>hide (memHas_any n w)
 rw [hasM16 hn] at HH
 have f0:=fr (o+n*8)
 have f1:=fr (o+n*8+1)
 have f2:=fr (o+n*8+1+1)
 have f3:=fr (o+n*8+1+2)
 have f4:=fr (o+n*8+1+3)
 have f5:=fr (o+n*8+5)
 have f6:=fr (o+n*8+5+1)
 have f7:=fr (o+n*8+5+2)
 go_enter Tryz.func82,Tryz.ntmps82
 go_wp2_with (go_at_call 78;refine (uh (HH _)).mono ?_;rintro e w1 ⟨rfl,rfl⟩)
 go_end0
 exact ⟨rfl,Below.refl _ _⟩
set_option maxRecDepth 100000 in
set_option maxHeartbeats 1000000 in
theorem memNote_new (b o n:Nat) (hn:n<16) (p:Pl) (c s:Int) (w:World) (h:PlAt w b (o+n*8) p) (hm:¬(p.made=true∧p.c=c)) :
 Calls Tryz.prog 119 #[.pointer (some ⟨b,o,none⟩),.int .i64 n,.int .i64 c,.int .i64 s] w fun e w'=>e=.returned (.tuple #[])∧Below w.heap.size (((w.setCell ⟨b,o+n*8+5,none⟩ (.bool true)).setCell ⟨b,o+n*8+5+1,none⟩ (.int .i64 c)).setCell ⟨b,o+n*8+5+2,none⟩ (.int .i64 s)) w':=by
 obtain ⟨hl,a0,a1,a2,a3,a4,a5,a6,a7,fr⟩:=h
 have HH:=fun w=>hide (memHas_any n w)
 rw [hasM16 hn] at HH
 have f0:=fr (o+n*8)
 have f1:=fr (o+n*8+1)
 have f2:=fr (o+n*8+1+1)
 have f3:=fr (o+n*8+1+2)
 have f4:=fr (o+n*8+1+3)
 have f5:=fr (o+n*8+5)
 have f6:=fr (o+n*8+5+1)
 have f7:=fr (o+n*8+5+2)
 cases hh:p.made
 ·rw [hh] at a5
  clear hm
  go_enter Tryz.func119,Tryz.ntmps119
  go_wp2_with (go_at_call 78;refine (uh (HH _)).mono ?_;rintro e w1 ⟨rfl,rfl⟩)
  go_end0
  exact ⟨rfl,(Below.refl _ _).alloc (by simp) _⟩
 ·rw [hh] at a5
  have hq:¬p.c=c:=fun e=>hm ⟨hh,e⟩
  clear hm
  go_enter Tryz.func119,Tryz.ntmps119
  go_wp2_with (go_at_call 78;refine (uh (HH _)).mono ?_;rintro e w1 ⟨rfl,rfl⟩)
  go_end0
  exact ⟨rfl,(Below.refl _ _).alloc (by simp) _⟩
set_option maxRecDepth 100000 in
set_option maxHeartbeats 1000000 in
theorem memNote_old (b o n:Nat) (hn:n<16) (p:Pl) (s:Int) (w:World) (h:PlAt w b (o+n*8) p) (hm:p.made=true) :
 Calls Tryz.prog 119 #[.pointer (some ⟨b,o,none⟩),.int .i64 n,.int .i64 p.c,.int .i64 s] w fun e w'=>e=.returned (.tuple #[])∧Below w.heap.size w w':=by
 obtain ⟨hl,a0,a1,a2,a3,a4,a5,a6,a7,fr⟩:=h
 have HH:=fun w=>hide (memHas_any n w)
 rw [hasM16 hn] at HH
 rw [hm] at a5
 go_enter Tryz.func119,Tryz.ntmps119
 go_wp2_with (go_at_call 78;refine (uh (HH _)).mono ?_;rintro e w1 ⟨rfl,rfl⟩)
 refine bodyPost_ret (v:=.tuple #[]) ?_ rfl ⟨rfl,(Below.refl _ _).alloc (by simp) _⟩
 simp [results,Tryz.results119,go_sem]
set_option maxRecDepth 100000 in
set_option maxHeartbeats 1000000 in
theorem memNoted_any (b o n:Nat) (hn:n<16) (p:Pl) (c s u:Int) (w:World) (h:PlAt w b (o+n*8) p) :
 Calls Tryz.prog 131 #[.pointer (some ⟨b,o,none⟩),.int .i64 n,.int .i64 c,.int .i64 s,.int .i64 u] w fun e w'=>e=.returned (.bool (p.made && decide (p.c=c) && decide (u≤dif s p.s)))∧Below w.heap.size w w':=by
 obtain ⟨hl,a0,a1,a2,a3,a4,a5,a6,a7,fr⟩:=h
 have HH:=fun w=>hide (memHas_any n w)
 rw [hasM16 hn] at HH
 have ws:IntKind.i64.wrap (s - p.s)=dif s p.s:=rfl
 cases hh:p.made
 ·rw [hh] at a5
  go_enter Tryz.func131,Tryz.ntmps131
  go_wp2_with (go_at_call 78;refine (uh (HH _)).mono ?_;rintro e w1 ⟨rfl,rfl⟩)
  go_ret
  exact ⟨by simp,(Below.refl _ _).alloc (by simp) _⟩
 ·rw [hh] at a5
  by_cases hq:p.c=c
  ·go_enter Tryz.func131,Tryz.ntmps131
   go_wp2_with (go_at_call 78;refine (uh (HH _)).mono ?_;rintro e w1 ⟨rfl,rfl⟩)
   go_ret
   exact ⟨by simp [hq],(Below.refl _ _).alloc (by simp) _⟩
  ·go_enter Tryz.func131,Tryz.ntmps131
   go_wp2_with (go_at_call 78;refine (uh (HH _)).mono ?_;rintro e w1 ⟨rfl,rfl⟩)
   go_ret
   exact ⟨by simp [hq],(Below.refl _ _).alloc (by simp) _⟩
end Go.Proofs.YtpnkmnmchdabkaaGreat
