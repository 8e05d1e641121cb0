import Derived.Test.YtpnkmnmchdabkaaGreatM31
namespace Go.Proofs.YtpnkmnmchdabkaaGreat
open Go.RowKit
attribute [local go_sem ↓] Go.wp_at_zero Go.wp_at_succ
theorem cell_allocU {W:World} {b i:Nat} {v:Value} (h:W.cell? ⟨b,i,none⟩=some v) (hb:b<W.heap.size) (o:Obj):(W.alloc o).drew.cell? ⟨b,i,none⟩=some v:=by
 have:(W.alloc o).cell? ⟨b,i,none⟩=some v:=by rw [World.cell?_of_block (w:=W) (Below.heap_alloc _ _ _ hb)];exact h
 exact this
theorem three_set {V:World} {b:Nat} {u0 u1 u2:Value} {t:TypeId} (h:V.heap[b]?=some (.cells #[u0,u1,u2] t (0,0))) (v0 v1 v2:Value) :
 (((V.setCell ⟨b,0,none⟩ v0).setCell ⟨b,1,none⟩ v1).setCell ⟨b,2,none⟩ v2).heap[b]?=some (.cells #[v0,v1,v2] t (0,0)):=by
 have M1:=heap_setCell_same (i:=0) h v0
 have M2:=heap_setCell_same (i:=1) M1 v1
 have M3:=heap_setCell_same (i:=2) M2 v2
 simpa using M3
theorem three_cells {V:World} {b:Nat} {u0 u1 u2:Value} {t:TypeId} {f:Nat × Nat} (h:V.heap[b]?=some (.cells #[u0,u1,u2] t f)) :
 V.cell? ⟨b,0,none⟩=some u0∧V.cell? ⟨b,1,none⟩=some u1∧V.cell? ⟨b,2,none⟩=some u2:=⟨cell_of h 0,cell_of h 1,cell_of h 2⟩
set_option maxRecDepth 100000 in
set_option maxHeartbeats 8000000 in
theorem lease_ask {w:World} {wb sb gb yb:Nat} (o:Opn) (ho:o.k=10) (a b c er:Int) (s0:w.cell? ⟨sb,0,none⟩=some (.pointer (some ⟨gb,0,none⟩))) (s1:w.cell? ⟨sb,1,none⟩=some (.pointer (some ⟨yb,0,none⟩))) (hsl:sb<w.heap.size)
 (HP:∀W,Below w.heap.size w W→Calls Tryz.prog 67 #[.pointer (some ⟨gb,0,none⟩),.int .i64 o.a] W fun e w'=>e=.returned (.tuple #[.agg #[.int .i64 a,.int .i64 b,.int .i64 c],.int .i64 er])∧Below W.heap.size W w')
 (HR:∀W,Below w.heap.size w W→Calls Tryz.prog 68 #[.pointer (some ⟨yb,0,none⟩),.int .i64 o.a] W fun e w'=>e=.returned (.tuple #[.agg #[.int .i64 a,.int .i64 b,.int .i64 c],.int .i64 er])∧Below W.heap.size W w') :
 Calls Tryz.prog 30 #[.pointer (some ⟨wb,0,none⟩),.pointer (some ⟨sb,0,none⟩),.agg o.arr] w fun e w'=>e=.returned (.bool true)∧Below w.heap.size w w':=by
 have HP:=hide HP
 have HR:=hide HR
 obtain ⟨kk,oa,ob,os,olost,owh⟩:=o
 simp only at ho
 subst ho
 simp only at HP HR
 unfold Opn.arr
 simp only
 go_enter Tryz.func30,Tryz.ntmps30
 go_wp2
 have hN:=heap_alloc_new w (.cells #[.int .i64 10,.int .i64 oa,.int .i64 ob,.string os,.bool olost,.bool owh] 48)
 have HBa:Hid (Below w.heap.size w (w.alloc (.cells #[.int .i64 10,.int .i64 oa,.int .i64 ob,.string os,.bool olost,.bool owh] 48))):=(Below.refl _ w).alloc (Nat.le_refl _) _
 have hsz:(w.alloc (.cells #[.int .i64 10,.int .i64 oa,.int .i64 ob,.string os,.bool olost,.bool owh] 48)).heap.size=w.heap.size+1:=by simp
 generalize w.alloc (.cells #[.int .i64 10,.int .i64 oa,.int .i64 ob,.string os,.bool olost,.bool owh] 48)=V at *
 have o1:V.cell? ⟨w.heap.size,1,none⟩=some (.int .i64 oa):=cell_of hN 1
 have v0:=((uh HBa).cell (p:=⟨sb,0,none⟩) hsl).trans s0
 have v1:=((uh HBa).cell (p:=⟨sb,1,none⟩) hsl).trans s1
 clear s0 s1 hN
 have hsb1:sb<V.heap.size:=by omega
 have hop1:w.heap.size<V.heap.size:=by omega
 have c01:=v0
 have c11:=o1
 clear v0 hsz
 have hvs1:sb<V.heap.size:=hsb1
 have hvo1:w.heap.size<V.heap.size:=hop1
 have hcB1:=hide (uh HP V.drew (uh HBa).drew)
 have hBA1:Hid (Below w.heap.size w (V.alloc (.cells #[.int .i64 0,.int .i64 0,.int .i64 0] 59)).drew):=((uh HBa).alloc (by omega) _).drew
 have hcA1:=hide (uh HP (V.alloc (.cells #[.int .i64 0,.int .i64 0,.int .i64 0] 59)).drew (uh hBA1))
 have a01:=cell_allocU (W:=V) c01 hvs1 (.cells #[.int .i64 0,.int .i64 0,.int .i64 0] 59)
 have a11:=cell_allocU (W:=V) c11 hvo1 (.cells #[.int .i64 0,.int .i64 0,.int .i64 0] 59)
 have hnA1:Hid ((V.alloc (.cells #[.int .i64 0,.int .i64 0,.int .i64 0] 59)).drew.heap[V.heap.size]?=some (.cells #[.int .i64 0,.int .i64 0,.int .i64 0] 59 (0,0))):=heap_alloc_new V _
 have hsA1:(V.alloc (.cells #[.int .i64 0,.int .i64 0,.int .i64 0] 59)).drew.heap.size=V.heap.size+1:=by simp [World.drew]
 have hA1:Hid (sb<(V.alloc (.cells #[.int .i64 0,.int .i64 0,.int .i64 0] 59)).drew.heap.size∧w.heap.size<(V.alloc (.cells #[.int .i64 0,.int .i64 0,.int .i64 0] 59)).drew.heap.size∧V.heap.size<(V.alloc (.cells #[.int .i64 0,.int .i64 0,.int .i64 0] 59)).drew.heap.size):=by unfold Hid;rw [hsA1];omega
 have hV1:Hid (sb<V.drew.heap.size∧w.heap.size<V.drew.heap.size):=⟨hvs1,hvo1⟩
 have hn11:V.heap.size≠sb:=by omega
 have hn21:V.heap.size≠w.heap.size:=by omega
 have hn31:sb≠V.heap.size:=by omega
 have hn41:w.heap.size≠V.heap.size:=by omega
 have HV1:=hide hvs1
 have HO1:=hide hvo1
 clear hsA1 hvs1 hvo1 hsb1 hop1
 go_region_held3 (fun w'=>w'.cell? ⟨sb,0,none⟩=some (.pointer (some ⟨gb,0,none⟩))∧w'.cell? ⟨w.heap.size,1,none⟩=some (.int .i64 oa)) (first | go_keep | trivial) (first | (go_at_call 67;refine (uh hcA1).mono ?_;rintro e w1 ⟨rfl,hbA1⟩;have d0:=(hbA1.cell (p:=⟨sb,0,none⟩) (uh hA1).1).trans a01;have d1:=(hbA1.cell (p:=⟨w.heap.size,1,none⟩) (uh hA1).2.1).trans a11;have n1:=(hbA1.block V.heap.size (uh hA1).2.2).trans (uh hnA1);have z0:w1.cell? ⟨V.heap.size,0,none⟩=some (.int .i64 0):=cell_of n1 0;have z1:w1.cell? ⟨V.heap.size,1,none⟩=some (.int .i64 0):=cell_of n1 1;have z2:w1.cell? ⟨V.heap.size,2,none⟩=some (.int .i64 0):=cell_of n1 2;have y0:=frozen_of n1 0;have y1:=frozen_of n1 1;have y2:=frozen_of n1 2) | (go_at_call 67;refine (uh hcB1).mono ?_;rintro e w1 ⟨rfl,hbB1⟩;have d0:=(hbB1.cell (p:=⟨sb,0,none⟩) (uh hV1).1).trans c01;have d1:=(hbB1.cell (p:=⟨w.heap.size,1,none⟩) (uh hV1).2).trans c11))
 all_goals
  first
  | (have nU:(((w1.setCell ⟨V.heap.size,0,none⟩ (.int .i64 a)).setCell ⟨V.heap.size,1,none⟩ (.int .i64 b)).setCell ⟨V.heap.size,2,none⟩ (.int .i64 c)).heap[V.heap.size]?=some (.cells #[.int .i64 a,.int .i64 b,.int .i64 c] 59 (0,0)):=three_set n1 _ _ _
     have bU:Below V.heap.size V (((w1.setCell ⟨V.heap.size,0,none⟩ (.int .i64 a)).setCell ⟨V.heap.size,1,none⟩ (.int .i64 b)).setCell ⟨V.heap.size,2,none⟩ (.int .i64 c)):=((((((Below.refl V.heap.size V).alloc (Nat.le_refl _) (.cells #[.int .i64 0,.int .i64 0,.int .i64 0] 59)).drew).trans (hbA1.mono (Nat.le_of_lt (uh hA1).2.2))).setCell (p:=⟨V.heap.size,0,none⟩) (Nat.le_refl _) _).setCell (p:=⟨V.heap.size,1,none⟩) (Nat.le_refl _) _).setCell (p:=⟨V.heap.size,2,none⟩) (Nat.le_refl _) _
     clear hbA1 d0 d1 n1 z0 z1 z2 y0 y1 y2
     generalize ((w1.setCell ⟨V.heap.size,0,none⟩ (.int .i64 a)).setCell ⟨V.heap.size,1,none⟩ (.int .i64 b)).setCell ⟨V.heap.size,2,none⟩ (.int .i64 c)=U1 at *
     have hX1:Hid (V.heap.size≤V.heap.size):=Nat.le_refl _
     generalize hXe:V.heap.size=X1 at nU hX1 ⊢)
  | (have nU:=heap_alloc_new w1 (.cells #[.int .i64 a,.int .i64 b,.int .i64 c] 59)
     have bU:Below V.heap.size V (w1.alloc (.cells #[.int .i64 a,.int .i64 b,.int .i64 c] 59)):=(((Below.refl V.heap.size V).drew).trans hbB1).alloc hbB1.size _
     clear hbB1 d0 d1
     generalize w1.alloc (.cells #[.int .i64 a,.int .i64 b,.int .i64 c] 59)=U1 at *
     generalize hXe:w1.heap.size=X1 at nU ⊢)
  clear hXe hcA1 hcB1 hnA1 a01 a11 hn11 hn21 hn31 hn41 c01
  have hUs:=bU.size
  have hsb2:sb<U1.heap.size:=by have:=uh HV1;omega
  have hop2:w.heap.size<U1.heap.size:=by have:=uh HO1;omega
  have c02:=(bU.cell (p:=⟨sb,1,none⟩) (uh HV1)).trans v1
  have c12:=(bU.cell (p:=⟨w.heap.size,1,none⟩) (uh HO1)).trans c11
  have HBU:Hid (Below w.heap.size w U1):=(uh HBa).trans (bU.mono (Nat.le_of_lt (uh HO1)))
  have NX:=hide nU
  clear nU bU v1 c11 hUs hBA1 hA1 hV1 HV1 HO1
  try clear hX1
  go_wp2
  have hvs2:sb<U1.heap.size:=hsb2
  have hvo2:w.heap.size<U1.heap.size:=hop2
  have hcB2:=hide (uh HR U1.drew (uh HBU).drew)
  have hBA2:Hid (Below w.heap.size w (U1.alloc (.cells #[.int .i64 0,.int .i64 0,.int .i64 0] 59)).drew):=((uh HBU).alloc (by omega) _).drew
  have hcA2:=hide (uh HR (U1.alloc (.cells #[.int .i64 0,.int .i64 0,.int .i64 0] 59)).drew (uh hBA2))
  have a02:=cell_allocU (W:=U1) c02 hvs2 (.cells #[.int .i64 0,.int .i64 0,.int .i64 0] 59)
  have a12:=cell_allocU (W:=U1) c12 hvo2 (.cells #[.int .i64 0,.int .i64 0,.int .i64 0] 59)
  have hnA2:Hid ((U1.alloc (.cells #[.int .i64 0,.int .i64 0,.int .i64 0] 59)).drew.heap[U1.heap.size]?=some (.cells #[.int .i64 0,.int .i64 0,.int .i64 0] 59 (0,0))):=heap_alloc_new U1 _
  have hsA2:(U1.alloc (.cells #[.int .i64 0,.int .i64 0,.int .i64 0] 59)).drew.heap.size=U1.heap.size+1:=by simp [World.drew]
  have hA2:Hid (sb<(U1.alloc (.cells #[.int .i64 0,.int .i64 0,.int .i64 0] 59)).drew.heap.size∧w.heap.size<(U1.alloc (.cells #[.int .i64 0,.int .i64 0,.int .i64 0] 59)).drew.heap.size∧U1.heap.size<(U1.alloc (.cells #[.int .i64 0,.int .i64 0,.int .i64 0] 59)).drew.heap.size):=by unfold Hid;rw [hsA2];omega
  have hV2:Hid (sb<U1.drew.heap.size∧w.heap.size<U1.drew.heap.size):=⟨hvs2,hvo2⟩
  have hn12:U1.heap.size≠sb:=by omega
  have hn22:U1.heap.size≠w.heap.size:=by omega
  have hn32:sb≠U1.heap.size:=by omega
  have hn42:w.heap.size≠U1.heap.size:=by omega
  have HV2:=hide hvs2
  have HO2:=hide hvo2
  clear hsA2 hvs2 hvo2 hsb2 hop2
  go_region_held3 (fun w'=>w'.cell? ⟨sb,1,none⟩=some (.pointer (some ⟨yb,0,none⟩))∧w'.cell? ⟨w.heap.size,1,none⟩=some (.int .i64 oa)) (first | go_keep | trivial) (first | (go_at_call 68;refine (uh hcA2).mono ?_;rintro e w2 ⟨rfl,hbA2⟩;have d0:=(hbA2.cell (p:=⟨sb,1,none⟩) (uh hA2).1).trans a02;have d1:=(hbA2.cell (p:=⟨w.heap.size,1,none⟩) (uh hA2).2.1).trans a12;have n1:=(hbA2.block U1.heap.size (uh hA2).2.2).trans (uh hnA2);have z0:w2.cell? ⟨U1.heap.size,0,none⟩=some (.int .i64 0):=cell_of n1 0;have z1:w2.cell? ⟨U1.heap.size,1,none⟩=some (.int .i64 0):=cell_of n1 1;have z2:w2.cell? ⟨U1.heap.size,2,none⟩=some (.int .i64 0):=cell_of n1 2;have y0:=frozen_of n1 0;have y1:=frozen_of n1 1;have y2:=frozen_of n1 2) | (go_at_call 68;refine (uh hcB2).mono ?_;rintro e w2 ⟨rfl,hbB2⟩;have d0:=(hbB2.cell (p:=⟨sb,1,none⟩) (uh hV2).1).trans c02;have d1:=(hbB2.cell (p:=⟨w.heap.size,1,none⟩) (uh hV2).2).trans c12))
  all_goals
   first
   | (have nU:(((w2.setCell ⟨U1.heap.size,0,none⟩ (.int .i64 a)).setCell ⟨U1.heap.size,1,none⟩ (.int .i64 b)).setCell ⟨U1.heap.size,2,none⟩ (.int .i64 c)).heap[U1.heap.size]?=some (.cells #[.int .i64 a,.int .i64 b,.int .i64 c] 59 (0,0)):=three_set n1 _ _ _
      have bU:Below U1.heap.size U1 (((w2.setCell ⟨U1.heap.size,0,none⟩ (.int .i64 a)).setCell ⟨U1.heap.size,1,none⟩ (.int .i64 b)).setCell ⟨U1.heap.size,2,none⟩ (.int .i64 c)):=((((((Below.refl U1.heap.size U1).alloc (Nat.le_refl _) (.cells #[.int .i64 0,.int .i64 0,.int .i64 0] 59)).drew).trans (hbA2.mono (Nat.le_of_lt (uh hA2).2.2))).setCell (p:=⟨U1.heap.size,0,none⟩) (Nat.le_refl _) _).setCell (p:=⟨U1.heap.size,1,none⟩) (Nat.le_refl _) _).setCell (p:=⟨U1.heap.size,2,none⟩) (Nat.le_refl _) _
      clear hbA2 d0 d1 n1 z0 z1 z2 y0 y1 y2
      generalize ((w2.setCell ⟨U1.heap.size,0,none⟩ (.int .i64 a)).setCell ⟨U1.heap.size,1,none⟩ (.int .i64 b)).setCell ⟨U1.heap.size,2,none⟩ (.int .i64 c)=U2 at *
      have hX2:Hid (U1.heap.size≤U1.heap.size):=Nat.le_refl _
      generalize hXe:U1.heap.size=X2 at nU hX2 ⊢)
   | (have nU:=heap_alloc_new w2 (.cells #[.int .i64 a,.int .i64 b,.int .i64 c] 59)
      have bU:Below U1.heap.size U1 (w2.alloc (.cells #[.int .i64 a,.int .i64 b,.int .i64 c] 59)):=(((Below.refl U1.heap.size U1).drew).trans hbB2).alloc hbB2.size _
      clear hbB2 d0 d1
      generalize w2.alloc (.cells #[.int .i64 a,.int .i64 b,.int .i64 c] 59)=U2 at *
      generalize hXe:w2.heap.size=X2 at nU ⊢)
   clear hXe hcA2 hcB2 hnA2 a02 a12 hn12 hn22 hn32 hn42 c02 c12
   have n3:=(bU.block _ (lt_of_heap (uh NX))).trans (uh NX)
   obtain ⟨x0,x1,x2⟩:=three_cells n3
   obtain ⟨y0,y1,y2⟩:=three_cells nU
   have HEnd:=hide ((uh HBU).trans (bU.mono (uh HBU).size))
   clear n3 nU bU NX HBU hBA2 hA2 hV2 HV2 HO2
   try clear hX2
   go_wp2
   go_ret
   exact ⟨rfl,uh HEnd⟩
end Go.Proofs.YtpnkmnmchdabkaaGreat
