import Derived.Test.YtpnkmnmchdabkaaGreatM00
namespace Go.Proofs.YtpnkmnmchdabkaaGreat
open Go.RowKit
structure Su where
 c:Int
 s:Int
 mn:Int
 mx:Int
 f:Int
 l:Int
 lt:Int
 o:Bool
def su0:Su:=⟨0,0,0,0,0,0,0,false⟩
def pls (a b:Int):Int:=IntKind.i64.wrap (a+b)
def addV (x:Su) (v:Int):Su:=if x.o=true then x else if (decide (1000000<pls x.s v) || decide (pls x.s v < -1000000))=true then { x with s:=0,o:=true } else { x with s:=pls x.s v }
def suV (x:Su):Value:=.agg #[.int .i64 x.c,.int .i64 x.s,.int .i64 x.mn,.int .i64 x.mx,.int .i64 x.f,.int .i64 x.l,.int .i64 x.lt,.bool x.o]
set_option maxRecDepth 100000 in
set_option maxHeartbeats 1000000 in
theorem addValue_any (x:Su) (v:Int) (w:World) :
 Calls Tryz.prog 84 #[suV x,.int .i64 v] w fun e w'=>e=.returned (suV (addV x v))∧Below w.heap.size w w':=by
 have HB:Hid (∀o o',Below w.heap.size w ((w.alloc o).alloc o')):=fun o o'=>((Below.refl _ w).alloc (Nat.le_refl _) o).alloc (by simp) o'
 obtain ⟨c,s,mn,mx,f,l,lt,o⟩:=x
 cases o
 ·obtain ⟨t,ht⟩:∃t,t=pls s v:=⟨_,rfl⟩
  have HT:Hid (addV ⟨c,s,mn,mx,f,l,lt,false⟩ v=if (decide (1000000<t) || decide (t < -1000000))=true then ⟨c,0,mn,mx,f,l,lt,true⟩ else ⟨c,t,mn,mx,f,l,lt,false⟩):=by
   unfold Hid addV
   rw [ht]
   simp
  have hw:IntKind.i64.wrap (s+v)=t:=by rw [ht];rfl
  clear ht
  rw [uh HT]
  by_cases h1:1000000<t
  ·rw [if_pos (by simp [h1])]
   unfold suV
   go_enter Tryz.func84,Tryz.ntmps84
   go_wp2
   refine bodyPost_ret (v:=.agg #[.int .i64 c,.int .i64 0,.int .i64 mn,.int .i64 mx,.int .i64 f,.int .i64 l,.int .i64 lt,.bool true]) ?_ rfl ⟨rfl,uh HB _ _⟩
   simp [results,Tryz.results84,go_sem]
  ·by_cases h2:t < -1000000
   ·rw [if_pos (by simp [h2])]
    unfold suV
    go_enter Tryz.func84,Tryz.ntmps84
    go_wp2
    refine bodyPost_ret (v:=.agg #[.int .i64 c,.int .i64 0,.int .i64 mn,.int .i64 mx,.int .i64 f,.int .i64 l,.int .i64 lt,.bool true]) ?_ rfl ⟨rfl,uh HB _ _⟩
    simp [results,Tryz.results84,go_sem]
   ·rw [if_neg (by simp [h1,h2])]
    unfold suV
    go_enter Tryz.func84,Tryz.ntmps84
    go_wp2
    refine bodyPost_ret (v:=.agg #[.int .i64 c,.int .i64 t,.int .i64 mn,.int .i64 mx,.int .i64 f,.int .i64 l,.int .i64 lt,.bool false]) ?_ rfl ⟨rfl,uh HB _ _⟩
    simp [results,Tryz.results84,go_sem]
 ·have HT:Hid (addV ⟨c,s,mn,mx,f,l,lt,true⟩ v=⟨c,s,mn,mx,f,l,lt,true⟩):=by
   unfold Hid addV
   simp
  rw [uh HT]
  unfold suV
  go_enter Tryz.func84,Tryz.ntmps84
  go_wp2
  refine bodyPost_ret (v:=.agg #[.int .i64 c,.int .i64 s,.int .i64 mn,.int .i64 mx,.int .i64 f,.int .i64 l,.int .i64 lt,.bool true]) ?_ rfl ⟨rfl,uh HB _ _⟩
  simp [results,Tryz.results84,go_sem]
theorem below_set {w w5:World} {n xb:Nat} (hxn:n≤xb) (hb:Below n w w5) (i:Nat) (o:Value):Below n w (w5.setCell ⟨xb,i,none⟩ o) :=
 ⟨hb.os,hb.tape,hb.output,by simpa [World.setCell] using hb.size,fun k hk=>(Below.heap_setCell _ _ _ _ (show k≠xb by omega)).trans (hb.block k hk)⟩
theorem set8_new {w w5:World} {n xb:Nat} {a0 a1 a2 a3 a4 a5 a6 a7 o0 o1 o2 o3 o4 o5 o6 o7:Value} {T:TypeId} (hb:Below n w w5) (hxn:n≤xb) (hx:w5.heap[xb]?=some (.cells #[a0,a1,a2,a3,a4,a5,a6,a7] T (0,0))) :
 ((((((((w5.setCell ⟨xb,0,none⟩ o0).setCell ⟨xb,1,none⟩ o1).setCell ⟨xb,2,none⟩ o2).setCell ⟨xb,3,none⟩ o3).setCell ⟨xb,4,none⟩ o4).setCell ⟨xb,5,none⟩ o5).setCell ⟨xb,6,none⟩ o6).setCell ⟨xb,7,none⟩ o7).heap[xb]?=some (.cells #[o0,o1,o2,o3,o4,o5,o6,o7] T (0,0))∧Below n w ((((((((w5.setCell ⟨xb,0,none⟩ o0).setCell ⟨xb,1,none⟩ o1).setCell ⟨xb,2,none⟩ o2).setCell ⟨xb,3,none⟩ o3).setCell ⟨xb,4,none⟩ o4).setCell ⟨xb,5,none⟩ o5).setCell ⟨xb,6,none⟩ o6).setCell ⟨xb,7,none⟩ o7):=by
 have h1:(w5.setCell ⟨xb,0,none⟩ o0).heap[xb]?=some (.cells #[o0,a1,a2,a3,a4,a5,a6,a7] T (0,0)):=by rw [heap_setCell_same hx];rfl
 have h2:((w5.setCell ⟨xb,0,none⟩ o0).setCell ⟨xb,1,none⟩ o1).heap[xb]?=some (.cells #[o0,o1,a2,a3,a4,a5,a6,a7] T (0,0)):=by rw [heap_setCell_same h1];rfl
 have h3:(((w5.setCell ⟨xb,0,none⟩ o0).setCell ⟨xb,1,none⟩ o1).setCell ⟨xb,2,none⟩ o2).heap[xb]?=some (.cells #[o0,o1,o2,a3,a4,a5,a6,a7] T (0,0)):=by rw [heap_setCell_same h2];rfl
 have h4:((((w5.setCell ⟨xb,0,none⟩ o0).setCell ⟨xb,1,none⟩ o1).setCell ⟨xb,2,none⟩ o2).setCell ⟨xb,3,none⟩ o3).heap[xb]?=some (.cells #[o0,o1,o2,o3,a4,a5,a6,a7] T (0,0)):=by rw [heap_setCell_same h3];rfl
 have h5:(((((w5.setCell ⟨xb,0,none⟩ o0).setCell ⟨xb,1,none⟩ o1).setCell ⟨xb,2,none⟩ o2).setCell ⟨xb,3,none⟩ o3).setCell ⟨xb,4,none⟩ o4).heap[xb]?=some (.cells #[o0,o1,o2,o3,o4,a5,a6,a7] T (0,0)):=by rw [heap_setCell_same h4];rfl
 have h6:((((((w5.setCell ⟨xb,0,none⟩ o0).setCell ⟨xb,1,none⟩ o1).setCell ⟨xb,2,none⟩ o2).setCell ⟨xb,3,none⟩ o3).setCell ⟨xb,4,none⟩ o4).setCell ⟨xb,5,none⟩ o5).heap[xb]?=some (.cells #[o0,o1,o2,o3,o4,o5,a6,a7] T (0,0)):=by rw [heap_setCell_same h5];rfl
 have h7:(((((((w5.setCell ⟨xb,0,none⟩ o0).setCell ⟨xb,1,none⟩ o1).setCell ⟨xb,2,none⟩ o2).setCell ⟨xb,3,none⟩ o3).setCell ⟨xb,4,none⟩ o4).setCell ⟨xb,5,none⟩ o5).setCell ⟨xb,6,none⟩ o6).heap[xb]?=some (.cells #[o0,o1,o2,o3,o4,o5,o6,a7] T (0,0)):=by rw [heap_setCell_same h6];rfl
 have h8:((((((((w5.setCell ⟨xb,0,none⟩ o0).setCell ⟨xb,1,none⟩ o1).setCell ⟨xb,2,none⟩ o2).setCell ⟨xb,3,none⟩ o3).setCell ⟨xb,4,none⟩ o4).setCell ⟨xb,5,none⟩ o5).setCell ⟨xb,6,none⟩ o6).setCell ⟨xb,7,none⟩ o7).heap[xb]?=some (.cells #[o0,o1,o2,o3,o4,o5,o6,o7] T (0,0)):=by rw [heap_setCell_same h7];rfl
 exact ⟨h8,below_set hxn (below_set hxn (below_set hxn (below_set hxn (below_set hxn (below_set hxn (below_set hxn (below_set hxn hb _ _) _ _) _ _) _ _) _ _) _ _) _ _) _ _⟩
theorem new_two (w:World) (o o':Obj):((w.alloc o).alloc o').heap[w.heap.size+1]?=some o':=by
 have:=heap_alloc_new (w.alloc o) o'
 rwa [show (w.alloc o).heap.size=w.heap.size+1 by simp] at this
def addS (x:Su) (v:Int) (late:Bool):Su:=addV ⟨pls x.c 1,x.s,if x.c=0∨v<x.mn then v else x.mn,if x.c=0∨x.mx<v then v else x.mx,if x.c=0 then v else x.f,v,if late=true then pls x.lt 1 else x.lt,x.o⟩ v
set_option maxRecDepth 100000 in
set_option maxHeartbeats 4000000 in
theorem add_any (x:Su) (v:Int) (late:Bool) (w:World) :
 Calls Tryz.prog 55 #[suV x,.int .i64 v,.bool late] w fun e w'=>e=.returned (suV (addS x v late))∧Below w.heap.size w w':=by
 have HB:Hid (∀o o' w',Below ((w.alloc o).alloc o').heap.size ((w.alloc o).alloc o') w'→Below w.heap.size w w'):=fun o o' w' h=>(((Below.refl _ w).alloc (Nat.le_refl _) o).alloc (by simp) o').trans (h.mono (by simp;omega))
 have HB1:Hid (∀o w',Below (w.alloc o).heap.size (w.alloc o) w'→Below w.heap.size w w'):=fun o w' h=>((Below.refl _ w).alloc (Nat.le_refl _) o).trans (h.mono (by simp))
 obtain ⟨c,s,mn,mx,f,l,lt,o⟩:=x
 obtain ⟨c1,hc1⟩:∃c1,c1=pls c 1:=⟨_,rfl⟩
 obtain ⟨l1,hl1⟩:∃l1,l1=pls lt 1:=⟨_,rfl⟩
 have hw1:IntKind.i64.wrap (c+1)=c1:=by rw [hc1];rfl
 have hw2:IntKind.i64.wrap (lt+1)=l1:=by rw [hl1];rfl
 by_cases h0:c=0
 ·cases late
  ·have HS:Hid (addS ⟨c,s,mn,mx,f,l,lt,o⟩ v false=addV ⟨c1,s,v,v,v,v,lt,o⟩ v):=by
    unfold Hid addS
    simp [hc1,h0]
   rw [uh HS]
   have CA:=fun W=>hide (addValue_any ⟨c1,s,v,v,v,v,lt,o⟩ v W)
   generalize addV ⟨c1,s,v,v,v,v,lt,o⟩ v=y at CA ⊢
   have d0:(c == 0)=true:=by simpa using h0
   clear hc1 hl1 HS h0
   unfold suV at CA ⊢
   go_enter Tryz.func55,Tryz.ntmps55
   go_wp2_with fail
   refine (uh (CA _)).mono ?_
   rintro e w2 ⟨rfl,hb⟩
   have B2:=uh HB _ _ _ hb
   have N2:=(hb.block (w.heap.size+1) (by simp)).trans (new_two w _ _)
   have y0:=cell_of N2 0
   have z0:=frozen_of N2 0
   have y1:=cell_of N2 1
   have z1:=frozen_of N2 1
   have y2:=cell_of N2 2
   have z2:=frozen_of N2 2
   have y3:=cell_of N2 3
   have z3:=frozen_of N2 3
   have y4:=cell_of N2 4
   have z4:=frozen_of N2 4
   have y5:=cell_of N2 5
   have z5:=frozen_of N2 5
   have y6:=cell_of N2 6
   have z6:=frozen_of N2 6
   have y7:=cell_of N2 7
   have z7:=frozen_of N2 7
   simp at y0 y1 y2 y3 y4 y5 y6 y7
   have S8:=fun o0 o1 o2 o3 o4 o5 o6 o7=>hide (set8_new (o0:=o0) (o1:=o1) (o2:=o2) (o3:=o3) (o4:=o4) (o5:=o5) (o6:=o6) (o7:=o7) B2 (Nat.le_succ _) N2)
   clear hb B2 N2
   go_wp2
   obtain ⟨hx,hB⟩:=uh (S8 (.int .i64 y.c) (.int .i64 y.s) (.int .i64 y.mn) (.int .i64 y.mx) (.int .i64 y.f) (.int .i64 y.l) (.int .i64 y.lt) (.bool y.o))
   have x0:=cell_of hx 0
   have x1:=cell_of hx 1
   have x2:=cell_of hx 2
   have x3:=cell_of hx 3
   have x4:=cell_of hx 4
   have x5:=cell_of hx 5
   have x6:=cell_of hx 6
   have x7:=cell_of hx 7
   simp only [List.getElem?_toArray,List.getElem?_cons_zero,List.getElem?_cons_succ] at x0 x1 x2 x3 x4 x5 x6 x7
   refine bodyPost_ret (v:=.agg #[.int .i64 y.c,.int .i64 y.s,.int .i64 y.mn,.int .i64 y.mx,.int .i64 y.f,.int .i64 y.l,.int .i64 y.lt,.bool y.o]) ?_ rfl ⟨rfl,hB⟩
   simp [results,Tryz.results55,go_sem,x0,x1,x2,x3,x4,x5,x6,x7]
  ·have HS:Hid (addS ⟨c,s,mn,mx,f,l,lt,o⟩ v true=addV ⟨c1,s,v,v,v,v,l1,o⟩ v):=by
    unfold Hid addS
    simp [hc1,hl1,h0]
   rw [uh HS]
   have CA:=fun W=>hide (addValue_any ⟨c1,s,v,v,v,v,l1,o⟩ v W)
   generalize addV ⟨c1,s,v,v,v,v,l1,o⟩ v=y at CA ⊢
   have d0:(c == 0)=true:=by simpa using h0
   clear hc1 hl1 HS h0
   unfold suV at CA ⊢
   go_enter Tryz.func55,Tryz.ntmps55
   go_wp2_with fail
   refine (uh (CA _)).mono ?_
   rintro e w2 ⟨rfl,hb⟩
   have B2:=uh HB _ _ _ hb
   have N2:=(hb.block (w.heap.size+1) (by simp)).trans (new_two w _ _)
   have y0:=cell_of N2 0
   have z0:=frozen_of N2 0
   have y1:=cell_of N2 1
   have z1:=frozen_of N2 1
   have y2:=cell_of N2 2
   have z2:=frozen_of N2 2
   have y3:=cell_of N2 3
   have z3:=frozen_of N2 3
   have y4:=cell_of N2 4
   have z4:=frozen_of N2 4
   have y5:=cell_of N2 5
   have z5:=frozen_of N2 5
   have y6:=cell_of N2 6
   have z6:=frozen_of N2 6
   have y7:=cell_of N2 7
   have z7:=frozen_of N2 7
   simp at y0 y1 y2 y3 y4 y5 y6 y7
   have S8:=fun o0 o1 o2 o3 o4 o5 o6 o7=>hide (set8_new (o0:=o0) (o1:=o1) (o2:=o2) (o3:=o3) (o4:=o4) (o5:=o5) (o6:=o6) (o7:=o7) B2 (Nat.le_succ _) N2)
   clear hb B2 N2
   go_wp2
   obtain ⟨hx,hB⟩:=uh (S8 (.int .i64 y.c) (.int .i64 y.s) (.int .i64 y.mn) (.int .i64 y.mx) (.int .i64 y.f) (.int .i64 y.l) (.int .i64 y.lt) (.bool y.o))
   have x0:=cell_of hx 0
   have x1:=cell_of hx 1
   have x2:=cell_of hx 2
   have x3:=cell_of hx 3
   have x4:=cell_of hx 4
   have x5:=cell_of hx 5
   have x6:=cell_of hx 6
   have x7:=cell_of hx 7
   simp only [List.getElem?_toArray,List.getElem?_cons_zero,List.getElem?_cons_succ] at x0 x1 x2 x3 x4 x5 x6 x7
   refine bodyPost_ret (v:=.agg #[.int .i64 y.c,.int .i64 y.s,.int .i64 y.mn,.int .i64 y.mx,.int .i64 y.f,.int .i64 y.l,.int .i64 y.lt,.bool y.o]) ?_ rfl ⟨rfl,hB⟩
   simp [results,Tryz.results55,go_sem,x0,x1,x2,x3,x4,x5,x6,x7]
 ·by_cases h1:v<mn
  ·by_cases h2:mx<v
   ·cases late
    ·have HS:Hid (addS ⟨c,s,mn,mx,f,l,lt,o⟩ v false=addV ⟨c1,s,v,v,f,v,lt,o⟩ v):=by
      unfold Hid addS
      simp [hc1,h0,h1,h2]
     rw [uh HS]
     have CA:=fun W=>hide (addValue_any ⟨c1,s,v,v,f,v,lt,o⟩ v W)
     generalize addV ⟨c1,s,v,v,f,v,lt,o⟩ v=y at CA ⊢
     have d0:(c == 0)=false:=by simpa using h0
     clear hc1 hl1 HS h0
     unfold suV at CA ⊢
     go_enter Tryz.func55,Tryz.ntmps55
     go_wp2_with fail
     refine (uh (CA _)).mono ?_
     rintro e w2 ⟨rfl,hb⟩
     have B2:=uh HB _ _ _ hb
     have N2:=(hb.block (w.heap.size+1) (by simp)).trans (new_two w _ _)
     have y0:=cell_of N2 0
     have z0:=frozen_of N2 0
     have y1:=cell_of N2 1
     have z1:=frozen_of N2 1
     have y2:=cell_of N2 2
     have z2:=frozen_of N2 2
     have y3:=cell_of N2 3
     have z3:=frozen_of N2 3
     have y4:=cell_of N2 4
     have z4:=frozen_of N2 4
     have y5:=cell_of N2 5
     have z5:=frozen_of N2 5
     have y6:=cell_of N2 6
     have z6:=frozen_of N2 6
     have y7:=cell_of N2 7
     have z7:=frozen_of N2 7
     simp at y0 y1 y2 y3 y4 y5 y6 y7
     have S8:=fun o0 o1 o2 o3 o4 o5 o6 o7=>hide (set8_new (o0:=o0) (o1:=o1) (o2:=o2) (o3:=o3) (o4:=o4) (o5:=o5) (o6:=o6) (o7:=o7) B2 (Nat.le_succ _) N2)
     clear hb B2 N2
     go_wp2
     obtain ⟨hx,hB⟩:=uh (S8 (.int .i64 y.c) (.int .i64 y.s) (.int .i64 y.mn) (.int .i64 y.mx) (.int .i64 y.f) (.int .i64 y.l) (.int .i64 y.lt) (.bool y.o))
     have x0:=cell_of hx 0
     have x1:=cell_of hx 1
     have x2:=cell_of hx 2
     have x3:=cell_of hx 3
     have x4:=cell_of hx 4
     have x5:=cell_of hx 5
     have x6:=cell_of hx 6
     have x7:=cell_of hx 7
     simp only [List.getElem?_toArray,List.getElem?_cons_zero,List.getElem?_cons_succ] at x0 x1 x2 x3 x4 x5 x6 x7
     refine bodyPost_ret (v:=.agg #[.int .i64 y.c,.int .i64 y.s,.int .i64 y.mn,.int .i64 y.mx,.int .i64 y.f,.int .i64 y.l,.int .i64 y.lt,.bool y.o]) ?_ rfl ⟨rfl,hB⟩
     simp [results,Tryz.results55,go_sem,x0,x1,x2,x3,x4,x5,x6,x7]
    ·have HS:Hid (addS ⟨c,s,mn,mx,f,l,lt,o⟩ v true=addV ⟨c1,s,v,v,f,v,l1,o⟩ v):=by
      unfold Hid addS
      simp [hc1,hl1,h0,h1,h2]
     rw [uh HS]
     have CA:=fun W=>hide (addValue_any ⟨c1,s,v,v,f,v,l1,o⟩ v W)
     generalize addV ⟨c1,s,v,v,f,v,l1,o⟩ v=y at CA ⊢
     have d0:(c == 0)=false:=by simpa using h0
     clear hc1 hl1 HS h0
     unfold suV at CA ⊢
     go_enter Tryz.func55,Tryz.ntmps55
     go_wp2_with fail
     refine (uh (CA _)).mono ?_
     rintro e w2 ⟨rfl,hb⟩
     have B2:=uh HB _ _ _ hb
     have N2:=(hb.block (w.heap.size+1) (by simp)).trans (new_two w _ _)
     have y0:=cell_of N2 0
     have z0:=frozen_of N2 0
     have y1:=cell_of N2 1
     have z1:=frozen_of N2 1
     have y2:=cell_of N2 2
     have z2:=frozen_of N2 2
     have y3:=cell_of N2 3
     have z3:=frozen_of N2 3
     have y4:=cell_of N2 4
     have z4:=frozen_of N2 4
     have y5:=cell_of N2 5
     have z5:=frozen_of N2 5
     have y6:=cell_of N2 6
     have z6:=frozen_of N2 6
     have y7:=cell_of N2 7
     have z7:=frozen_of N2 7
     simp at y0 y1 y2 y3 y4 y5 y6 y7
     have S8:=fun o0 o1 o2 o3 o4 o5 o6 o7=>hide (set8_new (o0:=o0) (o1:=o1) (o2:=o2) (o3:=o3) (o4:=o4) (o5:=o5) (o6:=o6) (o7:=o7) B2 (Nat.le_succ _) N2)
     clear hb B2 N2
     go_wp2
     obtain ⟨hx,hB⟩:=uh (S8 (.int .i64 y.c) (.int .i64 y.s) (.int .i64 y.mn) (.int .i64 y.mx) (.int .i64 y.f) (.int .i64 y.l) (.int .i64 y.lt) (.bool y.o))
     have x0:=cell_of hx 0
     have x1:=cell_of hx 1
     have x2:=cell_of hx 2
     have x3:=cell_of hx 3
     have x4:=cell_of hx 4
     have x5:=cell_of hx 5
     have x6:=cell_of hx 6
     have x7:=cell_of hx 7
     simp only [List.getElem?_toArray,List.getElem?_cons_zero,List.getElem?_cons_succ] at x0 x1 x2 x3 x4 x5 x6 x7
     refine bodyPost_ret (v:=.agg #[.int .i64 y.c,.int .i64 y.s,.int .i64 y.mn,.int .i64 y.mx,.int .i64 y.f,.int .i64 y.l,.int .i64 y.lt,.bool y.o]) ?_ rfl ⟨rfl,hB⟩
     simp [results,Tryz.results55,go_sem,x0,x1,x2,x3,x4,x5,x6,x7]
   ·cases late
    ·have HS:Hid (addS ⟨c,s,mn,mx,f,l,lt,o⟩ v false=addV ⟨c1,s,v,mx,f,v,lt,o⟩ v):=by
      unfold Hid addS
      simp [hc1,h0,h1,h2]
     rw [uh HS]
     have CA:=fun W=>hide (addValue_any ⟨c1,s,v,mx,f,v,lt,o⟩ v W)
     generalize addV ⟨c1,s,v,mx,f,v,lt,o⟩ v=y at CA ⊢
     have d0:(c == 0)=false:=by simpa using h0
     clear hc1 hl1 HS h0
     unfold suV at CA ⊢
     go_enter Tryz.func55,Tryz.ntmps55
     go_wp2_with fail
     refine (uh (CA _)).mono ?_
     rintro e w2 ⟨rfl,hb⟩
     have B2:=uh HB _ _ _ hb
     have N2:=(hb.block (w.heap.size+1) (by simp)).trans (new_two w _ _)
     have y0:=cell_of N2 0
     have z0:=frozen_of N2 0
     have y1:=cell_of N2 1
     have z1:=frozen_of N2 1
     have y2:=cell_of N2 2
     have z2:=frozen_of N2 2
     have y3:=cell_of N2 3
     have z3:=frozen_of N2 3
     have y4:=cell_of N2 4
     have z4:=frozen_of N2 4
     have y5:=cell_of N2 5
     have z5:=frozen_of N2 5
     have y6:=cell_of N2 6
     have z6:=frozen_of N2 6
     have y7:=cell_of N2 7
     have z7:=frozen_of N2 7
     simp at y0 y1 y2 y3 y4 y5 y6 y7
     have S8:=fun o0 o1 o2 o3 o4 o5 o6 o7=>hide (set8_new (o0:=o0) (o1:=o1) (o2:=o2) (o3:=o3) (o4:=o4) (o5:=o5) (o6:=o6) (o7:=o7) B2 (Nat.le_succ _) N2)
     clear hb B2 N2
     go_wp2
     obtain ⟨hx,hB⟩:=uh (S8 (.int .i64 y.c) (.int .i64 y.s) (.int .i64 y.mn) (.int .i64 y.mx) (.int .i64 y.f) (.int .i64 y.l) (.int .i64 y.lt) (.bool y.o))
     have x0:=cell_of hx 0
     have x1:=cell_of hx 1
     have x2:=cell_of hx 2
     have x3:=cell_of hx 3
     have x4:=cell_of hx 4
     have x5:=cell_of hx 5
     have x6:=cell_of hx 6
     have x7:=cell_of hx 7
     simp only [List.getElem?_toArray,List.getElem?_cons_zero,List.getElem?_cons_succ] at x0 x1 x2 x3 x4 x5 x6 x7
     refine bodyPost_ret (v:=.agg #[.int .i64 y.c,.int .i64 y.s,.int .i64 y.mn,.int .i64 y.mx,.int .i64 y.f,.int .i64 y.l,.int .i64 y.lt,.bool y.o]) ?_ rfl ⟨rfl,hB⟩
     simp [results,Tryz.results55,go_sem,x0,x1,x2,x3,x4,x5,x6,x7]
    ·have HS:Hid (addS ⟨c,s,mn,mx,f,l,lt,o⟩ v true=addV ⟨c1,s,v,mx,f,v,l1,o⟩ v):=by
      unfold Hid addS
      simp [hc1,hl1,h0,h1,h2]
     rw [uh HS]
     have CA:=fun W=>hide (addValue_any ⟨c1,s,v,mx,f,v,l1,o⟩ v W)
     generalize addV ⟨c1,s,v,mx,f,v,l1,o⟩ v=y at CA ⊢
     have d0:(c == 0)=false:=by simpa using h0
     clear hc1 hl1 HS h0
     unfold suV at CA ⊢
     go_enter Tryz.func55,Tryz.ntmps55
     go_wp2_with fail
     refine (uh (CA _)).mono ?_
     rintro e w2 ⟨rfl,hb⟩
     have B2:=uh HB _ _ _ hb
     have N2:=(hb.block (w.heap.size+1) (by simp)).trans (new_two w _ _)
     have y0:=cell_of N2 0
     have z0:=frozen_of N2 0
     have y1:=cell_of N2 1
     have z1:=frozen_of N2 1
     have y2:=cell_of N2 2
     have z2:=frozen_of N2 2
     have y3:=cell_of N2 3
     have z3:=frozen_of N2 3
     have y4:=cell_of N2 4
     have z4:=frozen_of N2 4
     have y5:=cell_of N2 5
     have z5:=frozen_of N2 5
     have y6:=cell_of N2 6
     have z6:=frozen_of N2 6
     have y7:=cell_of N2 7
     have z7:=frozen_of N2 7
     simp at y0 y1 y2 y3 y4 y5 y6 y7
     have S8:=fun o0 o1 o2 o3 o4 o5 o6 o7=>hide (set8_new (o0:=o0) (o1:=o1) (o2:=o2) (o3:=o3) (o4:=o4) (o5:=o5) (o6:=o6) (o7:=o7) B2 (Nat.le_succ _) N2)
     clear hb B2 N2
     go_wp2
     obtain ⟨hx,hB⟩:=uh (S8 (.int .i64 y.c) (.int .i64 y.s) (.int .i64 y.mn) (.int .i64 y.mx) (.int .i64 y.f) (.int .i64 y.l) (.int .i64 y.lt) (.bool y.o))
     have x0:=cell_of hx 0
     have x1:=cell_of hx 1
     have x2:=cell_of hx 2
     have x3:=cell_of hx 3
     have x4:=cell_of hx 4
     have x5:=cell_of hx 5
     have x6:=cell_of hx 6
     have x7:=cell_of hx 7
     simp only [List.getElem?_toArray,List.getElem?_cons_zero,List.getElem?_cons_succ] at x0 x1 x2 x3 x4 x5 x6 x7
     refine bodyPost_ret (v:=.agg #[.int .i64 y.c,.int .i64 y.s,.int .i64 y.mn,.int .i64 y.mx,.int .i64 y.f,.int .i64 y.l,.int .i64 y.lt,.bool y.o]) ?_ rfl ⟨rfl,hB⟩
     simp [results,Tryz.results55,go_sem,x0,x1,x2,x3,x4,x5,x6,x7]
  ·by_cases h2:mx<v
   ·cases late
    ·have HS:Hid (addS ⟨c,s,mn,mx,f,l,lt,o⟩ v false=addV ⟨c1,s,mn,v,f,v,lt,o⟩ v):=by
      unfold Hid addS
      simp [hc1,h0,h1,h2]
     rw [uh HS]
     have CA:=fun W=>hide (addValue_any ⟨c1,s,mn,v,f,v,lt,o⟩ v W)
     generalize addV ⟨c1,s,mn,v,f,v,lt,o⟩ v=y at CA ⊢
     have d0:(c == 0)=false:=by simpa using h0
     clear hc1 hl1 HS h0
     unfold suV at CA ⊢
     go_enter Tryz.func55,Tryz.ntmps55
     go_wp2_with fail
     refine (uh (CA _)).mono ?_
     rintro e w2 ⟨rfl,hb⟩
     have B2:=uh HB _ _ _ hb
     have N2:=(hb.block (w.heap.size+1) (by simp)).trans (new_two w _ _)
     have y0:=cell_of N2 0
     have z0:=frozen_of N2 0
     have y1:=cell_of N2 1
     have z1:=frozen_of N2 1
     have y2:=cell_of N2 2
     have z2:=frozen_of N2 2
     have y3:=cell_of N2 3
     have z3:=frozen_of N2 3
     have y4:=cell_of N2 4
     have z4:=frozen_of N2 4
     have y5:=cell_of N2 5
     have z5:=frozen_of N2 5
     have y6:=cell_of N2 6
     have z6:=frozen_of N2 6
     have y7:=cell_of N2 7
     have z7:=frozen_of N2 7
     simp at y0 y1 y2 y3 y4 y5 y6 y7
     have S8:=fun o0 o1 o2 o3 o4 o5 o6 o7=>hide (set8_new (o0:=o0) (o1:=o1) (o2:=o2) (o3:=o3) (o4:=o4) (o5:=o5) (o6:=o6) (o7:=o7) B2 (Nat.le_succ _) N2)
     clear hb B2 N2
     go_wp2
     obtain ⟨hx,hB⟩:=uh (S8 (.int .i64 y.c) (.int .i64 y.s) (.int .i64 y.mn) (.int .i64 y.mx) (.int .i64 y.f) (.int .i64 y.l) (.int .i64 y.lt) (.bool y.o))
     have x0:=cell_of hx 0
     have x1:=cell_of hx 1
     have x2:=cell_of hx 2
     have x3:=cell_of hx 3
     have x4:=cell_of hx 4
     have x5:=cell_of hx 5
     have x6:=cell_of hx 6
     have x7:=cell_of hx 7
     simp only [List.getElem?_toArray,List.getElem?_cons_zero,List.getElem?_cons_succ] at x0 x1 x2 x3 x4 x5 x6 x7
     refine bodyPost_ret (v:=.agg #[.int .i64 y.c,.int .i64 y.s,.int .i64 y.mn,.int .i64 y.mx,.int .i64 y.f,.int .i64 y.l,.int .i64 y.lt,.bool y.o]) ?_ rfl ⟨rfl,hB⟩
     simp [results,Tryz.results55,go_sem,x0,x1,x2,x3,x4,x5,x6,x7]
    ·have HS:Hid (addS ⟨c,s,mn,mx,f,l,lt,o⟩ v true=addV ⟨c1,s,mn,v,f,v,l1,o⟩ v):=by
      unfold Hid addS
      simp [hc1,hl1,h0,h1,h2]
     rw [uh HS]
     have CA:=fun W=>hide (addValue_any ⟨c1,s,mn,v,f,v,l1,o⟩ v W)
     generalize addV ⟨c1,s,mn,v,f,v,l1,o⟩ v=y at CA ⊢
     have d0:(c == 0)=false:=by simpa using h0
     clear hc1 hl1 HS h0
     unfold suV at CA ⊢
     go_enter Tryz.func55,Tryz.ntmps55
     go_wp2_with fail
     refine (uh (CA _)).mono ?_
     rintro e w2 ⟨rfl,hb⟩
     have B2:=uh HB _ _ _ hb
     have N2:=(hb.block (w.heap.size+1) (by simp)).trans (new_two w _ _)
     have y0:=cell_of N2 0
     have z0:=frozen_of N2 0
     have y1:=cell_of N2 1
     have z1:=frozen_of N2 1
     have y2:=cell_of N2 2
     have z2:=frozen_of N2 2
     have y3:=cell_of N2 3
     have z3:=frozen_of N2 3
     have y4:=cell_of N2 4
     have z4:=frozen_of N2 4
     have y5:=cell_of N2 5
     have z5:=frozen_of N2 5
     have y6:=cell_of N2 6
     have z6:=frozen_of N2 6
     have y7:=cell_of N2 7
     have z7:=frozen_of N2 7
     simp at y0 y1 y2 y3 y4 y5 y6 y7
     have S8:=fun o0 o1 o2 o3 o4 o5 o6 o7=>hide (set8_new (o0:=o0) (o1:=o1) (o2:=o2) (o3:=o3) (o4:=o4) (o5:=o5) (o6:=o6) (o7:=o7) B2 (Nat.le_succ _) N2)
     clear hb B2 N2
     go_wp2
     obtain ⟨hx,hB⟩:=uh (S8 (.int .i64 y.c) (.int .i64 y.s) (.int .i64 y.mn) (.int .i64 y.mx) (.int .i64 y.f) (.int .i64 y.l) (.int .i64 y.lt) (.bool y.o))
     have x0:=cell_of hx 0
     have x1:=cell_of hx 1
     have x2:=cell_of hx 2
     have x3:=cell_of hx 3
     have x4:=cell_of hx 4
     have x5:=cell_of hx 5
     have x6:=cell_of hx 6
     have x7:=cell_of hx 7
     simp only [List.getElem?_toArray,List.getElem?_cons_zero,List.getElem?_cons_succ] at x0 x1 x2 x3 x4 x5 x6 x7
     refine bodyPost_ret (v:=.agg #[.int .i64 y.c,.int .i64 y.s,.int .i64 y.mn,.int .i64 y.mx,.int .i64 y.f,.int .i64 y.l,.int .i64 y.lt,.bool y.o]) ?_ rfl ⟨rfl,hB⟩
     simp [results,Tryz.results55,go_sem,x0,x1,x2,x3,x4,x5,x6,x7]
   ·cases late
    ·have HS:Hid (addS ⟨c,s,mn,mx,f,l,lt,o⟩ v false=addV ⟨c1,s,mn,mx,f,v,lt,o⟩ v):=by
      unfold Hid addS
      simp [hc1,h0,h1,h2]
     rw [uh HS]
     have CA:=fun W=>hide (addValue_any ⟨c1,s,mn,mx,f,v,lt,o⟩ v W)
     generalize addV ⟨c1,s,mn,mx,f,v,lt,o⟩ v=y at CA ⊢
     have d0:(c == 0)=false:=by simpa using h0
     clear hc1 hl1 HS h0
     unfold suV at CA ⊢
     go_enter Tryz.func55,Tryz.ntmps55
     go_wp2_with fail
     refine (uh (CA _)).mono ?_
     rintro e w2 ⟨rfl,hb⟩
     have B2:=uh HB _ _ _ hb
     have N2:=(hb.block (w.heap.size+1) (by simp)).trans (new_two w _ _)
     have y0:=cell_of N2 0
     have z0:=frozen_of N2 0
     have y1:=cell_of N2 1
     have z1:=frozen_of N2 1
     have y2:=cell_of N2 2
     have z2:=frozen_of N2 2
     have y3:=cell_of N2 3
     have z3:=frozen_of N2 3
     have y4:=cell_of N2 4
     have z4:=frozen_of N2 4
     have y5:=cell_of N2 5
     have z5:=frozen_of N2 5
     have y6:=cell_of N2 6
     have z6:=frozen_of N2 6
     have y7:=cell_of N2 7
     have z7:=frozen_of N2 7
     simp at y0 y1 y2 y3 y4 y5 y6 y7
     have S8:=fun o0 o1 o2 o3 o4 o5 o6 o7=>hide (set8_new (o0:=o0) (o1:=o1) (o2:=o2) (o3:=o3) (o4:=o4) (o5:=o5) (o6:=o6) (o7:=o7) B2 (Nat.le_succ _) N2)
     clear hb B2 N2
     go_wp2
     obtain ⟨hx,hB⟩:=uh (S8 (.int .i64 y.c) (.int .i64 y.s) (.int .i64 y.mn) (.int .i64 y.mx) (.int .i64 y.f) (.int .i64 y.l) (.int .i64 y.lt) (.bool y.o))
     have x0:=cell_of hx 0
     have x1:=cell_of hx 1
     have x2:=cell_of hx 2
     have x3:=cell_of hx 3
     have x4:=cell_of hx 4
     have x5:=cell_of hx 5
     have x6:=cell_of hx 6
     have x7:=cell_of hx 7
     simp only [List.getElem?_toArray,List.getElem?_cons_zero,List.getElem?_cons_succ] at x0 x1 x2 x3 x4 x5 x6 x7
     refine bodyPost_ret (v:=.agg #[.int .i64 y.c,.int .i64 y.s,.int .i64 y.mn,.int .i64 y.mx,.int .i64 y.f,.int .i64 y.l,.int .i64 y.lt,.bool y.o]) ?_ rfl ⟨rfl,hB⟩
     simp [results,Tryz.results55,go_sem,x0,x1,x2,x3,x4,x5,x6,x7]
    ·have HS:Hid (addS ⟨c,s,mn,mx,f,l,lt,o⟩ v true=addV ⟨c1,s,mn,mx,f,v,l1,o⟩ v):=by
      unfold Hid addS
      simp [hc1,hl1,h0,h1,h2]
     rw [uh HS]
     have CA:=fun W=>hide (addValue_any ⟨c1,s,mn,mx,f,v,l1,o⟩ v W)
     generalize addV ⟨c1,s,mn,mx,f,v,l1,o⟩ v=y at CA ⊢
     have d0:(c == 0)=false:=by simpa using h0
     clear hc1 hl1 HS h0
     unfold suV at CA ⊢
     go_enter Tryz.func55,Tryz.ntmps55
     go_wp2_with fail
     refine (uh (CA _)).mono ?_
     rintro e w2 ⟨rfl,hb⟩
     have B2:=uh HB _ _ _ hb
     have N2:=(hb.block (w.heap.size+1) (by simp)).trans (new_two w _ _)
     have y0:=cell_of N2 0
     have z0:=frozen_of N2 0
     have y1:=cell_of N2 1
     have z1:=frozen_of N2 1
     have y2:=cell_of N2 2
     have z2:=frozen_of N2 2
     have y3:=cell_of N2 3
     have z3:=frozen_of N2 3
     have y4:=cell_of N2 4
     have z4:=frozen_of N2 4
     have y5:=cell_of N2 5
     have z5:=frozen_of N2 5
     have y6:=cell_of N2 6
     have z6:=frozen_of N2 6
     have y7:=cell_of N2 7
     have z7:=frozen_of N2 7
     simp at y0 y1 y2 y3 y4 y5 y6 y7
     have S8:=fun o0 o1 o2 o3 o4 o5 o6 o7=>hide (set8_new (o0:=o0) (o1:=o1) (o2:=o2) (o3:=o3) (o4:=o4) (o5:=o5) (o6:=o6) (o7:=o7) B2 (Nat.le_succ _) N2)
     clear hb B2 N2
     go_wp2
     obtain ⟨hx,hB⟩:=uh (S8 (.int .i64 y.c) (.int .i64 y.s) (.int .i64 y.mn) (.int .i64 y.mx) (.int .i64 y.f) (.int .i64 y.l) (.int .i64 y.lt) (.bool y.o))
     have x0:=cell_of hx 0
     have x1:=cell_of hx 1
     have x2:=cell_of hx 2
     have x3:=cell_of hx 3
     have x4:=cell_of hx 4
     have x5:=cell_of hx 5
     have x6:=cell_of hx 6
     have x7:=cell_of hx 7
     simp only [List.getElem?_toArray,List.getElem?_cons_zero,List.getElem?_cons_succ] at x0 x1 x2 x3 x4 x5 x6 x7
     refine bodyPost_ret (v:=.agg #[.int .i64 y.c,.int .i64 y.s,.int .i64 y.mn,.int .i64 y.mx,.int .i64 y.f,.int .i64 y.l,.int .i64 y.lt,.bool y.o]) ?_ rfl ⟨rfl,hB⟩
     simp [results,Tryz.results55,go_sem,x0,x1,x2,x3,x4,x5,x6,x7]
def holdsW (n s t:Int):Bool:=decide (0≤s∧s≤t∧t - s<n)
set_option maxHeartbeats 1000000 in
theorem wHolds_any (C:Cfg) (s t:Int) (w:World) (ht:t≤9223372036854775807) :
 Calls Tryz.prog 54 #[.agg C.arr,.int .i64 s,.int .i64 t] w fun e w'=>e=.returned (.bool (holdsW C.n s t))∧Below w.heap.size w w':=by
 have HB:Hid (∀o,Below w.heap.size w (w.alloc o)):=fun o=>(Below.refl _ w).alloc (Nat.le_refl _) o
 by_cases h0:0≤s
 ·by_cases h1:s≤t
  ·have hw:IntKind.i64.wrap (t - s)=t - s:=by rw [IntKind.wrap_i64];omega
   by_cases h2:t - s<C.n
   ·have HH:Hid (holdsW C.n s t=true):=by unfold Hid holdsW;simp [h0,h1,h2]
    rw [uh HH]
    unfold Cfg.arr
    go_enter Tryz.func54,Tryz.ntmps54
    go_wp2
    go_ret
    exact ⟨rfl,uh HB _⟩
   ·have HH:Hid (holdsW C.n s t=false):=by unfold Hid holdsW;simp [h2]
    rw [uh HH]
    unfold Cfg.arr
    go_enter Tryz.func54,Tryz.ntmps54
    go_wp2
    go_ret
    exact ⟨rfl,uh HB _⟩
  ·have HH:Hid (holdsW C.n s t=false):=by unfold Hid holdsW;simp [h1]
   rw [uh HH]
   unfold Cfg.arr
   go_enter Tryz.func54,Tryz.ntmps54
   go_wp2
   go_ret
   exact ⟨rfl,uh HB _⟩
 ·have HH:Hid (holdsW C.n s t=false):=by unfold Hid holdsW;simp [h0]
  rw [uh HH]
  unfold Cfg.arr
  go_enter Tryz.func54,Tryz.ntmps54
  go_wp2
  go_ret
  exact ⟨rfl,uh HB _⟩
def beginsW (sl s:Int):Bool:=decide (0≤s∧s % sl=0)
set_option maxHeartbeats 1000000 in
theorem wBegins_any (C:Cfg) (s:Int) (w:World) (hs:1≤C.s) :
 Calls Tryz.prog 52 #[.agg C.arr,.int .i64 s] w fun e w'=>e=.returned (.bool (beginsW C.s s))∧Below w.heap.size w w':=by
 have HB:Hid (∀o,Below w.heap.size w (w.alloc o)):=fun o=>(Below.refl _ w).alloc (Nat.le_refl _) o
 have h9:0<C.s:=by omega
 have hn0:¬C.s=0:=by omega
 by_cases h0:0≤s
 ·obtain ⟨r,hrr⟩:∃r,r=s % C.s:=⟨_,rfl⟩
  have ht:Int.tmod s C.s=r:=by rw [hrr,Int.tmod_eq_emod_of_nonneg h0]
  by_cases h1:r=0
  ·have HH:Hid (beginsW C.s s=true):=by unfold Hid beginsW;rw [←hrr];simp [h0,h1]
   rw [uh HH]
   have d1:(r == 0)=true:=by simp [h1]
   clear hrr h1
   unfold Cfg.arr
   go_enter Tryz.func52,Tryz.ntmps52
   go_wp2
   go_ret
   exact ⟨rfl,uh HB _⟩
  ·have HH:Hid (beginsW C.s s=false):=by unfold Hid beginsW;rw [←hrr];simp [h1]
   rw [uh HH]
   have d1:(r == 0)=false:=by simpa using h1
   clear hrr h1
   unfold Cfg.arr
   go_enter Tryz.func52,Tryz.ntmps52
   go_wp2
   go_ret
   exact ⟨rfl,uh HB _⟩
 ·have HH:Hid (beginsW C.s s=false):=by unfold Hid beginsW;simp [h0]
  rw [uh HH]
  unfold Cfg.arr
  go_enter Tryz.func52,Tryz.ntmps52
  go_wp2
  go_ret
  exact ⟨rfl,uh HB _⟩
end Go.Proofs.YtpnkmnmchdabkaaGreat
