import Derived.Test.YtpnkmnmchdabkaaGreatM40
namespace Go.Proofs.YtpnkmnmchdabkaaGreat
open Go.RowKit
attribute [local go_sem ↓] Go.wp_at_zero Go.wp_at_succ
def rdStep (C:Cfg) (st:Int) (x:Su) (y:Rc × Int):Su:=if holdsW C.n st y.1.t=true then addS x y.1.v (decide (y.1.t+C.t<y.2)) else x
def rdOf (C:Cfg) (st:Int) (F:List (Rc × Int)):Su:=F.foldl (rdStep C st) su0
theorem rdOf_take {C:Cfg} {st:Int} {F:List (Rc × Int)} {j:Nat} {x:Rc × Int} (h:F[j]?=some x):rdOf C st (F.take (j+1))=rdStep C st (rdOf C st (F.take j)) x:=by
 obtain ⟨h1,rfl⟩:=List.getElem?_eq_some_iff.1 h
 unfold rdOf
 rw [List.take_succ_eq_append_getElem h1,List.foldl_append]
 rfl
theorem suV_zero:suV su0=.agg #[.int .i64 0,.int .i64 0,.int .i64 0,.int .i64 0,.int .i64 0,.int .i64 0,.int .i64 0,.bool false]:=rfl
set_option maxRecDepth 100000 in
set_option maxHeartbeats 400000 in
theorem gRead_no {w:World} (gb:Nat) (s:ByteArray) (st:Int) (hs:s.size≤maxLen) (hk:keyB s=false) :
 Calls Tryz.prog 26 #[.pointer (some ⟨gb,0,none⟩),.string s,.int .i64 st] w fun e w'=>e=.returned (.tuple #[suV su0,.int .i64 2])∧Below w.heap.size w w':=by
 have HP:Hid (∀W,Calls Tryz.prog 51 #[.string s] W fun e w'=>e=.returned (parsed s)∧Below W.heap.size W w'):=fun W=>parse_any s W hs
 rw [parsed_no hk] at HP
 unfold keyArr at HP
 rw [suV_zero]
 go_enter Tryz.func26,Tryz.ntmps26
 go_wp2_with fail
 refine (uh HP _).mono ?_
 rintro e w1 ⟨rfl,hb1⟩
 obtain ⟨N1,B1,hz⟩:=below_new hb1
 have y0:=cell_of N1 0
 have z0:=frozen_of N1 0
 have y1:=cell_of N1 1
 have z1:=frozen_of N1 1
 have y2:=cell_of N1 2
 have z2:=frozen_of N1 2
 have y3:=cell_of N1 3
 have z3:=frozen_of N1 3
 have y4:=cell_of N1 4
 have z4:=frozen_of N1 4
 have y5:=cell_of N1 5
 have z5:=frozen_of N1 5
 have y6:=cell_of N1 6
 have z6:=frozen_of N1 6
 have y7:=cell_of N1 7
 have z7:=frozen_of N1 7
 simp only [List.getElem?_toArray,List.getElem?_cons_zero,List.getElem?_cons_succ] at y0 y1 y2 y3 y4 y5 y6 y7
 have S8:=hide (set8_new (o0:=.int .i64 0) (o1:=.int .i64 0) (o2:=.int .i64 0) (o3:=.int .i64 0) (o4:=.int .i64 0) (o5:=.int .i64 0) (o6:=.int .i64 0) (o7:=.bool false) B1 (Nat.le_refl _) N1)
 clear hb1 B1 N1
 go_wp2
 obtain ⟨hx0,hB0⟩:=uh S8
 have hx:=(Below.heap_alloc _ (.cells #[.int .u8 (byteAt [] 0),.int .u8 (byteAt [] 1),.int .u8 (byteAt [] 2),.int .u8 (byteAt [] 3),.int .u8 (byteAt [] 4),.int .u8 (byteAt [] 5),.int .u8 (byteAt [] 6),.int .u8 (byteAt [] 7)] 130) w.heap.size (lt_of_heap hx0)).trans hx0
 have hB:=hB0.alloc hB0.size (.cells #[.int .u8 (byteAt [] 0),.int .u8 (byteAt [] 1),.int .u8 (byteAt [] 2),.int .u8 (byteAt [] 3),.int .u8 (byteAt [] 4),.int .u8 (byteAt [] 5),.int .u8 (byteAt [] 6),.int .u8 (byteAt [] 7)] 130)
 have x0:=cell_of hx 0
 have x1:=cell_of hx 1
 have x2:=cell_of hx 2
 have x3:=cell_of hx 3
 have x4:=cell_of hx 4
 have x5:=cell_of hx 5
 have x6:=cell_of hx 6
 have x7:=cell_of hx 7
 simp only [List.getElem?_toArray,List.getElem?_cons_zero,List.getElem?_cons_succ] at x0 x1 x2 x3 x4 x5 x6 x7
 refine bodyPost_ret (v:=.tuple #[.agg #[.int .i64 0,.int .i64 0,.int .i64 0,.int .i64 0,.int .i64 0,.int .i64 0,.int .i64 0,.bool false],.int .i64 2]) ?_ rfl ⟨rfl,hB⟩
 simp [results,Tryz.results26,go_sem,x0,x1,x2,x3,x4,x5,x6,x7]
set_option maxRecDepth 100000 in
set_option maxHeartbeats 400000 in
theorem gRead_win {w:World} {ρ:Nat→Nat} {gb:Nat} {C:Cfg} {now:Rest} {sv:Value} {m:List Cs} {g cap:Nat} {ls:List Le} {P:List Pl} (h:GS w ρ gb C now sv m g cap ls P) (s:ByteArray) (st:Int) (hs:s.size≤maxLen) (hk:keyB s=true) (hC:1≤C.s∧C.s≤100) (hb:beginsW C.s st=false) :
 Calls Tryz.prog 26 #[.pointer (some ⟨gb,0,none⟩),.string s,.int .i64 st] w fun e w'=>e=.returned (.tuple #[suV su0,.int .i64 16])∧Below w.heap.size w w':=by
 have HP:Hid (∀W,Calls Tryz.prog 51 #[.string s] W fun e w'=>e=.returned (parsed s)∧Below W.heap.size W w'):=fun W=>parse_any s W hs
 rw [parsed_yes hk] at HP
 have HCf:Hid (∀W,Below w.heap.size w W→(W.cell? ⟨gb,0,none⟩=some (.int .i64 C.a)∧W.cell? ⟨gb,1,none⟩=some (.int .i64 C.l)∧W.cell? ⟨gb,2,none⟩=some (.int .i64 C.b)∧W.cell? ⟨gb,3,none⟩=some (.int .i64 C.n)∧W.cell? ⟨gb,4,none⟩=some (.int .i64 C.s)∧W.cell? ⟨gb,5,none⟩=some (.int .i64 C.t))∧gb<W.heap.size):=fun W hb=>(h.below hb).1.conf
 have HBg:Hid (∀W,Calls Tryz.prog 52 #[.agg C.arr,.int .i64 st] W fun e w'=>e=.returned (.bool (beginsW C.s st))∧Below W.heap.size W w'):=fun W=>wBegins_any C st W hC.1
 rw [hb] at HBg
 clear h hk hs hb
 unfold keyArr at HP
 unfold Cfg.arr at HBg
 rw [suV_zero]
 go_enter Tryz.func26,Tryz.ntmps26
 go_wp2_with fail
 refine (uh HP _).mono ?_
 rintro e w1 ⟨rfl,hb1⟩
 obtain ⟨N1,B1,hz⟩:=below_new hb1
 have HN:=hide ((Below.heap_alloc w1 (.cells #[.int .u8 (byteAt s.data.toList 0),.int .u8 (byteAt s.data.toList 1),.int .u8 (byteAt s.data.toList 2),.int .u8 (byteAt s.data.toList 3),.int .u8 (byteAt s.data.toList 4),.int .u8 (byteAt s.data.toList 5),.int .u8 (byteAt s.data.toList 6),.int .u8 (byteAt s.data.toList 7)] 130) w.heap.size hz).trans N1)
 have HB:=hide (B1.alloc B1.size (.cells #[.int .u8 (byteAt s.data.toList 0),.int .u8 (byteAt s.data.toList 1),.int .u8 (byteAt s.data.toList 2),.int .u8 (byteAt s.data.toList 3),.int .u8 (byteAt s.data.toList 4),.int .u8 (byteAt s.data.toList 5),.int .u8 (byteAt s.data.toList 6),.int .u8 (byteAt s.data.toList 7)] 130))
 obtain ⟨⟨g0,g1,g2,g3,g4,g5⟩,hgb⟩:=uh HCf _ (uh HB)
 clear hb1 B1 N1
 go_wp2_with fail
 generalize w1.alloc (.cells #[.int .u8 (byteAt s.data.toList 0),.int .u8 (byteAt s.data.toList 1),.int .u8 (byteAt s.data.toList 2),.int .u8 (byteAt s.data.toList 3),.int .u8 (byteAt s.data.toList 4),.int .u8 (byteAt s.data.toList 5),.int .u8 (byteAt s.data.toList 6),.int .u8 (byteAt s.data.toList 7)] 130)=W at *
 refine (uh HBg _).mono ?_
 rintro e w2 ⟨rfl,hb2⟩
 have N2:=(hb2.block _ (lt_of_heap (uh HN))).trans (uh HN)
 have B2:=(uh HB).trans (hb2.mono (uh HB).size)
 have y0:=cell_of N2 0
 have z0:=frozen_of N2 0
 have y1:=cell_of N2 1
 have z1:=frozen_of N2 1
 have y2:=cell_of N2 2
 have z2:=frozen_of N2 2
 have y3:=cell_of N2 3
 have z3:=frozen_of N2 3
 have y4:=cell_of N2 4
 have z4:=frozen_of N2 4
 have y5:=cell_of N2 5
 have z5:=frozen_of N2 5
 have y6:=cell_of N2 6
 have z6:=frozen_of N2 6
 have y7:=cell_of N2 7
 have z7:=frozen_of N2 7
 simp only [List.getElem?_toArray,List.getElem?_cons_zero,List.getElem?_cons_succ] at y0 y1 y2 y3 y4 y5 y6 y7
 have S8:=hide (set8_new (o0:=.int .i64 0) (o1:=.int .i64 0) (o2:=.int .i64 0) (o3:=.int .i64 0) (o4:=.int .i64 0) (o5:=.int .i64 0) (o6:=.int .i64 0) (o7:=.bool false) B2 (Nat.le_refl _) N2)
 clear hb2 B2 N2 g0 g1 g2 g3 g4 g5
 go_wp2
 obtain ⟨hx,hB⟩:=uh S8
 have x0:=cell_of hx 0
 have x1:=cell_of hx 1
 have x2:=cell_of hx 2
 have x3:=cell_of hx 3
 have x4:=cell_of hx 4
 have x5:=cell_of hx 5
 have x6:=cell_of hx 6
 have x7:=cell_of hx 7
 simp only [List.getElem?_toArray,List.getElem?_cons_zero,List.getElem?_cons_succ] at x0 x1 x2 x3 x4 x5 x6 x7
 refine bodyPost_ret (v:=.tuple #[.agg #[.int .i64 0,.int .i64 0,.int .i64 0,.int .i64 0,.int .i64 0,.int .i64 0,.int .i64 0,.bool false],.int .i64 16]) ?_ rfl ⟨rfl,hB⟩
 simp [results,Tryz.results26,go_sem,x0,x1,x2,x3,x4,x5,x6,x7]
set_option maxRecDepth 100000 in
set_option maxHeartbeats 1000000 in
theorem gRead_any {w:World} {ρ:Nat→Nat} {gb:Nat} {C:Cfg} {now:Rest} {sv:Value} {m:List Cs} {g cap:Nat} {ls:List Le} {P:List Pl} (h:GS w ρ gb C now sv m g cap ls P) (hI:Inv (m.map (·.s))) (d:Nat→Nat) (hd:∀k,d k≤32) (hdn:∀k,k<16→dnP now.dn k=(d k:Int)) (hdc:∀(k:Nat) (s:Cs),m[k]?=some s→d k≤s.s.rl.length) (s:ByteArray) (st:Int) (hs:s.size≤maxLen) (hk:keyB s=true) (hC:1≤C.s∧C.s≤100) (hCt:0≤C.t∧C.t≤100) (hbg:beginsW C.s st=true) (F:List (Rc × Int)) (hF:F=fdKey s.data.toList (fdUp (m.map (·.s)) d m.length) (fdUp (m.map (·.s)) d m.length).length) (hT:∀y ∈ F,0≤y.1.t∧y.1.t≤1000000) :
 Calls Tryz.prog 26 #[.pointer (some ⟨gb,0,none⟩),.string s,.int .i64 st] w fun e w'=>e=.returned (.tuple #[suV (rdOf C st F),.int .i64 0])∧Below w.heap.size w w':=by
 have hFl:F.length≤512:=by
  have h1:=fdUp_le (l:=m.map (·.s)) hd m.length
  have h2:=GrpL.le h
  have h3:=fdKey_le s.data.toList (fdUp (m.map (·.s)) d m.length) (fdUp (m.map (·.s)) d m.length).length
  rw [hF];omega
 have HP:Hid (∀W,Calls Tryz.prog 51 #[.string s] W fun e w'=>e=.returned (parsed s)∧Below W.heap.size W w'):=fun W=>parse_any s W hs
 rw [parsed_yes hk] at HP
 have HCf:Hid (∀W,Below w.heap.size w W→(W.cell? ⟨gb,0,none⟩=some (.int .i64 C.a)∧W.cell? ⟨gb,1,none⟩=some (.int .i64 C.l)∧W.cell? ⟨gb,2,none⟩=some (.int .i64 C.b)∧W.cell? ⟨gb,3,none⟩=some (.int .i64 C.n)∧W.cell? ⟨gb,4,none⟩=some (.int .i64 C.s)∧W.cell? ⟨gb,5,none⟩=some (.int .i64 C.t))∧gb<W.heap.size):=fun W hb=>(h.below hb).1.conf
 have HBg:Hid (∀W,Calls Tryz.prog 52 #[.agg C.arr,.int .i64 st] W fun e w'=>e=.returned (.bool (beginsW C.s st))∧Below W.heap.size W w'):=fun W=>wBegins_any C st W hC.1
 rw [hbg] at HBg
 have HHo:Hid (∀t W,t≤1000000→Calls Tryz.prog 54 #[.agg C.arr,.int .i64 st,.int .i64 t] W fun e w'=>e=.returned (.bool (holdsW C.n st t))∧Below W.heap.size W w'):=fun t W ht=>wHolds_any C st t W (by omega)
 have HAd:Hid (∀x v l W,Calls Tryz.prog 55 #[suV x,.int .i64 v,.bool l] W fun e w'=>e=.returned (suV (addS x v l))∧Below W.heap.size W w'):=fun x v l W=>add_any x v l W
 have HFo:Hid (∀W,Below w.heap.size w W→Calls Tryz.prog 53 #[.pointer (some ⟨gb,8,none⟩),.pointer (some ⟨gb,7,none⟩),.agg (keyArr s.data.toList)] W fun e w'=>∃v,e=.returned v∧w'.ownsRow W.heap.size 139 11 v F.length (fdRow F)∧Below W.heap.size W w'):=fun W hb=>by
  have:=foldedOf_any (h.below hb).1 hI d hd hdn hdc s.data.toList
  rw [←hF] at this
  unfold keyArr
  exact this
 have HTt:Hid (∀(j:Nat) (y:Rc × Int),F[j]?=some y→rdOf C st (F.take (j+1))=rdStep C st (rdOf C st (F.take j)) y∧0≤y.1.t∧y.1.t≤1000000):=fun j y hy=>⟨rdOf_take hy,hT y (List.mem_of_getElem? hy)⟩
 obtain ⟨R,hR⟩:∃R:Nat→Su,∀j,R j=rdOf C st (F.take j):=⟨_,fun _=>rfl⟩
 have HRe:Hid (rdOf C st F=R F.length):=by unfold Hid;rw [hR,List.take_length]
 have HR0:Hid (R 0=su0):=hR 0
 have HRs:Hid (∀(j:Nat) (y:Rc × Int),F[j]?=some y→R (j+1)=rdStep C st (R j) y∧0≤y.1.t∧y.1.t≤1000000):=fun j y hy=>by rw [hR,hR];exact uh HTt j y hy
 rw [uh HRe]
 clear hT hF h hI hd hdn hdc hk hs hbg hR HTt HRe
 unfold keyArr at HP HFo
 unfold Cfg.arr at HBg HHo
 unfold suV at HAd ⊢
 go_enter Tryz.func26,Tryz.ntmps26
 go_wp2_with fail
 refine (uh HP _).mono ?_
 rintro e w1 ⟨rfl,hb1⟩
 obtain ⟨N1,B1,hz⟩:=below_new hb1
 have HN:=hide ((Below.heap_alloc w1 (.cells #[.int .u8 (byteAt s.data.toList 0),.int .u8 (byteAt s.data.toList 1),.int .u8 (byteAt s.data.toList 2),.int .u8 (byteAt s.data.toList 3),.int .u8 (byteAt s.data.toList 4),.int .u8 (byteAt s.data.toList 5),.int .u8 (byteAt s.data.toList 6),.int .u8 (byteAt s.data.toList 7)] 130) w.heap.size hz).trans N1)
 have HK:=hide (heap_alloc_new w1 (.cells #[.int .u8 (byteAt s.data.toList 0),.int .u8 (byteAt s.data.toList 1),.int .u8 (byteAt s.data.toList 2),.int .u8 (byteAt s.data.toList 3),.int .u8 (byteAt s.data.toList 4),.int .u8 (byteAt s.data.toList 5),.int .u8 (byteAt s.data.toList 6),.int .u8 (byteAt s.data.toList 7)] 130))
 have HB:=hide (B1.alloc B1.size (.cells #[.int .u8 (byteAt s.data.toList 0),.int .u8 (byteAt s.data.toList 1),.int .u8 (byteAt s.data.toList 2),.int .u8 (byteAt s.data.toList 3),.int .u8 (byteAt s.data.toList 4),.int .u8 (byteAt s.data.toList 5),.int .u8 (byteAt s.data.toList 6),.int .u8 (byteAt s.data.toList 7)] 130))
 obtain ⟨⟨g0,g1,g2,g3,g4,g5⟩,hgb⟩:=uh HCf _ (uh HB)
 clear hb1 B1 N1
 go_wp2_with fail
 generalize w1.alloc (.cells #[.int .u8 (byteAt s.data.toList 0),.int .u8 (byteAt s.data.toList 1),.int .u8 (byteAt s.data.toList 2),.int .u8 (byteAt s.data.toList 3),.int .u8 (byteAt s.data.toList 4),.int .u8 (byteAt s.data.toList 5),.int .u8 (byteAt s.data.toList 6),.int .u8 (byteAt s.data.toList 7)] 130)=W at *
 refine (uh HBg _).mono ?_
 rintro e w2 ⟨rfl,hb2⟩
 have HN2:=hide ((hb2.block _ (lt_of_heap (uh HN))).trans (uh HN))
 have HK2:=hide ((hb2.block _ (lt_of_heap (uh HK))).trans (uh HK))
 have HB2:=hide ((uh HB).trans (hb2.mono (uh HB).size))
 clear hb2 g0 g1 g2 g3 g4 g5 HN HK HB HP HBg
 obtain ⟨k0,k1,k2,k3,k4,k5,k6,k7⟩:=load8 (uh HK2)
 have HBW:=hide (uh HB2).drew
 have HK3:Hid (w2.drew.heap[w1.heap.size]?=some (.cells #[.int .u8 (byteAt s.data.toList 0),.int .u8 (byteAt s.data.toList 1),.int .u8 (byteAt s.data.toList 2),.int .u8 (byteAt s.data.toList 3),.int .u8 (byteAt s.data.toList 4),.int .u8 (byteAt s.data.toList 5),.int .u8 (byteAt s.data.toList 6),.int .u8 (byteAt s.data.toList 7)] 130 (0,0))):=uh HK2
 have HN3:Hid (w2.drew.heap[w.heap.size]?=some (.cells #[.int .i64 0,.int .i64 0,.int .i64 0,.int .i64 0,.int .i64 0,.int .i64 0,.int .i64 0,.bool false] 93 (0,0))):=uh HN2
 have hWd:=lt_of_heap (uh HK3)
 have hWn:=lt_of_heap (uh HN3)
 go_wp2_with fail
 go_region_held3 (fun w'=>w'.cell? ⟨w1.heap.size,0,none⟩=some (.int .u8 (byteAt s.data.toList 0))∧w'.cell? ⟨w1.heap.size,1,none⟩=some (.int .u8 (byteAt s.data.toList 1))∧w'.cell? ⟨w1.heap.size,2,none⟩=some (.int .u8 (byteAt s.data.toList 2))∧w'.cell? ⟨w1.heap.size,3,none⟩=some (.int .u8 (byteAt s.data.toList 3))∧w'.cell? ⟨w1.heap.size,4,none⟩=some (.int .u8 (byteAt s.data.toList 4))∧w'.cell? ⟨w1.heap.size,5,none⟩=some (.int .u8 (byteAt s.data.toList 5))∧w'.cell? ⟨w1.heap.size,6,none⟩=some (.int .u8 (byteAt s.data.toList 6))∧w'.cell? ⟨w1.heap.size,7,none⟩=some (.int .u8 (byteAt s.data.toList 7)))
  (go_keep)
  ((go_at_call 53;refine (uh HFo _ (uh HBW)).mono ?_;rintro e w3 ⟨v,rfl,hv,hb3⟩;obtain ⟨d0,d1,d2,d3,d4,d5,d6,d7⟩:=load8 ((hb3.block _ hWd).trans (uh HK3))))
 obtain ⟨va,vc,rfl⟩:=ownsRow_len hv
 have HV:=hide hv
 have HN4:=hide ((hb3.block _ hWn).trans (uh HN3))
 have HB3:=hide ((uh HBW).trans (hb3.mono (by have:=(uh HBW).size;omega)))
 clear hv hb3 k0 k1 k2 k3 k4 k5 k6 k7 d0 d1 d2 d3 d4 d5 d6 d7 HK2 HK3 HFo HB2 HN2 HN3 HBW
 go_wp2
 have HI0:Hid ((w3.alloc (.cells #[.int .i64 0,.int .i64 0,.int .i64 0,.int .i64 0,.int .i64 0,.int .i64 0,.int .i64 0,.bool false] 93)).heap[w3.heap.size]?=some (.cells #[.int .i64 (R 0).c,.int .i64 (R 0).s,.int .i64 (R 0).mn,.int .i64 (R 0).mx,.int .i64 (R 0).f,.int .i64 (R 0).l,.int .i64 (R 0).lt,.bool (R 0).o] 93 (0,0))):=by
  unfold Hid
  rw [uh HR0]
  exact heap_alloc_new w3 _
 go_loopw [12] (fun q wr=>∃j:Nat,j≤F.length∧q=.int .i64 j∧wr.heap[w3.heap.size]?=some (.cells #[.int .i64 (R j).c,.int .i64 (R j).s,.int .i64 (R j).mn,.int .i64 (R j).mx,.int .i64 (R j).f,.int .i64 (R j).l,.int .i64 (R j).lt,.bool (R j).o] 93 (0,0))∧Below w3.heap.size w3 wr) (fun q _=>F.length - (intOf q).toNat)
 case atStart=>exact ⟨0,Nat.zero_le _,rfl,uh HI0,(Below.refl _ _).alloc (Nat.le_refl _) _⟩
 case round =>
  obtain ⟨j,hj,rfl,hS,hB⟩:=hrel
  by_cases hlt:j<F.length
  ·obtain ⟨y,hy⟩:∃y,F[j]?=some y:=⟨F[j],List.getElem?_eq_getElem hlt⟩
   have hc:∃fb,va=some ⟨fb,0,none⟩∧fb<w3.heap.size∧∀i,i<11→wr.cell? ⟨fb,j*11+i,none⟩=(fdCells y)[i]?:=by
    obtain ⟨fb,cap',cur,hv2,_,hfg,_⟩:=ownsRow_shape (uh HV) (by omega)
    injection hv2 with e1
    subst e1
    refine ⟨fb,rfl,lt_of_heap hfg,fun i hi=>?_⟩
    rw [hB.cell (p:=⟨fb,j*11+i,none⟩) (lt_of_heap hfg),World.ownsRow.cellAt (uh HV) (j*11+i) (by omega),fdRow_get F j i hi y hy]
   obtain ⟨fb,rfl,hfb,hc⟩:=hc
   have y0:=hc 0 (by omega)
   have y1:=hc 1 (by omega)
   have y2:=hc 2 (by omega)
   have y3:=hc 3 (by omega)
   have y4:=hc 4 (by omega)
   have y5:=hc 5 (by omega)
   have y6:=hc 6 (by omega)
   have y7:=hc 7 (by omega)
   have y8:=hc 8 (by omega)
   have y9:=hc 9 (by omega)
   have y10:=hc 10 (by omega)
   simp [fdCells,rcCells,recArr] at y0 y1 y2 y3 y4 y5 y6 y7 y8 y9 y10
   obtain ⟨hRs,ht0,ht1⟩:=uh HRs j y hy
   have HRj:=hide hRs
   have HBr:=hide ((uh HB3).trans (hB.mono (uh HB3).size))
   have HBx:Hid (Below w.heap.size w (wr.alloc (.cells #[.int .u8 (byteAt y.1.kb 0),.int .u8 (byteAt y.1.kb 1),.int .u8 (byteAt y.1.kb 2),.int .u8 (byteAt y.1.kb 3),.int .u8 (byteAt y.1.kb 4),.int .u8 (byteAt y.1.kb 5),.int .u8 (byteAt y.1.kb 6),.int .u8 (byteAt y.1.kb 7),.int .i64 y.1.v,.int .i64 y.1.t] 137))):=(uh HBr).alloc (uh HBr).size _
   have HBy:Hid (Below w3.heap.size w3 (wr.alloc (.cells #[.int .u8 (byteAt y.1.kb 0),.int .u8 (byteAt y.1.kb 1),.int .u8 (byteAt y.1.kb 2),.int .u8 (byteAt y.1.kb 3),.int .u8 (byteAt y.1.kb 4),.int .u8 (byteAt y.1.kb 5),.int .u8 (byteAt y.1.kb 6),.int .u8 (byteAt y.1.kb 7),.int .i64 y.1.v,.int .i64 y.1.t] 137))):=hB.alloc hB.size _
   have HXn:=hide (heap_alloc_new wr (.cells #[.int .u8 (byteAt y.1.kb 0),.int .u8 (byteAt y.1.kb 1),.int .u8 (byteAt y.1.kb 2),.int .u8 (byteAt y.1.kb 3),.int .u8 (byteAt y.1.kb 4),.int .u8 (byteAt y.1.kb 5),.int .u8 (byteAt y.1.kb 6),.int .u8 (byteAt y.1.kb 7),.int .i64 y.1.v,.int .i64 y.1.t] 137))
   have HXs:=hide ((Below.heap_alloc wr (.cells #[.int .u8 (byteAt y.1.kb 0),.int .u8 (byteAt y.1.kb 1),.int .u8 (byteAt y.1.kb 2),.int .u8 (byteAt y.1.kb 3),.int .u8 (byteAt y.1.kb 4),.int .u8 (byteAt y.1.kb 5),.int .u8 (byteAt y.1.kb 6),.int .u8 (byteAt y.1.kb 7),.int .i64 y.1.v,.int .i64 y.1.t] 137) w3.heap.size (lt_of_heap hS)).trans hS)
   have Y10:(wr.alloc (.cells #[.int .u8 (byteAt y.1.kb 0),.int .u8 (byteAt y.1.kb 1),.int .u8 (byteAt y.1.kb 2),.int .u8 (byteAt y.1.kb 3),.int .u8 (byteAt y.1.kb 4),.int .u8 (byteAt y.1.kb 5),.int .u8 (byteAt y.1.kb 6),.int .u8 (byteAt y.1.kb 7),.int .i64 y.1.v,.int .i64 y.1.t] 137)).cell? ⟨fb,j*11+10,none⟩=some (.int .i64 y.2):=(World.cell?_of_block (w:=wr) (Below.heap_alloc _ _ _ (by have:=hB.size;show fb<wr.heap.size;omega))).trans y10
   clear hS hB hc hy hRs
   go_wp2_with fail
   clear y0 y1 y2 y3 y4 y5 y6 y7 y8 y9 y10
   have hrl:wr.heap.size<(wr.alloc (.cells #[.int .u8 (byteAt y.1.kb 0),.int .u8 (byteAt y.1.kb 1),.int .u8 (byteAt y.1.kb 2),.int .u8 (byteAt y.1.kb 3),.int .u8 (byteAt y.1.kb 4),.int .u8 (byteAt y.1.kb 5),.int .u8 (byteAt y.1.kb 6),.int .u8 (byteAt y.1.kb 7),.int .i64 y.1.v,.int .i64 y.1.t] 137)).heap.size:=by simp
   generalize hV0:wr.alloc (.cells #[.int .u8 (byteAt y.1.kb 0),.int .u8 (byteAt y.1.kb 1),.int .u8 (byteAt y.1.kb 2),.int .u8 (byteAt y.1.kb 3),.int .u8 (byteAt y.1.kb 4),.int .u8 (byteAt y.1.kb 5),.int .u8 (byteAt y.1.kb 6),.int .u8 (byteAt y.1.kb 7),.int .i64 y.1.v,.int .i64 y.1.t] 137)=V at *
   clear hV0
   obtain ⟨⟨g0,g1,g2,g3,g4,g5⟩,hgb⟩:=uh HCf _ (uh HBx)
   obtain ⟨r0,r1,r2,r3,r4,r5,r6,r7,r8,r9⟩:=load10 (uh HXn)
   have HVx:=hide ((uh HBx).drew)
   go_region_held3 (fun w'=>w'.cell? ⟨gb,0,none⟩=some (.int .i64 C.a)∧w'.cell? ⟨gb,1,none⟩=some (.int .i64 C.l)∧w'.cell? ⟨gb,2,none⟩=some (.int .i64 C.b)∧w'.cell? ⟨gb,3,none⟩=some (.int .i64 C.n)∧w'.cell? ⟨gb,4,none⟩=some (.int .i64 C.s)∧w'.cell? ⟨gb,5,none⟩=some (.int .i64 C.t)∧w'.cell? ⟨wr.heap.size,9,none⟩=some (.int .i64 y.1.t))
    (go_keep)
    ((go_at_call 54;refine (uh HHo y.1.t _ ht1).mono ?_;rintro e w4 ⟨rfl,hb4⟩;obtain ⟨⟨q0,q1,q2,q3,q4,q5⟩,hgb4⟩:=uh HCf _ ((uh HVx).trans (hb4.mono (uh HVx).size));obtain ⟨t0,t1,t2,t3,t4,t5,t6,t7,t8,t9⟩:=load10 ((hb4.block _ hrl).trans (uh HXn))))
   have N4:=hide ((hb4.block _ (show w3.heap.size<V.heap.size from lt_of_heap (uh HXs))).trans (uh HXs))
   have B4:=hide ((uh HBy).drew.trans (hb4.mono (show w3.heap.size≤V.drew.heap.size from (uh HBy).size)))
   have Y4:=(hb4.cell (p:=⟨fb,j*11+10,none⟩) (show fb<V.heap.size by have:=(uh HBy).size;omega)).trans Y10
   have hw9:IntKind.i64.wrap (y.1.t+C.t)=y.1.t+C.t:=by rw [IntKind.wrap_i64];omega
   have HRd:Hid (rdStep C st (R j) y=if holdsW C.n st y.1.t=true then addS (R j) y.1.v (decide (y.1.t+C.t<y.2)) else R j):=rfl
   clear hb4 HVx HBx HBy HXn HXs r0 r1 r2 r3 r4 r5 r6 r7 r8 r9 g0 g1 g2 g3 g4 g5 Y10
   cases hh:holdsW C.n st y.1.t
   ·rw [hh] at HRd
    clear hh
    go_wp2
    go_roundw
    case rel=>exact ⟨j+1,by omega,by go_num,by rw [uh HRj,uh HRd];exact uh N4,uh B4⟩
    case measure=>simp [intOf];omega
   ·rw [hh] at HRd
    clear hh
    generalize hlt9:decide (y.1.t+C.t<y.2)=late at *
    go_wp2
    go_quiet (fail)
    have N5:=hide (uh N4:(w4.drewN nq).heap[w3.heap.size]?=_)
    have B5:=hide (below_drewN (uh B4) nq)
    have u8:(w4.drewN nq).cell? ⟨wr.heap.size,8,none⟩=some (.int .i64 y.1.v):=t8
    clear N4 B4 q0 q1 q2 q3 q4 q5 t0 t1 t2 t3 t4 t5 t6 t7 t8 t9 Y4
    generalize w4.drewN nq=V5 at *
    have l0:=cell_of (uh N5) 0
    have l1:=cell_of (uh N5) 1
    have l2:=cell_of (uh N5) 2
    have l3:=cell_of (uh N5) 3
    have l4:=cell_of (uh N5) 4
    have l5:=cell_of (uh N5) 5
    have l6:=cell_of (uh N5) 6
    have l7:=cell_of (uh N5) 7
    simp only [List.getElem?_toArray,List.getElem?_cons_zero,List.getElem?_cons_succ] at l0 l1 l2 l3 l4 l5 l6 l7
    go_wp2_with fail
    refine (uh HAd (R j) y.1.v late _).mono ?_
    generalize addS (R j) y.1.v late=X at *
    rintro e w6 ⟨rfl,hb6⟩
    have N6:=(hb6.block _ (lt_of_heap (uh N5))).trans (uh N5)
    have B6:=(uh B5).trans (hb6.mono (uh B5).size)
    have y0:=cell_of N6 0
    have z0:=frozen_of N6 0
    have y1:=cell_of N6 1
    have z1:=frozen_of N6 1
    have y2:=cell_of N6 2
    have z2:=frozen_of N6 2
    have y3:=cell_of N6 3
    have z3:=frozen_of N6 3
    have y4:=cell_of N6 4
    have z4:=frozen_of N6 4
    have y5:=cell_of N6 5
    have z5:=frozen_of N6 5
    have y6:=cell_of N6 6
    have z6:=frozen_of N6 6
    have y7:=cell_of N6 7
    have z7:=frozen_of N6 7
    simp only [List.getElem?_toArray,List.getElem?_cons_zero,List.getElem?_cons_succ] at y0 y1 y2 y3 y4 y5 y6 y7
    have S8:=hide (set8_new (o0:=.int .i64 X.c) (o1:=.int .i64 X.s) (o2:=.int .i64 X.mn) (o3:=.int .i64 X.mx) (o4:=.int .i64 X.f) (o5:=.int .i64 X.l) (o6:=.int .i64 X.lt) (o7:=.bool X.o) B6 (Nat.le_refl _) N6)
    clear hb6 B6 N6 l0 l1 l2 l3 l4 l5 l6 l7
    go_wp2
    go_roundw
    case rel=>exact ⟨j+1,by omega,by go_num,by rw [uh HRj,uh HRd,if_pos trivial];exact (uh S8).1,(uh S8).2⟩
    case measure=>simp [intOf];omega
  ·have e:j=F.length:=by omega
   subst e
   have N7:=(hB.block w.heap.size (lt_of_heap (uh HN4))).trans (uh HN4)
   have B7:=(uh HB3).trans (hB.mono (uh HB3).size)
   have l0:=cell_of hS 0
   have l1:=cell_of hS 1
   have l2:=cell_of hS 2
   have l3:=cell_of hS 3
   have l4:=cell_of hS 4
   have l5:=cell_of hS 5
   have l6:=cell_of hS 6
   have l7:=cell_of hS 7
   simp only [List.getElem?_toArray,List.getElem?_cons_zero,List.getElem?_cons_succ] at l0 l1 l2 l3 l4 l5 l6 l7
   have y0:=cell_of N7 0
   have z0:=frozen_of N7 0
   have y1:=cell_of N7 1
   have z1:=frozen_of N7 1
   have y2:=cell_of N7 2
   have z2:=frozen_of N7 2
   have y3:=cell_of N7 3
   have z3:=frozen_of N7 3
   have y4:=cell_of N7 4
   have z4:=frozen_of N7 4
   have y5:=cell_of N7 5
   have z5:=frozen_of N7 5
   have y6:=cell_of N7 6
   have z6:=frozen_of N7 6
   have y7:=cell_of N7 7
   have z7:=frozen_of N7 7
   simp only [List.getElem?_toArray,List.getElem?_cons_zero,List.getElem?_cons_succ] at y0 y1 y2 y3 y4 y5 y6 y7
   have S8:=hide (set8_new (o0:=.int .i64 (R F.length).c) (o1:=.int .i64 (R F.length).s) (o2:=.int .i64 (R F.length).mn) (o3:=.int .i64 (R F.length).mx) (o4:=.int .i64 (R F.length).f) (o5:=.int .i64 (R F.length).l) (o6:=.int .i64 (R F.length).lt) (o7:=.bool (R F.length).o) B7 (Nat.le_refl _) N7)
   clear hS hB N7 B7
   go_wp2
   obtain ⟨hx,hB⟩:=uh S8
   have x0:=cell_of hx 0
   have x1:=cell_of hx 1
   have x2:=cell_of hx 2
   have x3:=cell_of hx 3
   have x4:=cell_of hx 4
   have x5:=cell_of hx 5
   have x6:=cell_of hx 6
   have x7:=cell_of hx 7
   simp only [List.getElem?_toArray,List.getElem?_cons_zero,List.getElem?_cons_succ] at x0 x1 x2 x3 x4 x5 x6 x7
   refine bodyPost_ret (v:=.tuple #[.agg #[.int .i64 (R F.length).c,.int .i64 (R F.length).s,.int .i64 (R F.length).mn,.int .i64 (R F.length).mx,.int .i64 (R F.length).f,.int .i64 (R F.length).l,.int .i64 (R F.length).lt,.bool (R F.length).o],.int .i64 0]) ?_ rfl ⟨rfl,hB⟩
   simp [results,Tryz.results26,go_sem,x0,x1,x2,x3,x4,x5,x6,x7]
end Go.Proofs.YtpnkmnmchdabkaaGreat
