import Derived.Test.YtpnkmnmchdabkaaGreatLawS
import Derived.Test.YtpnkmnmchdabkaaGreatM14
namespace Go.Proofs.YtpnkmnmchdabkaaGreat
open Go.RowKit
attribute [local go_sem ↓] Go.wp_at_zero Go.wp_at_succ
def FMoved (W:World) (ρ:Nat→Nat) (yb:Nat) (C:Cfg) (now':Rest) (time:Int) (rs:List Rf) (P:List Pt) (l:List Sh) (N:Nat) (ev:Value) (e:Ending) (w':World):Prop :=
 e=.returned ev∧∃rs' wv' fv',RefPost W ρ yb C time rs' P wv' fv' w'∧absR rs' P=l∧rs'.length=rs.length∧Rel C now' time l P rs' wv' ((N+1:Nat):Int)
set_option maxRecDepth 100000 in
set_option maxHeartbeats 8000000 in
theorem step_fetch {w0 w:World} {K:Nat→Prop} {wb sb gb yb:Nat} {C:Cfg} {sdv:Value} {N:Nat} {ρ:Nat→Nat} {last:Int} {sv iv hv m1 m2 m3:Value} {Ls Li Lh:List Ke} {now now':Rest} {time:Int} {l l':List Sh} {rs:List Rf} {P:List Pt} {wv:Wks} {fv:Value} (hL:LawAt w ρ wb sdv last sv iv hv m1 m2 m3 Ls Li Lh) (hS:Side w ρ sb gb yb C now time l rs P wv fv) (hf:Fits w ρ)
 (hB0:∀k,K k→ρ k=0) (hBb:Keeps (fun k=>¬K k) w0 w) (hBs:∀k,K k→k<w0.heap.size) (hn1:P.length≤N) (hn2:Li.length≤64*N) (hn3:Ls.length≤4*N) (hn4:-(17*(N:Int))≤last) (hn5:last≤0) (hpin:∀e ∈ P,e.shard<rs.length) (hn7:Lh.length≤4*N) (hI:Inv l') (o:Opn) (ho:o.k=12) (p1 p2:Int)
 (HP:∀W,Below w.heap.size w W→Calls Tryz.prog 20 #[.pointer (some ⟨gb,0,none⟩),.int .i64 o.a,.int .i64 o.b] W fun e w'=>e=.returned (.tuple #[.int .i64 p1,.int .i64 p2])∧GrpPost W ρ gb C now' l' w')
 (HR:∀W ρ2,(∃sv lv,RefAt W ρ2 yb C time rs P wv fv sv lv)→Fits W ρ2→Calls Tryz.prog 21 #[.pointer (some ⟨yb,0,none⟩),.int .i64 o.a,.int .i64 o.b] W (FMoved W ρ2 yb C now' time rs P l' N (.tuple #[.int .i64 p1,.int .i64 p2]))) :
 Calls Tryz.prog 10 #[.pointer (some ⟨wb,0,none⟩),.pointer (some ⟨sb,0,none⟩),.agg o.arr] w fun e w'=>e=.returned (.bool true)∧St w0 K wb sb gb yb C sdv (N+1) w':=by
 have hsl:=lt_of_heap hS.blk
 have s0:w.cell? ⟨sb,0,none⟩=some (.pointer (some ⟨gb,0,none⟩)):=cell_of hS.blk 0
 have s1:w.cell? ⟨sb,1,none⟩=some (.pointer (some ⟨yb,0,none⟩)):=cell_of hS.blk 1
 have HP:=hide HP
 have HR:=hide HR
 have HM:Hid (∀W w2,Below w.heap.size w W→GrpPost W ρ gb C now' l' w2→∃ρ',Mid w2 ρ' wb sdv last sv iv hv m1 m2 m3 Ls Li Lh sb gb yb C now' l' time rs P wv fv∧Frame w ρ w2 ρ'∧∀k,w.heap.size≤k→k<W.heap.size→ρ' k=0):=fun W w2 hb hp=>toMid hL hS hf hb hp
 have ht0:Hid (¬mine ρ sb):=fun h=>by have:=hS.tag;unfold mine at h;omega
 have ht1:Hid (¬mine ρ w.heap.size):=fun h=>by have:=hf _ (Nat.le_refl w.heap.size);unfold mine at h;omega
 have HE:Hid (∀w',(∃ρ' now2 time2 l2 rs2 wv2 fv2,LawAt w' ρ' wb sdv last sv iv hv m1 m2 m3 Ls Li Lh∧Side w' ρ' sb gb yb C now2 time2 l2 rs2 P wv2 fv2∧Fits w' ρ'∧Frame w ρ w' ρ'∧Rel C now2 time2 l2 P rs2 wv2 ((N+1:Nat):Int))→St w0 K wb sb gb yb C sdv (N+1) w'):=by
  rintro w' ⟨ρ',now2,time2,l2,rs2,wv2,fv2,a1,a2,a3,a4,a6⟩
  obtain ⟨b1,b2,b3⟩:=below_frame hBb hB0 hBs a4
  exact ⟨ρ',now2,time2,l2,rs2,P,wv2,fv2,last,sv,iv,hv,m1,m2,m3,Ls,Li,Lh,a1,a2,a3,b2,b1,b3,by omega,by omega,by omega,by omega,hn5,a6,by omega⟩
 have HI:=hide hI
 have HPi:=hide hpin
 clear hL hS hf hB0 hBb hBs hn1 hn2 hn3 hn4 hn5 hpin hn7 hI
 obtain ⟨kk,oa,ob,os,olost,owh⟩:=o
 simp only at ho
 subst ho
 simp only at HP HR
 unfold Opn.arr
 simp only
 go_enter Tryz.func10,Tryz.ntmps10
 go_wp2
 have hN:=heap_alloc_new w (.cells #[.int .i64 12,.int .i64 oa,.int .i64 ob,.string os,.bool olost,.bool owh] 48)
 have HBa:Hid (Below w.heap.size w (w.alloc (.cells #[.int .i64 12,.int .i64 oa,.int .i64 ob,.string os,.bool olost,.bool owh] 48))):=(Below.refl _ w).alloc (Nat.le_refl _) _
 have hsz:(w.alloc (.cells #[.int .i64 12,.int .i64 oa,.int .i64 ob,.string os,.bool olost,.bool owh] 48)).heap.size=w.heap.size+1:=by simp
 generalize w.alloc (.cells #[.int .i64 12,.int .i64 oa,.int .i64 ob,.string os,.bool olost,.bool owh] 48)=V at *
 have o0:V.cell? ⟨w.heap.size,1,none⟩=some (.int .i64 oa):=cell_of hN 1
 have o1:V.cell? ⟨w.heap.size,2,none⟩=some (.int .i64 ob):=cell_of hN 2
 have v0:=((uh HBa).cell (p:=⟨sb,0,none⟩) hsl).trans s0
 have v1:=((uh HBa).cell (p:=⟨sb,1,none⟩) hsl).trans s1
 clear s0 s1 hN
 have HB1:Hid (∀q,Below w.heap.size w (V.drewN q)):=fun q=>⟨(uh HBa).os,(uh HBa).tape,(uh HBa).output,(uh HBa).size,(uh HBa).block⟩
 go_region_held3 (fun w'=>w'.cell? ⟨sb,0,none⟩=some (.pointer (some ⟨gb,0,none⟩))∧w'.cell? ⟨w.heap.size,1,none⟩=some (.int .i64 oa)∧w'.cell? ⟨w.heap.size,2,none⟩=some (.int .i64 ob))
  (first | go_keep | (go_split_ands;refine ⟨?_,?_,?_⟩ <;> first | (rw [hkp.cell (show sb<V.heap.size by omega) (uh ht0)];assumption) | (rw [hkp.cell (show w.heap.size<V.heap.size by omega) (uh ht1)];assumption)))
  ((go_at_call 20;refine (uh HP _ (uh HB1 _)).mono ?_;rintro e w2 ⟨rfl,hpost⟩;have hkp:=hpost.choose_spec.choose_spec.choose_spec.2.2.1))
 obtain ⟨ρ2,hmid,hfr,hz⟩:=uh HM _ _ (uh HB1 _) hpost
 have w1:=(hkp.cell (p:=⟨sb,1,none⟩) (show sb<V.heap.size by omega) (uh ht0)).trans v1
 have q0:=(hkp.cell (p:=⟨w.heap.size,1,none⟩) (show w.heap.size<V.heap.size by omega) (uh ht1)).trans o0
 have q1:=(hkp.cell (p:=⟨w.heap.size,2,none⟩) (show w.heap.size<V.heap.size by omega) (uh ht1)).trans o1
 have hw2:w.heap.size<w2.heap.size:=by have:V.heap.size≤w2.heap.size:=hkp.size;omega
 have ht2:Hid (¬theirs ρ2 sb):=fun h=>by have:=hmid.tag;unfold theirs at h;omega
 have ht3:Hid (¬theirs ρ2 w.heap.size):=fun h=>by have:=hz w.heap.size (Nat.le_refl _) (show w.heap.size<V.heap.size by omega);unfold theirs at h;omega
 have HMid:=hide hmid
 have HFr:=hide hfr
 clear hpost hkp hmid hfr hz v0 v1 o0 o1
 have HB2:Hid (∀q,Below w2.heap.size w2 (w2.drewN q)):=fun q=>⟨rfl,rfl,rfl,Nat.le_refl _,fun _ _=>rfl⟩
 go_wp2
 go_region_held3 (fun w'=>w'.cell? ⟨sb,1,none⟩=some (.pointer (some ⟨yb,0,none⟩))∧w'.cell? ⟨w.heap.size,1,none⟩=some (.int .i64 oa)∧w'.cell? ⟨w.heap.size,2,none⟩=some (.int .i64 ob))
  (first | go_keep | (go_split_ands;refine ⟨?_,?_,?_⟩ <;> first | (rw [hkq.cell (show sb<w2.heap.size by omega) (uh ht2)];assumption) | (rw [hkq.cell (show w.heap.size<w2.heap.size by omega) (uh ht3)];assumption)))
  ((go_at_call 21;refine (uh HR _ ρ2 ((uh HMid).drawn (uh HB2 _)).1 ((uh HMid).drawn (uh HB2 _)).2).mono ?_;rintro e w3 ⟨rfl,rs',wv',fv',hpost,h1,h2,h3⟩;have hkq:=hpost.choose_spec.choose_spec.choose_spec.2.1))
 have HEnd:Hid (St w0 K wb sb gb yb C sdv (N+1) w3):=by
  obtain ⟨ρ3,a1,a2,a3,a4⟩:=fromMid (uh HMid) (uh HB2 _) hpost h1 (uh HI) (by rw [h2];exact uh HPi)
  exact uh HE w3 ⟨ρ3,_,_,_,_,_,_,a1,a2,a3,(uh HFr).trans a4,h3⟩
 clear hpost hkq h1 h2 h3 w1 q0 q1
 go_wp2
 go_ret
 exact ⟨rfl,uh HEnd⟩
set_option maxRecDepth 100000 in
set_option maxHeartbeats 8000000 in
theorem step_commit {w0 w:World} {K:Nat→Prop} {wb sb gb yb:Nat} {C:Cfg} {sdv:Value} {N:Nat} {ρ:Nat→Nat} {last:Int} {sv iv hv m1 m2 m3:Value} {Ls Li Lh:List Ke} {now now':Rest} {time:Int} {l l':List Sh} {rs:List Rf} {P:List Pt} {wv:Wks} {fv:Value} (hL:LawAt w ρ wb sdv last sv iv hv m1 m2 m3 Ls Li Lh) (hS:Side w ρ sb gb yb C now time l rs P wv fv) (hf:Fits w ρ)
 (hB0:∀k,K k→ρ k=0) (hBb:Keeps (fun k=>¬K k) w0 w) (hBs:∀k,K k→k<w0.heap.size) (hn1:P.length≤N) (hn2:Li.length≤64*N) (hn3:Ls.length≤4*N) (hn4:-(17*(N:Int))≤last) (hn5:last≤0) (hpin:∀e ∈ P,e.shard<rs.length) (hn7:Lh.length≤4*N) (hI:Inv l') (o:Opn) (ho:o.k=13) (p1:Int)
 (HP:∀W,Below w.heap.size w W→Calls Tryz.prog 22 #[.pointer (some ⟨gb,0,none⟩),.int .i64 o.a,.int .i64 o.b,.bool o.lost] W fun e w'=>e=.returned (.int .i64 p1)∧GrpPost W ρ gb C now' l' w')
 (HR:∀W ρ2,(∃sv lv,RefAt W ρ2 yb C time rs P wv fv sv lv)→Fits W ρ2→Calls Tryz.prog 23 #[.pointer (some ⟨yb,0,none⟩),.int .i64 o.a,.int .i64 o.b,.bool o.lost] W (FMoved W ρ2 yb C now' time rs P l' N (.int .i64 p1))) :
 Calls Tryz.prog 10 #[.pointer (some ⟨wb,0,none⟩),.pointer (some ⟨sb,0,none⟩),.agg o.arr] w fun e w'=>e=.returned (.bool true)∧St w0 K wb sb gb yb C sdv (N+1) w':=by
 have hsl:=lt_of_heap hS.blk
 have s0:w.cell? ⟨sb,0,none⟩=some (.pointer (some ⟨gb,0,none⟩)):=cell_of hS.blk 0
 have s1:w.cell? ⟨sb,1,none⟩=some (.pointer (some ⟨yb,0,none⟩)):=cell_of hS.blk 1
 have HP:=hide HP
 have HR:=hide HR
 have HM:Hid (∀W w2,Below w.heap.size w W→GrpPost W ρ gb C now' l' w2→∃ρ',Mid w2 ρ' wb sdv last sv iv hv m1 m2 m3 Ls Li Lh sb gb yb C now' l' time rs P wv fv∧Frame w ρ w2 ρ'∧∀k,w.heap.size≤k→k<W.heap.size→ρ' k=0):=fun W w2 hb hp=>toMid hL hS hf hb hp
 have ht0:Hid (¬mine ρ sb):=fun h=>by have:=hS.tag;unfold mine at h;omega
 have ht1:Hid (¬mine ρ w.heap.size):=fun h=>by have:=hf _ (Nat.le_refl w.heap.size);unfold mine at h;omega
 have HE:Hid (∀w',(∃ρ' now2 time2 l2 rs2 wv2 fv2,LawAt w' ρ' wb sdv last sv iv hv m1 m2 m3 Ls Li Lh∧Side w' ρ' sb gb yb C now2 time2 l2 rs2 P wv2 fv2∧Fits w' ρ'∧Frame w ρ w' ρ'∧Rel C now2 time2 l2 P rs2 wv2 ((N+1:Nat):Int))→St w0 K wb sb gb yb C sdv (N+1) w'):=by
  rintro w' ⟨ρ',now2,time2,l2,rs2,wv2,fv2,a1,a2,a3,a4,a6⟩
  obtain ⟨b1,b2,b3⟩:=below_frame hBb hB0 hBs a4
  exact ⟨ρ',now2,time2,l2,rs2,P,wv2,fv2,last,sv,iv,hv,m1,m2,m3,Ls,Li,Lh,a1,a2,a3,b2,b1,b3,by omega,by omega,by omega,by omega,hn5,a6,by omega⟩
 have HI:=hide hI
 have HPi:=hide hpin
 clear hL hS hf hB0 hBb hBs hn1 hn2 hn3 hn4 hn5 hpin hn7 hI
 obtain ⟨kk,oa,ob,os,olost,owh⟩:=o
 simp only at ho
 subst ho
 simp only at HP HR
 unfold Opn.arr
 simp only
 go_enter Tryz.func10,Tryz.ntmps10
 go_wp2
 have hN:=heap_alloc_new w (.cells #[.int .i64 13,.int .i64 oa,.int .i64 ob,.string os,.bool olost,.bool owh] 48)
 have HBa:Hid (Below w.heap.size w (w.alloc (.cells #[.int .i64 13,.int .i64 oa,.int .i64 ob,.string os,.bool olost,.bool owh] 48))):=(Below.refl _ w).alloc (Nat.le_refl _) _
 have hsz:(w.alloc (.cells #[.int .i64 13,.int .i64 oa,.int .i64 ob,.string os,.bool olost,.bool owh] 48)).heap.size=w.heap.size+1:=by simp
 generalize w.alloc (.cells #[.int .i64 13,.int .i64 oa,.int .i64 ob,.string os,.bool olost,.bool owh] 48)=V at *
 have o0:V.cell? ⟨w.heap.size,1,none⟩=some (.int .i64 oa):=cell_of hN 1
 have o1:V.cell? ⟨w.heap.size,2,none⟩=some (.int .i64 ob):=cell_of hN 2
 have o2:V.cell? ⟨w.heap.size,4,none⟩=some (.bool olost):=cell_of hN 4
 have v0:=((uh HBa).cell (p:=⟨sb,0,none⟩) hsl).trans s0
 have v1:=((uh HBa).cell (p:=⟨sb,1,none⟩) hsl).trans s1
 clear s0 s1 hN
 have HB1:Hid (∀q,Below w.heap.size w (V.drewN q)):=fun q=>⟨(uh HBa).os,(uh HBa).tape,(uh HBa).output,(uh HBa).size,(uh HBa).block⟩
 go_region_held3 (fun w'=>w'.cell? ⟨sb,0,none⟩=some (.pointer (some ⟨gb,0,none⟩))∧w'.cell? ⟨w.heap.size,1,none⟩=some (.int .i64 oa)∧w'.cell? ⟨w.heap.size,2,none⟩=some (.int .i64 ob)∧w'.cell? ⟨w.heap.size,4,none⟩=some (.bool olost))
  (first | go_keep | (go_split_ands;refine ⟨?_,?_,?_,?_⟩ <;> first | (rw [hkp.cell (show sb<V.heap.size by omega) (uh ht0)];assumption) | (rw [hkp.cell (show w.heap.size<V.heap.size by omega) (uh ht1)];assumption)))
  ((go_at_call 22;refine (uh HP _ (uh HB1 _)).mono ?_;rintro e w2 ⟨rfl,hpost⟩;have hkp:=hpost.choose_spec.choose_spec.choose_spec.2.2.1))
 obtain ⟨ρ2,hmid,hfr,hz⟩:=uh HM _ _ (uh HB1 _) hpost
 have w1:=(hkp.cell (p:=⟨sb,1,none⟩) (show sb<V.heap.size by omega) (uh ht0)).trans v1
 have q0:=(hkp.cell (p:=⟨w.heap.size,1,none⟩) (show w.heap.size<V.heap.size by omega) (uh ht1)).trans o0
 have q1:=(hkp.cell (p:=⟨w.heap.size,2,none⟩) (show w.heap.size<V.heap.size by omega) (uh ht1)).trans o1
 have q2:=(hkp.cell (p:=⟨w.heap.size,4,none⟩) (show w.heap.size<V.heap.size by omega) (uh ht1)).trans o2
 have hw2:w.heap.size<w2.heap.size:=by have:V.heap.size≤w2.heap.size:=hkp.size;omega
 have ht2:Hid (¬theirs ρ2 sb):=fun h=>by have:=hmid.tag;unfold theirs at h;omega
 have ht3:Hid (¬theirs ρ2 w.heap.size):=fun h=>by have:=hz w.heap.size (Nat.le_refl _) (show w.heap.size<V.heap.size by omega);unfold theirs at h;omega
 have HMid:=hide hmid
 have HFr:=hide hfr
 clear hpost hkp hmid hfr hz v0 v1 o0 o1 o2
 have HB2:Hid (∀q,Below w2.heap.size w2 (w2.drewN q)):=fun q=>⟨rfl,rfl,rfl,Nat.le_refl _,fun _ _=>rfl⟩
 go_wp2
 go_region_held3 (fun w'=>w'.cell? ⟨sb,1,none⟩=some (.pointer (some ⟨yb,0,none⟩))∧w'.cell? ⟨w.heap.size,1,none⟩=some (.int .i64 oa)∧w'.cell? ⟨w.heap.size,2,none⟩=some (.int .i64 ob)∧w'.cell? ⟨w.heap.size,4,none⟩=some (.bool olost))
  (first | go_keep | (go_split_ands;refine ⟨?_,?_,?_,?_⟩ <;> first | (rw [hkq.cell (show sb<w2.heap.size by omega) (uh ht2)];assumption) | (rw [hkq.cell (show w.heap.size<w2.heap.size by omega) (uh ht3)];assumption)))
  ((go_at_call 23;refine (uh HR _ ρ2 ((uh HMid).drawn (uh HB2 _)).1 ((uh HMid).drawn (uh HB2 _)).2).mono ?_;rintro e w3 ⟨rfl,rs',wv',fv',hpost,h1,h2,h3⟩;have hkq:=hpost.choose_spec.choose_spec.choose_spec.2.1))
 have HEnd:Hid (St w0 K wb sb gb yb C sdv (N+1) w3):=by
  obtain ⟨ρ3,a1,a2,a3,a4⟩:=fromMid (uh HMid) (uh HB2 _) hpost h1 (uh HI) (by rw [h2];exact uh HPi)
  exact uh HE w3 ⟨ρ3,_,_,_,_,_,_,a1,a2,a3,(uh HFr).trans a4,h3⟩
 clear hpost hkq h1 h2 h3 w1 q0 q1 q2
 go_wp2
 go_ret
 exact ⟨rfl,uh HEnd⟩
end Go.Proofs.YtpnkmnmchdabkaaGreat
namespace Go.Proofs.YtpnkmnmchdabkaaGreat
open Go.RowKit
theorem LawAt.moreHolds {W C1 C2 D:World} {ρ:Nat→Nat} {wb:Nat} {sdv:Value} {last:Int} {sv iv hv m1 m2 m3:Value} {Ls Li Lh:List Ke} (h:LawAt W ρ wb sdv last sv iv hv m1 m2 m3 Ls Li Lh) (hf:Fits W ρ) (x:Ke)
 (hxl:W.ownsRow 0 102 4 (entV x) x.n (repP patH x.m x.n)) (hxn:x.n≤1000000) (hlen:Lh.length≤100000000) (hxt:∀b,(entV x).ownBlock=some b→ρ b=310)
 (hin:∀y ∈ Lh,∀b,(entV x).ownBlock=some b→y.a=some ⟨b,0,none⟩→y.m=x.m∧y.n≤x.n) (hout:∀y,(y ∈ Ls∨y ∈ Li)→∀b,(entV x).ownBlock=some b→y.a≠some ⟨b,0,none⟩)
 {g1 c1 g2 c2 g3 c3:Nat}
 (b1:C1.heap[wb]?=some (.cells #[sdv,sv,iv,.slice (some ⟨g1,0,none⟩) (Lh.length+1) c1,m1,m2,m3,.int .i64 last] 36 (0,0))) (r1:C1.ownsRow 0 81 1 (.slice (some ⟨g1,0,none⟩) (Lh.length+1) c1) (Lh.length+1) (Lh.map entV ++ [entV x])) (k1:Keeps (fun k=>k=wb∨hv.ownBlock=some k) W C1) (o1:g1<W.heap.size→hv.ownBlock=some g1)
 (b2:C2.heap[wb]?=some (.cells #[sdv,sv,iv,.slice (some ⟨g1,0,none⟩) (Lh.length+1) c1,m1,m2,.slice (some ⟨g2,0,none⟩) (Lh.length+1) c2,.int .i64 last] 36 (0,0))) (r2:C2.ownsRow 0 3 1 (.slice (some ⟨g2,0,none⟩) (Lh.length+1) c2) (Lh.length+1) (Lh.map entM ++ [entM x])) (k2:Keeps (fun k=>k=wb∨m3.ownBlock=some k) C1 C2) (o2:g2<C1.heap.size→m3.ownBlock=some g2)
 (r3:D.ownsRow 0 102 4 (.slice (some ⟨g3,0,none⟩) (x.n+1) c3) (x.n+1) (repP patH x.m x.n ++ patH x.m)) (k3:Keeps (fun k=>(entV x).ownBlock=some k) C2 D) (s3:C2.grownBy D (some g3)) (o3:g3<C2.heap.size→(entV x).ownBlock=some g3) :
 ∃ρ',LawAt D ρ' wb sdv last sv iv (.slice (some ⟨g1,0,none⟩) (Lh.length+1) c1) m1 m2 (.slice (some ⟨g2,0,none⟩) (Lh.length+1) c2) Ls Li (Lh ++ [x])∧(∀k,k<W.heap.size→ρ' k=ρ k)∧(∀k,W.heap.size≤k→ρ' k=0∨300≤ρ' k)∧Fits D ρ'∧ρ' g3=310∧Keeps (laws ρ) W D ∧
  (∀y ∈ Lh ++ [x],y.a=some ⟨g3,0,none⟩→y.m=x.m∧y.n≤x.n+1)∧(∀y,(y ∈ Ls∨y ∈ Li)→y.a≠some ⟨g3,0,none⟩):=by
 have hwl:=lt_of_heap h.blk
 have z1:=k1.size
 have z2:=k2.size
 have z3:=k3.size
 have g1l:=(r1.lt g1 rfl).2
 have g2l:=(r2.lt g2 rfl).2
 have g3l:=(r3.lt g3 rfl).2
 have iT:∀k,hv.ownBlock=some k→k<W.heap.size∧ρ k=304:=fun k hk=>⟨(h.kH.row.lt k hk).2,h.tH k hk⟩
 have mT:∀k,m3.ownBlock=some k→k<W.heap.size∧ρ k=307:=fun k hk=>⟨(h.kH.ms.lt k hk).2,h.t3 k hk⟩
 have xT:∀k,(entV x).ownBlock=some k→k<W.heap.size∧ρ k=310:=fun k hk=>⟨(hxl.lt k hk).2,hxt k hk⟩
 have q1:g1<W.heap.size→ρ g1=304:=fun hh=>(iT g1 (o1 hh)).2
 have q2:g2<C1.heap.size→g2<W.heap.size∧ρ g2=307:=fun hh=>mT g2 (o2 hh)
 have q3:g3<C2.heap.size→g3<W.heap.size∧ρ g3=310:=fun hh=>xT g3 (o3 hh)
 have d12:g1≠g2:=by
  rintro rfl
  have a:=q2 g1l
  have b:=q1 a.1
  omega
 have d13:g1≠g3:=by
  rintro rfl
  have a:=q3 (by omega)
  have b:=q1 a.1
  omega
 have d23:g2≠g3:=by
  rintro rfl
  have a:=q3 g2l
  have b:=q2 (by omega)
  omega
 have tg:∀k,k<W.heap.size→(if k=g1 then 304 else if k=g2 then 307 else if k=g3 then 310 else ρ k)=ρ k:=by
  intro k hk
  split
  ·rename_i e;subst e;exact (q1 hk).symm
  ·split
   ·rename_i e;subst e;exact ((q2 (by omega)).2).symm
   ·split
    ·rename_i e;subst e;exact ((q3 (by omega)).2).symm
    ·rfl
 have st:∀k,k<W.heap.size→k≠wb→ρ k≠304→ρ k≠307→ρ k≠310→D.heap[k]?=W.heap[k]?:=by
  intro k hk hw h3 h5 h10
  rw [k3.block k (by omega) (fun e=>h10 (xT k e).2),k2.block k (by omega) (fun e=>by rcases e with e | e;exact hw e;exact h5 (mT k e).2),k1.block k hk (fun e=>by rcases e with e | e;exact hw e;exact h3 (iT k e).2)]
 have stL:∀k,k<W.heap.size→ρ k=310→C2.heap[k]?=W.heap[k]?:=by
  intro k hk h10
  have hw:k≠wb:=by rintro rfl;have:=h.tag;omega
  rw [k2.block k (by omega) (fun e=>by rcases e with e | e;exact hw e;have:=(mT k e).2;omega),k1.block k hk (fun e=>by rcases e with e | e;exact hw e;have:=(iT k e).2;omega)]
 have ent:∀y,(y ∈ Ls∨y ∈ Li)→∀b,y.a=some ⟨b,0,none⟩→b<W.heap.size→D.heap[b]?=W.heap[b]?:=by
  intro y hy b hb hl
  have hy':y ∈ Ls∨y ∈ Li∨y ∈ Lh:=hy.elim Or.inl (fun q=>Or.inr (Or.inl q))
  have h10:=(h.tL y hy' b hb).1
  rw [k3.block b (by omega) (fun e=>hout y hy b e hb),stL b hl h10]
 have row:∀{te:TypeId} {size n:Nat} {v:Value} {xs:List Value} {t:Nat},W.ownsRow 0 te size v n xs→(∀k,v.ownBlock=some k→ρ k=t)→t≠300→t≠304→t≠307→t≠310→∀k,v.ownBlock=some k→D.heap[k]?=W.heap[k]?:=by
  intro te size n v xs t ho ht a0 a1 a2 a3 k hk
  have:=ht k hk
  exact st k (ho.lt k hk).2 (by rintro rfl;have:=h.tag;omega) (by omega) (by omega) (by omega)
 have tgv:∀{te:TypeId} {size n:Nat} {v:Value} {xs:List Value} {t:Nat},W.ownsRow 0 te size v n xs→(∀k,v.ownBlock=some k→ρ k=t)→∀k,v.ownBlock=some k→(if k=g1 then 304 else if k=g2 then 307 else if k=g3 then 310 else ρ k)=t :=
  fun ho ht k hk=>by rw [tg k (ho.lt k hk).2];exact ht k hk
 have hg3w:∀b,(entV x).ownBlock=some b→b<W.heap.size:=fun b hb=>(xT b hb).1
 refine ⟨fun k=>if k=g1 then 304 else if k=g2 then 307 else if k=g3 then 310 else ρ k,⟨?_,?_,?_,?_,?_,tgv h.kS.row h.tS,tgv h.kI.row h.tI,?_,tgv h.kI.ms h.t1,tgv h.kS.ms h.t2,?_,?_⟩,tg,?_,?_,?_,?_,?_,?_⟩
 ·rw [k3.block wb (by omega) (fun e=>by have:=(xT wb e).2;have:=h.tag;omega)];exact b2
 ·show (if wb=g1 then _ else _)=300
  rw [tg wb hwl];exact h.tag
 ·exact h.kS.same (by omega) (row h.kS.row h.tS (by omega) (by omega) (by omega) (by omega)) (row h.kS.ms h.t2 (by omega) (by omega) (by omega) (by omega)) (fun y hy=>ent y (Or.inl hy))
 ·exact h.kI.same (by omega) (row h.kI.row h.tI (by omega) (by omega) (by omega) (by omega)) (row h.kI.ms h.t1 (by omega) (by omega) (by omega) (by omega)) (fun y hy=>ent y (Or.inr hy))
 ·refine ⟨?_,?_,?_,by simp;omega⟩
  ·rw [List.length_append,List.map_append]
   refine ownsRow_of_block r1 fun k hk=>?_
   simp [Value.ownBlock] at hk
   subst hk
   rw [k3.block _ (by omega) (fun e=>by have a:=xT _ e;have b:=q1 a.1;omega),k2.block _ g1l (fun e=>by
    rcases e with e | e
    ·have:=q1 (by omega);have:=h.tag;rw [e] at *;omega
    ·have a:=mT _ e;have b:=q1 a.1;omega)]
  ·rw [List.length_append,List.map_append]
   refine ownsRow_of_block r2 fun k hk=>?_
   simp [Value.ownBlock] at hk
   subst hk
   rw [k3.block _ g2l (fun e=>by have a:=xT _ e;have b:=q2 (by omega);omega)]
  ·intro y hy
   rcases List.mem_append.1 hy with hy | hy
   ·refine ⟨?_,(h.kH.all y hy).2⟩
    have hC2:HoldsAll C2 4 patH y:=(h.kH.all y hy).1.same (by omega) (fun b hb hl=>stL b hl (h.tL y (Or.inr (Or.inr hy)) b hb).1)
    exact hC2.grown patH_len r3 s3 (fun e=>by
     have hb:=h.tL y (Or.inr (Or.inr hy)) g3 e
     exact hin y hy g3 (o3 (by omega)) e)
   ·rw [List.mem_singleton] at hy
    subst hy
    refine ⟨?_,by omega⟩
    have hW:HoldsAll W 4 patH y:=HoldsAll.new patH_len hxl
    have hC2:HoldsAll C2 4 patH y:=hW.same (by omega) (fun b hb hl=>stL b hl (hxt b (by unfold entV;rw [hb];rfl)))
    exact hC2.grown patH_len r3 s3 (fun _=>⟨rfl,Nat.le_refl _⟩)
 ·intro k hk
  simp [Value.ownBlock] at hk
  subst hk
  simp
 ·intro k hk
  simp [Value.ownBlock] at hk
  subst hk
  simp [Ne.symm d12]
 ·intro y hy b hb
  have:(y ∈ Ls∨y ∈ Li∨y ∈ Lh)∨y=x:=by
   rcases hy with hy | hy | hy
   ·exact Or.inl (Or.inl hy)
   ·exact Or.inl (Or.inr (Or.inl hy))
   ·rcases List.mem_append.1 hy with hy | hy
    ·exact Or.inl (Or.inr (Or.inr hy))
    ·exact Or.inr (List.mem_singleton.1 hy)
  rcases this with hy | rfl
  ·have h1:=h.tL y hy b hb
   exact ⟨by show (if b=g1 then _ else _)=_;rw [tg b h1.2];exact h1.1,by omega⟩
  ·have hbb:(entV y).ownBlock=some b:=by unfold entV;rw [hb];rfl
   have h1:=xT b hbb
   exact ⟨by show (if b=g1 then _ else _)=_;rw [tg b h1.1];exact h1.2,by omega⟩
 ·intro k hk
  show (if k=g1 then 304 else if k=g2 then 307 else if k=g3 then 310 else ρ k)=0∨300≤(if k=g1 then 304 else if k=g2 then 307 else if k=g3 then 310 else ρ k)
  split
  ·right;omega
  ·split
   ·right;omega
   ·split
    ·right;omega
    ·left;exact hf k hk
 ·intro k hk
  show (if k=g1 then 304 else if k=g2 then 307 else if k=g3 then 310 else ρ k)=0
  rw [if_neg (by omega),if_neg (by omega),if_neg (by omega)]
  exact hf k (by omega)
 ·show (if g3=g1 then 304 else if g3=g2 then 307 else if g3=g3 then 310 else ρ g3)=310
  rw [if_neg (Ne.symm d13),if_neg (Ne.symm d23),if_pos rfl]
 ·refine ⟨by rw [k3.os,k2.os,k1.os],by rw [k3.tape,k2.tape,k1.tape],by rw [k3.output,k2.output,k1.output],by omega,fun k hk hs=>?_⟩
  unfold laws at hs
  exact st k hk (by rintro rfl;have:=h.tag;omega) (by omega) (by omega) (by omega)
 ·intro y hy hya
  rcases List.mem_append.1 hy with hy | hy
  ·have hb:=h.tL y (Or.inr (Or.inr hy)) g3 hya
   have:=hin y hy g3 (o3 (by omega)) hya
   exact ⟨this.1,by omega⟩
  ·rw [List.mem_singleton] at hy
   subst hy
   exact ⟨rfl,by omega⟩
 ·intro y hy hya
  have hy':y ∈ Ls∨y ∈ Li∨y ∈ Lh:=hy.elim Or.inl (fun q=>Or.inr (Or.inl q))
  have hb:=h.tL y hy' g3 hya
  exact hout y hy g3 (o3 (by omega)) hya
structure KInvH (w:World) (ρ:Nat→Nat) (wb:Nat) (sdv:Value) (m:Int) (iv sv m1 m2:Value) (Lh Li Ls:List Ke) (lv:Value) (n j:Nat) (ρ1:Nat→Nat) (sv1 m21:Value) (Ln:List Ke) (x:Ke) (wr:World):Prop where
 law:LawAt wr ρ1 wb sdv m sv iv sv1 m1 m2 m21 Ls Li (Lh ++ Ln)
 len:Ln.length=j
 xm:x.m=m
 xn:x.n=n+j
 row:wr.ownsRow 0 102 4 (entV x) x.n (repP patH x.m x.n)
 xt:∀b,(entV x).ownBlock=some b→ρ1 b=310
 hin:∀y ∈ Lh ++ Ln,∀b,(entV x).ownBlock=some b→y.a=some ⟨b,0,none⟩→y.m=x.m∧y.n≤x.n
 hout:∀y,(y ∈ Ls∨y ∈ Li)→∀b,(entV x).ownBlock=some b→y.a≠some ⟨b,0,none⟩
 e1:∀k,k<w.heap.size→lv.ownBlock≠some k→ρ1 k=ρ k
 e2:∀k,w.heap.size≤k→ρ1 k=0∨300≤ρ1 k
 fits:Fits wr ρ1
 keeps:Keeps (fun k=>laws ρ k∨lv.ownBlock=some k) w wr
 e3:∀k,lv.ownBlock=some k→ρ1 k=310
 e4:∀k,lv.ownBlock=some k→k<w.heap.size
theorem KInvH.start {w V wr:World} {ρ:Nat→Nat} {wb:Nat} {sdv:Value} {m:Int} {sv iv hv m1 m2 m3:Value} {Ls Li Lh:List Ke} {la:Option Addr} {n lc:Nat} (hV:LawAt V ρ wb sdv m sv iv hv m1 m2 m3 Ls Li Lh) (hs:V.heap.size=w.heap.size) (hf:Fits w ρ) (hT:∀k,(Value.slice la n lc).ownBlock=some k→ρ k=0)
 (hK:Keeps (fun k=>laws ρ k∨(Value.slice la n lc).ownBlock=some k) w V) (hk:Keeps (fun k=>(Value.slice la n lc).ownBlock=some k) V wr) (hr:wr.ownsRow 0 102 4 (.slice la n lc) n (repP patH m n)) (h4:∀k,(Value.slice la n lc).ownBlock=some k→k<w.heap.size) :
 KInvH w ρ wb sdv m iv sv m1 m2 Lh Li Ls (.slice la n lc) n 0 (fun k=>if (Value.slice la n lc).ownBlock=some k then 310 else ρ k) hv m3 [] ⟨la,n,lc,m⟩ wr:=by
 have hz:=hk.size
 have no:∀y,(y ∈ Ls∨y ∈ Li∨y ∈ Lh)→∀b,(Value.slice la n lc).ownBlock=some b→y.a≠some ⟨b,0,none⟩:=by
  intro y hy b hb hya
  have h1:=(hV.tL y hy b hya).1
  have h2:=hT b hb
  omega
 refine ⟨?_,rfl,rfl,rfl,hr,fun b hb=>if_pos hb,?_,?_,fun k _ hne=>if_neg hne,?_,?_,?_,fun k hk=>if_pos hk,h4⟩
 ·rw [List.append_nil]
  refine hV.keeps hk (fun k hk=>Or.inl ?_) (fun k _ h3=>if_neg ?_)
  ·unfold laws;have:=hT k hk;omega
  ·intro e;have:=hT k e;omega
 ·intro y hy b hb hya
  rw [List.append_nil] at hy
  exact absurd hya (no y (Or.inr (Or.inr hy)) b hb)
 ·intro y hy b hb
  exact no y (hy.elim Or.inl (fun q=>Or.inr (Or.inl q))) b hb
 ·intro k hk
  show (if _ then 310 else ρ k)=0∨300≤(if _ then 310 else ρ k)
  split
  ·right;omega
  ·left;exact hf k hk
 ·intro k hk
  show (if _ then 310 else ρ k)=0
  rw [if_neg (fun e=>by have:=h4 k e;omega)]
  exact hf k (by omega)
 ·exact hK.trans (hk.mono (fun k _ e=>Or.inr e))
theorem KInvH.step {w W C1 C2 D:World} {ρ ρ1:Nat→Nat} {wb:Nat} {sdv:Value} {m:Int} {sv1 iv sv m1 m21 m2:Value} {Lh Li Ls Ln:List Ke} {lv:Value} {n j:Nat} {x:Ke} (h:KInvH w ρ wb sdv m iv sv m1 m2 Lh Li Ls lv n j ρ1 sv1 m21 Ln x W) (hxn:x.n≤1000000) (hlen:(Lh ++ Ln).length≤100000000)
 {N g1 c1 g2 c2 g3 c3:Nat} (hN:N=(Lh ++ Ln).length+1)
 (b1:C1.heap[wb]?=some (.cells #[sdv,sv,iv,.slice (some ⟨g1,0,none⟩) N c1,m1,m2,m21,.int .i64 m] 36 (0,0))) (r1:C1.ownsRow 0 81 1 (.slice (some ⟨g1,0,none⟩) N c1) N ((Lh ++ Ln).map entV ++ [entV x])) (k1:Keeps (fun k=>k=wb∨sv1.ownBlock=some k) W C1) (o1:g1<W.heap.size→sv1.ownBlock=some g1)
 (b2:C2.heap[wb]?=some (.cells #[sdv,sv,iv,.slice (some ⟨g1,0,none⟩) N c1,m1,m2,.slice (some ⟨g2,0,none⟩) N c2,.int .i64 m] 36 (0,0))) (r2:C2.ownsRow 0 3 1 (.slice (some ⟨g2,0,none⟩) N c2) N ((Lh ++ Ln).map entM ++ [entM x])) (k2:Keeps (fun k=>k=wb∨m21.ownBlock=some k) C1 C2) (o2:g2<C1.heap.size→m21.ownBlock=some g2)
 (r3:D.ownsRow 0 102 4 (.slice (some ⟨g3,0,none⟩) (x.n+1) c3) (x.n+1) (repP patH x.m x.n ++ patH x.m)) (k3:Keeps (fun k=>(entV x).ownBlock=some k) C2 D) (s3:C2.grownBy D (some g3)) (o3:g3<C2.heap.size→(entV x).ownBlock=some g3) :
 ∃ρ',KInvH w ρ wb sdv m iv sv m1 m2 Lh Li Ls lv n (j+1) ρ' (.slice (some ⟨g1,0,none⟩) N c1) (.slice (some ⟨g2,0,none⟩) N c2) (Ln ++ [x]) ⟨some ⟨g3,0,none⟩,x.n+1,c3,x.m⟩ D:=by
 subst hN
 obtain ⟨ρ',hL,hold,hnew,hF,h310,hK,hi,ho⟩:=h.law.moreHolds h.fits x h.row hxn hlen h.xt h.hin h.hout b1 r1 k1 o1 b2 r2 k2 o2 r3 k3 s3 o3
 have hz:=h.keeps.size
 have own:∀b,(entV ⟨some ⟨g3,0,none⟩,x.n+1,c3,x.m⟩).ownBlock=some b→b=g3:=by
  intro b hb
  simp [entV,Value.ownBlock] at hb
  exact hb.symm
 refine ⟨ρ',?_,by simp [h.len],h.xm,by show x.n+1=_;rw [h.xn];omega,r3,fun b hb=>by rw [own b hb];exact h310,?_,?_,?_,?_,hF,?_,?_,h.e4⟩
 ·rw [←List.append_assoc];exact hL
 ·intro y hy b hb hya
  rw [own b hb] at hya
  rw [←List.append_assoc] at hy
  exact hi y hy hya
 ·intro y hy b hb
  rw [own b hb]
  exact ho y hy
 ·intro k hk hne
  rw [hold k (by omega)];exact h.e1 k hk hne
 ·intro k hk
  by_cases hlt:k<W.heap.size
  ·rw [hold k hlt];exact h.e2 k hk
  ·exact hnew k (by omega)
 ·have hzD:=hK.size
  refine ⟨hK.os.trans h.keeps.os,hK.tape.trans h.keeps.tape,hK.output.trans h.keeps.output,by omega,fun k hk hs=>?_⟩
  rw [hK.block k (by omega) (fun e=>hs (Or.inl (by
   unfold laws at e ⊢
   rw [h.e1 k hk (fun q=>hs (Or.inr q))] at e
   exact e)))]
  exact h.keeps.block k hk hs
 ·intro k hk
  rw [hold k (by have:=h.e4 k hk;omega)];exact h.e3 k hk
end Go.Proofs.YtpnkmnmchdabkaaGreat
namespace Go.Proofs.YtpnkmnmchdabkaaGreat
open Go.RowKit
attribute [local go_sem ↓] Go.wp_at_zero Go.wp_at_succ
theorem infoHH:(Tryz.prog.info? 81).map (fun i=>(i.zero,i.size,i.bytes))=some (some (.slice none 0 0),1,24):=by kernel_rfl
theorem infoHd:(Tryz.prog.info? 102).map (fun i=>(i.zero,i.size,i.bytes))=some (some (.agg #[.int .i64 0,.int .i64 0,.int .i64 0,.int .i64 0]),4,32):=by kernel_rfl
def KeepPostH (w:World) (ρ:Nat→Nat) (wb:Nat) (sdv:Value) (last:Int) (sv iv m1 m2:Value) (Ls Li Lh:List Ke) (lv:Value) (e:Ending) (w':World):Prop :=
 e=.returned (.tuple #[])∧∃ρ' hv m3 Ln,LawAt w' ρ' wb sdv last sv iv hv m1 m2 m3 Ls Li (Lh ++ Ln)∧Ln.length=4∧(∀k,k<w.heap.size→lv.ownBlock≠some k→ρ' k=ρ k)∧(∀k,w.heap.size≤k→ρ' k=0∨300≤ρ' k)∧Fits w' ρ'∧Keeps (fun k=>laws ρ k∨lv.ownBlock=some k) w w'∧(∀k,lv.ownBlock=some k→ρ' k=310)
theorem row_put4 {w:World} {te:TypeId} {lb n c:Nat} {xs:List Value} (h:w.ownsRow 0 te 4 (.slice (some ⟨lb,0,none⟩) n c) n xs) (j:Nat) (v0 v1 v2 v3:Value) :
 ((((w.setCell ⟨lb,j*4,none⟩ v0).setCell ⟨lb,j*4+1,none⟩ v1).setCell ⟨lb,j*4+2,none⟩ v2).setCell ⟨lb,j*4+3,none⟩ v3).ownsRow 0 te 4 (.slice (some ⟨lb,0,none⟩) n c) n
   ((((xs.set (j*4) v0).set (j*4+1) v1).set (j*4+2) v2).set (j*4+3) v3):=by
 have h:=(World.ownsRow.stored h (j*4) v0).1
 have h:=(World.ownsRow.stored h (j*4+1) v1).1
 have h:=(World.ownsRow.stored h (j*4+2) v2).1
 have h:=(World.ownsRow.stored h (j*4+3) v3).1
 exact h
theorem repH_set {m:Int} {xs:List Value} {j:Nat} (hj:j*4+4≤xs.length) :
 (((((repP patH m j ++ xs.drop (j*4)).set (j*4) (.int .i64 m)).set (j*4+1) (.int .i64 0)).set (j*4+2) (.int .i64 0)).set (j*4+3) (.int .i64 0))=repP patH m (j+1) ++ xs.drop ((j+1)*4):=by
 have hl:=repP_len (patH_len m) j
 have hd:xs.drop (j*4)=xs[j*4] :: xs[j*4+1] :: xs[j*4+2] :: xs[j*4+3] :: xs.drop ((j+1)*4):=by
  rw [List.drop_eq_getElem_cons (by omega),List.drop_eq_getElem_cons (by omega),List.drop_eq_getElem_cons (by omega),List.drop_eq_getElem_cons (by omega),show (j+1)*4=j*4+1+1+1+1 by omega]
 rw [hd,List.set_append_right _ _ (by omega),List.set_append_right _ _ (by omega),List.set_append_right _ _ (by omega),List.set_append_right _ _ (by omega),hl,Nat.sub_self,Nat.add_sub_cancel_left,Nat.add_sub_cancel_left,Nat.add_sub_cancel_left]
 simp only [List.set_cons_zero,List.set_cons_succ,repP,patH,List.append_assoc,List.cons_append,List.nil_append]
set_option maxRecDepth 100000 in
set_option maxHeartbeats 8000000 in
theorem keepHolds_any {w:World} {ρ:Nat→Nat} {wb:Nat} {sdv:Value} {last:Int} {sv iv hv m1 m2 m3:Value} {Ls Li Lh:List Ke} (h:LawAt w ρ wb sdv last sv iv hv m1 m2 m3 Ls Li Lh) (hf:Fits w ρ) (h1:-8000000000000000000≤last) (h2:last≤0) (lv:Value) (n:Nat) (xs:List Value) (hl:w.ownsRow 0 102 4 lv n xs) (hn:n≤1000) (hlen:Lh.length≤40000000) (hlt:∀k,lv.ownBlock=some k→ρ k=0) :
 Calls Tryz.prog 74 #[.pointer (some ⟨wb,0,none⟩),lv] w (KeepPostH w ρ wb sdv (last - 1) sv iv m1 m2 Ls Li Lh lv):=by
 obtain ⟨la,lc,rfl⟩:=ownsRow_len hl
 have hwl:=lt_of_heap h.blk
 have c7:w.cell? ⟨wb,7,none⟩=some (.int .i64 last):=cell_of h.blk 7
 have f7:=frozen_of h.blk 7
 have HM:=hide (mark_any w wb last c7 f7 (by omega) h2)
 obtain ⟨i5,hi5,y50,y51,y52⟩:=info_parts infoHH
 obtain ⟨i3,hi3,y30,y31,y32⟩:=info_parts infoI
 obtain ⟨i8,hi8,y80,y81,y82⟩:=info_parts infoHd
 have H0:=hide h
 have HL:=hide hl
 have HT:=hide hlt
 have HF:=hide hf
 clear h hl hlt hf
 go_enter Tryz.func74,Tryz.ntmps74
 go_wp2_with (go_at_call 71;refine (uh HM).mono ?_;rintro e w' ⟨rfl,rfl⟩)
 have hVl:Hid ((w.setCell ⟨wb,7,none⟩ (.int .i64 (last - 1))).ownsRow 0 102 4 (.slice la n lc) n xs):=by
  refine ownsRow_of_block (uh HL) fun k hk=>Below.heap_setCell _ _ _ _ ?_
  rintro rfl
  have h1:=uh HT _ hk
  have h2:=(uh H0).tag
  omega
 have HV:=hide ((uh H0).marked (last - 1))
 have HKV:Hid (Keeps (fun k=>laws ρ k∨(Value.slice la n lc).ownBlock=some k) w (w.setCell ⟨wb,7,none⟩ (.int .i64 (last - 1)))):=(Keeps.refl _ w).setCell (Or.inl (Or.inl (by unfold laws;rw [(uh H0).tag];omega))) _
 have hVs:(w.setCell ⟨wb,7,none⟩ (.int .i64 (last - 1))).heap.size=w.heap.size:=by simp [World.setCell]
 clear HM c7 f7
 generalize w.setCell ⟨wb,7,none⟩ (.int .i64 (last - 1))=V at *
 generalize hmm:last - 1=m at *
 have HXL:Hid (xs.length=n*4):=(uh HL).1
 go_loopw [5] (fun i wr=>∃q:Nat,q≤n∧i=.int .i64 q∧wr.ownsRow 0 102 4 (.slice la n lc) n (repP patH m q ++ xs.drop (q*4))∧Keeps (fun k=>(Value.slice la n lc).ownBlock=some k) V wr) (fun i _=>n - (intOf i).toNat)
 case atStart=>exact ⟨0,Nat.zero_le _,rfl,by simpa [repP] using uh hVl,Keeps.refl _ _⟩
 case round =>
  obtain ⟨q,hq,rfl,hown,hkk⟩:=hrel
  by_cases hlt:q<n
  ·obtain ⟨lb,cp,cur,hv1,_,hcb,_,_,hcs,_⟩:=ownsRow_shape hown (by omega)
   injection hv1 with e1 e2 e3
   subst e1 e3
   clear e2
   have fz:=fun i=>frozen_of hcb i
   have c0:∃u,wr.cell? ⟨lb,q*4,none⟩=some u:=⟨_,(cell_of hcb (q*4)).trans (Array.getElem?_eq_getElem (by omega))⟩
   have c1:∃u,wr.cell? ⟨lb,q*4+1,none⟩=some u:=⟨_,(cell_of hcb (q*4+1)).trans (Array.getElem?_eq_getElem (by omega))⟩
   have c2:∃u,wr.cell? ⟨lb,q*4+2,none⟩=some u:=⟨_,(cell_of hcb (q*4+2)).trans (Array.getElem?_eq_getElem (by omega))⟩
   have c3:∃u,wr.cell? ⟨lb,q*4+3,none⟩=some u:=⟨_,(cell_of hcb (q*4+3)).trans (Array.getElem?_eq_getElem (by omega))⟩
   obtain ⟨u0,c0⟩:=c0
   obtain ⟨u1,c1⟩:=c1
   obtain ⟨u2,c2⟩:=c2
   obtain ⟨u3,c3⟩:=c3
   have HS:=hide (row_put4 hown q (.int .i64 m) (.int .i64 0) (.int .i64 0) (.int .i64 0))
   have HKK:=hide hkk
   have HXL4:Hid (q*4+4≤xs.length):=by (have:=uh HXL;unfold Hid;omega)
   clear hown hkk hcb hcs
   go_wp2
   go_roundw
   case rel =>
    refine ⟨q+1,by omega,by go_num,?_,((((uh HKK).setCell (p:=⟨lb,q*4,none⟩) (Or.inl rfl) _).setCell (p:=⟨lb,q*4+1,none⟩) (Or.inl rfl) _).setCell (p:=⟨lb,q*4+2,none⟩) (Or.inl rfl) _).setCell (p:=⟨lb,q*4+3,none⟩) (Or.inl rfl) _⟩
    rw [←repH_set (uh HXL4)];exact uh HS
   case measure=>simp [intOf];omega
  ·have HR:Hid (wr.ownsRow 0 102 4 (.slice la n lc) n (repP patH m n)):=by
    have e:q=n:=by omega
    subst e
    rw [List.drop_eq_nil_of_le (by rw [uh HXL];omega),List.append_nil] at hown
    exact hown
   have HKK:=hide hkk
   clear hown hkk
   have HI0:=hide (KInvH.start (uh HV) hVs (uh HF) (uh HT) (uh HKV) (uh HKK) (uh HR) (fun k hk=>((uh HL).lt k hk).2))
   clear HV HKV HKK HR hVl HL HT H0
   go_wp2
   go_loopw [1,6] (fun lq i wr=>∃(j:Nat) (ρ2:Nat→Nat) (hv1 m31:Value) (Lt:List Ke) (x:Ke),j≤4∧i=.int .i64 j∧lq=.slice x.a x.n x.cap∧KInvH w ρ wb sdv m iv sv m1 m2 Lh Li Ls (.slice la n lc) n j ρ2 hv1 m31 Lt x wr) (fun _ i _=>4 - (intOf i).toNat)
   case atStart=>exact ⟨0,_,_,_,_,_,by omega,rfl,rfl,uh HI0⟩
   case round =>
    obtain ⟨j,ρ2,hv1,m31,Lt,x,hj,rfl,rfl,hK⟩:=hrel
    by_cases hlt4:j<4
    ·obtain ⟨ia,ic,rfl⟩:=ownsRow_len hK.law.kH.row
     obtain ⟨ma,mc,rfl⟩:=ownsRow_len hK.law.kH.ms
     have hNl:(Lh ++ Lt).length≤40000010:=by rw [List.length_append,hK.len];omega
     have hxn:x.n≤1010:=by have:=hK.xn;omega
     have q2:wr.cell? ⟨wb,3,none⟩=some (.slice ia (Lh ++ Lt).length ic):=cell_of hK.law.blk 3
     have q4:wr.cell? ⟨wb,6,none⟩=some (.slice ma (Lh ++ Lt).length mc):=cell_of hK.law.blk 6
     have p2:=frozen_of hK.law.blk 3
     have p4:=frozen_of hK.law.blk 6
     have hwr:=lt_of_heap hK.law.blk
     have n1:Hid ((Value.slice ia (Lh ++ Lt).length ic).ownBlock≠some wb):=fun e=>by have:=hK.law.tH wb e;have:=hK.law.tag;omega
     have n2:Hid ((Value.slice ma (Lh ++ Lt).length mc).ownBlock≠some wb):=fun e=>by have:=hK.law.t3 wb e;have:=hK.law.tag;omega
     have HK:=hide hK
     clear hK HI0
     generalize hNN:(Lh ++ Lt).length=N at *
     have HNN:=hide hNN
     have HB:=hide (uh HK).law.blk
     clear hNN
     go_wp2_with (at_builtin;go_must (refine wpList_append_stands _ rfl _ _ _ rfl 0 81 i5 _ 1 24 Tryz.underlying33 hi5 y50 y51 y52 rfl (by omega) _ N ((Lh ++ Lt).map entV) rfl ?own ⟨wr.heap.size,0,none⟩ 1 1 [.slice x.a x.n x.cap] rfl rfl ?news ?one (by omega) ?h63 ?bytes (Nat.zero_le _) ?next))
     case own=>have:=(uh HK).law.kH.row.alloc (.cells #[.slice x.a x.n x.cap] 81);rw [uh HNN] at this;exact this
     case news=>exact World.news_of_block (cs:=#[.slice x.a x.n x.cap]) (heap_alloc_new wr _)
     case one=>simp [Value.oneCell']
     case h63=>unfold maxLen;omega
     case bytes=>omega
     case next =>
      intro g1 c1 B1 hown1 hgrow1 hat1 hlt1 hst1
      have F1:=field_append (f:=3) (v:=.slice ia N ic) (uh HB) (uh n1) hown1 hgrow1 (by simpa using hat1)
      have z2:B1.cell? ⟨wb,3,none⟩=some (.slice ia N ic):=(hgrow1.cell_far _ (by simp;omega) (fun e=>uh n1 e.symm)).trans ((World.cell?_of_block (w:=wr) (Below.heap_alloc _ _ _ hwr)).trans q2)
      have z4:B1.cell? ⟨wb,6,none⟩=some (.slice ma N mc):=(hgrow1.cell_far _ (by simp;omega) (fun e=>uh n1 e.symm)).trans ((World.cell?_of_block (w:=wr) (Below.heap_alloc _ _ _ hwr)).trans q4)
      have zf2:B1.frozen? ⟨wb,3,none⟩=false:=(hgrow1.frozen_far _ (by simp;omega) (fun e=>uh n1 e.symm)).trans ((World.frozen?_of_block (w:=wr) (Below.heap_alloc _ _ _ hwr)).trans p2)
      have zf4:B1.frozen? ⟨wb,6,none⟩=false:=(hgrow1.frozen_far _ (by simp;omega) (fun e=>uh n1 e.symm)).trans ((World.frozen?_of_block (w:=wr) (Below.heap_alloc _ _ _ hwr)).trans p4)
      have HF1:=hide F1
      have zB1:=hgrow1.size
      simp at zB1
      have sC1:(B1.setCell ⟨wb,3,none⟩ (.slice (some ⟨g1,0,none⟩) (N+1) c1)).heap.size=B1.heap.size:=by simp [World.setCell]
      have HO2:Hid ((B1.setCell ⟨wb,3,none⟩ (.slice (some ⟨g1,0,none⟩) (N+1) c1)).ownsRow 0 3 1 (.slice ma N mc) N ((Lh ++ Lt).map entM)):=by
       have:=(uh HK).law.kH.ms
       rw [uh HNN] at this
       refine ownsRow_of_block this fun k hk=>F1.2.2.1.block k (this.lt k hk).2 ?_
       rintro (e | e)
       ·exact uh n2 (e ▸ hk)
       ·have a:=(uh HK).law.tH k e;have b:=(uh HK).law.t3 k hk;omega
      have HO3:Hid ((B1.setCell ⟨wb,3,none⟩ (.slice (some ⟨g1,0,none⟩) (N+1) c1)).ownsRow 0 102 4 (entV x) x.n (repP patH x.m x.n)):=by
       refine ownsRow_of_block (uh HK).row fun k hk=>F1.2.2.1.block k ((uh HK).row.lt k hk).2 ?_
       have c:=(uh HK).xt k hk
       rintro (e | e)
       ·have:=(uh HK).law.tag;rw [e] at c;omega
       ·have a:=(uh HK).law.tH k e;omega
      have HW2:Hid (((B1.setCell ⟨wb,3,none⟩ (.slice (some ⟨g1,0,none⟩) (N+1) c1)).alloc (.cells #[.int .i64 m] 3)).heap[B1.heap.size]?=some (.cells #[.int .i64 m] 3 (0,0))):=by
       have:=heap_alloc_new (B1.setCell ⟨wb,3,none⟩ (.slice (some ⟨g1,0,none⟩) (N+1) c1)) (.cells #[.int .i64 m] 3)
       rw [sC1] at this
       exact this
      clear F1 hown1 hgrow1 hat1 hst1 q2 q4 p2 p4
      go_wp2_with (at_builtin;go_must (refine wpList_append_stands _ rfl _ _ _ rfl 0 3 i3 _ 1 8 Tryz.underlying34 hi3 y30 y31 y32 rfl (by omega) _ N ((Lh ++ Lt).map entM) rfl ?own2 ⟨B1.heap.size,0,none⟩ 1 1 [.int .i64 m] rfl rfl ?news2 ?one2 (by omega) ?h632 ?bytes2 (Nat.zero_le _) ?next2))
      case own2=>exact (uh HO2).alloc _
      case news2=>exact World.news_of_block (cs:=#[.int .i64 m]) (uh HW2)
      case one2=>simp [Value.oneCell']
      case h632=>unfold maxLen;omega
      case bytes2=>omega
      case next2 =>
       intro g2 c2 B2 hown2 hgrow2 hat2 hlt2 hst2
       have F2:=field_append (W:=(B1.setCell ⟨wb,3,none⟩ (.slice (some ⟨g1,0,none⟩) (N+1) c1))) (f:=6) (v:=.slice ma N mc) (uh HF1).1 (uh n2) hown2 hgrow2 (by simpa [World.setCell] using hat2)
       have w1:=lt_of_heap (uh HF1).1
       have y4:B2.cell? ⟨wb,6,none⟩=some (.slice ma N mc):=(hgrow2.cell_far _ (by simp [World.setCell];omega) (fun e=>uh n2 e.symm)).trans ((World.cell?_of_block (w:=(B1.setCell ⟨wb,3,none⟩ (.slice (some ⟨g1,0,none⟩) (N+1) c1))) (Below.heap_alloc _ _ _ w1)).trans (cell_of (uh HF1).1 6))
       have yf4:B2.frozen? ⟨wb,6,none⟩=false:=(hgrow2.frozen_far _ (by simp [World.setCell];omega) (fun e=>uh n2 e.symm)).trans ((World.frozen?_of_block (w:=(B1.setCell ⟨wb,3,none⟩ (.slice (some ⟨g1,0,none⟩) (N+1) c1))) (Below.heap_alloc _ _ _ w1)).trans (frozen_of (uh HF1).1 6))
       have HF2:=hide F2
       have sC2:(B2.setCell ⟨wb,6,none⟩ (.slice (some ⟨g2,0,none⟩) (N+1) c2)).heap.size=B2.heap.size:=by simp [World.setCell]
       have HO4:Hid ((B2.setCell ⟨wb,6,none⟩ (.slice (some ⟨g2,0,none⟩) (N+1) c2)).ownsRow 0 102 4 (entV x) x.n (repP patH x.m x.n)):=by
        refine ownsRow_of_block (uh HO3) fun k hk=>F2.2.2.1.block k ((uh HO3).lt k hk).2 ?_
        have c:=(uh HK).xt k hk
        rintro (e | e)
        ·have:=(uh HK).law.tag;rw [e] at c;omega
        ·have a:=(uh HK).law.t3 k e;omega
       have HW3:Hid (((B2.setCell ⟨wb,6,none⟩ (.slice (some ⟨g2,0,none⟩) (N+1) c2)).alloc (.cells #[.int .i64 m,.int .i64 0,.int .i64 0,.int .i64 0] 102)).heap[B2.heap.size]?=some (.cells #[.int .i64 m,.int .i64 0,.int .i64 0,.int .i64 0] 102 (0,0))):=by
        have:=heap_alloc_new (B2.setCell ⟨wb,6,none⟩ (.slice (some ⟨g2,0,none⟩) (N+1) c2)) (.cells #[.int .i64 m,.int .i64 0,.int .i64 0,.int .i64 0] 102)
        rw [sC2] at this
        exact this
       clear F2 hown2 hgrow2 hat2 hst2 z2 z4 zf2 zf4
       go_wp2_with (at_builtin;go_must (refine wpList_append_stands _ rfl _ _ _ rfl 0 102 i8 _ 4 32 Tryz.underlying81 hi8 y80 y81 y82 rfl (by omega) _ x.n (repP patH x.m x.n) rfl ?own3 ⟨B2.heap.size,0,none⟩ 1 1 [.int .i64 m,.int .i64 0,.int .i64 0,.int .i64 0] rfl rfl ?news3 ?one3 (by omega) ?h633 ?bytes3 (Nat.zero_le _) ?next3))
       case own3=>exact (uh HO4).alloc _
       case news3=>exact World.news_of_block (cs:=#[.int .i64 m,.int .i64 0,.int .i64 0,.int .i64 0]) (uh HW3)
       case one3=>simp [Value.oneCell']
       case h633=>unfold maxLen;omega
       case bytes3=>omega
       case next3 =>
        intro g3 c3 D hown3 hgrow3 hat3 hlt3 hst3
        have L3:=list_append hgrow3 hst3 (by simpa [World.setCell] using hat3)
        have hxm:=(uh HK).xm
        obtain ⟨ρ2,hstep⟩:=(uh HK).step (by omega) (by rw [uh HNN];omega) (N:=N+1) (by rw [uh HNN]) (uh HF1).1 (by rw [List.map_append,List.append_assoc];exact (uh HF1).2.1) (uh HF1).2.2.1 (uh HF1).2.2.2.1 (uh HF2).1 (by have:=(uh HF2).2.1;rw [←hxm] at this;rw [List.map_append,List.append_assoc];exact this) (uh HF2).2.2.1 (uh HF2).2.2.2.1 (by rw [←hxm] at hown3;exact hown3) L3.1 L3.2.1 L3.2.2
        have HStep:=hide hstep
        clear hstep L3 hown3 hgrow3 hat3 hst3 hxm
        go_wp2
        go_roundw
        case rel=>exact ⟨j+1,ρ2,_,_,_,⟨some ⟨g3,0,none⟩,x.n+1,c3,x.m⟩,by omega,by go_num,rfl,uh HStep⟩
        case measure=>simp [intOf];omega
    ·have HK:=hide hK
     have e4:Hid (j=4):=by (unfold Hid;omega)
     clear hK
     go_wp2
     have hK:=uh HK
     refine bodyPost_ret (v:=.tuple #[]) (by simp [results,Tryz.results74,go_sem]) rfl ⟨rfl,ρ2,hv1,m31,Lt,hK.law,by rw [hK.len,uh e4],hK.e1,hK.e2,hK.fits,hK.keeps,hK.e3⟩
end Go.Proofs.YtpnkmnmchdabkaaGreat
