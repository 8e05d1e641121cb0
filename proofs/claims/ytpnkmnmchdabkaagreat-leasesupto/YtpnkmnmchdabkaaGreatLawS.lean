import Derived.Test.YtpnkmnmchdabkaaGreatM27
namespace Go.Proofs.YtpnkmnmchdabkaaGreat
open Go.RowKit
attribute [local go_sem ↓] Go.wp_at_zero Go.wp_at_succ
def LMoved (W:World) (ρ:Nat→Nat) (yb:Nat) (C:Cfg) (now':Rest) (time:Int) (rs:List Rf) (P:List Pt) (l:List Sh) (fv:Value) (N:Nat) (ev:Value) (e:Ending) (w':World):Prop :=
 e=.returned ev∧∃rs' wv',RefPost W ρ yb C time rs' P wv' fv w'∧absR rs' P=l∧rs'.length=rs.length∧Rel C now' time l P rs' wv' ((N+1:Nat):Int)
set_option maxRecDepth 100000 in
set_option maxHeartbeats 8000000 in
theorem lease_renew {w0 w:World} {K:Nat→Prop} {wb sb gb yb:Nat} {C:Cfg} {sdv:Value} {N:Nat} {ρ:Nat→Nat} {last:Int} {sv iv hv m1 m2 m3:Value} {Ls Li Lh:List Ke} {now now':Rest} {time:Int} {l l':List Sh} {rs:List Rf} {P:List Pt} {wv:Wks} {fv:Value} (hL:LawAt w ρ wb sdv last sv iv hv m1 m2 m3 Ls Li Lh) (hS:Side w ρ sb gb yb C now time l rs P wv fv) (hf:Fits w ρ)
 (hB0:∀k,K k→ρ k=0) (hBb:Keeps (fun k=>¬K k) w0 w) (hBs:∀k,K k→k<w0.heap.size) (hn1:P.length≤N) (hn2:Li.length≤64*N) (hn3:Ls.length≤4*N) (hn4:-(17*(N:Int))≤last) (hn5:last≤0) (hpin:∀e ∈ P,e.shard<rs.length) (hn7:Lh.length≤4*N) (hI:Inv l') (o:Opn) (ho:o.k=6) (p1 p2:Int)
 (HP:∀W,Below w.heap.size w W→Calls Tryz.prog 59 #[.pointer (some ⟨gb,0,none⟩),.int .i64 o.a] W fun e w'=>e=.returned (.tuple #[.int .i64 p1,.int .i64 p2])∧GrpPost W ρ gb C now' l' w')
 (HR:∀W ρ2,(∃sv lv,RefAt W ρ2 yb C time rs P wv fv sv lv)→Fits W ρ2→Calls Tryz.prog 60 #[.pointer (some ⟨yb,0,none⟩),.int .i64 o.a] W (LMoved W ρ2 yb C now' time rs P l' fv N (.tuple #[.int .i64 p1,.int .i64 p2]))) :
 Calls Tryz.prog 30 #[.pointer (some ⟨wb,0,none⟩),.pointer (some ⟨sb,0,none⟩),.agg o.arr] w fun e w'=>e=.returned (.bool true)∧St w0 K wb sb gb yb C sdv (N+1) w':=by
 have hsl:=lt_of_heap hS.blk
 have s0:w.cell? ⟨sb,0,none⟩=some (.pointer (some ⟨gb,0,none⟩)):=cell_of hS.blk 0
 have s1:w.cell? ⟨sb,1,none⟩=some (.pointer (some ⟨yb,0,none⟩)):=cell_of hS.blk 1
 have HP:=hide HP
 have HR:=hide HR
 have HM:Hid (∀W w2,Below w.heap.size w W→GrpPost W ρ gb C now' l' w2→∃ρ',Mid w2 ρ' wb sdv last sv iv hv m1 m2 m3 Ls Li Lh sb gb yb C now' l' time rs P wv fv∧Frame w ρ w2 ρ'∧∀k,w.heap.size≤k→k<W.heap.size→ρ' k=0):=fun W w2 hb hp=>toMid hL hS hf hb hp
 have ht0:Hid (¬mine ρ sb):=fun h=>by have:=hS.tag;unfold mine at h;omega
 have ht1:Hid (¬mine ρ w.heap.size):=fun h=>by have:=hf _ (Nat.le_refl w.heap.size);unfold mine at h;omega
 have HE:Hid (∀w',(∃ρ' now2 time2 l2 rs2 wv2,LawAt w' ρ' wb sdv last sv iv hv m1 m2 m3 Ls Li Lh∧Side w' ρ' sb gb yb C now2 time2 l2 rs2 P wv2 fv∧Fits w' ρ'∧Frame w ρ w' ρ'∧Rel C now2 time2 l2 P rs2 wv2 ((N+1:Nat):Int))→St w0 K wb sb gb yb C sdv (N+1) w'):=by
  rintro w' ⟨ρ',now2,time2,l2,rs2,wv2,a1,a2,a3,a4,a6⟩
  obtain ⟨b1,b2,b3⟩:=below_frame hBb hB0 hBs a4
  exact ⟨ρ',now2,time2,l2,rs2,P,wv2,fv,last,sv,iv,hv,m1,m2,m3,Ls,Li,Lh,a1,a2,a3,b2,b1,b3,by omega,by omega,by omega,by omega,hn5,a6,by omega⟩
 have HI:=hide hI
 have HPi:=hide hpin
 clear hL hS hf hB0 hBb hBs hn1 hn2 hn3 hn4 hn5 hpin hn7 hI
 obtain ⟨kk,oa,ob,os,olost,owh⟩:=o
 simp only at ho
 subst ho
 simp only at HP HR
 unfold Opn.arr
 simp only
 go_enter Tryz.func30,Tryz.ntmps30
 go_wp2
 have hN:=heap_alloc_new w (.cells #[.int .i64 6,.int .i64 oa,.int .i64 ob,.string os,.bool olost,.bool owh] 48)
 have HBa:Hid (Below w.heap.size w (w.alloc (.cells #[.int .i64 6,.int .i64 oa,.int .i64 ob,.string os,.bool olost,.bool owh] 48))):=(Below.refl _ w).alloc (Nat.le_refl _) _
 have hsz:(w.alloc (.cells #[.int .i64 6,.int .i64 oa,.int .i64 ob,.string os,.bool olost,.bool owh] 48)).heap.size=w.heap.size+1:=by simp
 generalize w.alloc (.cells #[.int .i64 6,.int .i64 oa,.int .i64 ob,.string os,.bool olost,.bool owh] 48)=V at *
 have o1:V.cell? ⟨w.heap.size,1,none⟩=some (.int .i64 oa):=cell_of hN 1
 have o2:V.cell? ⟨w.heap.size,2,none⟩=some (.int .i64 ob):=cell_of hN 2
 have o3:V.cell? ⟨w.heap.size,3,none⟩=some (.string os):=cell_of hN 3
 have v0:=((uh HBa).cell (p:=⟨sb,0,none⟩) hsl).trans s0
 have v1:=((uh HBa).cell (p:=⟨sb,1,none⟩) hsl).trans s1
 clear s0 s1 hN
 have HB1:Hid (∀q,Below w.heap.size w (V.drewN q)):=fun q=>⟨(uh HBa).os,(uh HBa).tape,(uh HBa).output,(uh HBa).size,(uh HBa).block⟩
 go_region_held3 (fun w'=>w'.cell? ⟨sb,0,none⟩=some (.pointer (some ⟨gb,0,none⟩))∧w'.cell? ⟨w.heap.size,1,none⟩=some (.int .i64 oa))
  (first | go_keep | (go_split_ands;refine ⟨?_,?_⟩ <;> first | (rw [hkp.cell (show sb<V.heap.size by omega) (uh ht0)];assumption) | (rw [hkp.cell (show w.heap.size<V.heap.size by omega) (uh ht1)];assumption)))
  ((go_at_call 59;refine (uh HP _ (uh HB1 _)).mono ?_;rintro e w2 ⟨rfl,hpost⟩;have hkp:=hpost.choose_spec.choose_spec.choose_spec.2.2.1))
 obtain ⟨ρ2,hmid,hfr,hz⟩:=uh HM _ _ (uh HB1 _) hpost
 have w1:=(hkp.cell (p:=⟨sb,1,none⟩) (show sb<V.heap.size by omega) (uh ht0)).trans v1
 have q1:=(hkp.cell (p:=⟨w.heap.size,1,none⟩) (show w.heap.size<V.heap.size by omega) (uh ht1)).trans o1
 have q2:=(hkp.cell (p:=⟨w.heap.size,2,none⟩) (show w.heap.size<V.heap.size by omega) (uh ht1)).trans o2
 have q3:=(hkp.cell (p:=⟨w.heap.size,3,none⟩) (show w.heap.size<V.heap.size by omega) (uh ht1)).trans o3
 have hw2:w.heap.size<w2.heap.size:=by have:V.heap.size≤w2.heap.size:=hkp.size;omega
 have ht2:Hid (¬theirs ρ2 sb):=fun h=>by have:=hmid.tag;unfold theirs at h;omega
 have ht3:Hid (¬theirs ρ2 w.heap.size):=fun h=>by have:=hz w.heap.size (Nat.le_refl _) (show w.heap.size<V.heap.size by omega);unfold theirs at h;omega
 have HMid:=hide hmid
 have HFr:=hide hfr
 clear hpost hkp hmid hfr hz v0 v1 o1 o2 o3
 have HB2:Hid (∀q,Below w2.heap.size w2 (w2.drewN q)):=fun q=>⟨rfl,rfl,rfl,Nat.le_refl _,fun _ _=>rfl⟩
 go_wp2
 go_region_held3 (fun w'=>w'.cell? ⟨sb,1,none⟩=some (.pointer (some ⟨yb,0,none⟩))∧w'.cell? ⟨w.heap.size,1,none⟩=some (.int .i64 oa))
  (first | go_keep | (go_split_ands;refine ⟨?_,?_⟩ <;> first | (rw [hkq.cell (show sb<w2.heap.size by omega) (uh ht2)];assumption) | (rw [hkq.cell (show w.heap.size<w2.heap.size by omega) (uh ht3)];assumption)))
  ((go_at_call 60;refine (uh HR _ ρ2 ((uh HMid).drawn (uh HB2 _)).1 ((uh HMid).drawn (uh HB2 _)).2).mono ?_;rintro e w3 ⟨rfl,rs',wv',hpost,h1,h2,h3⟩;have hkq:=hpost.choose_spec.choose_spec.choose_spec.2.1))
 have HEnd:Hid (St w0 K wb sb gb yb C sdv (N+1) w3):=by
  obtain ⟨ρ3,a1,a2,a3,a4⟩:=fromMid (uh HMid) (uh HB2 _) hpost h1 (uh HI) (by rw [h2];exact uh HPi)
  exact uh HE w3 ⟨ρ3,_,_,_,_,_,a1,a2,a3,(uh HFr).trans a4,h3⟩
 clear hpost hkq h1 h2 h3 w1 q1 q2 q3
 go_wp2
 go_ret
 exact ⟨rfl,uh HEnd⟩
set_option maxRecDepth 100000 in
set_option maxHeartbeats 8000000 in
theorem lease_take {w0 w:World} {K:Nat→Prop} {wb sb gb yb:Nat} {C:Cfg} {sdv:Value} {N:Nat} {ρ:Nat→Nat} {last:Int} {sv iv hv m1 m2 m3:Value} {Ls Li Lh:List Ke} {now now':Rest} {time:Int} {l l':List Sh} {rs:List Rf} {P:List Pt} {wv:Wks} {fv:Value} (hL:LawAt w ρ wb sdv last sv iv hv m1 m2 m3 Ls Li Lh) (hS:Side w ρ sb gb yb C now time l rs P wv fv) (hf:Fits w ρ)
 (hB0:∀k,K k→ρ k=0) (hBb:Keeps (fun k=>¬K k) w0 w) (hBs:∀k,K k→k<w0.heap.size) (hn1:P.length≤N) (hn2:Li.length≤64*N) (hn3:Ls.length≤4*N) (hn4:-(17*(N:Int))≤last) (hn5:last≤0) (hpin:∀e ∈ P,e.shard<rs.length) (hn7:Lh.length≤4*N) (hI:Inv l') (o:Opn) (ho:o.k=7) (p1 p2:Int)
 (HP:∀W,Below w.heap.size w W→Calls Tryz.prog 61 #[.pointer (some ⟨gb,0,none⟩),.int .i64 o.a] W fun e w'=>e=.returned (.tuple #[.int .i64 p1,.int .i64 p2])∧GrpPost W ρ gb C now' l' w')
 (HR:∀W ρ2,(∃sv lv,RefAt W ρ2 yb C time rs P wv fv sv lv)→Fits W ρ2→Calls Tryz.prog 62 #[.pointer (some ⟨yb,0,none⟩),.int .i64 o.a] W (LMoved W ρ2 yb C now' time rs P l' fv N (.tuple #[.int .i64 p1,.int .i64 p2]))) :
 Calls Tryz.prog 30 #[.pointer (some ⟨wb,0,none⟩),.pointer (some ⟨sb,0,none⟩),.agg o.arr] w fun e w'=>e=.returned (.bool true)∧St w0 K wb sb gb yb C sdv (N+1) w':=by
 have hsl:=lt_of_heap hS.blk
 have s0:w.cell? ⟨sb,0,none⟩=some (.pointer (some ⟨gb,0,none⟩)):=cell_of hS.blk 0
 have s1:w.cell? ⟨sb,1,none⟩=some (.pointer (some ⟨yb,0,none⟩)):=cell_of hS.blk 1
 have HP:=hide HP
 have HR:=hide HR
 have HM:Hid (∀W w2,Below w.heap.size w W→GrpPost W ρ gb C now' l' w2→∃ρ',Mid w2 ρ' wb sdv last sv iv hv m1 m2 m3 Ls Li Lh sb gb yb C now' l' time rs P wv fv∧Frame w ρ w2 ρ'∧∀k,w.heap.size≤k→k<W.heap.size→ρ' k=0):=fun W w2 hb hp=>toMid hL hS hf hb hp
 have ht0:Hid (¬mine ρ sb):=fun h=>by have:=hS.tag;unfold mine at h;omega
 have ht1:Hid (¬mine ρ w.heap.size):=fun h=>by have:=hf _ (Nat.le_refl w.heap.size);unfold mine at h;omega
 have HE:Hid (∀w',(∃ρ' now2 time2 l2 rs2 wv2,LawAt w' ρ' wb sdv last sv iv hv m1 m2 m3 Ls Li Lh∧Side w' ρ' sb gb yb C now2 time2 l2 rs2 P wv2 fv∧Fits w' ρ'∧Frame w ρ w' ρ'∧Rel C now2 time2 l2 P rs2 wv2 ((N+1:Nat):Int))→St w0 K wb sb gb yb C sdv (N+1) w'):=by
  rintro w' ⟨ρ',now2,time2,l2,rs2,wv2,a1,a2,a3,a4,a6⟩
  obtain ⟨b1,b2,b3⟩:=below_frame hBb hB0 hBs a4
  exact ⟨ρ',now2,time2,l2,rs2,P,wv2,fv,last,sv,iv,hv,m1,m2,m3,Ls,Li,Lh,a1,a2,a3,b2,b1,b3,by omega,by omega,by omega,by omega,hn5,a6,by omega⟩
 have HI:=hide hI
 have HPi:=hide hpin
 clear hL hS hf hB0 hBb hBs hn1 hn2 hn3 hn4 hn5 hpin hn7 hI
 obtain ⟨kk,oa,ob,os,olost,owh⟩:=o
 simp only at ho
 subst ho
 simp only at HP HR
 unfold Opn.arr
 simp only
 go_enter Tryz.func30,Tryz.ntmps30
 go_wp2
 have hN:=heap_alloc_new w (.cells #[.int .i64 7,.int .i64 oa,.int .i64 ob,.string os,.bool olost,.bool owh] 48)
 have HBa:Hid (Below w.heap.size w (w.alloc (.cells #[.int .i64 7,.int .i64 oa,.int .i64 ob,.string os,.bool olost,.bool owh] 48))):=(Below.refl _ w).alloc (Nat.le_refl _) _
 have hsz:(w.alloc (.cells #[.int .i64 7,.int .i64 oa,.int .i64 ob,.string os,.bool olost,.bool owh] 48)).heap.size=w.heap.size+1:=by simp
 generalize w.alloc (.cells #[.int .i64 7,.int .i64 oa,.int .i64 ob,.string os,.bool olost,.bool owh] 48)=V at *
 have o1:V.cell? ⟨w.heap.size,1,none⟩=some (.int .i64 oa):=cell_of hN 1
 have o2:V.cell? ⟨w.heap.size,2,none⟩=some (.int .i64 ob):=cell_of hN 2
 have o3:V.cell? ⟨w.heap.size,3,none⟩=some (.string os):=cell_of hN 3
 have v0:=((uh HBa).cell (p:=⟨sb,0,none⟩) hsl).trans s0
 have v1:=((uh HBa).cell (p:=⟨sb,1,none⟩) hsl).trans s1
 clear s0 s1 hN
 have HB1:Hid (∀q,Below w.heap.size w (V.drewN q)):=fun q=>⟨(uh HBa).os,(uh HBa).tape,(uh HBa).output,(uh HBa).size,(uh HBa).block⟩
 go_region_held3 (fun w'=>w'.cell? ⟨sb,0,none⟩=some (.pointer (some ⟨gb,0,none⟩))∧w'.cell? ⟨w.heap.size,1,none⟩=some (.int .i64 oa))
  (first | go_keep | (go_split_ands;refine ⟨?_,?_⟩ <;> first | (rw [hkp.cell (show sb<V.heap.size by omega) (uh ht0)];assumption) | (rw [hkp.cell (show w.heap.size<V.heap.size by omega) (uh ht1)];assumption)))
  ((go_at_call 61;refine (uh HP _ (uh HB1 _)).mono ?_;rintro e w2 ⟨rfl,hpost⟩;have hkp:=hpost.choose_spec.choose_spec.choose_spec.2.2.1))
 obtain ⟨ρ2,hmid,hfr,hz⟩:=uh HM _ _ (uh HB1 _) hpost
 have w1:=(hkp.cell (p:=⟨sb,1,none⟩) (show sb<V.heap.size by omega) (uh ht0)).trans v1
 have q1:=(hkp.cell (p:=⟨w.heap.size,1,none⟩) (show w.heap.size<V.heap.size by omega) (uh ht1)).trans o1
 have q2:=(hkp.cell (p:=⟨w.heap.size,2,none⟩) (show w.heap.size<V.heap.size by omega) (uh ht1)).trans o2
 have q3:=(hkp.cell (p:=⟨w.heap.size,3,none⟩) (show w.heap.size<V.heap.size by omega) (uh ht1)).trans o3
 have hw2:w.heap.size<w2.heap.size:=by have:V.heap.size≤w2.heap.size:=hkp.size;omega
 have ht2:Hid (¬theirs ρ2 sb):=fun h=>by have:=hmid.tag;unfold theirs at h;omega
 have ht3:Hid (¬theirs ρ2 w.heap.size):=fun h=>by have:=hz w.heap.size (Nat.le_refl _) (show w.heap.size<V.heap.size by omega);unfold theirs at h;omega
 have HMid:=hide hmid
 have HFr:=hide hfr
 clear hpost hkp hmid hfr hz v0 v1 o1 o2 o3
 have HB2:Hid (∀q,Below w2.heap.size w2 (w2.drewN q)):=fun q=>⟨rfl,rfl,rfl,Nat.le_refl _,fun _ _=>rfl⟩
 go_wp2
 go_region_held3 (fun w'=>w'.cell? ⟨sb,1,none⟩=some (.pointer (some ⟨yb,0,none⟩))∧w'.cell? ⟨w.heap.size,1,none⟩=some (.int .i64 oa))
  (first | go_keep | (go_split_ands;refine ⟨?_,?_⟩ <;> first | (rw [hkq.cell (show sb<w2.heap.size by omega) (uh ht2)];assumption) | (rw [hkq.cell (show w.heap.size<w2.heap.size by omega) (uh ht3)];assumption)))
  ((go_at_call 62;refine (uh HR _ ρ2 ((uh HMid).drawn (uh HB2 _)).1 ((uh HMid).drawn (uh HB2 _)).2).mono ?_;rintro e w3 ⟨rfl,rs',wv',hpost,h1,h2,h3⟩;have hkq:=hpost.choose_spec.choose_spec.choose_spec.2.1))
 have HEnd:Hid (St w0 K wb sb gb yb C sdv (N+1) w3):=by
  obtain ⟨ρ3,a1,a2,a3,a4⟩:=fromMid (uh HMid) (uh HB2 _) hpost h1 (uh HI) (by rw [h2];exact uh HPi)
  exact uh HE w3 ⟨ρ3,_,_,_,_,_,a1,a2,a3,(uh HFr).trans a4,h3⟩
 clear hpost hkq h1 h2 h3 w1 q1 q2 q3
 go_wp2
 go_ret
 exact ⟨rfl,uh HEnd⟩
set_option maxRecDepth 100000 in
set_option maxHeartbeats 8000000 in
theorem lease_steal {w0 w:World} {K:Nat→Prop} {wb sb gb yb:Nat} {C:Cfg} {sdv:Value} {N:Nat} {ρ:Nat→Nat} {last:Int} {sv iv hv m1 m2 m3:Value} {Ls Li Lh:List Ke} {now now':Rest} {time:Int} {l l':List Sh} {rs:List Rf} {P:List Pt} {wv:Wks} {fv:Value} (hL:LawAt w ρ wb sdv last sv iv hv m1 m2 m3 Ls Li Lh) (hS:Side w ρ sb gb yb C now time l rs P wv fv) (hf:Fits w ρ)
 (hB0:∀k,K k→ρ k=0) (hBb:Keeps (fun k=>¬K k) w0 w) (hBs:∀k,K k→k<w0.heap.size) (hn1:P.length≤N) (hn2:Li.length≤64*N) (hn3:Ls.length≤4*N) (hn4:-(17*(N:Int))≤last) (hn5:last≤0) (hpin:∀e ∈ P,e.shard<rs.length) (hn7:Lh.length≤4*N) (hI:Inv l') (o:Opn) (ho:o.k=8) (p1:Int)
 (HP:∀W,Below w.heap.size w W→Calls Tryz.prog 63 #[.pointer (some ⟨gb,0,none⟩),.int .i64 o.a,.int .i64 o.b] W fun e w'=>e=.returned (.int .i64 p1)∧GrpPost W ρ gb C now' l' w')
 (HR:∀W ρ2,(∃sv lv,RefAt W ρ2 yb C time rs P wv fv sv lv)→Fits W ρ2→Calls Tryz.prog 64 #[.pointer (some ⟨yb,0,none⟩),.int .i64 o.a,.int .i64 o.b] W (LMoved W ρ2 yb C now' time rs P l' fv N (.int .i64 p1))) :
 Calls Tryz.prog 30 #[.pointer (some ⟨wb,0,none⟩),.pointer (some ⟨sb,0,none⟩),.agg o.arr] w fun e w'=>e=.returned (.bool true)∧St w0 K wb sb gb yb C sdv (N+1) w':=by
 have hsl:=lt_of_heap hS.blk
 have s0:w.cell? ⟨sb,0,none⟩=some (.pointer (some ⟨gb,0,none⟩)):=cell_of hS.blk 0
 have s1:w.cell? ⟨sb,1,none⟩=some (.pointer (some ⟨yb,0,none⟩)):=cell_of hS.blk 1
 have HP:=hide HP
 have HR:=hide HR
 have HM:Hid (∀W w2,Below w.heap.size w W→GrpPost W ρ gb C now' l' w2→∃ρ',Mid w2 ρ' wb sdv last sv iv hv m1 m2 m3 Ls Li Lh sb gb yb C now' l' time rs P wv fv∧Frame w ρ w2 ρ'∧∀k,w.heap.size≤k→k<W.heap.size→ρ' k=0):=fun W w2 hb hp=>toMid hL hS hf hb hp
 have ht0:Hid (¬mine ρ sb):=fun h=>by have:=hS.tag;unfold mine at h;omega
 have ht1:Hid (¬mine ρ w.heap.size):=fun h=>by have:=hf _ (Nat.le_refl w.heap.size);unfold mine at h;omega
 have HE:Hid (∀w',(∃ρ' now2 time2 l2 rs2 wv2,LawAt w' ρ' wb sdv last sv iv hv m1 m2 m3 Ls Li Lh∧Side w' ρ' sb gb yb C now2 time2 l2 rs2 P wv2 fv∧Fits w' ρ'∧Frame w ρ w' ρ'∧Rel C now2 time2 l2 P rs2 wv2 ((N+1:Nat):Int))→St w0 K wb sb gb yb C sdv (N+1) w'):=by
  rintro w' ⟨ρ',now2,time2,l2,rs2,wv2,a1,a2,a3,a4,a6⟩
  obtain ⟨b1,b2,b3⟩:=below_frame hBb hB0 hBs a4
  exact ⟨ρ',now2,time2,l2,rs2,P,wv2,fv,last,sv,iv,hv,m1,m2,m3,Ls,Li,Lh,a1,a2,a3,b2,b1,b3,by omega,by omega,by omega,by omega,hn5,a6,by omega⟩
 have HI:=hide hI
 have HPi:=hide hpin
 clear hL hS hf hB0 hBb hBs hn1 hn2 hn3 hn4 hn5 hpin hn7 hI
 obtain ⟨kk,oa,ob,os,olost,owh⟩:=o
 simp only at ho
 subst ho
 simp only at HP HR
 unfold Opn.arr
 simp only
 go_enter Tryz.func30,Tryz.ntmps30
 go_wp2
 have hN:=heap_alloc_new w (.cells #[.int .i64 8,.int .i64 oa,.int .i64 ob,.string os,.bool olost,.bool owh] 48)
 have HBa:Hid (Below w.heap.size w (w.alloc (.cells #[.int .i64 8,.int .i64 oa,.int .i64 ob,.string os,.bool olost,.bool owh] 48))):=(Below.refl _ w).alloc (Nat.le_refl _) _
 have hsz:(w.alloc (.cells #[.int .i64 8,.int .i64 oa,.int .i64 ob,.string os,.bool olost,.bool owh] 48)).heap.size=w.heap.size+1:=by simp
 generalize w.alloc (.cells #[.int .i64 8,.int .i64 oa,.int .i64 ob,.string os,.bool olost,.bool owh] 48)=V at *
 have o1:V.cell? ⟨w.heap.size,1,none⟩=some (.int .i64 oa):=cell_of hN 1
 have o2:V.cell? ⟨w.heap.size,2,none⟩=some (.int .i64 ob):=cell_of hN 2
 have o3:V.cell? ⟨w.heap.size,3,none⟩=some (.string os):=cell_of hN 3
 have v0:=((uh HBa).cell (p:=⟨sb,0,none⟩) hsl).trans s0
 have v1:=((uh HBa).cell (p:=⟨sb,1,none⟩) hsl).trans s1
 clear s0 s1 hN
 have HB1:Hid (∀q,Below w.heap.size w (V.drewN q)):=fun q=>⟨(uh HBa).os,(uh HBa).tape,(uh HBa).output,(uh HBa).size,(uh HBa).block⟩
 go_region_held3 (fun w'=>w'.cell? ⟨sb,0,none⟩=some (.pointer (some ⟨gb,0,none⟩))∧w'.cell? ⟨w.heap.size,1,none⟩=some (.int .i64 oa)∧w'.cell? ⟨w.heap.size,2,none⟩=some (.int .i64 ob))
  (first | go_keep | (go_split_ands;refine ⟨?_,?_,?_⟩ <;> first | (rw [hkp.cell (show sb<V.heap.size by omega) (uh ht0)];assumption) | (rw [hkp.cell (show w.heap.size<V.heap.size by omega) (uh ht1)];assumption)))
  ((go_at_call 63;refine (uh HP _ (uh HB1 _)).mono ?_;rintro e w2 ⟨rfl,hpost⟩;have hkp:=hpost.choose_spec.choose_spec.choose_spec.2.2.1))
 obtain ⟨ρ2,hmid,hfr,hz⟩:=uh HM _ _ (uh HB1 _) hpost
 have w1:=(hkp.cell (p:=⟨sb,1,none⟩) (show sb<V.heap.size by omega) (uh ht0)).trans v1
 have q1:=(hkp.cell (p:=⟨w.heap.size,1,none⟩) (show w.heap.size<V.heap.size by omega) (uh ht1)).trans o1
 have q2:=(hkp.cell (p:=⟨w.heap.size,2,none⟩) (show w.heap.size<V.heap.size by omega) (uh ht1)).trans o2
 have q3:=(hkp.cell (p:=⟨w.heap.size,3,none⟩) (show w.heap.size<V.heap.size by omega) (uh ht1)).trans o3
 have hw2:w.heap.size<w2.heap.size:=by have:V.heap.size≤w2.heap.size:=hkp.size;omega
 have ht2:Hid (¬theirs ρ2 sb):=fun h=>by have:=hmid.tag;unfold theirs at h;omega
 have ht3:Hid (¬theirs ρ2 w.heap.size):=fun h=>by have:=hz w.heap.size (Nat.le_refl _) (show w.heap.size<V.heap.size by omega);unfold theirs at h;omega
 have HMid:=hide hmid
 have HFr:=hide hfr
 clear hpost hkp hmid hfr hz v0 v1 o1 o2 o3
 have HB2:Hid (∀q,Below w2.heap.size w2 (w2.drewN q)):=fun q=>⟨rfl,rfl,rfl,Nat.le_refl _,fun _ _=>rfl⟩
 go_wp2
 go_region_held3 (fun w'=>w'.cell? ⟨sb,1,none⟩=some (.pointer (some ⟨yb,0,none⟩))∧w'.cell? ⟨w.heap.size,1,none⟩=some (.int .i64 oa)∧w'.cell? ⟨w.heap.size,2,none⟩=some (.int .i64 ob))
  (first | go_keep | (go_split_ands;refine ⟨?_,?_,?_⟩ <;> first | (rw [hkq.cell (show sb<w2.heap.size by omega) (uh ht2)];assumption) | (rw [hkq.cell (show w.heap.size<w2.heap.size by omega) (uh ht3)];assumption)))
  ((go_at_call 64;refine (uh HR _ ρ2 ((uh HMid).drawn (uh HB2 _)).1 ((uh HMid).drawn (uh HB2 _)).2).mono ?_;rintro e w3 ⟨rfl,rs',wv',hpost,h1,h2,h3⟩;have hkq:=hpost.choose_spec.choose_spec.choose_spec.2.1))
 have HEnd:Hid (St w0 K wb sb gb yb C sdv (N+1) w3):=by
  obtain ⟨ρ3,a1,a2,a3,a4⟩:=fromMid (uh HMid) (uh HB2 _) hpost h1 (uh HI) (by rw [h2];exact uh HPi)
  exact uh HE w3 ⟨ρ3,_,_,_,_,_,a1,a2,a3,(uh HFr).trans a4,h3⟩
 clear hpost hkq h1 h2 h3 w1 q1 q2 q3
 go_wp2
 go_ret
 exact ⟨rfl,uh HEnd⟩
set_option maxRecDepth 100000 in
set_option maxHeartbeats 8000000 in
theorem lease_crash {w0 w:World} {K:Nat→Prop} {wb sb gb yb:Nat} {C:Cfg} {sdv:Value} {N:Nat} {ρ:Nat→Nat} {last:Int} {sv iv hv m1 m2 m3:Value} {Ls Li Lh:List Ke} {now now':Rest} {time:Int} {l l':List Sh} {rs:List Rf} {P:List Pt} {wv:Wks} {fv:Value} (hL:LawAt w ρ wb sdv last sv iv hv m1 m2 m3 Ls Li Lh) (hS:Side w ρ sb gb yb C now time l rs P wv fv) (hf:Fits w ρ)
 (hB0:∀k,K k→ρ k=0) (hBb:Keeps (fun k=>¬K k) w0 w) (hBs:∀k,K k→k<w0.heap.size) (hn1:P.length≤N) (hn2:Li.length≤64*N) (hn3:Ls.length≤4*N) (hn4:-(17*(N:Int))≤last) (hn5:last≤0) (hpin:∀e ∈ P,e.shard<rs.length) (hn7:Lh.length≤4*N) (hI:Inv l') (o:Opn) (ho:o.k=9) (p1:Int)
 (HP:∀W,Below w.heap.size w W→Calls Tryz.prog 65 #[.pointer (some ⟨gb,0,none⟩),.int .i64 o.a] W fun e w'=>e=.returned (.int .i64 p1)∧GrpPost W ρ gb C now' l' w')
 (HR:∀W ρ2,(∃sv lv,RefAt W ρ2 yb C time rs P wv fv sv lv)→Fits W ρ2→Calls Tryz.prog 66 #[.pointer (some ⟨yb,0,none⟩),.int .i64 o.a] W (LMoved W ρ2 yb C now' time rs P l' fv N (.int .i64 p1))) :
 Calls Tryz.prog 30 #[.pointer (some ⟨wb,0,none⟩),.pointer (some ⟨sb,0,none⟩),.agg o.arr] w fun e w'=>e=.returned (.bool true)∧St w0 K wb sb gb yb C sdv (N+1) w':=by
 have hsl:=lt_of_heap hS.blk
 have s0:w.cell? ⟨sb,0,none⟩=some (.pointer (some ⟨gb,0,none⟩)):=cell_of hS.blk 0
 have s1:w.cell? ⟨sb,1,none⟩=some (.pointer (some ⟨yb,0,none⟩)):=cell_of hS.blk 1
 have HP:=hide HP
 have HR:=hide HR
 have HM:Hid (∀W w2,Below w.heap.size w W→GrpPost W ρ gb C now' l' w2→∃ρ',Mid w2 ρ' wb sdv last sv iv hv m1 m2 m3 Ls Li Lh sb gb yb C now' l' time rs P wv fv∧Frame w ρ w2 ρ'∧∀k,w.heap.size≤k→k<W.heap.size→ρ' k=0):=fun W w2 hb hp=>toMid hL hS hf hb hp
 have ht0:Hid (¬mine ρ sb):=fun h=>by have:=hS.tag;unfold mine at h;omega
 have ht1:Hid (¬mine ρ w.heap.size):=fun h=>by have:=hf _ (Nat.le_refl w.heap.size);unfold mine at h;omega
 have HE:Hid (∀w',(∃ρ' now2 time2 l2 rs2 wv2,LawAt w' ρ' wb sdv last sv iv hv m1 m2 m3 Ls Li Lh∧Side w' ρ' sb gb yb C now2 time2 l2 rs2 P wv2 fv∧Fits w' ρ'∧Frame w ρ w' ρ'∧Rel C now2 time2 l2 P rs2 wv2 ((N+1:Nat):Int))→St w0 K wb sb gb yb C sdv (N+1) w'):=by
  rintro w' ⟨ρ',now2,time2,l2,rs2,wv2,a1,a2,a3,a4,a6⟩
  obtain ⟨b1,b2,b3⟩:=below_frame hBb hB0 hBs a4
  exact ⟨ρ',now2,time2,l2,rs2,P,wv2,fv,last,sv,iv,hv,m1,m2,m3,Ls,Li,Lh,a1,a2,a3,b2,b1,b3,by omega,by omega,by omega,by omega,hn5,a6,by omega⟩
 have HI:=hide hI
 have HPi:=hide hpin
 clear hL hS hf hB0 hBb hBs hn1 hn2 hn3 hn4 hn5 hpin hn7 hI
 obtain ⟨kk,oa,ob,os,olost,owh⟩:=o
 simp only at ho
 subst ho
 simp only at HP HR
 unfold Opn.arr
 simp only
 go_enter Tryz.func30,Tryz.ntmps30
 go_wp2
 have hN:=heap_alloc_new w (.cells #[.int .i64 9,.int .i64 oa,.int .i64 ob,.string os,.bool olost,.bool owh] 48)
 have HBa:Hid (Below w.heap.size w (w.alloc (.cells #[.int .i64 9,.int .i64 oa,.int .i64 ob,.string os,.bool olost,.bool owh] 48))):=(Below.refl _ w).alloc (Nat.le_refl _) _
 have hsz:(w.alloc (.cells #[.int .i64 9,.int .i64 oa,.int .i64 ob,.string os,.bool olost,.bool owh] 48)).heap.size=w.heap.size+1:=by simp
 generalize w.alloc (.cells #[.int .i64 9,.int .i64 oa,.int .i64 ob,.string os,.bool olost,.bool owh] 48)=V at *
 have o1:V.cell? ⟨w.heap.size,1,none⟩=some (.int .i64 oa):=cell_of hN 1
 have o2:V.cell? ⟨w.heap.size,2,none⟩=some (.int .i64 ob):=cell_of hN 2
 have o3:V.cell? ⟨w.heap.size,3,none⟩=some (.string os):=cell_of hN 3
 have v0:=((uh HBa).cell (p:=⟨sb,0,none⟩) hsl).trans s0
 have v1:=((uh HBa).cell (p:=⟨sb,1,none⟩) hsl).trans s1
 clear s0 s1 hN
 have HB1:Hid (∀q,Below w.heap.size w (V.drewN q)):=fun q=>⟨(uh HBa).os,(uh HBa).tape,(uh HBa).output,(uh HBa).size,(uh HBa).block⟩
 go_region_held3 (fun w'=>w'.cell? ⟨sb,0,none⟩=some (.pointer (some ⟨gb,0,none⟩))∧w'.cell? ⟨w.heap.size,1,none⟩=some (.int .i64 oa))
  (first | go_keep | (go_split_ands;refine ⟨?_,?_⟩ <;> first | (rw [hkp.cell (show sb<V.heap.size by omega) (uh ht0)];assumption) | (rw [hkp.cell (show w.heap.size<V.heap.size by omega) (uh ht1)];assumption)))
  ((go_at_call 65;refine (uh HP _ (uh HB1 _)).mono ?_;rintro e w2 ⟨rfl,hpost⟩;have hkp:=hpost.choose_spec.choose_spec.choose_spec.2.2.1))
 obtain ⟨ρ2,hmid,hfr,hz⟩:=uh HM _ _ (uh HB1 _) hpost
 have w1:=(hkp.cell (p:=⟨sb,1,none⟩) (show sb<V.heap.size by omega) (uh ht0)).trans v1
 have q1:=(hkp.cell (p:=⟨w.heap.size,1,none⟩) (show w.heap.size<V.heap.size by omega) (uh ht1)).trans o1
 have q2:=(hkp.cell (p:=⟨w.heap.size,2,none⟩) (show w.heap.size<V.heap.size by omega) (uh ht1)).trans o2
 have q3:=(hkp.cell (p:=⟨w.heap.size,3,none⟩) (show w.heap.size<V.heap.size by omega) (uh ht1)).trans o3
 have hw2:w.heap.size<w2.heap.size:=by have:V.heap.size≤w2.heap.size:=hkp.size;omega
 have ht2:Hid (¬theirs ρ2 sb):=fun h=>by have:=hmid.tag;unfold theirs at h;omega
 have ht3:Hid (¬theirs ρ2 w.heap.size):=fun h=>by have:=hz w.heap.size (Nat.le_refl _) (show w.heap.size<V.heap.size by omega);unfold theirs at h;omega
 have HMid:=hide hmid
 have HFr:=hide hfr
 clear hpost hkp hmid hfr hz v0 v1 o1 o2 o3
 have HB2:Hid (∀q,Below w2.heap.size w2 (w2.drewN q)):=fun q=>⟨rfl,rfl,rfl,Nat.le_refl _,fun _ _=>rfl⟩
 go_wp2
 go_region_held3 (fun w'=>w'.cell? ⟨sb,1,none⟩=some (.pointer (some ⟨yb,0,none⟩))∧w'.cell? ⟨w.heap.size,1,none⟩=some (.int .i64 oa))
  (first | go_keep | (go_split_ands;refine ⟨?_,?_⟩ <;> first | (rw [hkq.cell (show sb<w2.heap.size by omega) (uh ht2)];assumption) | (rw [hkq.cell (show w.heap.size<w2.heap.size by omega) (uh ht3)];assumption)))
  ((go_at_call 66;refine (uh HR _ ρ2 ((uh HMid).drawn (uh HB2 _)).1 ((uh HMid).drawn (uh HB2 _)).2).mono ?_;rintro e w3 ⟨rfl,rs',wv',hpost,h1,h2,h3⟩;have hkq:=hpost.choose_spec.choose_spec.choose_spec.2.1))
 have HEnd:Hid (St w0 K wb sb gb yb C sdv (N+1) w3):=by
  obtain ⟨ρ3,a1,a2,a3,a4⟩:=fromMid (uh HMid) (uh HB2 _) hpost h1 (uh HI) (by rw [h2];exact uh HPi)
  exact uh HE w3 ⟨ρ3,_,_,_,_,_,a1,a2,a3,(uh HFr).trans a4,h3⟩
 clear hpost hkq h1 h2 h3 w1 q1 q2 q3
 go_wp2
 go_ret
 exact ⟨rfl,uh HEnd⟩
end Go.Proofs.YtpnkmnmchdabkaaGreat
