import Derived.Test.YtpnkmnmchdabkaaGreatM14
import Derived.Test.YtpnkmnmchdabkaaGreatM26
namespace Go.Proofs.YtpnkmnmchdabkaaGreat
open Go.RowKit
attribute [local go_sem ↓] Go.wp_at_zero Go.wp_at_succ
theorem Frame.trans {w w1 w2:World} {ρ ρ1 ρ2:Nat→Nat} (h:Frame w ρ w1 ρ1) (h':Frame w1 ρ1 w2 ρ2):Frame w ρ w2 ρ2 :=
 ⟨⟨h'.1.os.trans h.1.os,h'.1.tape.trans h.1.tape,h'.1.output.trans h.1.output,Nat.le_trans h.1.size h'.1.size,fun k hk hs=>by
  have h0:ρ k=0:=Decidable.of_not_not hs
  have h1:=h.2 k hk h0
  rw [h'.1.block k (Nat.lt_of_lt_of_le hk h.1.size) (fun q=>q h1)]
  exact h.1.block k hk hs⟩,fun k hk h0=>h'.2 k (Nat.lt_of_lt_of_le hk h.1.size) (h.2 k hk h0)⟩
def St (w0:World) (K:Nat→Prop) (wb sb gb yb:Nat) (C:Cfg) (sdv:Value) (N:Nat) (w:World):Prop :=
 ∃ρ now time l rs P wv fv last sv iv hv m1 m2 m3 Ls Li Lh,LawAt w ρ wb sdv last sv iv hv m1 m2 m3 Ls Li Lh∧Side w ρ sb gb yb C now time l rs P wv fv∧Fits w ρ∧(∀k,K k→ρ k=0)∧Keeps (fun k=>¬K k) w0 w∧(∀k,K k→k<w0.heap.size)∧P.length≤N∧Li.length≤64*N∧Ls.length≤4*N∧-(17*(N:Int))≤last∧last≤0∧Rel C now time l P rs wv (N:Int)∧Lh.length≤4*N
theorem below_frame {K:Nat→Prop} {w0 w w':World} {ρ ρ':Nat→Nat} (hb:Keeps (fun k=>¬K k) w0 w) (h0:∀k,K k→ρ k=0) (hB:∀k,K k→k<w0.heap.size) (hF:Frame w ρ w' ρ'):Keeps (fun k=>¬K k) w0 w'∧(∀k,K k→ρ' k=0)∧∀k,K k→k<w0.heap.size :=
 ⟨⟨hF.1.os.trans hb.os,hF.1.tape.trans hb.tape,hF.1.output.trans hb.output,Nat.le_trans hb.size hF.1.size,fun k hk hs=>by
  have hK:K k:=Classical.byContradiction hs
  rw [hF.1.block k (Nat.lt_of_lt_of_le hk hb.size) (fun q=>q (h0 k hK))]
  exact hb.block k hk hs⟩,fun k hk=>hF.2 k (Nat.lt_of_lt_of_le (hB k hk) hb.size) (h0 k hk),hB⟩
theorem keepsK {K:Nat→Prop} {w0 w w':World} (h:Keeps (fun k=>¬K k) w0 w) (hb:Below w.heap.size w w'):Keeps (fun k=>¬K k) w0 w' :=
 h.trans ((Keeps.of_below hb).mono (fun k hk hs=>by omega))
structure Mid (w:World) (ρ:Nat→Nat) (wb:Nat) (sdv:Value) (last:Int) (sv iv hv m1 m2 m3:Value) (Ls Li Lh:List Ke) (sb gb yb:Nat) (C:Cfg) (now':Rest) (l':List Sh) (time:Int) (rs:List Rf) (P:List Pt) (wv:Wks) (fv:Value):Prop where
 law:LawAt w ρ wb sdv last sv iv hv m1 m2 m3 Ls Li Lh
 blk:w.heap[sb]?=some (.cells #[.pointer (some ⟨gb,0,none⟩),.pointer (some ⟨yb,0,none⟩)] 46 (0,0))
 tag:ρ sb=150
 grp:Grp w ρ gb C now' l'
 ref:∃sv lv,RefAt w ρ yb C time rs P wv fv sv lv
 fits:Fits w ρ
theorem toMid {w W w2:World} {ρ:Nat→Nat} {wb:Nat} {sdv:Value} {last:Int} {sv iv hv m1 m2 m3:Value} {Ls Li Lh:List Ke} {sb gb yb:Nat} {C:Cfg} {now now':Rest} {time:Int} {l l':List Sh} {rs:List Rf} {P:List Pt} {wv:Wks} {fv:Value} (hL:LawAt w ρ wb sdv last sv iv hv m1 m2 m3 Ls Li Lh) (hS:Side w ρ sb gb yb C now time l rs P wv fv) (hf:Fits w ρ) (hb:Below w.heap.size w W) (hp:GrpPost W ρ gb C now' l' w2) :
 ∃ρ',Mid w2 ρ' wb sdv last sv iv hv m1 m2 m3 Ls Li Lh sb gb yb C now' l' time rs P wv fv∧Frame w ρ w2 ρ'∧∀k,w.heap.size≤k→k<W.heap.size→ρ' k=0:=by
 obtain ⟨ρ',hg,hk,he,hff⟩:=hp.grp
 have hz:=hb.size
 have hlt:=lt_of_heap hS.blk
 have kk:Keeps (fun q=>mine ρ q∨w.heap.size≤q) w w2:=⟨hk.os.trans hb.os,hk.tape.trans hb.tape,hk.output.trans hb.output,Nat.le_trans hz hk.size,fun q hq hs=>by
  rw [hk.block q (by omega) (fun h=>hs (Or.inl h))]
  exact hb.block q hq⟩
 have tg:∀k,k<w.heap.size→ρ' k=ρ k:=fun k hk'=>he.1 k (by omega)
 refine ⟨ρ',⟨hL.keeps kk (fun k hs=>by rcases hs with hs | hs;left;unfold laws;unfold mine at hs;omega;right;exact hs) (fun k hk' _=>tg k hk'),?_,by rw [tg sb hlt];exact hS.tag,hg,?_,hff⟩,⟨kk.mono (fun k hk' hs=>by rcases hs with hs | hs;unfold mine at hs;omega;omega),fun k hk' h0=>by rw [tg k hk'];exact h0⟩,fun k h1 h2=>by rw [he.1 k h2];exact hf k h1⟩
 ·rw [kk.block sb hlt (fun hs=>by have:=hS.tag;unfold mine at hs;omega)];exact hS.blk
 ·obtain ⟨sv,lv,R⟩:=hS.ref
  exact ⟨sv,lv,R.keeps kk (fun k hs=>by rcases hs with hs | hs;left;unfold theirs;unfold mine at hs;omega;right;exact hs) tg⟩
theorem Mid.drawn {w W:World} {ρ:Nat→Nat} {wb:Nat} {sdv:Value} {last:Int} {sv iv hv m1 m2 m3:Value} {Ls Li Lh:List Ke} {sb gb yb:Nat} {C:Cfg} {now':Rest} {l':List Sh} {time:Int} {rs:List Rf} {P:List Pt} {wv:Wks} {fv:Value} (h:Mid w ρ wb sdv last sv iv hv m1 m2 m3 Ls Li Lh sb gb yb C now' l' time rs P wv fv) (hb:Below w.heap.size w W):(∃sv lv,RefAt W ρ yb C time rs P wv fv sv lv)∧Fits W ρ:=by
 obtain ⟨sv,lv,R⟩:=h.ref
 exact ⟨⟨sv,lv,R.keeps (Keeps.of_below hb) (fun _ hk=>Or.inr hk) (fun _ _=>rfl)⟩,h.fits.below hb.size⟩
theorem fromMid {w W w3:World} {ρ:Nat→Nat} {wb:Nat} {sdv:Value} {last:Int} {sv iv hv m1 m2 m3:Value} {Ls Li Lh:List Ke} {sb gb yb:Nat} {C:Cfg} {now':Rest} {l':List Sh} {time time':Int} {rs rs':List Rf} {P P':List Pt} {wv wv':Wks} {fv fv':Value} (h:Mid w ρ wb sdv last sv iv hv m1 m2 m3 Ls Li Lh sb gb yb C now' l' time rs P wv fv) (hb:Below w.heap.size w W) (hp:RefPost W ρ yb C time' rs' P' wv' fv' w3) (hs:absR rs' P'=l') (hI:Inv l') (hpin:∀e ∈ P',e.shard<rs'.length) :
 ∃ρ',LawAt w3 ρ' wb sdv last sv iv hv m1 m2 m3 Ls Li Lh∧Side w3 ρ' sb gb yb C now' time' l' rs' P' wv' fv'∧Fits w3 ρ'∧Frame w ρ w3 ρ':=by
 obtain ⟨ρ',sv',lv',hR,hk,he,hff⟩:=hp
 have hz:=hb.size
 have hlt:=lt_of_heap h.blk
 have kk:Keeps (fun q=>theirs ρ q∨w.heap.size≤q) w w3:=⟨hk.os.trans hb.os,hk.tape.trans hb.tape,hk.output.trans hb.output,Nat.le_trans hz hk.size,fun q hq hs=>by
  rw [hk.block q (by omega) (fun h=>hs (Or.inl h))]
  exact hb.block q hq⟩
 have tg:∀k,k<w.heap.size→ρ' k=ρ k:=fun k hk'=>he.1 k (by omega)
 refine ⟨ρ',h.law.keeps kk (fun k hs=>by rcases hs with hs | hs;left;unfold laws;unfold theirs at hs;omega;right;exact hs) (fun k hk' _=>tg k hk'),⟨?_,by rw [tg sb hlt];exact h.tag,?_,⟨sv',lv',hR⟩,hs,hI,hpin⟩,hff,kk.mono (fun k hk' hs=>by rcases hs with hs | hs;unfold theirs at hs;omega;omega),fun k hk' h0=>by rw [tg k hk'];exact h0⟩
 ·rw [kk.block sb hlt (fun hs=>by have:=h.tag;unfold theirs at hs;omega)];exact h.blk
 ·obtain ⟨sv,m,hm,G⟩:=h.grp
  exact ⟨sv,m,hm,G.keeps kk (fun k hs=>by rcases hs with hs | hs;left;unfold mine;unfold theirs at hs;omega;right;exact hs) tg (by have:=hI.len;rw [←hm] at this;simpa using this)⟩
structure Opn where
 k:Int
 a:Int
 b:Int
 s:ByteArray
 lost:Bool
 wh:Bool
def Opn.arr (o:Opn):Array Value:=#[.int .i64 o.k,.int .i64 o.a,.int .i64 o.b,.string o.s,.bool o.lost,.bool o.wh]
def RefMoved (W:World) (ρ:Nat→Nat) (yb:Nat) (C:Cfg) (time':Int) (_:List Rf) (P:List Pt) (l':List Sh) (wv:Wks) (fv:Value) (ev:Value) (G:List Rf→List Pt→Prop) (e:Ending) (w':World):Prop :=
 e=.returned ev∧∃rs' P',RefPost W ρ yb C time' rs' P' wv fv w'∧absR rs' P'=l'∧(∀x ∈ P',x.shard<rs'.length)∧P'.length≤P.length+1∧G rs' P'
set_option maxRecDepth 100000 in
set_option maxHeartbeats 8000000 in
theorem log_put {w0 w:World} {K:Nat→Prop} {wb sb gb yb:Nat} {C:Cfg} {sdv:Value} {N:Nat} {ρ:Nat→Nat} {last:Int} {sv iv hv m1 m2 m3:Value} {Ls Li Lh:List Ke} {now now':Rest} {time:Int} {l l':List Sh} {rs:List Rf} {P:List Pt} {wv:Wks} {fv:Value} (hL:LawAt w ρ wb sdv last sv iv hv m1 m2 m3 Ls Li Lh) (hS:Side w ρ sb gb yb C now time l rs P wv fv) (hf:Fits w ρ)
 (hB0:∀k,K k→ρ k=0) (hBb:Keeps (fun k=>¬K k) w0 w) (hBs:∀k,K k→k<w0.heap.size) (hn1:P.length≤N) (hn2:Li.length≤64*N) (hn3:Ls.length≤4*N) (hn4:-(17*(N:Int))≤last) (hn5:last≤0) (hn7:Lh.length≤4*N) (hI:Inv l') (o:Opn) (ho:o.k=1) (p1 p2 p3:Int)
 (HP:∀W,Below w.heap.size w W→Calls Tryz.prog 98 #[.pointer (some ⟨gb,0,none⟩),.string o.s,.int .i64 o.a,.int .i64 o.b] W fun e w'=>e=.returned (.tuple #[.int .i64 p1,.int .i64 p2,.int .i64 p3])∧GrpPost W ρ gb C now' l' w')
 (HR:∀W ρ2,(∃sv lv,RefAt W ρ2 yb C time rs P wv fv sv lv)→Fits W ρ2→Calls Tryz.prog 99 #[.pointer (some ⟨yb,0,none⟩),.string o.s,.int .i64 o.a,.int .i64 o.b] W (RefMoved W ρ2 yb C time rs P l' wv fv (.tuple #[.int .i64 p1,.int .i64 p2,.int .i64 p3]) (fun rs' P'=>Rel C now' time l' P' rs' wv ((N+1:Nat):Int)))) :
 Calls Tryz.prog 69 #[.pointer (some ⟨wb,0,none⟩),.pointer (some ⟨sb,0,none⟩),.agg o.arr] w fun e w'=>e=.returned (.bool true)∧St w0 K wb sb gb yb C sdv (N+1) w':=by
 have hsl:=lt_of_heap hS.blk
 have s0:w.cell? ⟨sb,0,none⟩=some (.pointer (some ⟨gb,0,none⟩)):=cell_of hS.blk 0
 have s1:w.cell? ⟨sb,1,none⟩=some (.pointer (some ⟨yb,0,none⟩)):=cell_of hS.blk 1
 have HP:=hide HP
 have HR:=hide HR
 have HM:Hid (∀W w2,Below w.heap.size w W→GrpPost W ρ gb C now' l' w2→∃ρ',Mid w2 ρ' wb sdv last sv iv hv m1 m2 m3 Ls Li Lh sb gb yb C now' l' time rs P wv fv∧Frame w ρ w2 ρ'∧∀k,w.heap.size≤k→k<W.heap.size→ρ' k=0):=fun W w2 hb hp=>toMid hL hS hf hb hp
 have ht0:Hid (¬mine ρ sb):=fun h=>by have:=hS.tag;unfold mine at h;omega
 have ht1:Hid (¬mine ρ w.heap.size):=fun h=>by have:=hf _ (Nat.le_refl w.heap.size);unfold mine at h;omega
 have HE:Hid (∀w',(∃ρ' now2 time2 l2 rs2 P2,LawAt w' ρ' wb sdv last sv iv hv m1 m2 m3 Ls Li Lh∧Side w' ρ' sb gb yb C now2 time2 l2 rs2 P2 wv fv∧Fits w' ρ'∧Frame w ρ w' ρ'∧P2.length≤P.length+1∧Rel C now2 time2 l2 P2 rs2 wv ((N+1:Nat):Int))→St w0 K wb sb gb yb C sdv (N+1) w'):=by
  rintro w' ⟨ρ',now2,time2,l2,rs2,P2,a1,a2,a3,a4,a5,a6⟩
  obtain ⟨b1,b2,b3⟩:=below_frame hBb hB0 hBs a4
  exact ⟨ρ',now2,time2,l2,rs2,P2,wv,fv,last,sv,iv,hv,m1,m2,m3,Ls,Li,Lh,a1,a2,a3,b2,b1,b3,by omega,by omega,by omega,by omega,hn5,a6,by omega⟩
 have HI:=hide hI
 clear hL hS hf hB0 hBb hBs hn1 hn2 hn3 hn4 hn5 hn7 hI
 obtain ⟨kk,oa,ob,os,olost,owh⟩:=o
 simp only at ho
 subst ho
 simp only at HP HR
 unfold Opn.arr
 simp only
 go_enter Tryz.func69,Tryz.ntmps69
 go_wp2
 have hN:=heap_alloc_new w (.cells #[.int .i64 1,.int .i64 oa,.int .i64 ob,.string os,.bool olost,.bool owh] 48)
 have HBa:Hid (Below w.heap.size w (w.alloc (.cells #[.int .i64 1,.int .i64 oa,.int .i64 ob,.string os,.bool olost,.bool owh] 48))):=(Below.refl _ w).alloc (Nat.le_refl _) _
 have hsz:(w.alloc (.cells #[.int .i64 1,.int .i64 oa,.int .i64 ob,.string os,.bool olost,.bool owh] 48)).heap.size=w.heap.size+1:=by simp
 generalize w.alloc (.cells #[.int .i64 1,.int .i64 oa,.int .i64 ob,.string os,.bool olost,.bool owh] 48)=V at *
 have o1:V.cell? ⟨w.heap.size,1,none⟩=some (.int .i64 oa):=cell_of hN 1
 have o2:V.cell? ⟨w.heap.size,2,none⟩=some (.int .i64 ob):=cell_of hN 2
 have o3:V.cell? ⟨w.heap.size,3,none⟩=some (.string os):=cell_of hN 3
 have v0:=((uh HBa).cell (p:=⟨sb,0,none⟩) hsl).trans s0
 have v1:=((uh HBa).cell (p:=⟨sb,1,none⟩) hsl).trans s1
 clear s0 s1 hN
 have HB1:Hid (∀q,Below w.heap.size w (V.drewN q)):=fun q=>⟨(uh HBa).os,(uh HBa).tape,(uh HBa).output,(uh HBa).size,(uh HBa).block⟩
 go_region_held3 (fun w'=>w'.cell? ⟨sb,0,none⟩=some (.pointer (some ⟨gb,0,none⟩))∧w'.cell? ⟨w.heap.size,1,none⟩=some (.int .i64 oa)∧w'.cell? ⟨w.heap.size,2,none⟩=some (.int .i64 ob)∧w'.cell? ⟨w.heap.size,3,none⟩=some (.string os))
  (first | go_keep | (go_split_ands;refine ⟨?_,?_,?_,?_⟩ <;> first | (rw [hkp.cell (show sb<V.heap.size by omega) (uh ht0)];assumption) | (rw [hkp.cell (show w.heap.size<V.heap.size by omega) (uh ht1)];assumption)))
  ((go_at_call 98;refine (uh HP _ (uh HB1 _)).mono ?_;rintro e w2 ⟨rfl,hpost⟩;have hkp:=hpost.choose_spec.choose_spec.choose_spec.2.2.1))
 obtain ⟨ρ2,hmid,hfr,hz⟩:=uh HM _ _ (uh HB1 _) hpost
 have w1:=(hkp.cell (p:=⟨sb,1,none⟩) (show sb<V.heap.size by omega) (uh ht0)).trans v1
 have q1:=(hkp.cell (p:=⟨w.heap.size,1,none⟩) (show w.heap.size<V.heap.size by omega) (uh ht1)).trans o1
 have q2:=(hkp.cell (p:=⟨w.heap.size,2,none⟩) (show w.heap.size<V.heap.size by omega) (uh ht1)).trans o2
 have q3:=(hkp.cell (p:=⟨w.heap.size,3,none⟩) (show w.heap.size<V.heap.size by omega) (uh ht1)).trans o3
 have hw2:w.heap.size<w2.heap.size:=by have:V.heap.size≤w2.heap.size:=hkp.size;omega
 have ht2:Hid (¬theirs ρ2 sb):=fun h=>by have:=hmid.tag;unfold theirs at h;omega
 have ht3:Hid (¬theirs ρ2 w.heap.size):=fun h=>by have:=hz w.heap.size (Nat.le_refl _) (show w.heap.size<V.heap.size by omega);unfold theirs at h;omega
 have HMid:=hide hmid
 have HFr:=hide hfr
 clear hpost hkp hmid hfr hz v0 v1 o1 o2 o3
 have HB2:Hid (∀q,Below w2.heap.size w2 (w2.drewN q)):=fun q=>⟨rfl,rfl,rfl,Nat.le_refl _,fun _ _=>rfl⟩
 go_wp2
 go_region_held3 (fun w'=>w'.cell? ⟨sb,1,none⟩=some (.pointer (some ⟨yb,0,none⟩))∧w'.cell? ⟨w.heap.size,1,none⟩=some (.int .i64 oa)∧w'.cell? ⟨w.heap.size,2,none⟩=some (.int .i64 ob)∧w'.cell? ⟨w.heap.size,3,none⟩=some (.string os))
  (first | go_keep | (go_split_ands;refine ⟨?_,?_,?_,?_⟩ <;> first | (rw [hkq.cell (show sb<w2.heap.size by omega) (uh ht2)];assumption) | (rw [hkq.cell (show w.heap.size<w2.heap.size by omega) (uh ht3)];assumption)))
  ((go_at_call 99;refine (uh HR _ ρ2 ((uh HMid).drawn (uh HB2 _)).1 ((uh HMid).drawn (uh HB2 _)).2).mono ?_;rintro e w3 ⟨rfl,rs',P',hpost,h1,h2,h3,h4⟩;have hkq:=hpost.choose_spec.choose_spec.choose_spec.2.1))
 have HEnd:Hid (St w0 K wb sb gb yb C sdv (N+1) w3):=by
  obtain ⟨ρ3,a1,a2,a3,a4⟩:=fromMid (uh HMid) (uh HB2 _) hpost h1 (uh HI) h2
  exact uh HE w3 ⟨ρ3,_,_,_,_,_,a1,a2,a3,(uh HFr).trans a4,h3,h4⟩
 clear hpost hkq h1 h2 h3 h4 w1 q1 q2 q3
 go_wp2
 go_ret
 exact ⟨rfl,uh HEnd⟩
set_option maxRecDepth 100000 in
set_option maxHeartbeats 8000000 in
theorem log_split {w0 w:World} {K:Nat→Prop} {wb sb gb yb:Nat} {C:Cfg} {sdv:Value} {N:Nat} {ρ:Nat→Nat} {last:Int} {sv iv hv m1 m2 m3:Value} {Ls Li Lh:List Ke} {now now':Rest} {time:Int} {l l':List Sh} {rs:List Rf} {P:List Pt} {wv:Wks} {fv:Value} (hL:LawAt w ρ wb sdv last sv iv hv m1 m2 m3 Ls Li Lh) (hS:Side w ρ sb gb yb C now time l rs P wv fv) (hf:Fits w ρ)
 (hB0:∀k,K k→ρ k=0) (hBb:Keeps (fun k=>¬K k) w0 w) (hBs:∀k,K k→k<w0.heap.size) (hn1:P.length≤N) (hn2:Li.length≤64*N) (hn3:Ls.length≤4*N) (hn4:-(17*(N:Int))≤last) (hn5:last≤0) (hn7:Lh.length≤4*N) (hI:Inv l') (o:Opn) (ho:o.k=2) (p1 p2:Int)
 (HP:∀W,Below w.heap.size w W→Calls Tryz.prog 100 #[.pointer (some ⟨gb,0,none⟩),.int .i64 o.a,.int .i64 o.b] W fun e w'=>e=.returned (.tuple #[.int .i64 p1,.int .i64 p2])∧GrpPost W ρ gb C now' l' w')
 (HR:∀W ρ2,(∃sv lv,RefAt W ρ2 yb C time rs P wv fv sv lv)→Fits W ρ2→Calls Tryz.prog 101 #[.pointer (some ⟨yb,0,none⟩),.int .i64 o.a,.int .i64 o.b] W (RefMoved W ρ2 yb C time rs P l' wv fv (.tuple #[.int .i64 p1,.int .i64 p2]) (fun rs' P'=>Rel C now' time l' P' rs' wv ((N+1:Nat):Int)))) :
 Calls Tryz.prog 69 #[.pointer (some ⟨wb,0,none⟩),.pointer (some ⟨sb,0,none⟩),.agg o.arr] w fun e w'=>e=.returned (.bool true)∧St w0 K wb sb gb yb C sdv (N+1) w':=by
 have hsl:=lt_of_heap hS.blk
 have s0:w.cell? ⟨sb,0,none⟩=some (.pointer (some ⟨gb,0,none⟩)):=cell_of hS.blk 0
 have s1:w.cell? ⟨sb,1,none⟩=some (.pointer (some ⟨yb,0,none⟩)):=cell_of hS.blk 1
 have HP:=hide HP
 have HR:=hide HR
 have HM:Hid (∀W w2,Below w.heap.size w W→GrpPost W ρ gb C now' l' w2→∃ρ',Mid w2 ρ' wb sdv last sv iv hv m1 m2 m3 Ls Li Lh sb gb yb C now' l' time rs P wv fv∧Frame w ρ w2 ρ'∧∀k,w.heap.size≤k→k<W.heap.size→ρ' k=0):=fun W w2 hb hp=>toMid hL hS hf hb hp
 have ht0:Hid (¬mine ρ sb):=fun h=>by have:=hS.tag;unfold mine at h;omega
 have ht1:Hid (¬mine ρ w.heap.size):=fun h=>by have:=hf _ (Nat.le_refl w.heap.size);unfold mine at h;omega
 have HE:Hid (∀w',(∃ρ' now2 time2 l2 rs2 P2,LawAt w' ρ' wb sdv last sv iv hv m1 m2 m3 Ls Li Lh∧Side w' ρ' sb gb yb C now2 time2 l2 rs2 P2 wv fv∧Fits w' ρ'∧Frame w ρ w' ρ'∧P2.length≤P.length+1∧Rel C now2 time2 l2 P2 rs2 wv ((N+1:Nat):Int))→St w0 K wb sb gb yb C sdv (N+1) w'):=by
  rintro w' ⟨ρ',now2,time2,l2,rs2,P2,a1,a2,a3,a4,a5,a6⟩
  obtain ⟨b1,b2,b3⟩:=below_frame hBb hB0 hBs a4
  exact ⟨ρ',now2,time2,l2,rs2,P2,wv,fv,last,sv,iv,hv,m1,m2,m3,Ls,Li,Lh,a1,a2,a3,b2,b1,b3,by omega,by omega,by omega,by omega,hn5,a6,by omega⟩
 have HI:=hide hI
 clear hL hS hf hB0 hBb hBs hn1 hn2 hn3 hn4 hn5 hn7 hI
 obtain ⟨kk,oa,ob,os,olost,owh⟩:=o
 simp only at ho
 subst ho
 simp only at HP HR
 unfold Opn.arr
 simp only
 go_enter Tryz.func69,Tryz.ntmps69
 go_wp2
 have hN:=heap_alloc_new w (.cells #[.int .i64 2,.int .i64 oa,.int .i64 ob,.string os,.bool olost,.bool owh] 48)
 have HBa:Hid (Below w.heap.size w (w.alloc (.cells #[.int .i64 2,.int .i64 oa,.int .i64 ob,.string os,.bool olost,.bool owh] 48))):=(Below.refl _ w).alloc (Nat.le_refl _) _
 have hsz:(w.alloc (.cells #[.int .i64 2,.int .i64 oa,.int .i64 ob,.string os,.bool olost,.bool owh] 48)).heap.size=w.heap.size+1:=by simp
 generalize w.alloc (.cells #[.int .i64 2,.int .i64 oa,.int .i64 ob,.string os,.bool olost,.bool owh] 48)=V at *
 have o1:V.cell? ⟨w.heap.size,1,none⟩=some (.int .i64 oa):=cell_of hN 1
 have o2:V.cell? ⟨w.heap.size,2,none⟩=some (.int .i64 ob):=cell_of hN 2
 have o3:V.cell? ⟨w.heap.size,3,none⟩=some (.string os):=cell_of hN 3
 have v0:=((uh HBa).cell (p:=⟨sb,0,none⟩) hsl).trans s0
 have v1:=((uh HBa).cell (p:=⟨sb,1,none⟩) hsl).trans s1
 clear s0 s1 hN
 have HB1:Hid (∀q,Below w.heap.size w (V.drewN q)):=fun q=>⟨(uh HBa).os,(uh HBa).tape,(uh HBa).output,(uh HBa).size,(uh HBa).block⟩
 go_region_held3 (fun w'=>w'.cell? ⟨sb,0,none⟩=some (.pointer (some ⟨gb,0,none⟩))∧w'.cell? ⟨w.heap.size,1,none⟩=some (.int .i64 oa)∧w'.cell? ⟨w.heap.size,2,none⟩=some (.int .i64 ob))
  (first | go_keep | (go_split_ands;refine ⟨?_,?_,?_⟩ <;> first | (rw [hkp.cell (show sb<V.heap.size by omega) (uh ht0)];assumption) | (rw [hkp.cell (show w.heap.size<V.heap.size by omega) (uh ht1)];assumption)))
  ((go_at_call 100;refine (uh HP _ (uh HB1 _)).mono ?_;rintro e w2 ⟨rfl,hpost⟩;have hkp:=hpost.choose_spec.choose_spec.choose_spec.2.2.1))
 obtain ⟨ρ2,hmid,hfr,hz⟩:=uh HM _ _ (uh HB1 _) hpost
 have w1:=(hkp.cell (p:=⟨sb,1,none⟩) (show sb<V.heap.size by omega) (uh ht0)).trans v1
 have q1:=(hkp.cell (p:=⟨w.heap.size,1,none⟩) (show w.heap.size<V.heap.size by omega) (uh ht1)).trans o1
 have q2:=(hkp.cell (p:=⟨w.heap.size,2,none⟩) (show w.heap.size<V.heap.size by omega) (uh ht1)).trans o2
 have q3:=(hkp.cell (p:=⟨w.heap.size,3,none⟩) (show w.heap.size<V.heap.size by omega) (uh ht1)).trans o3
 have hw2:w.heap.size<w2.heap.size:=by have:V.heap.size≤w2.heap.size:=hkp.size;omega
 have ht2:Hid (¬theirs ρ2 sb):=fun h=>by have:=hmid.tag;unfold theirs at h;omega
 have ht3:Hid (¬theirs ρ2 w.heap.size):=fun h=>by have:=hz w.heap.size (Nat.le_refl _) (show w.heap.size<V.heap.size by omega);unfold theirs at h;omega
 have HMid:=hide hmid
 have HFr:=hide hfr
 clear hpost hkp hmid hfr hz v0 v1 o1 o2 o3
 have HB2:Hid (∀q,Below w2.heap.size w2 (w2.drewN q)):=fun q=>⟨rfl,rfl,rfl,Nat.le_refl _,fun _ _=>rfl⟩
 go_wp2
 go_region_held3 (fun w'=>w'.cell? ⟨sb,1,none⟩=some (.pointer (some ⟨yb,0,none⟩))∧w'.cell? ⟨w.heap.size,1,none⟩=some (.int .i64 oa)∧w'.cell? ⟨w.heap.size,2,none⟩=some (.int .i64 ob))
  (first | go_keep | (go_split_ands;refine ⟨?_,?_,?_⟩ <;> first | (rw [hkq.cell (show sb<w2.heap.size by omega) (uh ht2)];assumption) | (rw [hkq.cell (show w.heap.size<w2.heap.size by omega) (uh ht3)];assumption)))
  ((go_at_call 101;refine (uh HR _ ρ2 ((uh HMid).drawn (uh HB2 _)).1 ((uh HMid).drawn (uh HB2 _)).2).mono ?_;rintro e w3 ⟨rfl,rs',P',hpost,h1,h2,h3,h4⟩;have hkq:=hpost.choose_spec.choose_spec.choose_spec.2.1))
 have HEnd:Hid (St w0 K wb sb gb yb C sdv (N+1) w3):=by
  obtain ⟨ρ3,a1,a2,a3,a4⟩:=fromMid (uh HMid) (uh HB2 _) hpost h1 (uh HI) h2
  exact uh HE w3 ⟨ρ3,_,_,_,_,_,a1,a2,a3,(uh HFr).trans a4,h3,h4⟩
 clear hpost hkq h1 h2 h3 h4 w1 q1 q2 q3
 go_wp2
 go_ret
 exact ⟨rfl,uh HEnd⟩
set_option maxRecDepth 100000 in
set_option maxHeartbeats 8000000 in
theorem log_merge {w0 w:World} {K:Nat→Prop} {wb sb gb yb:Nat} {C:Cfg} {sdv:Value} {N:Nat} {ρ:Nat→Nat} {last:Int} {sv iv hv m1 m2 m3:Value} {Ls Li Lh:List Ke} {now now':Rest} {time:Int} {l l':List Sh} {rs:List Rf} {P:List Pt} {wv:Wks} {fv:Value} (hL:LawAt w ρ wb sdv last sv iv hv m1 m2 m3 Ls Li Lh) (hS:Side w ρ sb gb yb C now time l rs P wv fv) (hf:Fits w ρ)
 (hB0:∀k,K k→ρ k=0) (hBb:Keeps (fun k=>¬K k) w0 w) (hBs:∀k,K k→k<w0.heap.size) (hn1:P.length≤N) (hn2:Li.length≤64*N) (hn3:Ls.length≤4*N) (hn4:-(17*(N:Int))≤last) (hn5:last≤0) (hn7:Lh.length≤4*N) (hI:Inv l') (o:Opn) (ho:o.k=3) (p1 p2:Int)
 (HP:∀W,Below w.heap.size w W→Calls Tryz.prog 102 #[.pointer (some ⟨gb,0,none⟩),.int .i64 o.a,.int .i64 o.b] W fun e w'=>e=.returned (.tuple #[.int .i64 p1,.int .i64 p2])∧GrpPost W ρ gb C now' l' w')
 (HR:∀W ρ2,(∃sv lv,RefAt W ρ2 yb C time rs P wv fv sv lv)→Fits W ρ2→Calls Tryz.prog 103 #[.pointer (some ⟨yb,0,none⟩),.int .i64 o.a,.int .i64 o.b] W (RefMoved W ρ2 yb C time rs P l' wv fv (.tuple #[.int .i64 p1,.int .i64 p2]) (fun rs' P'=>Rel C now' time l' P' rs' wv ((N+1:Nat):Int)))) :
 Calls Tryz.prog 69 #[.pointer (some ⟨wb,0,none⟩),.pointer (some ⟨sb,0,none⟩),.agg o.arr] w fun e w'=>e=.returned (.bool true)∧St w0 K wb sb gb yb C sdv (N+1) w':=by
 have hsl:=lt_of_heap hS.blk
 have s0:w.cell? ⟨sb,0,none⟩=some (.pointer (some ⟨gb,0,none⟩)):=cell_of hS.blk 0
 have s1:w.cell? ⟨sb,1,none⟩=some (.pointer (some ⟨yb,0,none⟩)):=cell_of hS.blk 1
 have HP:=hide HP
 have HR:=hide HR
 have HM:Hid (∀W w2,Below w.heap.size w W→GrpPost W ρ gb C now' l' w2→∃ρ',Mid w2 ρ' wb sdv last sv iv hv m1 m2 m3 Ls Li Lh sb gb yb C now' l' time rs P wv fv∧Frame w ρ w2 ρ'∧∀k,w.heap.size≤k→k<W.heap.size→ρ' k=0):=fun W w2 hb hp=>toMid hL hS hf hb hp
 have ht0:Hid (¬mine ρ sb):=fun h=>by have:=hS.tag;unfold mine at h;omega
 have ht1:Hid (¬mine ρ w.heap.size):=fun h=>by have:=hf _ (Nat.le_refl w.heap.size);unfold mine at h;omega
 have HE:Hid (∀w',(∃ρ' now2 time2 l2 rs2 P2,LawAt w' ρ' wb sdv last sv iv hv m1 m2 m3 Ls Li Lh∧Side w' ρ' sb gb yb C now2 time2 l2 rs2 P2 wv fv∧Fits w' ρ'∧Frame w ρ w' ρ'∧P2.length≤P.length+1∧Rel C now2 time2 l2 P2 rs2 wv ((N+1:Nat):Int))→St w0 K wb sb gb yb C sdv (N+1) w'):=by
  rintro w' ⟨ρ',now2,time2,l2,rs2,P2,a1,a2,a3,a4,a5,a6⟩
  obtain ⟨b1,b2,b3⟩:=below_frame hBb hB0 hBs a4
  exact ⟨ρ',now2,time2,l2,rs2,P2,wv,fv,last,sv,iv,hv,m1,m2,m3,Ls,Li,Lh,a1,a2,a3,b2,b1,b3,by omega,by omega,by omega,by omega,hn5,a6,by omega⟩
 have HI:=hide hI
 clear hL hS hf hB0 hBb hBs hn1 hn2 hn3 hn4 hn5 hn7 hI
 obtain ⟨kk,oa,ob,os,olost,owh⟩:=o
 simp only at ho
 subst ho
 simp only at HP HR
 unfold Opn.arr
 simp only
 go_enter Tryz.func69,Tryz.ntmps69
 go_wp2
 have hN:=heap_alloc_new w (.cells #[.int .i64 3,.int .i64 oa,.int .i64 ob,.string os,.bool olost,.bool owh] 48)
 have HBa:Hid (Below w.heap.size w (w.alloc (.cells #[.int .i64 3,.int .i64 oa,.int .i64 ob,.string os,.bool olost,.bool owh] 48))):=(Below.refl _ w).alloc (Nat.le_refl _) _
 have hsz:(w.alloc (.cells #[.int .i64 3,.int .i64 oa,.int .i64 ob,.string os,.bool olost,.bool owh] 48)).heap.size=w.heap.size+1:=by simp
 generalize w.alloc (.cells #[.int .i64 3,.int .i64 oa,.int .i64 ob,.string os,.bool olost,.bool owh] 48)=V at *
 have o1:V.cell? ⟨w.heap.size,1,none⟩=some (.int .i64 oa):=cell_of hN 1
 have o2:V.cell? ⟨w.heap.size,2,none⟩=some (.int .i64 ob):=cell_of hN 2
 have o3:V.cell? ⟨w.heap.size,3,none⟩=some (.string os):=cell_of hN 3
 have v0:=((uh HBa).cell (p:=⟨sb,0,none⟩) hsl).trans s0
 have v1:=((uh HBa).cell (p:=⟨sb,1,none⟩) hsl).trans s1
 clear s0 s1 hN
 have HB1:Hid (∀q,Below w.heap.size w (V.drewN q)):=fun q=>⟨(uh HBa).os,(uh HBa).tape,(uh HBa).output,(uh HBa).size,(uh HBa).block⟩
 go_region_held3 (fun w'=>w'.cell? ⟨sb,0,none⟩=some (.pointer (some ⟨gb,0,none⟩))∧w'.cell? ⟨w.heap.size,1,none⟩=some (.int .i64 oa)∧w'.cell? ⟨w.heap.size,2,none⟩=some (.int .i64 ob))
  (first | go_keep | (go_split_ands;refine ⟨?_,?_,?_⟩ <;> first | (rw [hkp.cell (show sb<V.heap.size by omega) (uh ht0)];assumption) | (rw [hkp.cell (show w.heap.size<V.heap.size by omega) (uh ht1)];assumption)))
  ((go_at_call 102;refine (uh HP _ (uh HB1 _)).mono ?_;rintro e w2 ⟨rfl,hpost⟩;have hkp:=hpost.choose_spec.choose_spec.choose_spec.2.2.1))
 obtain ⟨ρ2,hmid,hfr,hz⟩:=uh HM _ _ (uh HB1 _) hpost
 have w1:=(hkp.cell (p:=⟨sb,1,none⟩) (show sb<V.heap.size by omega) (uh ht0)).trans v1
 have q1:=(hkp.cell (p:=⟨w.heap.size,1,none⟩) (show w.heap.size<V.heap.size by omega) (uh ht1)).trans o1
 have q2:=(hkp.cell (p:=⟨w.heap.size,2,none⟩) (show w.heap.size<V.heap.size by omega) (uh ht1)).trans o2
 have q3:=(hkp.cell (p:=⟨w.heap.size,3,none⟩) (show w.heap.size<V.heap.size by omega) (uh ht1)).trans o3
 have hw2:w.heap.size<w2.heap.size:=by have:V.heap.size≤w2.heap.size:=hkp.size;omega
 have ht2:Hid (¬theirs ρ2 sb):=fun h=>by have:=hmid.tag;unfold theirs at h;omega
 have ht3:Hid (¬theirs ρ2 w.heap.size):=fun h=>by have:=hz w.heap.size (Nat.le_refl _) (show w.heap.size<V.heap.size by omega);unfold theirs at h;omega
 have HMid:=hide hmid
 have HFr:=hide hfr
 clear hpost hkp hmid hfr hz v0 v1 o1 o2 o3
 have HB2:Hid (∀q,Below w2.heap.size w2 (w2.drewN q)):=fun q=>⟨rfl,rfl,rfl,Nat.le_refl _,fun _ _=>rfl⟩
 go_wp2
 go_region_held3 (fun w'=>w'.cell? ⟨sb,1,none⟩=some (.pointer (some ⟨yb,0,none⟩))∧w'.cell? ⟨w.heap.size,1,none⟩=some (.int .i64 oa)∧w'.cell? ⟨w.heap.size,2,none⟩=some (.int .i64 ob))
  (first | go_keep | (go_split_ands;refine ⟨?_,?_,?_⟩ <;> first | (rw [hkq.cell (show sb<w2.heap.size by omega) (uh ht2)];assumption) | (rw [hkq.cell (show w.heap.size<w2.heap.size by omega) (uh ht3)];assumption)))
  ((go_at_call 103;refine (uh HR _ ρ2 ((uh HMid).drawn (uh HB2 _)).1 ((uh HMid).drawn (uh HB2 _)).2).mono ?_;rintro e w3 ⟨rfl,rs',P',hpost,h1,h2,h3,h4⟩;have hkq:=hpost.choose_spec.choose_spec.choose_spec.2.1))
 have HEnd:Hid (St w0 K wb sb gb yb C sdv (N+1) w3):=by
  obtain ⟨ρ3,a1,a2,a3,a4⟩:=fromMid (uh HMid) (uh HB2 _) hpost h1 (uh HI) h2
  exact uh HE w3 ⟨ρ3,_,_,_,_,_,a1,a2,a3,(uh HFr).trans a4,h3,h4⟩
 clear hpost hkq h1 h2 h3 h4 w1 q1 q2 q3
 go_wp2
 go_ret
 exact ⟨rfl,uh HEnd⟩
theorem St.below {w0 w w':World} {K:Nat→Prop} {wb sb gb yb:Nat} {C:Cfg} {sdv:Value} {N:Nat} (h:St w0 K wb sb gb yb C sdv N w) (hb:Below w.heap.size w w'):St w0 K wb sb gb yb C sdv N w':=by
 obtain ⟨ρ,now,time,l,rs,P,wv,fv,last,sv,iv,hv,m1,m2,m3,Ls,Li,Lh,hL,hS,hf,hB0,hBb,hBs,hn1,hn2,hn3,hn4,hn5,hn6,hn7⟩:=h
 exact ⟨ρ,now,time,l,rs,P,wv,fv,last,sv,iv,hv,m1,m2,m3,Ls,Li,Lh,hL.below hb,hS.keeps (Keeps.of_below hb) (fun k hk=>Or.inr (Or.inr hk)) (fun _ _=>rfl),hf.below hb.size,hB0,keepsK hBb hb,hBs,by omega,by omega,by omega,by omega,hn5,hn6,hn7⟩
theorem St.mono {w0 w:World} {K:Nat→Prop} {wb sb gb yb:Nat} {C:Cfg} {sdv:Value} {N M:Nat} (h:St w0 K wb sb gb yb C sdv N w) (hM:N≤M):St w0 K wb sb gb yb C sdv M w:=by
 obtain ⟨ρ,now,time,l,rs,P,wv,fv,last,sv,iv,hv,m1,m2,m3,Ls,Li,Lh,hL,hS,hf,hB0,hBb,hBs,hn1,hn2,hn3,hn4,hn5,hn6,hn7⟩:=h
 exact ⟨ρ,now,time,l,rs,P,wv,fv,last,sv,iv,hv,m1,m2,m3,Ls,Li,Lh,hL,hS,hf,hB0,hBb,hBs,by omega,by omega,by omega,by omega,hn5,hn6.mono (by omega),by omega⟩
set_option maxRecDepth 100000 in
set_option maxHeartbeats 4000000 in
theorem log_none {w0 w:World} {K:Nat→Prop} {wb sb gb yb:Nat} {C:Cfg} {sdv:Value} {N:Nat} (h:St w0 K wb sb gb yb C sdv N w) (o:Opn) (h1:¬o.k=1) (h2:¬o.k=2) (h3:¬o.k=3) (h4:¬o.k=4) (h5:¬o.k=5) :
 Calls Tryz.prog 69 #[.pointer (some ⟨wb,0,none⟩),.pointer (some ⟨sb,0,none⟩),.agg o.arr] w fun e w'=>e=.returned (.bool true)∧St w0 K wb sb gb yb C sdv (N+1) w':=by
 have HE:Hid (∀W,Below w.heap.size w W→St w0 K wb sb gb yb C sdv (N+1) W):=fun W hb=>(h.below hb).mono (by omega)
 clear h
 obtain ⟨kk,oa,ob,os,olost,owh⟩:=o
 simp only at h1 h2 h3 h4 h5
 unfold Opn.arr
 simp only
 go_enter Tryz.func69,Tryz.ntmps69
 go_wp2
 go_ret
 exact ⟨rfl,uh HE _ ((Below.refl _ w).alloc (Nat.le_refl _) _)⟩
set_option maxRecDepth 100000 in
set_option maxHeartbeats 4000000 in
theorem log_shards {w0 w:World} {K:Nat→Prop} {wb sb gb yb:Nat} {C:Cfg} {sdv:Value} {N:Nat} (h:St w0 K wb sb gb yb C sdv N w) (hN:N≤600000) (o:Opn) (ho:o.k=4) :
 Calls Tryz.prog 69 #[.pointer (some ⟨wb,0,none⟩),.pointer (some ⟨sb,0,none⟩),.agg o.arr] w fun e w'=>e=.returned (.bool true)∧St w0 K wb sb gb yb C sdv (N+1) w':=by
 obtain ⟨ρ,now,time,l,rs,P,wv,fv,last,sv,iv,hv,m1,m2,m3,Ls,Li,Lh,hL,hS,hf,hB0,hBb,hBs,hn1,hn2,hn3,hn4,hn5,hn6,hn7⟩:=h
 have HA:Hid (∀W,Below w.heap.size w W→Calls Tryz.prog 12 #[.pointer (some ⟨wb,0,none⟩),.pointer (some ⟨sb,0,none⟩)] W fun e w'=>e=.returned (.bool true)∧St w0 K wb sb gb yb C sdv (N+1) w'):=fun W hb=>by
  refine (shardsAre_any (hL.below hb) (hS.keeps (Keeps.of_below hb) (fun k hk=>Or.inr (Or.inr hk)) (fun _ _=>rfl)) (hf.below hb.size) (by omega) (by omega) (by omega) (by omega) (by omega)).mono ?_
  rintro e w' ⟨rfl,ρ',last',sv',iv',m1',m2',Ls',Li',a1,a2,a3,a4,a5,a6,a7,a8⟩
  obtain ⟨b1,b2,b3⟩:=below_frame (keepsK hBb hb) hB0 hBs a8
  exact ⟨rfl,ρ',now,time,l,rs,P,wv,fv,last',sv',iv',hv,m1',m2',m3,Ls',Li',Lh,a1,a2,a3,b2,b1,b3,by omega,by omega,by omega,by omega,by omega,hn6.mono (by omega),by omega⟩
 clear hL hS hf hB0 hBb hBs hn1 hn2 hn3 hn4 hn5 hn6 hn7
 obtain ⟨kk,oa,ob,os,olost,owh⟩:=o
 simp only at ho
 subst ho
 unfold Opn.arr
 simp only
 go_enter Tryz.func69,Tryz.ntmps69
 go_wp2_with (go_at_call 12;refine (uh HA _ ((Below.refl _ w).alloc (Nat.le_refl _) _)).mono ?_;rintro e w' ⟨rfl,hp⟩;have HP:=hide hp;clear hp)
 go_ret
 exact ⟨rfl,uh HP⟩
set_option maxRecDepth 100000 in
set_option maxHeartbeats 4000000 in
theorem log_tick {w0 w:World} {K:Nat→Prop} {wb sb gb yb:Nat} {C:Cfg} {sdv:Value} {N:Nat} (h:St w0 K wb sb gb yb C sdv N w) (hN:N≤600000) (o:Opn) (ho:o.k=5) :
 Calls Tryz.prog 69 #[.pointer (some ⟨wb,0,none⟩),.pointer (some ⟨sb,0,none⟩),.agg o.arr] w fun e w'=>e=.returned (.bool true)∧St w0 K wb sb gb yb C sdv (N+1) w':=by
 obtain ⟨ρ,now,time,l,rs,P,wv,fv,last,sv,iv,hv,m1,m2,m3,Ls,Li,Lh,hL,hS,hf,hB0,hBb,hBs,hn1,hn2,hn3,hn4,hn5,hn6,hn7⟩:=h
 have hsl:=lt_of_heap hS.blk
 have s0:w.cell? ⟨sb,0,none⟩=some (.pointer (some ⟨gb,0,none⟩)):=cell_of hS.blk 0
 have hI:=hS.inv
 have HP:Hid (∀W,Below w.heap.size w W→Calls Tryz.prog 104 #[.pointer (some ⟨gb,0,none⟩)] W fun e w'=>e=.returned (.tuple #[])∧GrpPost W ρ gb C { now with t:=wrap64 (now.t+1) } l w'):=fun W hb =>
  gTick_any W ρ gb C now l (hS.keeps (Keeps.of_below hb) (fun k hk=>Or.inr (Or.inr hk)) (fun _ _=>rfl)).grp (hf.below hb.size) hI
 have HR:Hid (∀(W:World) (ρ2:Nat→Nat),(∃sv lv,RefAt W ρ2 yb C time rs P wv fv sv lv)→Fits W ρ2→Calls Tryz.prog 105 #[.pointer (some ⟨yb,0,none⟩)] W fun e w'=>e=.returned (.tuple #[])∧RefPost W ρ2 yb C (wrap64 (time+1)) rs P wv fv w'):=fun W ρ2 ⟨sv,lv,R⟩ hf2=>refTick_any R hf2
 have HM:Hid (∀W w2,Below w.heap.size w W→GrpPost W ρ gb C { now with t:=wrap64 (now.t+1) } l w2→∃ρ',Mid w2 ρ' wb sdv last sv iv hv m1 m2 m3 Ls Li Lh sb gb yb C { now with t:=wrap64 (now.t+1) } l time rs P wv fv∧Frame w ρ w2 ρ'∧∀k,w.heap.size≤k→k<W.heap.size→ρ' k=0):=fun W w2 hb hp=>toMid hL hS hf hb hp
 have HE:Hid (∀w',(∃ρ' now2 time2 l2 rs2 P2,LawAt w' ρ' wb sdv last sv iv hv m1 m2 m3 Ls Li Lh∧Side w' ρ' sb gb yb C now2 time2 l2 rs2 P2 wv fv∧Fits w' ρ'∧Frame w ρ w' ρ'∧P2.length≤P.length+1∧Rel C now2 time2 l2 P2 rs2 wv ((N+1:Nat):Int))→St w0 K wb sb gb yb C sdv (N+1) w'):=by
  rintro w' ⟨ρ',now2,time2,l2,rs2,P2,a1,a2,a3,a4,a5,a6⟩
  obtain ⟨b1,b2,b3⟩:=below_frame hBb hB0 hBs a4
  exact ⟨ρ',now2,time2,l2,rs2,P2,wv,fv,last,sv,iv,hv,m1,m2,m3,Ls,Li,Lh,a1,a2,a3,b2,b1,b3,by omega,by omega,by omega,by omega,hn5,a6,by omega⟩
 have HI:=hide hI
 have HSa:=hide hS.same
 have HPi:=hide hS.pin
 have HRel:=hide (hn6.tick (by omega))
 clear hL hS hf hB0 hBb hBs hn1 hn2 hn3 hn4 hn5 hn6 hn7 hI hN
 obtain ⟨kk,oa,ob,os,olost,owh⟩:=o
 simp only at ho
 subst ho
 unfold Opn.arr
 simp only
 go_enter Tryz.func69,Tryz.ntmps69
 go_wp2_with (go_at_call 104;refine (uh HP _ ((Below.refl _ w).alloc (Nat.le_refl _) _)).mono ?_;rintro e w2 ⟨rfl,hpost⟩;obtain ⟨ρ2,hmid,hfr,hz⟩:=uh HM _ _ ((Below.refl _ w).alloc (Nat.le_refl _) _) hpost;have v1:w2.cell? ⟨sb,1,none⟩=some (.pointer (some ⟨yb,0,none⟩)):=cell_of hmid.blk 1;have HMid:=hide hmid;have HFr:=hide hfr;clear hmid hfr hz hpost)
 refine (uh HR _ ρ2 (uh HMid).ref (uh HMid).fits).mono ?_
 rintro e w3 ⟨rfl,hpost⟩
 have HEnd:Hid (St w0 K wb sb gb yb C sdv (N+1) w3):=by
  obtain ⟨ρ3,a1,a2,a3,a4⟩:=fromMid (uh HMid) (Below.refl _ _) hpost (uh HSa) (uh HI) (uh HPi)
  exact uh HE w3 ⟨ρ3,_,_,_,_,_,a1,a2,a3,(uh HFr).trans a4,by omega,(uh HRel).mono (by omega)⟩
 clear hpost
 go_wp2
 go_ret
 exact ⟨rfl,uh HEnd⟩
theorem aSplit_len (l:List Sh) (n a:Int):l.length≤(aSplit l n a).1.length:=by
 unfold aSplit
 split
 ·split
  ·exact Nat.le_refl _
  ·split
   ·exact Nat.le_refl _
   ·split
    ·exact Nat.le_refl _
    ·split
     ·exact Nat.le_refl _
     ·simp
 ·exact Nat.le_refl _
theorem aMerge_len (l:List Sh) (n a:Int):l.length≤(aMerge l n a).1.length:=by
 unfold aMerge
 split
 ·split
  ·split
   ·exact Nat.le_refl _
   ·split
    ·exact Nat.le_refl _
    ·split
     ·exact Nat.le_refl _
     ·simp
  ·exact Nat.le_refl _
 ·exact Nat.le_refl _
theorem Home.uniq {l:List Sh} {h:Int} {k k':Nat} {x x':Sh} (a:Home l h k x) (b:Home l h k' x'):k'=k∧x'=x:=by
 have e:=a.2.2 k' x' b.1 b.2.1
 subst e
 have:=a.1.symm.trans b.1
 injection this with this
 exact ⟨rfl,this.symm⟩
theorem log_any {w0 w:World} {K:Nat→Prop} {wb sb gb yb:Nat} {C:Cfg} {sdv:Value} {N:Nat} (h:St w0 K wb sb gb yb C sdv N w) (hN:N≤600000) (o:Opn) (hs:o.s.size≤maxLen) :
 Calls Tryz.prog 69 #[.pointer (some ⟨wb,0,none⟩),.pointer (some ⟨sb,0,none⟩),.agg o.arr] w fun e w'=>e=.returned (.bool true)∧St w0 K wb sb gb yb C sdv (N+1) w':=by
 by_cases h1:o.k=1
 ·obtain ⟨ρ,now,time,l,rs,P,wv,fv,last,sv,iv,hv,m1,m2,m3,Ls,Li,Lh,hL,hS,hf,hB0,hBb,hBs,hn1,hn2,hn3,hn4,hn5,hn6,hn7⟩:=h
  have hGW:∀W,Below w.heap.size w W→Calls Tryz.prog 98 #[.pointer (some ⟨gb,0,none⟩),.string o.s,.int .i64 o.a,.int .i64 o.b] W (PutPost W ρ gb C now l o.s o.a o.b):=fun W hb =>
   gPut_any W ρ gb C now l o.s o.a o.b (hS.keeps (Keeps.of_below hb) (fun k hk=>Or.inr (Or.inr hk)) (fun _ _=>rfl)).grp (hf.below hb.size) hS.inv hs
  have hRW:∀W (ρ2:Nat→Nat),(∃sv lv,RefAt W ρ2 yb C time rs P wv fv sv lv)→Fits W ρ2→Calls Tryz.prog 99 #[.pointer (some ⟨yb,0,none⟩),.string o.s,.int .i64 o.a,.int .i64 o.b] W (RefPutPost W ρ2 yb C time rs P wv fv o.s o.a o.b):=fun W ρ2 ⟨sv,lv,R⟩ hf2 =>
   refPut_any R hf2 (by rw [hS.same];exact hS.inv) (by omega) o.s o.a o.b hs
  by_cases hr:makeR o.s o.a o.b=0
  ·obtain ⟨hb0,hb1⟩:=hashL_bd o.s.data.toList
   obtain ⟨k,x,hx⟩:=hS.inv.part (hashL o.s.data.toList) hb0 hb1
   by_cases hc:32≤x.cnt
   ·refine log_put hL hS hf hB0 hBb hBs hn1 hn2 hn3 hn4 hn5 (hn7:=hn7) (l':=l) (now':=now) hS.inv o h1 0 0 8 (fun W hb=>(hGW W hb).mono ?_) (fun W ρ2 hR hf2=>(hRW W ρ2 hR hf2).mono ?_)
    ·rintro e w' (⟨a,_,_⟩ | ⟨_,k',x',hh,rfl,hp⟩)
     ·exact absurd hr a
     ·obtain ⟨rfl,rfl⟩:=hx.uniq hh
      refine ⟨by unfold putV;rw [if_pos hc],?_⟩
      rw [putL,if_pos hc] at hp;exact hp
    ·rintro e w' (⟨a,_,_⟩ | ⟨_,k',x',hh,rfl,hp⟩)
     ·exact absurd hr a
     ·rw [hS.same] at hh
      obtain ⟨rfl,rfl⟩:=hx.uniq hh
      rcases hp with ⟨_,hp⟩ | ⟨hp,_⟩
      ·exact ⟨by unfold putV;rw [if_pos hc],rs,P,hp,hS.same,hS.pin,by omega,hn6.mono (by omega)⟩
      ·exact absurd hc hp
   ·refine log_put hL hS hf hB0 hBb hBs hn1 hn2 hn3 hn4 hn5 (hn7:=hn7) (l':=putL l k x ⟨o.s.data.toList,o.a,o.b⟩) (now':=now) (inv_put hS.inv hx.1 _) o h1 k x.cnt 0 (fun W hb=>(hGW W hb).mono ?_) (fun W ρ2 hR hf2=>(hRW W ρ2 hR hf2).mono ?_)
    ·rintro e w' (⟨a,_,_⟩ | ⟨_,k',x',hh,rfl,hp⟩)
     ·exact absurd hr a
     ·obtain ⟨rfl,rfl⟩:=hx.uniq hh
      exact ⟨by unfold putV;rw [if_neg hc],hp⟩
    ·rintro e w' (⟨a,_,_⟩ | ⟨_,k',x',hh,rfl,hp⟩)
     ·exact absurd hr a
     ·rw [hS.same] at hh
      obtain ⟨rfl,rfl⟩:=hx.uniq hh
      rcases hp with ⟨hp,_⟩ | ⟨_,hp⟩
      ·exact absurd hp hc
      ·have hkx:(absR rs P)[k']?=some x':=by rw [hS.same];exact hh.1
       refine ⟨by unfold putV;rw [if_neg hc],rs,_,hp,?_,?_,by simp,(hn6.put hS.inv hx hc hs hr).mono (by omega)⟩
       ·rw [absR_put hkx,hS.same,putL,if_neg hc]
       ·intro e he
        rcases List.mem_append.1 he with he | he
        ·exact hS.pin e he
        ·simp at he
         subst he
         have:=(List.getElem?_eq_some_iff.1 hkx).1
         rw [absR_len] at this
         exact this
  ·refine log_put hL hS hf hB0 hBb hBs hn1 hn2 hn3 hn4 hn5 (hn7:=hn7) (l':=l) (now':=now) hS.inv o h1 0 0 (makeR o.s o.a o.b) (fun W hb=>(hGW W hb).mono ?_) (fun W ρ2 hR hf2=>(hRW W ρ2 hR hf2).mono ?_)
   ·rintro e w' (⟨_,rfl,hp⟩ | ⟨a,_⟩)
    ·exact ⟨rfl,hp⟩
    ·exact absurd a hr
   ·rintro e w' (⟨_,rfl,hp⟩ | ⟨a,_⟩)
    ·exact ⟨rfl,rs,P,hp,hS.same,hS.pin,by omega,hn6.mono (by omega)⟩
    ·exact absurd a hr
 ·by_cases h2:o.k=2
  ·obtain ⟨ρ,now,time,l,rs,P,wv,fv,last,sv,iv,hv,m1,m2,m3,Ls,Li,Lh,hL,hS,hf,hB0,hBb,hBs,hn1,hn2,hn3,hn4,hn5,hn6,hn7⟩:=h
   have hrl:rs.length=l.length:=by rw [←hS.same,absR_len]
   refine log_split hL hS hf hB0 hBb hBs hn1 hn2 hn3 hn4 hn5 (hn7:=hn7) (l':=(aSplit l o.a o.b).1) (now':=now) (inv_split hS.inv o.a o.b) o h2 (aSplit l o.a o.b).2.1 (aSplit l o.a o.b).2.2 (fun W hb=>?_) (fun W ρ2 ⟨sv,lv,R⟩ hf2=>?_)
   ·exact gSplit_any W ρ gb C now l o.a o.b (hS.keeps (Keeps.of_below hb) (fun k hk=>Or.inr (Or.inr hk)) (fun _ _=>rfl)).grp (hf.below hb.size) hS.inv
   ·have:=refSplit_any R hf2 (by rw [hrl];exact hS.inv.pos) (by rw [hrl];exact hS.inv.len) hS.pin o.a o.b
    rw [hS.same] at this
    refine this.mono ?_
    rintro e w' ⟨rfl,rs',h3,hmo,hp⟩
    refine ⟨rfl,rs',P,hp,h3,fun e he=>?_,by omega,(hn6.split hS.inv o.a o.b hmo).mono (by omega)⟩
    have a:=hS.pin e he
    have b:=aSplit_len l o.a o.b
    rw [←h3,absR_len] at b
    omega
  ·by_cases h3:o.k=3
   ·obtain ⟨ρ,now,time,l,rs,P,wv,fv,last,sv,iv,hv,m1,m2,m3,Ls,Li,Lh,hL,hS,hf,hB0,hBb,hBs,hn1,hn2,hn3,hn4,hn5,hn6,hn7⟩:=h
    have hrl:rs.length=l.length:=by rw [←hS.same,absR_len]
    refine log_merge hL hS hf hB0 hBb hBs hn1 hn2 hn3 hn4 hn5 (hn7:=hn7) (l':=(aMerge l o.a o.b).1) (now':=now) (inv_merge hS.inv o.a o.b) o h3 (aMerge l o.a o.b).2.1 (aMerge l o.a o.b).2.2 (fun W hb=>?_) (fun W ρ2 ⟨sv,lv,R⟩ hf2=>?_)
    ·exact gMerge_any W ρ gb C now l o.a o.b (hS.keeps (Keeps.of_below hb) (fun k hk=>Or.inr (Or.inr hk)) (fun _ _=>rfl)).grp (hf.below hb.size) hS.inv
    ·have:=refMerge_any R hf2 (by rw [hrl];exact hS.inv.pos) (by rw [hrl];exact hS.inv.len) hS.pin (fun i r hr=>by
      have q:=absR_get (P:=P) hr
      rw [hS.same] at q
      exact (hS.inv.rng i _ q).2.1) o.a o.b
     rw [hS.same] at this
     refine this.mono ?_
     rintro e w' ⟨rfl,rs',h3,hmo,hp⟩
     refine ⟨rfl,rs',P,hp,h3,fun e he=>?_,by omega,(hn6.merge hS.inv o.a o.b hmo).mono (by omega)⟩
     have a:=hS.pin e he
     have b:=aMerge_len l o.a o.b
     rw [←h3,absR_len] at b
     omega
   ·by_cases h4:o.k=4
    ·exact log_shards h hN o h4
    ·by_cases h5:o.k=5
     ·exact log_tick h hN o h5
     ·exact log_none h o h1 h2 h3 h4 h5
set_option maxRecDepth 100000 in
set_option maxHeartbeats 4000000 in
theorem lease_log {w0 w:World} {K:Nat→Prop} {wb sb gb yb:Nat} {C:Cfg} {sdv:Value} {N:Nat} (h:St w0 K wb sb gb yb C sdv N w) (hN:N≤600000) (o:Opn) (hs:o.s.size≤maxLen) (hk:o.k≤5) :
 Calls Tryz.prog 30 #[.pointer (some ⟨wb,0,none⟩),.pointer (some ⟨sb,0,none⟩),.agg o.arr] w fun e w'=>e=.returned (.bool true)∧St w0 K wb sb gb yb C sdv (N+1) w':=by
 have HL:Hid (∀W,Below w.heap.size w W→Calls Tryz.prog 69 #[.pointer (some ⟨wb,0,none⟩),.pointer (some ⟨sb,0,none⟩),.agg o.arr] W fun e w'=>e=.returned (.bool true)∧St w0 K wb sb gb yb C sdv (N+1) w'):=fun W hb=>log_any (h.below hb) (by omega) o hs
 clear h
 obtain ⟨kk,oa,ob,os,olost,owh⟩:=o
 simp only at hk
 unfold Opn.arr at HL ⊢
 simp only at HL ⊢
 have e6:¬kk=6:=by omega
 have e7:¬kk=7:=by omega
 have e8:¬kk=8:=by omega
 have e9:¬kk=9:=by omega
 have e10:¬kk=10:=by omega
 have e11:¬kk=11:=by omega
 clear hk
 go_enter Tryz.func30,Tryz.ntmps30
 go_wp2_with (go_at_call 69;refine (uh HL _ ((Below.refl _ w).alloc (Nat.le_refl _) _)).mono ?_;rintro e w' ⟨rfl,hp⟩;have HP:=hide hp;clear hp)
 go_ret
 exact ⟨rfl,uh HP⟩
end Go.Proofs.YtpnkmnmchdabkaaGreat
