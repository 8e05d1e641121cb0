import Derived.Test.YtpnkmnmchdabkaaGreatM47
import Derived.Test.YtpnkmnmchdabkaaGreatM36
namespace Go.Proofs.YtpnkmnmchdabkaaGreat
open Go.RowKit
attribute [local go_sem ↓] Go.wp_at_zero Go.wp_at_succ
theorem mark_ask {w0 w:World} {K:Nat→Prop} {wb sb gb yb:Nat} {C:Cfg} {sdv:Value} {N:Nat} (h:St w0 K wb sb gb yb C sdv N w) (hN:N≤600000) (o:Opn) (ho:o.k=14) :
 Calls Tryz.prog 10 #[.pointer (some ⟨wb,0,none⟩),.pointer (some ⟨sb,0,none⟩),.agg o.arr] w fun e w'=>e=.returned (.bool true)∧Below w.heap.size w w':=by
 obtain ⟨now,time,l,rs,P,wv,fv,hX⟩:=h.x
 obtain ⟨s0,s1,hsl,_⟩:=hX.cells
 obtain ⟨ρ,last,sv,iv,hv,m1,m2,m3,Ls,Li,Lh,hL,hS,hf,hB0,hBb,hBs,hn1,hn2,hn3,hn4,hn5,hn6,hn7⟩:=hX
 obtain ⟨gv,m,g,cap,Q,he,hGS,hw,hlen,hW,hmQ,hO⟩:=hn6.gs hS.grp hf hS.inv
 have hI:=hS.inv
 have hml:m.length=l.length:=by rw [←he];simp
 have hrl:rs.length=l.length:=by rw [←hS.same,absR_len]
 have h0:0<m.length:=by have:=hI.pos;omega
 have hr16:=hI.len
 obtain ⟨d1,d2,d3,d4⟩:=hn6.marks hI
 have href:∀W,Below w.heap.size w W→∃sv lv,RefAt W ρ yb C time rs P wv fv sv lv:=fun W hb=>(hS.keeps (Keeps.of_below hb) (fun k hk=>Or.inr (Or.inr hk)) (fun _ _=>rfl)).ref
 by_cases hk:0≤o.a∧o.a<m.length
 ·obtain ⟨k,hka⟩:∃k:Nat,o.a=(k:Int):=⟨o.a.toNat,by omega⟩
  have hkm:k<m.length:=by omega
  have hx:rs[k]?=some (rs[k]'(by omega)):=List.getElem?_eq_getElem _
  generalize rs[k]'(by omega)=x at hx
  obtain ⟨s,hs⟩:∃s,l[k]?=some s:=⟨l[k]'(by omega),List.getElem?_eq_getElem _⟩
  refine step_mark o ho (dR rs k) x.ep (ahd l (dR rs) k (dR rs k)) 0 s0 s1 hsl (fun W hb=>?_) (fun W hb=>?_)
  ·rw [hka]
   have hc:=gMark_any (hGS.below hb).1 (by rw [he];exact hI) (dR rs) d1 (fun k _=>d2 k) (fun k s hs=>d3 k s.s (by rw [←he,List.getElem?_map,hs];rfl)) k hkm
   rw [he,hml,(d4 k x hx).2,wmUp_at hs (by omega) (by omega)] at hc
   rw [ahd_is (dR rs) (dR rs k) hs]
   exact hc
  ·obtain ⟨sv2,lv2,R⟩:=href W hb
   rw [hka]
   have hc:=refMark_any R (by rw [hS.same];exact hI) (by omega) (fun k r hr=>(d4 k r hr).1) d1 k x hx
   rw [hS.same] at hc
   exact hc
 ·refine step_mark o ho 0 0 0 5 s0 s1 hsl (fun W hb=>?_) (fun W hb=>?_)
  ·exact gMark_no (hGS.below hb).1 h0 o.a hk
  ·obtain ⟨sv2,lv2,R⟩:=href W hb
   exact refMark_no R (by omega) o.a (by rw [hrl,←hml];exact hk)
theorem read_ask {w0 w:World} {K:Nat→Prop} {wb sb gb yb:Nat} {C:Cfg} {sdv:Value} {N:Nat} (h:St w0 K wb sb gb yb C sdv N w) (hN:N≤600000) (o:Opn) (ho:o.k=15) (hs:o.s.size≤maxLen) :
 Calls Tryz.prog 10 #[.pointer (some ⟨wb,0,none⟩),.pointer (some ⟨sb,0,none⟩),.agg o.arr] w fun e w'=>e=.returned (.bool true)∧Below w.heap.size w w':=by
 obtain ⟨now,time,l,rs,P,wv,fv,hX⟩:=h.x
 obtain ⟨s0,s1,hsl,_⟩:=hX.cells
 obtain ⟨ρ,last,sv,iv,hv,m1,m2,m3,Ls,Li,Lh,hL,hS,hf,hB0,hBb,hBs,hn1,hn2,hn3,hn4,hn5,hn6,hn7⟩:=hX
 obtain ⟨gv,m,g,cap,Q,he,hGS,hw,hlen,hW,hmQ,hO⟩:=hn6.gs hS.grp hf hS.inv
 have hI:=hS.inv
 have hml:m.length=l.length:=by rw [←he];simp
 have hcf:=hn6.conf
 obtain ⟨d1,d2,d3,d4⟩:=hn6.marks hI
 obtain ⟨E,F,f1,f2,f3,f4,f5⟩:=hn6.folds hS.same hI
 have href:∀W,Below w.heap.size w W→∃sv lv,RefAt W ρ yb C time rs P wv fv sv lv:=fun W hb=>(hS.keeps (Keeps.of_below hb) (fun k hk=>Or.inr (Or.inr hk)) (fun _ _=>rfl)).ref
 cases hk:keyB o.s
 ·refine step_read o ho 0 0 0 0 0 0 0 2 false s0 s1 hsl (fun W hb=>?_) (fun W hb=>?_)
  ·exact gRead_no gb o.s o.a hs hk
  ·exact refRead_no yb o.s o.a hs hk
 by_cases hb9:0≤o.a∧o.a % C.s=0
 ·have hbw:beginsW C.s o.a=true:=by unfold beginsW;simpa using hb9
  have hfk:=fdKey_is hI f1 (dR rs) (key:=o.s) hk
  have hfo:rQ C o.a l (dR rs) F o.s F.length=rdOf C o.a ((fol E (dR rs) o.s).map (enFd l (dR rs))):=by
   unfold rQ
   rw [List.take_length,f2.key hI f1 o.s]
  refine step_read o ho (rQ C o.a l (dR rs) F o.s F.length).c (rQ C o.a l (dR rs) F o.s F.length).s (rQ C o.a l (dR rs) F o.s F.length).mn (rQ C o.a l (dR rs) F o.s F.length).mx (rQ C o.a l (dR rs) F o.s F.length).f (rQ C o.a l (dR rs) F o.s F.length).l (rQ C o.a l (dR rs) F o.s F.length).lt 0 (rQ C o.a l (dR rs) F o.s F.length).o s0 s1 hsl (fun W hb=>?_) (fun W hb=>?_)
  ·have hc:=gRead_any (hGS.below hb).1 (by rw [he];exact hI) (dR rs) d1 (fun k _=>d2 k) (fun k s hs=>d3 k s.s (by rw [←he,List.getElem?_map,hs];rfl)) o.s o.a hs hk (by omega) hcf.2.2.2.2.2.1 hbw _ rfl (fun y hy=>by
    rw [he,hml,hfk] at hy
    obtain ⟨e,he',rfl⟩:=List.mem_map.1 hy
    have:=(f1.key e ((List.mem_filter.1 he').1)).2.2.2
    exact this)
   rw [he,hml,hfk,←hfo] at hc
   exact hc
  ·obtain ⟨sv2,lv2,R⟩:=href W hb
   exact refRead_any R (by omega) hS.same hI (fun k r hr=>(d4 k r hr).1) d1 F f3 (by omega) f5 o.s hs hk o.a hb9 (by omega)
 ·have hbw:beginsW C.s o.a=false:=by unfold beginsW;simpa using hb9
  refine step_read o ho 0 0 0 0 0 0 0 16 false s0 s1 hsl (fun W hb=>?_) (fun W hb=>?_)
  ·exact gRead_win (hGS.below hb).1 o.s o.a hs hk (by omega) hbw
  ·obtain ⟨sv2,lv2,R⟩:=href W hb
   exact refRead_win R o.s o.a hs hk (by omega) hb9
def WinOut (W:World) (xs:List Int) (er:Int) (e:Ending) (w':World):Prop :=
 ∃v,e=.returned (.tuple #[v,.int .i64 er])∧w'.ownsRow W.heap.size 3 1 v xs.length (xs.map (Value.int .i64))∧Below W.heap.size W w'
def AskPostI (w:World) (ρ:Nat→Nat) (wb:Nat) (sdv:Value) (last:Int) (sv hv m2 m3:Value) (Ls Li Lh:List Ke) (e:Ending) (w':World):Prop :=
 e=.returned (.bool true)∧∃ρ' iv' m1' Li',LawAt w' ρ' wb sdv (last - 1) sv iv' hv m1' m2 m3 Ls Li' Lh∧Fits w' ρ'∧Li'.length=Li.length+4∧(∀k,k<w.heap.size→ρ' k=ρ k)∧Keeps (fun q=>laws ρ q∨w.heap.size≤q) w w'
theorem AskPostI.of {w w4 w':World} {ρ:Nat→Nat} {wb:Nat} {sdv:Value} {last:Int} {sv hv m2 m3:Value} {Ls Li Lh:List Ke} {v:Value} {n:Nat} {xs:List Value} (hb:Below w.heap.size w w4) (hl:w4.ownsRow w.heap.size 3 1 v n xs) {e:Ending}
 (hp:KeepPost w4 ρ wb sdv (last - 1) sv hv m2 m3 Ls Li Lh v e w'):AskPostI w ρ wb sdv last sv hv m2 m3 Ls Li Lh (.returned (.bool true)) w':=by
 obtain ⟨_,ρ',hv',m3',Ln,hL,h4,t1,t2,hf,hk,_⟩:=hp
 have hz:=hb.size
 refine ⟨rfl,ρ',hv',m3',Li ++ Ln,hL,hf,by rw [List.length_append,h4],fun q hq=>t1 q (by omega) (fun e=>by have:=(hl.lt q e).1;omega),⟨hk.os.trans hb.os,hk.tape.trans hb.tape,hk.output.trans hb.output,Nat.le_trans hz hk.size,fun q hq hs=>?_⟩⟩
 rw [hk.block q (by omega) (fun h=>hs (h.elim Or.inl (fun h=>Or.inr (hl.lt q h).1)))]
 exact hb.block q hq
set_option maxRecDepth 100000 in
set_option maxHeartbeats 8000000 in
theorem windowsAre_any {w:World} {ρ:Nat→Nat} {wb:Nat} {sdv:Value} {last:Int} {sv iv hv m1 m2 m3:Value} {Ls Li Lh:List Ke} {sb gb yb:Nat} (hL:LawAt w ρ wb sdv last sv iv hv m1 m2 m3 Ls Li Lh) (hf:Fits w ρ)
 (hblk:w.heap[sb]?=some (.cells #[.pointer (some ⟨gb,0,none⟩),.pointer (some ⟨yb,0,none⟩)] 46 (0,0)))
 (h1:-7000000000000000000≤last) (h2:last≤0) (hlenI:Li.length≤40000000) (key:ByteArray) (xs:List Int) (er:Int) (hxl:xs.length≤2000000)
 (HX:∀W,Below w.heap.size w W→Calls Tryz.prog 57 #[.pointer (some ⟨gb,0,none⟩),.string key] W (WinOut W xs er))
 (HY:∀W,Below w.heap.size w W→Calls Tryz.prog 36 #[.pointer (some ⟨yb,0,none⟩),.string key] W (WinOut W xs er)) :
 Calls Tryz.prog 29 #[.pointer (some ⟨wb,0,none⟩),.pointer (some ⟨sb,0,none⟩),.string key] w (AskPostI w ρ wb sdv last sv hv m2 m3 Ls Li Lh):=by
 have hsbl:=lt_of_heap hblk
 have s0:w.cell? ⟨sb,0,none⟩=some (.pointer (some ⟨gb,0,none⟩)):=cell_of hblk 0
 have s1:w.cell? ⟨sb,1,none⟩=some (.pointer (some ⟨yb,0,none⟩)):=cell_of hblk 1
 have HL:=hide hL
 have HF:=hide hf
 have HX:=hide HX
 have HY:=hide HY
 clear hL hf hblk
 go_enter Tryz.func29,Tryz.ntmps29
 go_wp2_with fail
 refine (uh HX _ (Below.refl _ _)).mono ?_
 rintro e w1 ⟨v,rfl,hown,hb1⟩
 have s2:=(hb1.cell (p:=⟨sb,1,none⟩) hsbl).trans s1
 have HO1:=hide hown
 have HB1:=hide hb1
 obtain ⟨va,vc,rfl⟩:=ownsRow_len hown
 clear hown hb1
 go_wp2_with fail
 refine (uh HY _ (uh HB1)).mono ?_
 rintro e w2 ⟨yv,rfl,hown2,hb2⟩
 obtain ⟨ya,yc,rfl⟩:=ownsRow_len hown2
 have hw1:=(uh HB1).size
 have hw2:=hb2.size
 have HB12:Hid (Below w.heap.size w w2):=(uh HB1).trans (hb2.mono hw1)
 have HO1':Hid (w2.ownsRow w.heap.size 3 1 (.slice va xs.length vc) xs.length (xs.map (Value.int .i64))):=ownsRow_of_block (uh HO1) fun q hq=>hb2.block q ((uh HO1).lt q hq).2
 have HSm:=hide (sameInts_any w2 _ _ xs xs (ownsRow_base (uh HO1') (Nat.zero_le _)) (ownsRow_base hown2 (Nat.zero_le _)) hxl)
 rw [decide_eq_true rfl] at HSm
 clear hown2 hb2 s0 s1 s2 HO1
 go_wp2_with fail
 refine (uh HSm).mono ?_
 rintro e wr ⟨rfl,hbr⟩
 have HB3:Hid (Below w.heap.size w wr):=(uh HB12).trans (hbr.mono (by omega))
 have HO3:Hid (wr.ownsRow w.heap.size 3 1 (.slice va xs.length vc) xs.length (xs.map (Value.int .i64))):=ownsRow_of_block (uh HO1') fun q hq=>hbr.block q ((uh HO1').lt q hq).2
 have HK:=hide (((uh HL).below (uh HB3)).kept)
 have HKS:Hid (∀W,Below wr.heap.size wr W→Calls Tryz.prog 58 #[.pointer (some ⟨wb,0,none⟩),.slice va xs.length vc] W (KeepPost W ρ wb sdv (last - 1) sv hv m2 m3 Ls Li Lh (.slice va xs.length vc))):=fun W hW=>by
  have hBW:Below w.heap.size w W:=(uh HB3).trans (hW.mono (by have:=(uh HB3).size;omega))
  exact keepInts_any ((uh HL).below hBW) ((uh HF).below hBW.size) (by omega) h2 _ xs.length _ (ownsRow_base (ownsRow_of_block (uh HO3) fun q hq=>hW.block q ((uh HO3).lt q hq).2) (Nat.zero_le _)) hxl hlenI (fun q hq=>uh HF q ((uh HO3).lt q hq).1)
 clear hbr HSm HO1' HB12
 go_wp2_with (go_at_call 11;refine (uh HK).mono ?_;rintro e w6 ⟨rfl,hb6⟩;have HB6:=hide hb6;clear hb6)
 refine (uh HKS _ (uh HB6)).mono ?_
 rintro e w7 hp
 have HPP:=hide (AskPostI.of ((uh HB3).trans ((uh HB6).mono (uh HB3).size)) (ownsRow_of_block (uh HO3) fun q hq=>(uh HB6).block q ((uh HO3).lt q hq).2) hp)
 obtain ⟨rfl,-⟩:=hp
 go_wp2
 go_ret
 exact uh HPP
theorem win_both {C:Cfg} {now:Rest} {time:Int} {l:List Sh} {rs:List Rf} {P:List Pt} {wv:Wks} {B:Int} (hn6:Rel C now time l P rs wv B) (hsame:absR rs P=l) (hI:Inv l) (hP:P.length≤1000000) (key:ByteArray) (hs:key.size≤maxLen) :
 ∃xs er,xs.length≤2000000∧(∀(W:World) (ρ:Nat→Nat) (yb:Nat) (fv sv lv:Value),RefAt W ρ yb C time rs P wv fv sv lv→Calls Tryz.prog 36 #[.pointer (some ⟨yb,0,none⟩),.string key] W (WinOut W xs er)) ∧
  ∀(W:World) (ρ:Nat→Nat) (gb:Nat) (gv:Value) (m:List Cs) (g cap:Nat) (Q:List Pl),m.map (·.s)=l→GS W ρ gb C now gv m g cap now.ls Q→Calls Tryz.prog 57 #[.pointer (some ⟨gb,0,none⟩),.string key] W (WinOut W xs er):=by
 have hcf:=hn6.conf
 obtain ⟨d1,d2,d3,d4⟩:=hn6.marks hI
 obtain ⟨E,F,f1,f2,f3,f4,f5⟩:=hn6.folds hsame hI
 cases hk:keyB key
 ·refine ⟨[],2,by simp,fun W ρ yb fv sv lv _=>?_,fun W ρ gb gv m g cap Q _ _=>?_⟩
  ·exact (refWindows_no yb key hs hk).mono fun e w' q=>⟨.slice none 0 0,q.1,World.ownsRow_nil _ _ _ _,by rw [←q.2];exact Below.refl _ _⟩
  ·exact (gWindows_no gb key hs hk).mono fun e w' q=>⟨.slice none 0 0,q.1,World.ownsRow_nil _ _ _ _,q.2⟩
 ·have hst:Sts (wS C F key F.length):=wS_sts (fun e he=>(f5 e he).2.1) F.length (Nat.le_refl _)
  have hfk:=fdKey_is hI f1 (dR rs) (key:=key) hk
  have hfo:wS C F key F.length=stsOf C.n C.s (((fol E (dR rs) key).map (enFd l (dR rs))).map (·.1.t)):=by
   unfold wS
   rw [List.take_length,f2.key hI f1 key,List.map_map]
   rfl
  refine ⟨wS C F key F.length,0,by have:=hst.len;omega,fun W ρ yb fv sv lv R=>?_,fun W ρ gb gv m g cap Q he hGS=>?_⟩
  ·exact refWindows_any R hP F f3 (by omega) (fun e he=>⟨(f5 e he).1,(f5 e he).2.1⟩) key hs hk (by omega)
  ·have hml:m.length=l.length:=by rw [←he];simp
   have hc:=gWindows_any hGS (by rw [he];exact hI) (dR rs) d1 (fun k _=>d2 k) (fun k s hs=>d3 k s.s (by rw [←he,List.getElem?_map,hs];rfl)) key hs hk (by omega) _ rfl (fun y hy=>by
    rw [he,hml,hfk] at hy
    obtain ⟨e,he',rfl⟩:=List.mem_map.1 hy
    have:=(f1.key e ((List.mem_filter.1 he').1)).2.2.2
    exact this)
   rw [he,hml,hfk,←hfo] at hc
   exact hc
theorem St.windows {w0 w:World} {K:Nat→Prop} {wb sb gb yb:Nat} {C:Cfg} {sdv:Value} {N:Nat} (h:St w0 K wb sb gb yb C sdv N w) (hN:N≤600000) (key:ByteArray) (hs:key.size≤maxLen) :
 Calls Tryz.prog 29 #[.pointer (some ⟨wb,0,none⟩),.pointer (some ⟨sb,0,none⟩),.string key] w fun e w'=>e=.returned (.bool true)∧St w0 K wb sb gb yb C sdv (N+1) w':=by
 obtain ⟨ρ,now,time,l,rs,P,wv,fv,last,sv,iv,hv,m1,m2,m3,Ls,Li,Lh,hL,hS,hf,hB0,hBb,hBs,hn1,hn2,hn3,hn4,hn5,hn6,hn7⟩:=h
 obtain ⟨gv,m,g,cap,Q,he,hGS,hw,hlen,hW,hmQ,hO⟩:=hn6.gs hS.grp hf hS.inv
 have hI:=hS.inv
 have href:∀W,Below w.heap.size w W→∃sv lv,RefAt W ρ yb C time rs P wv fv sv lv:=fun W hb=>(hS.keeps (Keeps.of_below hb) (fun k hk=>Or.inr (Or.inr hk)) (fun _ _=>rfl)).ref
 have fin:∀e w',AskPostI w ρ wb sdv last sv hv m2 m3 Ls Li Lh e w'→e=.returned (.bool true)∧St w0 K wb sb gb yb C sdv (N+1) w':=by
  rintro e w' ⟨rfl,ρ',iv',m1',Li',a1,a2,a3,a4,a5⟩
  have hF:Frame w ρ w' ρ':=⟨a5.mono (fun q hq hs=>by rcases hs with hs | hs;unfold laws at hs;omega;omega),fun k hk h0=>by rw [a4 k hk];exact h0⟩
  obtain ⟨b1,b2,b3⟩:=below_frame hBb hB0 hBs hF
  exact ⟨rfl,ρ',now,time,l,rs,P,wv,fv,_,sv,iv',hv,m1',m2,m3,Ls,Li',Lh,a1,hS.keeps a5 (fun q hq=>by rcases hq with hq | hq;exact Or.inr (Or.inl hq);exact Or.inr (Or.inr hq)) a4,a2,b2,b1,b3,by omega,by omega,by omega,by omega,by omega,hn6.mono (by omega),by omega⟩
 obtain ⟨xs,er,hxl,hR,hG⟩:=win_both hn6 hS.same hI (by omega) key hs
 refine (windowsAre_any hL hf hS.blk (by omega) hn5 (by omega) key xs er hxl (fun W hb=>hG W ρ gb gv m g cap Q he (hGS.below hb).1) (fun W hb=>?_)).mono fin
 obtain ⟨sv2,lv2,R⟩:=href W hb
 exact hR W ρ yb fv sv2 lv2 R
set_option maxRecDepth 100000 in
set_option maxHeartbeats 4000000 in
theorem step_16 {w0 w:World} {K:Nat→Prop} {wb sb gb yb:Nat} {C:Cfg} {sdv:Value} {N:Nat} (h:St w0 K wb sb gb yb C sdv N w) (hN:N≤600000) (o:Opn) (ho:o.k=16) (hs:o.s.size≤maxLen) :
 Calls Tryz.prog 10 #[.pointer (some ⟨wb,0,none⟩),.pointer (some ⟨sb,0,none⟩),.agg o.arr] w fun e w'=>e=.returned (.bool true)∧St w0 K wb sb gb yb C sdv (N+1) w':=by
 have HA:Hid (∀W,Below w.heap.size w W→Calls Tryz.prog 29 #[.pointer (some ⟨wb,0,none⟩),.pointer (some ⟨sb,0,none⟩),.string o.s] W fun e w'=>e=.returned (.bool true)∧St w0 K wb sb gb yb C sdv (N+1) w'):=fun W hb=>(h.below hb).windows hN o.s hs
 clear h
 obtain ⟨kk,oa,ob,os,olost,owh⟩:=o
 simp only at ho
 subst ho
 unfold Opn.arr
 simp only at HA ⊢
 go_enter Tryz.func10,Tryz.ntmps10
 go_wp2_with (go_at_call 29;refine (uh HA _ ((Below.refl _ w).alloc (Nat.le_refl _) _)).mono ?_;rintro e w' ⟨rfl,hp⟩;have HP:=hide hp;clear hp)
 go_ret
 exact ⟨rfl,uh HP⟩
set_option maxRecDepth 100000 in
set_option maxHeartbeats 4000000 in
theorem step_of {w:World} {wb sb:Nat} {Q:World→Prop} (o:Opn) (hk:o.k≤11)
 (HL:∀W,Below w.heap.size w W→Calls Tryz.prog 30 #[.pointer (some ⟨wb,0,none⟩),.pointer (some ⟨sb,0,none⟩),.agg o.arr] W fun e w'=>e=.returned (.bool true)∧Q w') :
 Calls Tryz.prog 10 #[.pointer (some ⟨wb,0,none⟩),.pointer (some ⟨sb,0,none⟩),.agg o.arr] w fun e w'=>e=.returned (.bool true)∧Q w':=by
 have HL:=hide HL
 obtain ⟨kk,oa,ob,os,olost,owh⟩:=o
 simp only at hk
 unfold Opn.arr at HL ⊢
 simp only at HL ⊢
 have e6:¬kk=12:=by omega
 have e7:¬kk=13:=by omega
 have e8:¬kk=14:=by omega
 have e9:¬kk=15:=by omega
 have e10:¬kk=16:=by omega
 clear hk
 go_enter Tryz.func10,Tryz.ntmps10
 go_wp2_with (go_at_call 30;refine (uh HL _ ((Below.refl _ w).alloc (Nat.le_refl _) _)).mono ?_;rintro e w' ⟨rfl,hp⟩;have HP:=hide hp;clear hp)
 go_ret
 exact ⟨rfl,uh HP⟩
theorem step_any {w0 w:World} {K:Nat→Prop} {wb sb gb yb:Nat} {C:Cfg} {sdv:Value} {N:Nat} (h:St w0 K wb sb gb yb C sdv N w) (hN:N≤600000) (o:Opn) (hs:o.s.size≤maxLen) (hk:o.k≤11) :
 Calls Tryz.prog 10 #[.pointer (some ⟨wb,0,none⟩),.pointer (some ⟨sb,0,none⟩),.agg o.arr] w fun e w'=>e=.returned (.bool true)∧St w0 K wb sb gb yb C sdv (N+1) w' :=
 step_of o hk fun _ hb=>lease_any (h.below hb) hN o hs hk
theorem step_ask {w0 w:World} {K:Nat→Prop} {wb sb gb yb:Nat} {C:Cfg} {sdv:Value} {N:Nat} (h:St w0 K wb sb gb yb C sdv N w) (o:Opn) (ho:o.k=10) :
 Calls Tryz.prog 10 #[.pointer (some ⟨wb,0,none⟩),.pointer (some ⟨sb,0,none⟩),.agg o.arr] w fun e w'=>e=.returned (.bool true)∧Below w.heap.size w w' :=
 step_of o (by omega) fun _ hb=>(ask_any (h.below hb) o ho).mono fun _ _ q=>⟨q.1,hb.trans (q.2.mono hb.size)⟩
set_option maxRecDepth 100000 in
set_option maxHeartbeats 4000000 in
theorem leased_any {w0 w:World} {K:Nat→Prop} {wb sb gb yb:Nat} {C:Cfg} {sdv:Value} {N:Nat} (h:St w0 K wb sb gb yb C sdv N w) (hN:N≤599900) :
 Calls Tryz.prog 13 #[.pointer (some ⟨wb,0,none⟩),.pointer (some ⟨sb,0,none⟩)] w fun e w'=>e=.returned (.bool true)∧St w0 K wb sb gb yb C sdv (N+4) w':=by
 obtain ⟨now,time,l,rs,P,wv,fv,hX⟩:=h.x
 have hrs:rs.length≤16∧wv.l.length≤4:=by
  obtain ⟨ρ,last,sv,iv,hv,m1,m2,m3,Ls,Li,Lh,hL,hS,hf,hB0,hBb,hBs,hn1,hn2,hn3,hn4,hn5,hn6,hn7⟩:=hX
  have:=hS.inv.len
  rw [←hS.same,absR_len] at this
  obtain ⟨sv2,lv2,R⟩:=hS.ref
  exact ⟨this,R.wk.four⟩
 have HX:=hide hX
 have HQ:Hid (∀W,Below w.heap.size w W→∀k:Int,Calls Tryz.prog 10 #[.pointer (some ⟨wb,0,none⟩),.pointer (some ⟨sb,0,none⟩),.agg #[.int .i64 10,.int .i64 k,.int .i64 0,.string ⟨#[]⟩,.bool false,.bool false]] W fun e w'=>e=.returned (.bool true)∧Below W.heap.size W w'):=fun W hb k=>step_ask (h.below hb) ⟨10,k,0,⟨#[]⟩,false,false⟩ rfl
 obtain ⟨_,s1,hsl,hyl,⟨a7,k7,c7⟩,_⟩:=hX.cells
 clear h hX
 go_enter Tryz.func13,Tryz.ntmps13
 go_wp2
 go_loopw [5] (fun q wr=>∃j:Nat,j≤rs.length∧q=.int .i64 j∧Below w.heap.size w wr) (fun q _=>rs.length - (intOf q).toNat)
 case atStart=>exact ⟨0,Nat.zero_le _,rfl,Below.refl _ _⟩
 case round =>
  obtain ⟨j,hj,rfl,hB⟩:=hrel
  have d1:=(hB.cell (p:=⟨sb,1,none⟩) hsl).trans s1
  have d7:=(hB.cell (p:=⟨yb,7,none⟩) hyl).trans c7
  by_cases hlt:j<rs.length
  ·have HBr:=hide hB
   have HC:=hide (uh HQ wr hB j)
   clear hB
   go_wp2_with fail
   refine (uh HC).mono ?_
   rintro e w1 ⟨rfl,hb1⟩
   have HB1:=hide ((uh HBr).trans (hb1.mono (uh HBr).size))
   clear hb1
   go_wp2
   go_roundw
   case rel=>exact ⟨j+1,by omega,by go_num,uh HB1⟩
   case measure=>simp [intOf];omega
  ·have HXr:=hide ((uh HX).below hB)
   clear hB
   go_wp2
   go_loopw [7] (fun q wq=>∃i:Nat,i≤wv.l.length∧q=.int .i64 i∧StX w0 K wb sb gb yb C sdv (N+i) now time l rs P wv fv wq) (fun q _=>wv.l.length - (intOf q).toNat)
   case atStart=>exact ⟨0,Nat.zero_le _,rfl,uh HXr⟩
   case round =>
    obtain ⟨i,hi,rfl,hXi⟩:=hrel
    obtain ⟨_,e1,_,_,_,⟨a8,k8,e8⟩⟩:=hXi.cells
    by_cases hlt2:i<wv.l.length
    ·have HC:=hide (holds_x hXi (by omega) i)
     clear hXi
     go_wp2_with fail
     refine (uh HC).mono ?_
     rintro e w2 ⟨rfl,hX2⟩
     have HX2:=hide hX2
     clear hX2
     go_wp2
     go_roundw
     case rel=>exact ⟨i+1,by omega,by go_num,uh HX2⟩
     case measure=>simp [intOf];omega
    ·have HXi:=hide (hXi.st.mono (show N+i≤N+4 by omega))
     clear hXi
     go_wp2
     go_ret
     exact ⟨rfl,uh HXi⟩
end Go.Proofs.YtpnkmnmchdabkaaGreat
