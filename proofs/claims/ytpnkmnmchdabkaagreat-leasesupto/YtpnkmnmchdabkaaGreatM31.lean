import Derived.Test.YtpnkmnmchdabkaaGreatM30
import Derived.Test.YtpnkmnmchdabkaaGreatM27
import Derived.Test.YtpnkmnmchdabkaaGreatM15
import Derived.Test.YtpnkmnmchdabkaaGreatM18
import Derived.Test.YtpnkmnmchdabkaaGreatLawS
namespace Go.Proofs.YtpnkmnmchdabkaaGreat
open Go.RowKit
attribute [local go_sem ↓] Go.wp_at_zero Go.wp_at_succ
def HoldsOut (W:World) (hs:List Hd) (er:Int) (e:Ending) (w':World):Prop :=
 ∃v,e=.returned (.tuple #[v,.int .i64 er])∧w'.ownsRow W.heap.size 102 4 v hs.length (rowHd hs)∧Below W.heap.size W w'
def AskPostH (w:World) (ρ:Nat→Nat) (wb:Nat) (sdv:Value) (last:Int) (sv iv m1 m2:Value) (Ls Li Lh:List Ke) (e:Ending) (w':World):Prop :=
 e=.returned (.bool true)∧∃ρ' hv' m3' Lh',LawAt w' ρ' wb sdv (last - 1) sv iv hv' m1 m2 m3' Ls Li Lh'∧Fits w' ρ'∧Lh'.length=Lh.length+4∧(∀k,k<w.heap.size→ρ' k=ρ k)∧Keeps (fun q=>laws ρ q∨w.heap.size≤q) w w'
theorem AskPostH.of {w w4 w':World} {ρ:Nat→Nat} {wb:Nat} {sdv:Value} {last:Int} {sv iv m1 m2:Value} {Ls Li Lh:List Ke} {v:Value} {n:Nat} {xs:List Value} (hb:Below w.heap.size w w4) (hl:w4.ownsRow w.heap.size 102 4 v n xs) {e:Ending}
 (hp:KeepPostH w4 ρ wb sdv (last - 1) sv iv m1 m2 Ls Li Lh v e w'):AskPostH w ρ wb sdv last sv iv m1 m2 Ls Li Lh (.returned (.bool true)) w':=by
 obtain ⟨_,ρ',hv',m3',Ln,hL,h4,t1,t2,hf,hk,_⟩:=hp
 have hz:=hb.size
 refine ⟨rfl,ρ',hv',m3',Lh ++ Ln,hL,hf,by rw [List.length_append,h4],fun q hq=>t1 q (by omega) (fun e=>by have:=(hl.lt q e).1;omega),⟨hk.os.trans hb.os,hk.tape.trans hb.tape,hk.output.trans hb.output,Nat.le_trans hz hk.size,fun q hq hs=>?_⟩⟩
 rw [hk.block q (by omega) (fun h=>hs (h.elim Or.inl (fun h=>Or.inr (hl.lt q h).1)))]
 exact hb.block q hq
set_option maxRecDepth 100000 in
set_option maxHeartbeats 8000000 in
theorem holdsAre_any {w:World} {ρ:Nat→Nat} {wb:Nat} {sdv:Value} {last:Int} {sv iv hv m1 m2 m3:Value} {Ls Li Lh:List Ke} {sb gb yb:Nat} (hL:LawAt w ρ wb sdv last sv iv hv m1 m2 m3 Ls Li Lh) (hf:Fits w ρ)
 (hblk:w.heap[sb]?=some (.cells #[.pointer (some ⟨gb,0,none⟩),.pointer (some ⟨yb,0,none⟩)] 46 (0,0)))
 (h1:-7000000000000000000≤last) (h2:last≤0) (hlenH:Lh.length≤40000000) (n:Int) (hs:List Hd) (er:Int) (hsl:hs.length≤100)
 (HX:∀W,Below w.heap.size w W→Calls Tryz.prog 72 #[.pointer (some ⟨gb,0,none⟩),.int .i64 n] W (HoldsOut W hs er))
 (HY:∀W,Below w.heap.size w W→Calls Tryz.prog 73 #[.pointer (some ⟨yb,0,none⟩),.int .i64 n] W (HoldsOut W hs er)) :
 Calls Tryz.prog 35 #[.pointer (some ⟨wb,0,none⟩),.pointer (some ⟨sb,0,none⟩),.int .i64 n] w (AskPostH w ρ wb sdv last sv iv m1 m2 Ls Li Lh):=by
 have hsbl:=lt_of_heap hblk
 have s0:w.cell? ⟨sb,0,none⟩=some (.pointer (some ⟨gb,0,none⟩)):=cell_of hblk 0
 have s1:w.cell? ⟨sb,1,none⟩=some (.pointer (some ⟨yb,0,none⟩)):=cell_of hblk 1
 have HL:=hide hL
 have HF:=hide hf
 have HX:=hide HX
 have HY:=hide HY
 clear hL hf hblk
 go_enter Tryz.func35,Tryz.ntmps35
 go_wp2_with (go_at_call 72;refine (uh HX _ (Below.refl _ _)).mono ?_;rintro e w1 ⟨v,rfl,hown,hb1⟩;have s2:=(hb1.cell (p:=⟨sb,1,none⟩) hsbl).trans s1;have HO1:=hide hown;have HB1:=hide hb1;obtain ⟨va,vc,rfl⟩:=ownsRow_len hown;clear hown hb1)
 refine (uh HY _ (uh HB1)).mono ?_
 rintro e w2 ⟨yv,rfl,hown2,hb2⟩
 obtain ⟨ya,yc,rfl⟩:=ownsRow_len hown2
 have hw1:=(uh HB1).size
 have hw2:=hb2.size
 have HB12:Hid (Below w.heap.size w w2):=(uh HB1).trans (hb2.mono hw1)
 have HO2:=hide hown2
 have HO1':Hid (w2.ownsRow w.heap.size 102 4 (.slice va hs.length vc) hs.length (rowHd hs)):=ownsRow_of_block (uh HO1) fun q hq=>hb2.block q ((uh HO1).lt q hq).2
 clear hown2 hb2 s0 s1 s2 HO1
 go_wp2
 go_loopw [11] (fun i wr=>∃j:Nat,j≤hs.length∧i=.int .i64 j∧Below w2.heap.size w2 wr) (fun i _=>hs.length - (intOf i).toNat)
 case atStart=>exact ⟨0,Nat.zero_le _,rfl,Below.refl _ _⟩
 case round =>
  obtain ⟨j,hj,rfl,hbr⟩:=hrel
  have hwr:=hbr.size
  by_cases hlt:j<hs.length
  ·obtain ⟨x,hx⟩:∃x,hs[j]?=some x:=⟨_,List.getElem?_eq_getElem hlt⟩
   have r1:wr.ownsRow w.heap.size 102 4 (.slice va hs.length vc) hs.length (rowHd hs):=ownsRow_of_block (uh HO1') fun q hq=>hbr.block q ((uh HO1').lt q hq).2
   have r2:wr.ownsRow w1.heap.size 102 4 (.slice ya hs.length yc) hs.length (rowHd hs):=ownsRow_of_block (uh HO2) fun q hq=>hbr.block q ((uh HO2).lt q hq).2
   obtain ⟨lb,cp,cur,hv1,_,hcb,_⟩:=ownsRow_shape r1 (by omega)
   injection hv1 with e1 _ e3
   subst e1 e3
   obtain ⟨mb,cp2,cur2,hv2,_,hcb2,_⟩:=ownsRow_shape r2 (by omega)
   injection hv2 with e4 _ e5
   subst e4 e5
   have ca:∀q,q<4→wr.cell? ⟨lb,j*4+q,none⟩=(hdCells x)[q]?:=fun q hq=>(World.ownsRow.cellAt r1 (j*4+q) (by omega)).trans (rowHd_get hs j q hq x hx)
   have cb:∀q,q<4→wr.cell? ⟨mb,j*4+q,none⟩=(hdCells x)[q]?:=fun q hq=>(World.ownsRow.cellAt r2 (j*4+q) (by omega)).trans (rowHd_get hs j q hq x hx)
   have a0:wr.cell? ⟨lb,j*4,none⟩=some (.int .i64 x.sh):=ca 0 (by omega)
   have a1:wr.cell? ⟨lb,j*4+1,none⟩=some (.int .i64 x.ep):=ca 1 (by omega)
   have a2:wr.cell? ⟨lb,j*4+2,none⟩=some (.int .i64 x.at_):=ca 2 (by omega)
   have a3:wr.cell? ⟨lb,j*4+3,none⟩=some (.int .i64 x.bf):=ca 3 (by omega)
   have b0:wr.cell? ⟨mb,j*4,none⟩=some (.int .i64 x.sh):=cb 0 (by omega)
   have b1:wr.cell? ⟨mb,j*4+1,none⟩=some (.int .i64 x.ep):=cb 1 (by omega)
   have b2:wr.cell? ⟨mb,j*4+2,none⟩=some (.int .i64 x.at_):=cb 2 (by omega)
   have b3:wr.cell? ⟨mb,j*4+3,none⟩=some (.int .i64 x.bf):=cb 3 (by omega)
   have HBR:=hide hbr
   clear r1 r2 ca cb hcb hcb2 hbr hx
   go_wp2
   go_quiet (fail)
   go_wp2
   go_roundw
   case rel=>exact ⟨j+1,by omega,by go_num,⟨(uh HBR).os,(uh HBR).tape,(uh HBR).output,(uh HBR).size,(uh HBR).block⟩⟩
   case measure=>simp [intOf];omega
  ·have HB3:Hid (Below w.heap.size w wr):=(uh HB12).trans (hbr.mono (by omega))
   have HO3:Hid (wr.ownsRow w.heap.size 102 4 (.slice va hs.length vc) hs.length (rowHd hs)):=ownsRow_of_block (uh HO1') fun q hq=>hbr.block q ((uh HO1').lt q hq).2
   have HK:=hide (((uh HL).below (uh HB3)).kept)
   have HKS:Hid (∀W,Below wr.heap.size wr W→Calls Tryz.prog 74 #[.pointer (some ⟨wb,0,none⟩),.slice va hs.length vc] W (KeepPostH W ρ wb sdv (last - 1) sv iv m1 m2 Ls Li Lh (.slice va hs.length vc))):=fun W hW=>by
    have hBW:Below w.heap.size w W:=(uh HB3).trans (hW.mono (by have:=(uh HB3).size;omega))
    exact keepHolds_any ((uh HL).below hBW) ((uh HF).below hBW.size) (by omega) h2 _ hs.length _ (ownsRow_base (ownsRow_of_block (uh HO3) fun q hq=>hW.block q ((uh HO3).lt q hq).2) (Nat.zero_le _)) (by omega) hlenH (fun q hq=>uh HF q ((uh HO3).lt q hq).1)
   clear hbr
   go_wp2_with (go_at_call 11;refine (uh HK).mono ?_;rintro e w6 ⟨rfl,hb6⟩;have HB6:=hide hb6;clear hb6)
   refine (uh HKS _ (uh HB6)).mono ?_
   rintro e w7 hp
   have HPP:=hide (AskPostH.of ((uh HB3).trans ((uh HB6).mono (uh HB3).size)) (ownsRow_of_block (uh HO3) fun q hq=>(uh HB6).block q ((uh HO3).lt q hq).2) hp)
   obtain ⟨rfl,-⟩:=hp
   go_wp2
   go_ret
   exact uh HPP
theorem WkAt.slice {w:World} {ρ:Nat→Nat} {x:Wks} {fv:Value} (h:WkAt w ρ x fv) (hn:0<x.l.length):∃vb vc,x.v=.slice (some ⟨vb,0,none⟩) x.l.length vc:=by
 obtain ⟨vb,vc,hv,_⟩:=h.shape (List.getElem?_eq_getElem hn)
 exact ⟨vb,vc,hv⟩
set_option maxRecDepth 100000 in
set_option maxHeartbeats 1000000 in
theorem refRenew_none {w:World} {ρ:Nat→Nat} {yb:Nat} {C:Cfg} {time:Int} {rs:List Rf} {P:List Pt} {wv:Wks} {fv sv lv:Value} (h:RefAt w ρ yb C time rs P wv fv sv lv) (hn:0<wv.l.length) (i:Int) (hi:¬(0≤i∧i<wv.l.length)) :
 Calls Tryz.prog 60 #[.pointer (some ⟨yb,0,none⟩),.int .i64 i] w fun e w'=>e=.returned (.tuple #[.int .i64 0,.int .i64 9])∧w=w':=by
 obtain ⟨vb,vc,hv⟩:=h.wk.slice hn
 have c8:w.cell? ⟨yb,8,none⟩=some wv.v:=cell_of h.blk 8
 rw [hv] at c8
 have HW:=hide (refWorks_any yb wv.l.length vc (some ⟨vb,0,none⟩) i w c8)
 have hd:decide (0≤i∧i<(wv.l.length:Int))=false:=by simpa using hi
 rw [hd] at HW
 clear h hv hi hd
 go_enter Tryz.func60,Tryz.ntmps60
 go_wp2_with (go_at_call 79;refine (uh HW).mono ?_;rintro e w1 ⟨rfl,rfl⟩)
 go_ret2
 exact ⟨rfl,rfl⟩
set_option maxRecDepth 100000 in
set_option maxHeartbeats 1000000 in
theorem refTake_none {w:World} {ρ:Nat→Nat} {yb:Nat} {C:Cfg} {time:Int} {rs:List Rf} {P:List Pt} {wv:Wks} {fv sv lv:Value} (h:RefAt w ρ yb C time rs P wv fv sv lv) (hn:0<wv.l.length) (i:Int) (hi:¬(0≤i∧i<wv.l.length)) :
 Calls Tryz.prog 62 #[.pointer (some ⟨yb,0,none⟩),.int .i64 i] w fun e w'=>e=.returned (.tuple #[.int .i64 0,.int .i64 9])∧w=w':=by
 obtain ⟨vb,vc,hv⟩:=h.wk.slice hn
 have c8:w.cell? ⟨yb,8,none⟩=some wv.v:=cell_of h.blk 8
 rw [hv] at c8
 have HW:=hide (refWorks_any yb wv.l.length vc (some ⟨vb,0,none⟩) i w c8)
 have hd:decide (0≤i∧i<(wv.l.length:Int))=false:=by simpa using hi
 rw [hd] at HW
 clear h hv hi hd
 go_enter Tryz.func62,Tryz.ntmps62
 go_wp2_with (go_at_call 79;refine (uh HW).mono ?_;rintro e w1 ⟨rfl,rfl⟩)
 go_ret2
 exact ⟨rfl,rfl⟩
set_option maxRecDepth 100000 in
set_option maxHeartbeats 1000000 in
theorem refCrash_none {w:World} {ρ:Nat→Nat} {yb:Nat} {C:Cfg} {time:Int} {rs:List Rf} {P:List Pt} {wv:Wks} {fv sv lv:Value} (h:RefAt w ρ yb C time rs P wv fv sv lv) (hn:0<wv.l.length) (i:Int) (hi:¬(0≤i∧i<wv.l.length)) :
 Calls Tryz.prog 66 #[.pointer (some ⟨yb,0,none⟩),.int .i64 i] w fun e w'=>e=.returned (.int .i64 9)∧w=w':=by
 obtain ⟨vb,vc,hv⟩:=h.wk.slice hn
 have c8:w.cell? ⟨yb,8,none⟩=some wv.v:=cell_of h.blk 8
 rw [hv] at c8
 have HW:=hide (refWorks_any yb wv.l.length vc (some ⟨vb,0,none⟩) i w c8)
 have hd:decide (0≤i∧i<(wv.l.length:Int))=false:=by simpa using hi
 rw [hd] at HW
 clear h hv hi hd
 go_enter Tryz.func66,Tryz.ntmps66
 go_wp2_with (go_at_call 79;refine (uh HW).mono ?_;rintro e w1 ⟨rfl,rfl⟩)
 go_ret
 exact ⟨rfl,rfl⟩
set_option maxRecDepth 100000 in
set_option maxHeartbeats 1000000 in
theorem refHolds_none {w:World} {ρ:Nat→Nat} {yb:Nat} {C:Cfg} {time:Int} {rs:List Rf} {P:List Pt} {wv:Wks} {fv sv lv:Value} (h:RefAt w ρ yb C time rs P wv fv sv lv) (hn:0<wv.l.length) (i:Int) (hi:¬(0≤i∧i<wv.l.length)) :
 Calls Tryz.prog 73 #[.pointer (some ⟨yb,0,none⟩),.int .i64 i] w fun e w'=>e=.returned (.tuple #[.slice none 0 0,.int .i64 9])∧w=w':=by
 obtain ⟨vb,vc,hv⟩:=h.wk.slice hn
 have c8:w.cell? ⟨yb,8,none⟩=some wv.v:=cell_of h.blk 8
 rw [hv] at c8
 have HW:=hide (refWorks_any yb wv.l.length vc (some ⟨vb,0,none⟩) i w c8)
 have hd:decide (0≤i∧i<(wv.l.length:Int))=false:=by simpa using hi
 rw [hd] at HW
 clear h hv hi hd
 go_enter Tryz.func73,Tryz.ntmps73
 go_wp2_with (go_at_call 79;refine (uh HW).mono ?_;rintro e w1 ⟨rfl,rfl⟩)
 go_ret2
 exact ⟨rfl,rfl⟩
set_option maxRecDepth 100000 in
set_option maxHeartbeats 1000000 in
theorem refSteal_none {w:World} {ρ:Nat→Nat} {yb:Nat} {C:Cfg} {time:Int} {rs:List Rf} {P:List Pt} {wv:Wks} {fv sv lv:Value} (h:RefAt w ρ yb C time rs P wv fv sv lv) (hn:0<wv.l.length) (i k:Int) (hi:¬(0≤i∧i<wv.l.length)) :
 Calls Tryz.prog 64 #[.pointer (some ⟨yb,0,none⟩),.int .i64 i,.int .i64 k] w fun e w'=>e=.returned (.int .i64 9)∧w=w':=by
 obtain ⟨vb,vc,hv⟩:=h.wk.slice hn
 have c8:w.cell? ⟨yb,8,none⟩=some wv.v:=cell_of h.blk 8
 rw [hv] at c8
 have HW:=hide (refWorks_any yb wv.l.length vc (some ⟨vb,0,none⟩) i w c8)
 have hd:decide (0≤i∧i<(wv.l.length:Int))=false:=by simpa using hi
 rw [hd] at HW
 clear h hv hi hd
 go_enter Tryz.func64,Tryz.ntmps64
 go_wp2_with (go_at_call 79;refine (uh HW).mono ?_;rintro e w1 ⟨rfl,rfl⟩)
 go_ret
 exact ⟨rfl,rfl⟩
set_option maxRecDepth 100000 in
set_option maxHeartbeats 1000000 in
theorem refSteal_noShard {w:World} {ρ:Nat→Nat} {yb:Nat} {C:Cfg} {time:Int} {rs:List Rf} {P:List Pt} {wv:Wks} {fv sv lv:Value} (h:RefAt w ρ yb C time rs P wv fv sv lv) (hpos:0<rs.length) (hn:0<wv.l.length) (i k:Int) (hi:0≤i∧i<wv.l.length) (hk:¬(0≤k∧k<rs.length)) :
 Calls Tryz.prog 64 #[.pointer (some ⟨yb,0,none⟩),.int .i64 i,.int .i64 k] w fun e w'=>e=.returned (.int .i64 5)∧w=w':=by
 obtain ⟨vb,vc,hv⟩:=h.wk.slice hn
 have c8:w.cell? ⟨yb,8,none⟩=some wv.v:=cell_of h.blk 8
 rw [hv] at c8
 obtain ⟨sb,cap,rfl,_⟩:=h.shards hpos
 have c7:w.cell? ⟨yb,7,none⟩=some (.slice (some ⟨sb,0,none⟩) rs.length cap):=cell_of h.blk 7
 have HW:=hide (refWorks_any yb wv.l.length vc (some ⟨vb,0,none⟩) i w c8)
 have HT:=hide (refThere_any yb rs.length cap (some ⟨sb,0,none⟩) k w c7)
 have hd:decide (0≤i∧i<(wv.l.length:Int))=true:=by simpa using hi
 have hd2:decide (0≤k∧k<(rs.length:Int))=false:=by simpa using hk
 rw [hd] at HW
 rw [hd2] at HT
 clear h hv hi hd hd2 hk
 go_enter Tryz.func64,Tryz.ntmps64
 go_wp2_with (first | (go_at_call 79;refine (uh HW).mono ?_;rintro e w1 ⟨rfl,rfl⟩) | (go_at_call 49;refine (uh HT).mono ?_;rintro e w1 ⟨rfl,rfl⟩))
 go_ret
 exact ⟨rfl,rfl⟩
theorem Rel.gs {C:Cfg} {now:Rest} {time:Int} {l:List Sh} {Q:List Pt} {rs:List Rf} {wv:Wks} {B:Int} (h:Rel C now time l Q rs wv B) {w:World} {ρ:Nat→Nat} {gb:Nat} (hg:Grp w ρ gb C now l) (hf:Fits w ρ) (hI:Inv l) :
 ∃sv m g cap P,m.map (·.s)=l∧GS w ρ gb C now sv m g cap now.ls P∧now.wv=.slice (some ⟨g,0,none⟩) now.n cap∧P.length=now.n*16∧(∀(i:Nat) y,wv.l[i]?=some y→WOk P i y rs.length B)∧now.mem=plsCells P∧Od B now.n C.b l now.dn now.ls P:=by
 obtain ⟨sv,m,e,G⟩:=hg
 obtain ⟨g,cap,P,a,b,c,d,o⟩:=h.mem
 exact ⟨sv,m,g,cap,P,e,GrpL.gs ⟨G,a,b,c,by have:=hI.len;rw [←e] at this;simpa using this,hf⟩,a,c,d,b,o⟩
theorem GSP.grpPost {w w':World} {ρ:Nat→Nat} {gb:Nat} {C:Cfg} {now:Rest} {sv:Value} {m:List Cs} {g cap:Nat} {ls:List Le} {P:List Pl} {l:List Sh} (h:GSP w ρ gb C now sv m g cap ls P w') (he:m.map (·.s)=l) (hf:Fits w ρ):GrpPost w ρ gb C (now.up ls P) l w':=by
 have hG:GrpL w' ρ gb C (now.up ls P) sv m g cap P:=h.1
 exact ⟨ρ,sv,m,he,hG.G,h.2,Ext.refl hf,hG.fits⟩
theorem Grp.post {w:World} {ρ:Nat→Nat} {gb:Nat} {C:Cfg} {now:Rest} {l:List Sh} (h:Grp w ρ gb C now l) (hf:Fits w ρ):GrpPost w ρ gb C now l w:=by
 obtain ⟨sv,m,e,G⟩:=h
 exact ⟨ρ,sv,m,e,G,Keeps.refl _ w,Ext.refl hf,hf⟩
theorem takeIs_up (f:Nat→Bool):∀n,(∃k,k<n∧f k=true∧∀j,j<k→f j=false)∨∀k,k<n→f k=false:=by
 intro n
 induction n with
 | zero=>exact Or.inr fun k hk=>by omega
 | succ n ih =>
   rcases ih with ⟨k,h1,h2,h3⟩ | h
   ·exact Or.inl ⟨k,by omega,h2,h3⟩
   ·cases hf:f n
    ·exact Or.inr fun k hk=>by
      by_cases e:k=n
      ·rw [e];exact hf
      ·exact h k (by omega)
    ·exact Or.inl ⟨n,by omega,hf,h⟩
theorem takeIs_ex (f:Nat→Bool):∃r,TakeIs f r:=by
 rcases takeIs_up f 16 with ⟨k,h⟩ | h
 ·exact ⟨some k,h⟩
 ·exact ⟨none,h⟩
theorem takeIs_uniq {f:Nat→Bool} {r r':Option Nat} (h:TakeIs f r) (h':TakeIs f r'):r=r':=by
 cases r with
 | none =>
   cases r' with
   | none=>rfl
   | some n=>have:=h n h'.1;rw [h'.2.1] at this;cases this
 | some k =>
   cases r' with
   | none=>have:=h' k h.1;rw [h.2.1] at this;cases this
   | some n =>
     by_cases e1:k<n
     ·have:=h'.2.2 k e1;rw [h.2.1] at this;cases this
     ·by_cases e2:n<k
      ·have:=h.2.2 n e2;rw [h'.2.1] at this;cases this
      ·congr 1;omega
theorem lease_6 {w0 w:World} {K:Nat→Prop} {wb sb gb yb:Nat} {C:Cfg} {sdv:Value} {N:Nat} (h:St w0 K wb sb gb yb C sdv N w) (hN:N≤600000) (o:Opn) (ho:o.k=6) :
 Calls Tryz.prog 30 #[.pointer (some ⟨wb,0,none⟩),.pointer (some ⟨sb,0,none⟩),.agg o.arr] w fun e w'=>e=.returned (.bool true)∧St w0 K wb sb gb yb C sdv (N+1) w':=by
 obtain ⟨ρ,now,time,l,rs,P,wv,fv,last,sv,iv,hv,m1,m2,m3,Ls,Li,Lh,hL,hS,hf,hB0,hBb,hBs,hn1,hn2,hn3,hn4,hn5,hn6,hn7⟩:=h
 obtain ⟨gv,m,g,cap,Q,he,hGS,hw,hlen,hW,hmQ,hO⟩:=hn6.gs hS.grp hf hS.inv
 have hI:=hS.inv
 have hnl:=hn6.nl
 have hB:(N:Int)≤1000000000000:=by omega
 by_cases hi:0≤o.a∧o.a<now.n
 ·obtain ⟨i,hia⟩:∃i:Nat,o.a=(i:Int):=⟨o.a.toNat,by omega⟩
  have hin:i<now.n:=by omega
  have hy:wv.l[i]?=some (wv.l[i]'(by omega)):=List.getElem?_eq_getElem _
  generalize wv.l[i]'(by omega)=y at hy
  have hWi:=hW i y hy
  have R:=fun hv'=>hn6.renew hB hS.same hI hw hlen hW hO hy hv'
  have hml:m.length=l.length:=by rw [←he];simp
  refine lease_renew hL hS hf hB0 hBb hBs hn1 hn2 hn3 hn4 hn5 (hpin:=hS.pin) (hn7:=hn7) (l':=l) (now':=now.up (rnUp i (stgUp l (dnP now.dn) l.length) 16 (now.ls,Q)).1 (rnUp i (stgUp l (dnP now.dn) l.length) 16 (now.ls,Q)).2) hI o ho (rnCnt i (stgUp l (dnP now.dn) l.length) 16 (now.ls,Q)) 0 (fun W hb=>?_) (fun W ρ2 ⟨sv2,lv2,R2⟩ hf2=>?_)
  ·rw [hia]
   have hc:=gRenew_any (hGS.below hb).1 (by rw [he];exact hI) i hin
   rw [he,hml] at hc
   exact hc.mono fun e w' q=>⟨q.1,q.2.grpPost he (hf.below hb.size)⟩
  ·rw [hia]
   have hc:=refRenew_any R2 hf2 (by rw [hS.same];exact hI) (by omega) i y hy (by have:=hWi.hs.le;have:=hI.len;rw [←hS.same,absR_len] at this;omega) (fun k r hr=>by have:=hn6.bd k r hr;omega)
   rw [hS.same] at hc
   refine hc.mono ?_
   rintro e w' ⟨hv',rfl,hp⟩
   obtain ⟨r1,r2,r3,r4⟩:=R hv'
   exact ⟨by rw [r2],_,_,hp,r3,r4,r1⟩
 ·refine lease_renew hL hS hf hB0 hBb hBs hn1 hn2 hn3 hn4 hn5 (hpin:=hS.pin) (hn7:=hn7) (l':=l) (now':=now) hI o ho 0 9 (fun W hb=>?_) (fun W ρ2 ⟨sv2,lv2,R2⟩ hf2=>?_)
  ·exact (gRenew_none (hGS.below hb).1 o.a hi).mono fun e w' q=>⟨q.1,by rw [←q.2];exact (hS.keeps (Keeps.of_below hb) (fun k hk=>Or.inr (Or.inr hk)) (fun _ _=>rfl)).grp.post (hf.below hb.size)⟩
  ·exact (refRenew_none R2 (by have:=hn6.n1;omega) o.a (by rw [←hnl];exact hi)).mono fun e w' q=>⟨q.1,rs,wv,by rw [←q.2];exact RefPost.below R2 hf2 (Below.refl _ _),hS.same,rfl,hn6.mono (by omega)⟩
theorem lease_7 {w0 w:World} {K:Nat→Prop} {wb sb gb yb:Nat} {C:Cfg} {sdv:Value} {N:Nat} (h:St w0 K wb sb gb yb C sdv N w) (hN:N≤600000) (o:Opn) (ho:o.k=7) :
 Calls Tryz.prog 30 #[.pointer (some ⟨wb,0,none⟩),.pointer (some ⟨sb,0,none⟩),.agg o.arr] w fun e w'=>e=.returned (.bool true)∧St w0 K wb sb gb yb C sdv (N+1) w':=by
 obtain ⟨ρ,now,time,l,rs,P,wv,fv,last,sv,iv,hv,m1,m2,m3,Ls,Li,Lh,hL,hS,hf,hB0,hBb,hBs,hn1,hn2,hn3,hn4,hn5,hn6,hn7⟩:=h
 obtain ⟨gv,m,g,cap,Q,he,hGS,hw,hlen,hW,hmQ,hO⟩:=hn6.gs hS.grp hf hS.inv
 have hI:=hS.inv
 have hnl:=hn6.nl
 have hB:(N:Int)≤1000000000000:=by omega
 by_cases hi:0≤o.a∧o.a<now.n
 ·obtain ⟨i,hia⟩:∃i:Nat,o.a=(i:Int):=⟨o.a.toNat,by omega⟩
  have hin:i<now.n:=by omega
  have hy:wv.l[i]?=some (wv.l[i]'(by omega)):=List.getElem?_eq_getElem _
  generalize wv.l[i]'(by omega)=y at hy
  have hWi:=hW i y hy
  have hml:m.length=l.length:=by rw [←he];simp
  have hr16:rs.length≤16:=by have:=hI.len;rw [←hS.same,absR_len] at this;omega
  obtain ⟨r,hr⟩:∃r,TakeIs (mayP (stgUp l (dnP now.dn) l.length) now.ls (notesP now.ls now.t i l.length Q) now.t C.l i) r:=takeIs_ex _
  have R:=hn6.take hB hS.same hI hw hlen hW hO hy r hr
  have hval:∃p1 p2:Int,takeV r=.tuple #[.int .i64 p1,.int .i64 p2]:=by
   cases r with
   | none=>exact ⟨_,_,rfl⟩
   | some n=>exact ⟨_,_,rfl⟩
  obtain ⟨p1,p2,hval⟩:=hval
  refine lease_take hL hS hf hB0 hBb hBs hn1 hn2 hn3 hn4 hn5 (hpin:=hS.pin) (hn7:=hn7) (l':=l) (now':=now.up (takeLs i now.ls r) (takeP (dnP now.dn) i now.ls (notesP now.ls now.t i l.length Q) r)) hI o ho p1 p2 (fun W hb=>?_) (fun W ρ2 ⟨sv2,lv2,R2⟩ hf2=>?_)
  ·rw [hia]
   have hc:=gTake_any (hGS.below hb).1 (by rw [he];exact hI) i hin
   rw [he,hml] at hc
   refine hc.mono ?_
   rintro e w' ⟨r',hr',rfl,q⟩
   have:r'=r:=takeIs_uniq hr' hr
   subst this
   exact ⟨by rw [hval],q.grpPost he (hf.below hb.size)⟩
  ·rw [hia]
   have hc:=refTake_any R2 hf2 (by rw [hS.same];exact hI) (by omega) i y hy (by have:=hWi.hs.le;omega) (by have:=hWi.ns.le;omega) (fun x hx=>by have:=hWi.ns.bd x hx;omega) (by have:=hn6.t0;omega) (by have:=hn6.cl;omega) (fun k r hr=>by have:=hn6.bd k r hr;omega)
   rw [hS.same] at hc
   refine hc.mono ?_
   rintro e w' (⟨hneg,rfl,nv',hp⟩ | ⟨k,x,hk,hx,rfl,nv',hv',hp⟩)
   ·cases r with
    | none =>
      obtain ⟨_,r2⟩:=R.none_ rfl
      exact ⟨by rw [←hval];rfl,_,_,hp,hS.same,rfl,r2 nv'⟩
    | some n =>
      obtain ⟨r1,_⟩:=R.some_ n rfl
      rw [r1] at hneg
      omega
   ·cases r with
    | none =>
      obtain ⟨r1,_⟩:=R.none_ rfl
      rw [hk] at r1
      omega
    | some n =>
      obtain ⟨r1,x',hx',r2⟩:=R.some_ n rfl
      rw [hk] at r1
      have ekn:k=n:=by omega
      subst ekn
      rw [hx] at hx'
      injection hx' with hx'
      subst hx'
      exact ⟨by rw [←hval];rfl,_,_,hp,(absR_lease hx _ _ _).1.trans hS.same,by simp,r2 nv' hv'⟩
 ·refine lease_take hL hS hf hB0 hBb hBs hn1 hn2 hn3 hn4 hn5 (hpin:=hS.pin) (hn7:=hn7) (l':=l) (now':=now) hI o ho 0 9 (fun W hb=>?_) (fun W ρ2 ⟨sv2,lv2,R2⟩ hf2=>?_)
  ·exact (gTake_none (hGS.below hb).1 o.a hi).mono fun e w' q=>⟨q.1,by rw [←q.2];exact (hS.keeps (Keeps.of_below hb) (fun k hk=>Or.inr (Or.inr hk)) (fun _ _=>rfl)).grp.post (hf.below hb.size)⟩
  ·exact (refTake_none R2 (by have:=hn6.n1;omega) o.a (by rw [←hnl];exact hi)).mono fun e w' q=>⟨q.1,rs,wv,by rw [←q.2];exact RefPost.below R2 hf2 (Below.refl _ _),hS.same,rfl,hn6.mono (by omega)⟩
theorem lease_8 {w0 w:World} {K:Nat→Prop} {wb sb gb yb:Nat} {C:Cfg} {sdv:Value} {N:Nat} (h:St w0 K wb sb gb yb C sdv N w) (hN:N≤600000) (o:Opn) (ho:o.k=8) :
 Calls Tryz.prog 30 #[.pointer (some ⟨wb,0,none⟩),.pointer (some ⟨sb,0,none⟩),.agg o.arr] w fun e w'=>e=.returned (.bool true)∧St w0 K wb sb gb yb C sdv (N+1) w':=by
 obtain ⟨ρ,now,time,l,rs,P,wv,fv,last,sv,iv,hv,m1,m2,m3,Ls,Li,Lh,hL,hS,hf,hB0,hBb,hBs,hn1,hn2,hn3,hn4,hn5,hn6,hn7⟩:=h
 obtain ⟨gv,m,g,cap,Q,he,hGS,hw,hlen,hW,hmQ,hO⟩:=hn6.gs hS.grp hf hS.inv
 have hI:=hS.inv
 have hnl:=hn6.nl
 have hB:(N:Int)≤1000000000000:=by omega
 have hml:m.length=l.length:=by rw [←he];simp
 have hrl:rs.length=l.length:=by rw [←hS.same,absR_len]
 have h0:0<m.length:=by have:=hI.pos;omega
 have hr16:=hI.len
 have gsame:∀W,Below w.heap.size w W→GrpPost W ρ gb C now l W:=fun W hb=>(hS.keeps (Keeps.of_below hb) (fun k hk=>Or.inr (Or.inr hk)) (fun _ _=>rfl)).grp.post (hf.below hb.size)
 by_cases hi:0≤o.a∧o.a<now.n
 ·obtain ⟨i,hia⟩:∃i:Nat,o.a=(i:Int):=⟨o.a.toNat,by omega⟩
  have hin:i<now.n:=by omega
  by_cases hk:0≤o.b∧o.b<m.length
  ·obtain ⟨k,hkb⟩:∃k:Nat,o.b=(k:Int):=⟨o.b.toNat,by omega⟩
   have hkm:k<m.length:=by omega
   have hy:wv.l[i]?=some (wv.l[i]'(by omega)):=List.getElem?_eq_getElem _
   generalize wv.l[i]'(by omega)=y at hy
   have hWi:=hW i y hy
   obtain ⟨p,hp⟩:=hGS.pl hin (show k<16 by omega)
   have hx:rs[k]?=some (rs[k]'(by omega)):=List.getElem?_eq_getElem _
   generalize rs[k]'(by omega)=x at hx
   have hsl:=stgUp_len l (dnP now.dn) l.length
   have hv0:(stgUp l (dnP now.dn) l.length)[k]?=some ((stgUp l (dnP now.dn) l.length)[k]'(by omega)):=List.getElem?_eq_getElem _
   generalize (stgUp l (dnP now.dn) l.length)[k]'(by omega)=v at hv0
   obtain ⟨s1,s2,s3⟩:=hn6.steal hB hS.same hI hw hlen hW hO hy hx hp hv0
   have hprog:∀W,Below w.heap.size w W→Calls Tryz.prog 63 #[.pointer (some ⟨gb,0,none⟩),.int .i64 o.a,.int .i64 o.b] W fun e w'=>e=.returned (.int .i64 (stealV p.held v))∧GrpPost W ρ gb C (now.up (stealLs p.held v i k now.ls) (stealP p.held v (dnP now.dn k) i k now.ls Q)) l w':=fun W hb=>by
    rw [hia,hkb]
    have hc:=gSteal_any (hGS.below hb).1 (by rw [he];exact hI) i hin k hkm p hp v (by rw [he,hml];exact hv0)
    exact hc.mono fun e w' q=>⟨q.1,q.2.grpPost he (hf.below hb.size)⟩
   have hb:=hn6.bd k x hx
   have href:∀W (ρ2:Nat→Nat),(∃sv lv,RefAt W ρ2 yb C time rs P wv fv sv lv)→Fits W ρ2→Calls Tryz.prog 64 #[.pointer (some ⟨yb,0,none⟩),.int .i64 o.a,.int .i64 o.b] W (StealPost W ρ2 yb C time rs P wv fv i y k x):=fun W ρ2 ⟨sv2,lv2,R2⟩ hf2=>by
    rw [hia,hkb]
    exact refSteal_any R2 hf2 (by rw [hS.same];exact hI) (by omega) i y hy (by have:=hWi.hs.le;omega) k x hx (by omega) (by omega)
   refine lease_steal hL hS hf hB0 hBb hBs hn1 hn2 hn3 hn4 hn5 (hpin:=hS.pin) (hn7:=hn7) (l':=l) (now':=now.up (stealLs p.held v i k now.ls) (stealP p.held v (dnP now.dn k) i k now.ls Q)) hI o ho (stealV p.held v) hprog (fun W ρ2 hR hf2=>(href W ρ2 hR hf2).mono ?_)
   intro e w' hp2
   have hup:now.up now.ls Q=now:=by
    have hG:=hmQ
    cases now
    simp only [Rest.up] at hG ⊢
    rw [hG]
   unfold StealPost at hp2
   rw [hS.same,←s1] at hp2
   cases hh:p.held
   ·rw [hh] at hp2
    simp only [Bool.false_eq_true,if_false] at hp2
    by_cases hv1:v=1
    ·have hc:=s2.1 hv1
     rw [hc] at hp2
     simp only [Bool.true_eq_false,if_false] at hp2
     obtain ⟨rfl,hv',hp3⟩:=hp2
     refine ⟨by simp [stealV,hv1],_,_,hp3,(absR_lease hx _ _ _).1.trans hS.same,by simp,?_⟩
     have:=s3 hh (by simp only [Bool.and_eq_true] at hc;exact hc.1) hv'
     rw [stealLs,stealP,if_pos ⟨rfl,hv1⟩,if_pos ⟨rfl,hv1⟩]
     exact this
    ·have hc:(rdy l (dnR rs) k && !fin l (dnR rs) k)=false:=by
      cases hq:(rdy l (dnR rs) k && !fin l (dnR rs) k)
      ·rfl
      ·exact absurd (s2.2 hq) hv1
     rw [hc] at hp2
     simp only [if_true] at hp2
     obtain ⟨rfl,hp3⟩:=hp2
     refine ⟨by simp [stealV,hv1],rs,wv,hp3,hS.same,rfl,?_⟩
     rw [stealLs,stealP,if_neg (fun e=>hv1 e.2),if_neg (fun e=>hv1 e.2),hup]
     exact hn6.mono (by omega)
   ·rw [hh] at hp2
    simp only [if_true] at hp2
    obtain ⟨rfl,hp3⟩:=hp2
    refine ⟨by simp [stealV],rs,wv,hp3,hS.same,rfl,?_⟩
    rw [stealLs,stealP,if_neg (by simp),if_neg (by simp),hup]
    exact hn6.mono (by omega)
  ·refine lease_steal hL hS hf hB0 hBb hBs hn1 hn2 hn3 hn4 hn5 (hpin:=hS.pin) (hn7:=hn7) (l':=l) (now':=now) hI o ho 5 (fun W hb=>?_) (fun W ρ2 ⟨sv2,lv2,R2⟩ hf2=>?_)
   ·rw [hia]
    exact (gSteal_noShard (hGS.below hb).1 h0 i hin o.b hk).mono fun e w' q=>⟨q.1,by rw [←q.2];exact gsame W hb⟩
   ·exact (refSteal_noShard R2 (by omega) (by have:=hn6.n1;omega) o.a o.b (by rw [←hnl];exact hi) (by rw [hrl,←hml];exact hk)).mono fun e w' q=>⟨q.1,rs,wv,by rw [←q.2];exact RefPost.below R2 hf2 (Below.refl _ _),hS.same,rfl,hn6.mono (by omega)⟩
 ·refine lease_steal hL hS hf hB0 hBb hBs hn1 hn2 hn3 hn4 hn5 (hpin:=hS.pin) (hn7:=hn7) (l':=l) (now':=now) hI o ho 9 (fun W hb=>?_) (fun W ρ2 ⟨sv2,lv2,R2⟩ hf2=>?_)
  ·exact (gSteal_none (hGS.below hb).1 o.a o.b hi).mono fun e w' q=>⟨q.1,by rw [←q.2];exact gsame W hb⟩
  ·exact (refSteal_none R2 (by have:=hn6.n1;omega) o.a o.b (by rw [←hnl];exact hi)).mono fun e w' q=>⟨q.1,rs,wv,by rw [←q.2];exact RefPost.below R2 hf2 (Below.refl _ _),hS.same,rfl,hn6.mono (by omega)⟩
theorem lease_9 {w0 w:World} {K:Nat→Prop} {wb sb gb yb:Nat} {C:Cfg} {sdv:Value} {N:Nat} (h:St w0 K wb sb gb yb C sdv N w) (o:Opn) (ho:o.k=9) :
 Calls Tryz.prog 30 #[.pointer (some ⟨wb,0,none⟩),.pointer (some ⟨sb,0,none⟩),.agg o.arr] w fun e w'=>e=.returned (.bool true)∧St w0 K wb sb gb yb C sdv (N+1) w':=by
 obtain ⟨ρ,now,time,l,rs,P,wv,fv,last,sv,iv,hv,m1,m2,m3,Ls,Li,Lh,hL,hS,hf,hB0,hBb,hBs,hn1,hn2,hn3,hn4,hn5,hn6,hn7⟩:=h
 obtain ⟨gv,m,g,cap,Q,he,hGS,hw,hlen,hW,hmQ,hO⟩:=hn6.gs hS.grp hf hS.inv
 have hI:=hS.inv
 have hnl:=hn6.nl
 by_cases hi:0≤o.a∧o.a<now.n
 ·obtain ⟨i,hia⟩:∃i:Nat,o.a=(i:Int):=⟨o.a.toNat,by omega⟩
  have hin:i<now.n:=by omega
  have hy:wv.l[i]?=some (wv.l[i]'(by omega)):=List.getElem?_eq_getElem _
  generalize wv.l[i]'(by omega)=y at hy
  refine lease_crash hL hS hf hB0 hBb hBs hn1 hn2 hn3 hn4 hn5 (hpin:=hS.pin) (hn7:=hn7) (l':=l) (now':=now.up now.ls (forgetP Q i 16)) hI o ho 0 (fun W hb=>?_) (fun W ρ2 ⟨sv2,lv2,R2⟩ hf2=>?_)
  ·rw [hia]
   exact (gCrash_any (hGS.below hb).1 i hin).mono fun e w' q=>⟨q.1,q.2.grpPost he (hf.below hb.size)⟩
  ·rw [hia]
   exact (refCrash_any R2 hf2 i y hy).mono fun e w' q=>⟨q.1,rs,_,q.2,hS.same,rfl,(hn6.crash hw hlen hW hO hin).mono (by omega)⟩
 ·refine lease_crash hL hS hf hB0 hBb hBs hn1 hn2 hn3 hn4 hn5 (hpin:=hS.pin) (hn7:=hn7) (l':=l) (now':=now) hI o ho 9 (fun W hb=>?_) (fun W ρ2 ⟨sv2,lv2,R2⟩ hf2=>?_)
  ·exact (gCrash_none (hGS.below hb).1 o.a hi).mono fun e w' q=>⟨q.1,by rw [←q.2];exact (hS.keeps (Keeps.of_below hb) (fun k hk=>Or.inr (Or.inr hk)) (fun _ _=>rfl)).grp.post (hf.below hb.size)⟩
  ·exact (refCrash_none R2 (by have:=hn6.n1;omega) o.a (by rw [←hnl];exact hi)).mono fun e w' q=>⟨q.1,rs,wv,by rw [←q.2];exact RefPost.below R2 hf2 (Below.refl _ _),hS.same,rfl,hn6.mono (by omega)⟩
end Go.Proofs.YtpnkmnmchdabkaaGreat
