import Derived.Test.YtpnkmnmchdabkaaGreatM24
import Derived.ChangeKeysEq
import Derived.Test.YtpnkmnmchdabkaaGreatM25
import Derived.Test.YtpnkmnmchdabkaaGreatM08
namespace Go.Proofs.YtpnkmnmchdabkaaGreat
open Go.RowKit
theorem key_eq (a b:List UInt8) (w:World):(Op.equalIn 10000 130 (.agg #[.int .u8 (byteAt a 0),.int .u8 (byteAt a 1),.int .u8 (byteAt a 2),.int .u8 (byteAt a 3),.int .u8 (byteAt a 4),.int .u8 (byteAt a 5),.int .u8 (byteAt a 6),.int .u8 (byteAt a 7)]) (.agg #[.int .u8 (byteAt b 0),.int .u8 (byteAt b 1),.int .u8 (byteAt b 2),.int .u8 (byteAt b 3),.int .u8 (byteAt b 4),.int .u8 (byteAt b 5),.int .u8 (byteAt b 6),.int .u8 (byteAt b 7)])).run Tryz.prog w=.ok (sameK a b) w:=by
 have hu:=Tryz.underlying130
 obtain ⟨i,hi⟩:∃i,Tryz.prog.info? 5=some i:=Option.isSome_iff_exists.1 (by kernel_rfl)
 have hc:Tryz.prog.cellsOf 5=1:=by kernel_rfl
 have hb:=Tryz.underlying5
 rw [run_equalIn_array w 9999 _ _ hu hi,hc,show List.range 8=[0,1,2,3,4,5,6,7] from rfl]
 simp [Op.eqItems,go_sem]
 unfold sameK
 repeat' split
 all_goals simp [*]
end Go.Proofs.YtpnkmnmchdabkaaGreat
namespace Go.Proofs.YtpnkmnmchdabkaaGreat
open Go.RowKit
attribute [local go_sem ↓] Go.wp_at_zero Go.wp_at_succ
attribute [local go_sem ↓] zvWm ldW_shut stW_shut
attribute [local go_sem] stW_new key_eq
theorem new_twoF (w:World) (o o':Obj):((w.alloc o).alloc o').heap[w.heap.size+1]?=some o':=by
 have:=heap_alloc_new (w.alloc o) o'
 rwa [show (w.alloc o).heap.size=w.heap.size+1 by simp] at this
set_option maxRecDepth 100000 in
set_option maxHeartbeats 4000000 in
theorem foldedOf_any {w:World} {ρ:Nat→Nat} {gb:Nat} {C:Cfg} {now:Rest} {sv:Value} {m:List Cs} {g cap:Nat} {ls:List Le} {P:List Pl} (h:GS w ρ gb C now sv m g cap ls P) (hI:Inv (m.map (·.s))) (d:Nat→Nat) (hd:∀k,d k≤32) (hdn:∀k,k<16→dnP now.dn k=(d k:Int)) (hdc:∀(k:Nat) (s:Cs),m[k]?=some s→d k≤s.s.rl.length) (kb:List UInt8) :
 Calls Tryz.prog 53 #[.pointer (some ⟨gb,8,none⟩),.pointer (some ⟨gb,7,none⟩),.agg #[.int .u8 (byteAt kb 0),.int .u8 (byteAt kb 1),.int .u8 (byteAt kb 2),.int .u8 (byteAt kb 3),.int .u8 (byteAt kb 4),.int .u8 (byteAt kb 5),.int .u8 (byteAt kb 6),.int .u8 (byteAt kb 7)]] w fun e w'=>∃v,e=.returned v∧w'.ownsRow w.heap.size 139 11 v (fdKey kb (fdUp (m.map (·.s)) d m.length) (fdUp (m.map (·.s)) d m.length).length).length (fdRow (fdKey kb (fdUp (m.map (·.s)) d m.length) (fdUp (m.map (·.s)) d m.length).length))∧Below w.heap.size w w':=by
 obtain ⟨i0,hi0,hz0,hz1,hz2⟩:=info_parts infoFd
 have HW:Hid (∀o,Calls Tryz.prog 83 #[.pointer (some ⟨gb,8,none⟩),.pointer (some ⟨gb,7,none⟩)] (w.alloc o) fun e w'=>∃v,e=.returned (.tuple #[v,.agg (stA (wmUp (m.map (·.s)) d m.length))])∧w'.ownsRow (w.alloc o).heap.size 139 11 v (fdUp (m.map (·.s)) d m.length).length (fdRow (fdUp (m.map (·.s)) d m.length))∧Below (w.alloc o).heap.size (w.alloc o) w'):=fun o=>walk_any (h.alloc o).1 hI d hd hdn hdc
 have hFl:(fdUp (m.map (·.s)) d m.length).length≤512:=by have:=fdUp_le (l:=m.map (·.s)) hd m.length;have:=GrpL.le h;omega
 have z0:=st0_len
 have s0:=stA_size z0
 have hU:=wmUp_len (m.map (·.s)) d m.length
 generalize fdUp (m.map (·.s)) d m.length=F at *
 generalize wmUp (m.map (·.s)) d m.length=U at *
 clear h hI hd hdn hdc
 go_enter Tryz.func53,Tryz.ntmps53
 go_wp2_with fail
 refine (uh HW _).mono ?_
 rintro e w1 ⟨v,rfl,hv,hb1⟩
 obtain ⟨va,vcap,rfl⟩:=ownsRow_len hv
 obtain ⟨hky,hB1,hs1⟩:=below_new hb1
 have HV:=hide hv
 have HB1:=hide hB1
 have HKy:=hide hky
 clear hv hb1 hB1 hky HW
 go_wp2
 have HI0:Hid (((w1.alloc (.cells (stA U) 168)).alloc (.cells #[] 139)).ownsRow w1.heap.size 139 11 (.slice (some ⟨w1.heap.size+1,0,none⟩) 0 0) 0 []):=⟨rfl,.inr ⟨w1.heap.size+1,0,#[],rfl,Nat.le_succ _,new_twoF w1 _ _,Nat.le_refl _,by unfold maxLen;omega,rfl,rfl⟩⟩
 have HB0:Hid (Below w1.heap.size w1 ((w1.alloc (.cells (stA U) 168)).alloc (.cells #[] 139))):=((Below.refl _ w1).alloc (Nat.le_refl _) _).alloc (by simp) _
 go_loopw [9,10] (fun p q wr=>∃(j cp:Nat) (a:Option Addr),j≤F.length∧q=.int .i64 j∧p=.slice a (fdKey kb F j).length cp∧wr.ownsRow w1.heap.size 139 11 (.slice a (fdKey kb F j).length cp) (fdKey kb F j).length (fdRow (fdKey kb F j))∧Below w1.heap.size w1 wr) (fun _ q _=>F.length - (intOf q).toNat)
 case atStart=>exact ⟨0,0,some ⟨w1.heap.size+1,0,none⟩,Nat.zero_le _,rfl,rfl,uh HI0,uh HB0⟩
 case round =>
  obtain ⟨j,cp,a,hj,rfl,rfl,hown,hB⟩:=hrel
  by_cases hlt:j<F.length
  ·obtain ⟨fb,cap',cur,hv2,_,hfg,_⟩:=ownsRow_shape (uh HV) (by omega)
   injection hv2 with e1 e2 e3
   subst e1
   subst e3
   clear e2
   have hfl:=lt_of_heap hfg
   obtain ⟨x,hx⟩:∃x,F[j]?=some x:=⟨F[j],List.getElem?_eq_getElem hlt⟩
   have hc:∀i,i<11→wr.cell? ⟨fb,j*11+i,none⟩=(fdCells x)[i]?:=fun i hi=>by
    rw [hB.cell (p:=⟨fb,j*11+i,none⟩) hfl,World.ownsRow.cellAt (uh HV) (j*11+i) (by omega),fdRow_get F j i hi x hx]
   have y0:=hc 0 (by omega)
   have y1:=hc 1 (by omega)
   have y2:=hc 2 (by omega)
   have y3:=hc 3 (by omega)
   have y4:=hc 4 (by omega)
   have y5:=hc 5 (by omega)
   have y6:=hc 6 (by omega)
   have y7:=hc 7 (by omega)
   have y8:=hc 8 (by omega)
   have y9:=hc 9 (by omega)
   have y10:=hc 10 (by omega)
   simp [fdCells,rcCells,recArr] at y0 y1 y2 y3 y4 y5 y6 y7 y8 y9 y10
   have k0:wr.cell? ⟨w.heap.size,0,none⟩=some (.int .u8 (byteAt kb 0)):=(hB.cell (p:=⟨w.heap.size,0,none⟩) hs1).trans (cell_of (uh HKy) 0)
   have k1:wr.cell? ⟨w.heap.size,1,none⟩=some (.int .u8 (byteAt kb 1)):=(hB.cell (p:=⟨w.heap.size,1,none⟩) hs1).trans (cell_of (uh HKy) 1)
   have k2:wr.cell? ⟨w.heap.size,2,none⟩=some (.int .u8 (byteAt kb 2)):=(hB.cell (p:=⟨w.heap.size,2,none⟩) hs1).trans (cell_of (uh HKy) 2)
   have k3:wr.cell? ⟨w.heap.size,3,none⟩=some (.int .u8 (byteAt kb 3)):=(hB.cell (p:=⟨w.heap.size,3,none⟩) hs1).trans (cell_of (uh HKy) 3)
   have k4:wr.cell? ⟨w.heap.size,4,none⟩=some (.int .u8 (byteAt kb 4)):=(hB.cell (p:=⟨w.heap.size,4,none⟩) hs1).trans (cell_of (uh HKy) 4)
   have k5:wr.cell? ⟨w.heap.size,5,none⟩=some (.int .u8 (byteAt kb 5)):=(hB.cell (p:=⟨w.heap.size,5,none⟩) hs1).trans (cell_of (uh HKy) 5)
   have k6:wr.cell? ⟨w.heap.size,6,none⟩=some (.int .u8 (byteAt kb 6)):=(hB.cell (p:=⟨w.heap.size,6,none⟩) hs1).trans (cell_of (uh HKy) 6)
   have k7:wr.cell? ⟨w.heap.size,7,none⟩=some (.int .u8 (byteAt kb 7)):=(hB.cell (p:=⟨w.heap.size,7,none⟩) hs1).trans (cell_of (uh HKy) 7)
   have HS:=hide (fdKey_succ kb F j x hx)
   have hle:=fdKey_le kb F j
   have HO:=hide hown
   have HB:=hide hB
   have HGL:=hide (fun q hq=>hown.lt q hq)
   have hws:=hB.size
   clear hown hB hc hx hfg
   cases hsk:sameK x.1.kb kb
   ·rw [hsk] at HS
    have HSK:=hide hsk
    have HDr:Hid (∀n,Below w1.heap.size w1 (wr.drewN n)):=fun n=>below_drewN (uh HB) n
    have HOr:Hid (∀n,(wr.drewN n).ownsRow w1.heap.size 139 11 (.slice a (fdKey kb F j).length cp) (fdKey kb F j).length (fdRow (fdKey kb F j))):=fun n=>ownsRow_of_block (uh HO) fun q hq=>rfl
    go_wp2
    go_quiet (fail)
    go_wp2
    go_roundw
    case rel =>
     refine ⟨j+1,cp,a,by omega,by go_num,?_,?_,uh HDr nq⟩
     ·rw [uh HS];simp
     ·rw [uh HS];simpa using uh HOr nq
    case measure=>simp [intOf];omega
   ·rw [hsk] at HS
    have HDr:Hid (∀n,Below w1.heap.size w1 (wr.drewN n)):=fun n=>below_drewN (uh HB) n
    have HOr:Hid (∀n,(wr.drewN n).ownsRow w1.heap.size 139 11 (.slice a (fdKey kb F j).length cp) (fdKey kb F j).length (fdRow (fdKey kb F j))):=fun n=>ownsRow_of_block (uh HO) fun q hq=>rfl
    go_wp2
    go_quiet (fail)
    have OD:=hide (uh HOr nq)
    have BD:=hide (uh HDr nq)
    have hGD:=hide (fun q hq=>(uh OD).lt q hq)
    have hzD:w1.heap.size≤(wr.drewN nq).heap.size:=hws
    have Y0:(wr.drewN nq).cell? ⟨fb,j*11,none⟩=_:=y0
    have Y1:(wr.drewN nq).cell? ⟨fb,j*11+1,none⟩=_:=y1
    have Y2:(wr.drewN nq).cell? ⟨fb,j*11+2,none⟩=_:=y2
    have Y3:(wr.drewN nq).cell? ⟨fb,j*11+3,none⟩=_:=y3
    have Y4:(wr.drewN nq).cell? ⟨fb,j*11+4,none⟩=_:=y4
    have Y5:(wr.drewN nq).cell? ⟨fb,j*11+5,none⟩=_:=y5
    have Y6:(wr.drewN nq).cell? ⟨fb,j*11+6,none⟩=_:=y6
    have Y7:(wr.drewN nq).cell? ⟨fb,j*11+7,none⟩=_:=y7
    have Y8:(wr.drewN nq).cell? ⟨fb,j*11+8,none⟩=_:=y8
    have Y9:(wr.drewN nq).cell? ⟨fb,j*11+9,none⟩=_:=y9
    have Y10:(wr.drewN nq).cell? ⟨fb,j*11+10,none⟩=_:=y10
    clear y0 y1 y2 y3 y4 y5 y6 y7 y8 y9 y10 k0 k1 k2 k3 k4 k5 k6 k7 HOr HDr HO HB HGL
    generalize wr.drewN nq=V at *
    generalize hFF:fdKey kb F j=G at *
    clear hFF
    go_wp2_with (at_builtin;go_must (refine wpList_append_lies _ rfl _ _ _ rfl w1.heap.size 139 i0 _ 11 32 Tryz.underlying134 hi0 hz0 hz1 hz2 rfl (by omega) _ G.length (fdRow G) rfl ?own ⟨V.heap.size,0,none⟩ 1 1 (fdCells x) rfl rfl ?news ?one (by omega) ?h63 ?bytes ?base (V.heap.size+1) ?hH ?next))
    case own=>exact (uh OD).alloc _
    case news=>exact World.news_of_block (heap_alloc_new V _)
    case one =>
     intro u hu
     simp [fdCells,rcCells,recArr] at hu
     rcases hu with rfl | rfl | rfl | rfl | rfl | rfl | rfl | rfl | rfl | rfl | rfl <;> rfl
    case h63=>unfold maxLen;omega
    case bytes=>omega
    case base=>simp;omega
    case hH=>simp
    case next =>
     intro g2 cap2 w6 hown6 hgrow6 hat hlt6
     have hB6:Hid (Below w1.heap.size w1 w6):=((uh BD).alloc hzD _).grown hgrow6 (by simp;omega) (fun q hq=>(uh hGD q hq).1)
     have HN:=hide hown6
     clear hown6 hgrow6 hat
     go_wp2
     go_roundw
     case rel =>
      refine ⟨j+1,cap2,some ⟨g2,0,none⟩,by omega,by go_num,?_,?_,uh hB6⟩
      ·rw [uh HS];simp
      ·rw [uh HS,if_pos trivial,fdRow_append]
       simpa [fdRow] using uh HN
     case measure=>simp [intOf];omega
  ·have e:j=F.length:=by omega
   subst e
   have HO:=hide hown
   have HB:=hide ((uh HB1).trans (hB.mono (uh HB1).size))
   have hsz:=(uh HB1).size
   clear hown hB
   go_wp2
   go_ret
   exact ⟨_,rfl,ownsRow_base (uh HO) hsz,uh HB⟩
end Go.Proofs.YtpnkmnmchdabkaaGreat
namespace Go.Proofs.YtpnkmnmchdabkaaGreat
open Go.RowKit
attribute [local go_sem ↓] Go.wp_at_zero Go.wp_at_succ
def SetAt (B sb b:Nat) (L:List Int) (w:World):Prop:=∃v,w.heap[sb]?=some (.cells #[v] 192 (0,0))∧w.ownsRow B 3 1 v L.length (L.map (Value.int .i64))∧v.ownBlock≠some sb∧B≤sb∧v.ownBlock≠some b∧sb≠b
def SetMv (B sb b g cap:Nat) (L:List Int) (w wr:World):Prop:=wr.heap[sb]?=some (.cells #[.slice (some ⟨g,0,none⟩) L.length cap] 192 (0,0))∧wr.ownsRow B 3 1 (.slice (some ⟨g,0,none⟩) L.length cap) L.length (L.map (Value.int .i64))∧g≠sb∧B≤sb∧B≤g∧Below B w wr∧g≠b∧sb≠b∧wr.heap[b]?=w.heap[b]?
theorem SetMv.set {B sb b g cap:Nat} {L:List Int} {w wr:World} (h:SetMv B sb b g cap L w wr) (i:Nat) (x:Int) {M:List Int} (hM:L.set i x=M):SetMv B sb b g cap M w (wr.setCell ⟨g,i,none⟩ (.int .i64 x)):=by
 obtain ⟨h1,h2,h3,h4,h5,h6,h7,h8,h9⟩:=h
 have hl:M.length=L.length:=by rw [←hM];simp
 have:=(World.ownsRow.stored h2 i (.int .i64 x)).1
 rw [←List.map_set,hM] at this
 refine ⟨?_,by rw [hl];exact this,h3,h4,h5,h6.setCell (p:=⟨g,i,none⟩) h5 _,h7,h8,(Below.heap_setCell _ _ _ _ (fun e=>h7 e.symm)).trans h9⟩
 rw [Below.heap_setCell _ _ _ _ (fun e=>h3 e.symm),hl]
 exact h1
theorem SetMv.drew {B sb b g cap:Nat} {L:List Int} {w wr:World} (h:SetMv B sb b g cap L w wr):SetMv B sb b g cap L w wr.drew:=by
 obtain ⟨h1,h2,h3,h4,h5,h6,h7,h8,h9⟩:=h
 exact ⟨h1,h2,h3,h4,h5,h6.drew,h7,h8,h9⟩
theorem SetMv.at {B sb b g cap:Nat} {L:List Int} {w wr:World} (h:SetMv B sb b g cap L w wr):SetAt B sb b L wr:=by
 obtain ⟨h1,h2,h3,h4,h5,h6,h7,h8,h9⟩:=h
 refine ⟨_,h1,h2,fun e=>?_,h4,fun e=>?_,h8⟩
 ·have h9:some g=some sb:=e
  injection h9 with h9
  exact h3 h9
 ·have h9:some g=some b:=e
  injection h9 with h9
  exact h7 h9
theorem SetMv.cells {B sb b g cap:Nat} {L:List Int} {w wr:World} (h:SetMv B sb b g cap L w wr) (hL:0<L.length):wr.cell? ⟨sb,0,none⟩=some (.slice (some ⟨g,0,none⟩) L.length cap)∧wr.frozen? ⟨sb,0,none⟩=false∧(∀j,wr.frozen? ⟨g,j,none⟩=false)∧∀(j:Nat) (y:Int),L[j]?=some y→wr.cell? ⟨g,j,none⟩=some (.int .i64 y):=by
 obtain ⟨h1,h2,h3,h4,h5,h6,h7,h8,h9⟩:=h
 obtain ⟨g2,c2,cur,e,_,hg,_⟩:=ownsRow_shape h2 hL
 injection e with e
 injection e with e
 injection e with e
 subst e
 refine ⟨cell_of h1 0,frozen_of h1 0,fun j=>frozen_of hg j,fun j y hj=>?_⟩
 have hl:=(List.getElem?_eq_some_iff.1 hj).1
 rw [World.ownsRow.cellAt h2 j (by omega)]
 simp [hj]
set_option maxRecDepth 100000 in
set_option maxHeartbeats 4000000 in
theorem setAdd_any (B sb b:Nat) (L:List Int) (x:Int) (w:World) (hL:Sts L) (hbl:b<w.heap.size) (h:SetAt B sb b L w) :
 Calls Tryz.prog 129 #[.pointer (some ⟨sb,0,none⟩),.int .i64 x] w fun e w'=>e=.returned (.tuple #[])∧SetAt B sb b (ins x L) w'∧Below B w w'∧w'.heap[b]?=w.heap[b]?:=by
 obtain ⟨i0,hi0,hz0,hz1,hz2⟩:=info_parts info3
 obtain ⟨v,hsb,hrow,hne,hB,hnb,hsbb⟩:=h
 obtain ⟨va,vc,rfl⟩:=ownsRow_len hrow
 have hlen:=hL.len
 have c0:w.cell? ⟨sb,0,none⟩=some (.slice va L.length vc):=cell_of hsb 0
 have f0:=frozen_of hsb 0
 have hsl:=lt_of_heap hsb
 have HC:Hid (∀(j:Nat) (y:Int),L[j]?=some y→∃lb,va=some ⟨lb,0,none⟩∧w.cell? ⟨lb,j,none⟩=some (.int .i64 y)):=fun j y hj=>by
  have hl:=(List.getElem?_eq_some_iff.1 hj).1
  obtain ⟨g2,c2,cur,e,_,hg,_⟩:=ownsRow_shape hrow (by omega)
  injection e with e
  subst e
  refine ⟨g2,rfl,?_⟩
  rw [World.ownsRow.cellAt hrow j (by omega)]
  simp [hj]
 have HRow:=hide hrow
 have HNe:=hide hne
 have HNb:=hide hnb
 have HSb:=hide hsb
 have HL:=hide hL
 clear hrow hne hsb hL hnb
 go_enter Tryz.func129,Tryz.ntmps129
 go_wp2
 go_loop [4] (fun t=>∃p:Nat,t=.int .i64 p∧p≤L.length∧∀(j:Nat) (y:Int),p≤j→L[j]?=some y→x<y) (fun t=>(intOf t).toNat)
 case atStart=>exact ⟨L.length,rfl,Nat.le_refl _,fun j y h1 h2=>by have:=(List.getElem?_eq_some_iff.1 h2).1;omega⟩
 case round =>
  obtain ⟨p,rfl,hp,hj⟩:=hrel
  have HJ:=hide hj
  clear hj
  by_cases hp0:0<p
  ·obtain ⟨q,hq⟩:∃q,p=q+1:=⟨p - 1,by omega⟩
   obtain ⟨y,hy⟩:∃y,L[q]?=some y:=⟨L[q],List.getElem?_eq_getElem (by omega)⟩
   obtain ⟨lb,rfl,cy⟩:=uh HC q y hy
   have HY:=hide hy
   have hp1:(p:Int) - 1=(q:Int):=by omega
   have hwq:IntKind.i64.wrap (q:Int)=q:=by rw [IntKind.wrap_i64];omega
   have HQ:=hide hq
   clear hy hq
   by_cases hgt:x<y
   ·go_wp2
    go_round
    case rel =>
     refine ⟨q,by go_num,by have:=uh HQ;omega,fun j z h1 h2=>?_⟩
     by_cases e:j=q
     ·subst e
      have:=(uh HY).symm.trans h2
      injection this with this
      omega
     ·exact uh HJ j z (by have:=uh HQ;omega) h2
    case measure=>simp [intOf];omega
   ·by_cases heq:y=x
    ·have d1:(y == x)=true:=by simp [heq]
     have HE:=hide heq
     clear heq
     go_wp2
     refine bodyPost_ret (v:=.tuple #[]) (by simp [results,go_sem]) rfl ⟨rfl,?_,Below.refl _ _,by first | rfl | exact Array.getElem?_eq_getElem hbl⟩
     rw [ins_same L (uh HL).1 (by rw [←uh HE];exact List.mem_of_getElem? (uh HY))]
     exact ⟨_,uh HSb,uh HRow,uh HNe,hB,uh HNb,hsbb⟩
    ·have d1:(y == x)=false:=by simpa using heq
     have HPB:Hid (∀(j:Nat) (z:Int),j<p→L[j]?=some z→z<x):=fun j z h1 h2=>by
      by_cases e:j=q
      ·subst e
       have:=(uh HY).symm.trans h2
       injection this with this
       omega
      ·have:=ris_at (uh HL).1 (show j<q by have:=uh HQ;omega) h2 (uh HY)
       omega
     clear heq
     have HE:=hide (ins_at L p hp (uh HJ) (uh HPB))
     go_wp2_with (at_builtin;go_must (refine wpList_append_lies _ rfl _ _ _ rfl B 3 i0 _ 1 8 Tryz.underlying34 hi0 hz0 hz1 hz2 rfl (by omega) _ L.length (L.map (Value.int .i64)) rfl ?own ⟨w.heap.size,0,none⟩ 1 1 [.int .i64 x] rfl rfl ?news ?one (by omega) ?h63 ?bytes ?base (w.heap.size+1) ?hH ?next))
     case own=>exact (uh HRow).alloc _
     case one=>simp [Value.oneCell']
     case h63=>unfold maxLen;omega
     case bytes=>omega
     case base=>omega
     case next =>
      intro g2 cap2 w3 hown hgrow hat hlt
      have nsb:Hid (some sb≠(Value.slice (some ⟨lb,0,none⟩) L.length vc).ownBlock):=fun e=>uh HNe e.symm
      have fz:w3.frozen? ⟨sb,0,none⟩=false:=(hgrow.frozen_far _ (by simp;omega) (uh nsb)).trans ((World.frozen?_of_block (w:=w) (Below.heap_alloc _ _ _ hsl)).trans f0)
      have cz:w3.cell? ⟨sb,0,none⟩=some (.slice (some ⟨lb,0,none⟩) L.length vc):=(hgrow.cell_far _ (by simp;omega) (uh nsb)).trans ((World.cell?_of_block (w:=w) (Below.heap_alloc _ _ _ hsl)).trans c0)
      have hg2:Hid (g2≠sb):=fun e=>by
       subst e
       rcases hat with h9 | h9
       ·exact uh HNe h9
       ·omega
      have hg3:Hid (g2≠b):=fun e=>by
       subst e
       rcases hat with h9 | h9
       ·exact uh HNb h9
       ·omega
      have nb:Hid (some b≠(Value.slice (some ⟨lb,0,none⟩) L.length vc).ownBlock):=fun e=>uh HNb e.symm
      have HMV:Hid (SetMv B sb b g2 cap2 (sft L x L.length) w (w3.setCell ⟨sb,0,none⟩ (.slice (some ⟨g2,0,none⟩) (L.length+1) cap2))):=by
       have hlb:=(hown.lt g2 rfl).1
       have hsb3:w3.heap[sb]?=some (.cells #[.slice (some ⟨lb,0,none⟩) L.length vc] 192 (0,0)):=(hgrow.block sb (by simp;omega) (uh nsb)).trans ((Below.heap_alloc _ _ _ hsl).trans (uh HSb))
       refine ⟨?_,?_,uh hg2,hB,hlb,?_,uh hg3,hsbb,(Below.heap_setCell _ _ _ _ (fun e=>hsbb e.symm)).trans ((hgrow.block b (by simp;omega) (uh nb)).trans (Below.heap_alloc _ _ _ hbl))⟩
       ·rw [heap_setCell_same hsb3,sft_len (Nat.le_refl _)]
        rfl
       ·rw [sft_len (Nat.le_refl _),sft_top,List.map_append]
        exact ownsRow_of_block hown fun q hq=>Below.heap_setCell _ _ _ _ (fun e9=>uh hg2 (by have h8:some g2=some q:=hq;injection h8 with h8;exact h8.trans e9))
       ·refine Below.setCell (p:=⟨sb,0,none⟩) ?_ hB _
        exact ((Below.refl B w).alloc (by omega) _).grown hgrow (by simp;omega) (fun q hq=>((uh HRow).lt q hq).1)
      clear hown hgrow hat hlt c0 f0
      go_wp2
      generalize w3.setCell ⟨sb,0,none⟩ (.slice (some ⟨g2,0,none⟩) (L.length+1) cap2)=W at *
      clear cz fz
      obtain ⟨c0,_⟩:=(uh HMV).cells (by rw [sft_len (Nat.le_refl _)];omega)
      rw [sft_len (Nat.le_refl _)] at c0
      go_wp2
      go_loopw [5] (fun t wr=>∃i:Nat,t=.int .i64 i∧p≤i∧i≤L.length∧SetMv B sb b g2 cap2 (sft L x i) w wr) (fun t _=>(intOf t).toNat)
      case atStart=>exact ⟨L.length,by go_num,hp,Nat.le_refl _,uh HMV⟩
      case round =>
       obtain ⟨i,rfl,hi1,hi2,hmv⟩:=hrel
       have hsl:=sft_len (x:=x) hi2
       obtain ⟨k1,k2,k3,k4⟩:=hmv.cells (by omega)
       rw [hsl] at k1
       by_cases hlt:p<i
       ·obtain ⟨q9,hq⟩:∃q,i=q+1:=⟨i - 1,by omega⟩
        subst hq
        obtain ⟨z,hz⟩:∃z,L[q9]?=some z:=⟨L[q9],List.getElem?_eq_getElem (by omega)⟩
        have e1:=k4 q9 z (sft_get (by omega) hz)
        have e2:=k3 (q9+1)
        obtain ⟨z2,hz2⟩:∃z2,(sft L x (q9+1))[q9+1]?=some z2:=⟨(sft L x (q9+1))[q9+1]'(by omega),List.getElem?_eq_getElem (by omega)⟩
        have e3:=k4 (q9+1) z2 hz2
        have hwq:IntKind.i64.wrap (q9:Int)=q9:=by rw [IntKind.wrap_i64];omega
        have HM2:=hide (hmv.set (q9+1) z (sft_set hz))
        clear hmv k3 k4 hz hz2
        go_wp2
        go_region
        have HM3:=hide (uh HM2).drew
        go_wp2
        go_roundw
        case rel=>exact ⟨q9,by go_num,by omega,by omega,uh HM3⟩
        case measure=>simp [intOf]
       ·have e:i=p:=by omega
        subst e
        have e2:=k3 i
        obtain ⟨z2,hz2⟩:∃z2,(sft L x i)[i]?=some z2:=⟨(sft L x i)[i]'(by omega),List.getElem?_eq_getElem (by omega)⟩
        have e3:=k4 i z2 hz2
        have HM2:=hide (hmv.set i x (sft_end hi2))
        clear hmv k3 k4 hz2
        go_wp2
        go_end0
        refine ⟨rfl,?_,(uh HM2).2.2.2.2.2.1,(uh HM2).2.2.2.2.2.2.2.2⟩
        rw [uh HE]
        exact (uh HM2).at
  ·have HPB:Hid (∀(j:Nat) (z:Int),j<p→L[j]?=some z→z<x):=fun j z h1 h2=>by omega
   have HE:=hide (ins_at L p hp (uh HJ) (uh HPB))
   go_wp2_with (at_builtin;go_must (refine wpList_append_lies _ rfl _ _ _ rfl B 3 i0 _ 1 8 Tryz.underlying34 hi0 hz0 hz1 hz2 rfl (by omega) _ L.length (L.map (Value.int .i64)) rfl ?own9 ⟨w.heap.size,0,none⟩ 1 1 [.int .i64 x] rfl rfl ?news9 ?one9 (by omega) ?h639 ?bytes9 ?base9 (w.heap.size+1) ?hH9 ?next9))
   case own9=>exact (uh HRow).alloc _
   case one9=>simp [Value.oneCell']
   case h639=>unfold maxLen;omega
   case bytes9=>omega
   case base9=>omega
   case next9 =>
    intro g2 cap2 w3 hown hgrow hat hlt
    have nsb:Hid (some sb≠(Value.slice va L.length vc).ownBlock):=fun e=>uh HNe e.symm
    have fz:w3.frozen? ⟨sb,0,none⟩=false:=(hgrow.frozen_far _ (by simp;omega) (uh nsb)).trans ((World.frozen?_of_block (w:=w) (Below.heap_alloc _ _ _ hsl)).trans f0)
    have cz:w3.cell? ⟨sb,0,none⟩=some (.slice va L.length vc):=(hgrow.cell_far _ (by simp;omega) (uh nsb)).trans ((World.cell?_of_block (w:=w) (Below.heap_alloc _ _ _ hsl)).trans c0)
    have hg2:Hid (g2≠sb):=fun e=>by
     subst e
     rcases hat with h9 | h9
     ·exact uh HNe h9
     ·omega
    have hg3:Hid (g2≠b):=fun e=>by
     subst e
     rcases hat with h9 | h9
     ·exact uh HNb h9
     ·omega
    have nb:Hid (some b≠(Value.slice va L.length vc).ownBlock):=fun e=>uh HNb e.symm
    have HMV:Hid (SetMv B sb b g2 cap2 (sft L x L.length) w (w3.setCell ⟨sb,0,none⟩ (.slice (some ⟨g2,0,none⟩) (L.length+1) cap2))):=by
     have hlb:=(hown.lt g2 rfl).1
     have hsb3:w3.heap[sb]?=some (.cells #[.slice va L.length vc] 192 (0,0)):=(hgrow.block sb (by simp;omega) (uh nsb)).trans ((Below.heap_alloc _ _ _ hsl).trans (uh HSb))
     refine ⟨?_,?_,uh hg2,hB,hlb,?_,uh hg3,hsbb,(Below.heap_setCell _ _ _ _ (fun e=>hsbb e.symm)).trans ((hgrow.block b (by simp;omega) (uh nb)).trans (Below.heap_alloc _ _ _ hbl))⟩
     ·rw [heap_setCell_same hsb3,sft_len (Nat.le_refl _)]
      rfl
     ·rw [sft_len (Nat.le_refl _),sft_top,List.map_append]
      exact ownsRow_of_block hown fun q hq=>Below.heap_setCell _ _ _ _ (fun e9=>uh hg2 (by have h8:some g2=some q:=hq;injection h8 with h8;exact h8.trans e9))
     ·refine Below.setCell (p:=⟨sb,0,none⟩) ?_ hB _
      exact ((Below.refl B w).alloc (by omega) _).grown hgrow (by simp;omega) (fun q hq=>((uh HRow).lt q hq).1)
    clear hown hgrow hat hlt c0 f0
    go_wp2
    generalize w3.setCell ⟨sb,0,none⟩ (.slice (some ⟨g2,0,none⟩) (L.length+1) cap2)=W at *
    clear cz fz
    obtain ⟨c0,_⟩:=(uh HMV).cells (by rw [sft_len (Nat.le_refl _)];omega)
    rw [sft_len (Nat.le_refl _)] at c0
    go_wp2
    go_loopw [5] (fun t wr=>∃i:Nat,t=.int .i64 i∧p≤i∧i≤L.length∧SetMv B sb b g2 cap2 (sft L x i) w wr) (fun t _=>(intOf t).toNat)
    case atStart=>exact ⟨L.length,by go_num,hp,Nat.le_refl _,uh HMV⟩
    case round =>
     obtain ⟨i,rfl,hi1,hi2,hmv⟩:=hrel
     have hsl:=sft_len (x:=x) hi2
     obtain ⟨k1,k2,k3,k4⟩:=hmv.cells (by omega)
     rw [hsl] at k1
     by_cases hlt:p<i
     ·obtain ⟨q9,hq⟩:∃q,i=q+1:=⟨i - 1,by omega⟩
      subst hq
      obtain ⟨z,hz⟩:∃z,L[q9]?=some z:=⟨L[q9],List.getElem?_eq_getElem (by omega)⟩
      have e1:=k4 q9 z (sft_get (by omega) hz)
      have e2:=k3 (q9+1)
      obtain ⟨z2,hz2⟩:∃z2,(sft L x (q9+1))[q9+1]?=some z2:=⟨(sft L x (q9+1))[q9+1]'(by omega),List.getElem?_eq_getElem (by omega)⟩
      have e3:=k4 (q9+1) z2 hz2
      have hwq:IntKind.i64.wrap (q9:Int)=q9:=by rw [IntKind.wrap_i64];omega
      have HM2:=hide (hmv.set (q9+1) z (sft_set hz))
      clear hmv k3 k4 hz hz2
      go_wp2
      go_region
      have HM3:=hide (uh HM2).drew
      go_wp2
      go_roundw
      case rel=>exact ⟨q9,by go_num,by omega,by omega,uh HM3⟩
      case measure=>simp [intOf]
     ·have e:i=p:=by omega
      subst e
      have e2:=k3 i
      obtain ⟨z2,hz2⟩:∃z2,(sft L x i)[i]?=some z2:=⟨(sft L x i)[i]'(by omega),List.getElem?_eq_getElem (by omega)⟩
      have e3:=k4 i z2 hz2
      have HM2:=hide (hmv.set i x (sft_end hi2))
      clear hmv k3 k4 hz2
      go_wp2
      go_end0
      refine ⟨rfl,?_,(uh HM2).2.2.2.2.2.1,(uh HM2).2.2.2.2.2.2.2.2⟩
      rw [uh HE]
      exact (uh HM2).at
end Go.Proofs.YtpnkmnmchdabkaaGreat
