import Derived.Test.YtpnkmnmchdabkaaGreatRefApp
import Derived.Test.YtpnkmnmchdabkaaGreatM04
import Derived.Test.YtpnkmnmchdabkaaGreatRefSplit
namespace Go.Proofs.YtpnkmnmchdabkaaGreat
open Go.RowKit
attribute [local go_sem ↓] Go.wp_at_zero Go.wp_at_succ
theorem absR_at2 {rs:List Rf} {P:List Pt} {j k:Nat} {r t:Rf} (hr:rs[j]?=some r) (ht:rs[k]?=some t) :
 aMerge (absR rs P) j k=if r.op=false∨t.op=false then (absR rs P,0,6) else if r.hi≠t.lo then (absR rs P,0,7) else if 15<rs.length then (absR rs P,0,8)
  else (((absR rs P).set j ⟨r.lo,r.hi,false,r.par,rcsOf P j⟩).set k ⟨t.lo,t.hi,false,t.par,rcsOf P k⟩ ++ [⟨r.lo,t.hi,true,[(j:Int),(k:Int)],[]⟩],(rs.length:Int),0):=by
 rw [aMerge_at (absR_get hr) (absR_get ht),absR_len]
theorem row_cell_stands {Z w3:World} {sb g n cap off:Nat} {e:TypeId} {size:Nat} {xs news:List Value} {v:Value} (hown:w3.ownsRow 0 e size (.slice (some ⟨g,0,none⟩) n cap) n (xs ++ news)) (hst:Z.grownBy w3 (some g)) (hx:xs[off]?=some v) (hz:Z.cell? ⟨sb,off,none⟩=some v):w3.cell? ⟨sb,off,none⟩=some v:=by
 by_cases hg:sb=g
 ·subst hg
  have hlt:=(List.getElem?_eq_some_iff.1 hx).1
  have:=hown.cells (g:=sb) rfl off v (by rw [List.getElem?_append_left hlt];exact hx)
  rwa [show (⟨sb,0,none⟩:Addr).add off=⟨sb,off,none⟩ by unfold Addr.add;split <;> simp_all] at this
 ·exact hst.cell hz (fun e=>hg (by injection e))
set_option maxRecDepth 100000 in
set_option maxHeartbeats 4000000 in
theorem refMerge_any {w:World} {ρ:Nat→Nat} {yb:Nat} {C:Cfg} {time:Int} {rs:List Rf} {P:List Pt} {wv:Wks} {fv sv lv:Value} (h:RefAt w ρ yb C time rs P wv fv sv lv) (hf:Fits w ρ) (hpos:0<rs.length) (hrs:rs.length≤16) (hPs:∀e ∈ P,e.shard<rs.length) (hlh:∀(i:Nat) (r:Rf),rs[i]?=some r→r.lo<r.hi) (n a:Int) :
 Calls Tryz.prog 103 #[.pointer (some ⟨yb,0,none⟩),.int .i64 n,.int .i64 a] w (RefTurn w ρ yb C time rs P wv fv (aMerge (absR rs P) n a)):=by
 obtain ⟨sb,cap,rfl,hsb,hsbT,ff,hcell⟩:=h.shards hpos
 have c7:w.cell? ⟨yb,7,none⟩=some (.slice (some ⟨sb,0,none⟩) rs.length cap):=cell_of h.blk 7
 have f7:=frozen_of h.blk 7
 have hyb:=lt_of_heap h.blk
 have HTh:=hide (refThere_any yb rs.length cap (some ⟨sb,0,none⟩) n w c7)
 have HTj:=hide (refThere_any yb rs.length cap (some ⟨sb,0,none⟩) a w c7)
 have HSame:Hid (∀(q:Int) w',Below w.heap.size w w'→aMerge (absR rs P) n a=(absR rs P,0,q)→RefTurn w ρ yb C time rs P wv fv (aMerge (absR rs P) n a) (.returned (.tuple #[.int .i64 0,.int .i64 q])) w'):=by
  intro q w' hb he
  rw [he]
  exact ⟨rfl,rs,rfl,More.refl rs,RefPost.below h hf hb⟩
 have hbq:∀q,Below w.heap.size w (w.drewN q):=fun q=>⟨rfl,rfl,rfl,Nat.le_refl _,fun _ _=>rfl⟩
 by_cases hn:0≤n∧n<rs.length
 ·by_cases hna:0≤a∧a<rs.length
  ·obtain ⟨j,rfl⟩:=Int.eq_ofNat_of_zero_le hn.1
   obtain ⟨k,rfl⟩:=Int.eq_ofNat_of_zero_le hna.1
   have hj:j<rs.length:=by omega
   have hk:k<rs.length:=by omega
   obtain ⟨r,hr⟩:∃r,rs[j]?=some r:=⟨rs[j],List.getElem?_eq_getElem hj⟩
   obtain ⟨t,ht⟩:∃t,rs[k]?=some t:=⟨rs[k],List.getElem?_eq_getElem hk⟩
   have b0:w.cell? ⟨sb,j*9,none⟩=some (.int .i64 r.lo):=hcell j r hr 0 (by omega)
   have b1:w.cell? ⟨sb,j*9+1,none⟩=some (.int .i64 r.hi):=hcell j r hr 1 (by omega)
   have b2:w.cell? ⟨sb,j*9+2,none⟩=some (.bool r.op):=hcell j r hr 2 (by omega)
   have d0:w.cell? ⟨sb,k*9,none⟩=some (.int .i64 t.lo):=hcell k t ht 0 (by omega)
   have d1:w.cell? ⟨sb,k*9+1,none⟩=some (.int .i64 t.hi):=hcell k t ht 1 (by omega)
   have d2:w.cell? ⟨sb,k*9+2,none⟩=some (.bool t.op):=hcell k t ht 2 (by omega)
   have e1:decide (0≤(j:Int)∧(j:Int)<rs.length)=true:=by simp;omega
   have e2:decide (0≤(k:Int)∧(k:Int)<rs.length)=true:=by simp;omega
   rw [e1] at HTh
   rw [e2] at HTj
   have HA:=hide (absR_at2 (P:=P) hr ht)
   cases ro:r.op
   ·rw [ro] at b2 HA
    have HE:=hide (fun w' hb=>uh HSame 6 w' hb (by rw [uh HA,if_pos (Or.inl rfl)]))
    clear h hf hr ht hcell e1 e2 HSame HA ro hlh
    go_enter Tryz.func103,Tryz.ntmps103
    go_wp2_with fail
    refine (uh HTh).mono ?_;rintro e w' ⟨rfl,rfl⟩
    go_wp2_with fail
    refine (uh HTj).mono ?_;rintro e w' ⟨rfl,rfl⟩
    go_wp2
    go_ret2
    exact uh HE _ (hbq 0)
   ·cases to:t.op
    ·rw [to] at d2 HA
     rw [ro] at b2
     have HE:=hide (fun w' hb=>uh HSame 6 w' hb (by rw [uh HA,if_pos (Or.inr rfl)]))
     clear h hf hr ht hcell e1 e2 HSame HA ro to hlh
     go_enter Tryz.func103,Tryz.ntmps103
     go_wp2_with fail
     refine (uh HTh).mono ?_;rintro e w' ⟨rfl,rfl⟩
     go_wp2_with fail
     refine (uh HTj).mono ?_;rintro e w' ⟨rfl,rfl⟩
     go_wp2
     go_ret2
     exact uh HE _ (hbq 0)
    ·rw [ro] at b2
     rw [to] at d2
     rw [ro,to] at HA
     by_cases hc:r.hi=t.lo
     ·have hjk:j≠k:=by
       rintro rfl
       rw [hr] at ht
       cases ht
       have:=hlh j r hr
       omega
      have hrb:(r.hi != t.lo)=false:=by rw [hc];simp
      by_cases hl:15<rs.length
      ·have HE:=hide (fun w' hb=>uh HSame 8 w' hb (by rw [uh HA,if_neg (by simp),if_neg (by simpa using hc),if_pos hl]))
       clear h hf hr ht hcell e1 e2 HSame HA ro to hlh hc
       go_enter Tryz.func103,Tryz.ntmps103
       go_wp2_with fail
       refine (uh HTh).mono ?_;rintro e w' ⟨rfl,rfl⟩
       go_wp2_with fail
       refine (uh HTj).mono ?_;rintro e w' ⟨rfl,rfl⟩
       go_wp2
       go_quiet (fail)
       go_wp2
       go_ret2
       exact uh HE _ (hbq _)
      ·have hr2:rs[j]?=some r:=hr
       have ht1:(rs.set j { r with op:=false })[k]?=some t:=by rw [List.getElem?_set_ne hjk];exact ht
       have hlr:rs.length≤15:=by omega
       have f2:=ff (j*9+2)
       have g2:=ff (k*9+2)
       have hne:sb≠yb:=by rintro rfl;have:=h.tag;omega
       have HA2:Hid (∀v,aMerge (absR rs P) j k=(absR ((rs.set j { r with op:=false }).set k { t with op:=false } ++ [⟨r.lo,t.hi,true,[(j:Int),(k:Int)],v,-1,0,0,0,0⟩]) P,(rs.length:Int),0)):=by
        intro v
        rw [uh HA,if_neg (by simp),if_neg (by simpa using hc),if_neg hl,absR_turn (by simpa using hPs),absR_close ht1,absR_close hr];rfl
       have HU:Hid (∀q:Nat,RefAt (((w.drewN q).setCell ⟨sb,j*9+2,none⟩ (.bool false)).setCell ⟨sb,k*9+2,none⟩ (.bool false)) ρ yb C time ((rs.set j { r with op:=false }).set k { t with op:=false }) P wv fv (.slice (some ⟨sb,0,none⟩) rs.length cap) lv):=by
        intro q
        have:=(((h.keeps (Keeps.drewN w q) (fun _ (h:False)=>h.elim) (fun _ _=>rfl)).close j r hr))
        have h2:RefAt ((w.drewN q).setCell ⟨sb,j*9+2,none⟩ (.bool false)) ρ yb C time (rs.set j { r with op:=false }) P wv fv (.slice (some ⟨sb,0,none⟩) (rs.set j { r with op:=false }).length cap) lv:=by
         rw [List.length_set];exact this
        have h3:=h2.close k t ht1
        rw [List.length_set] at h3
        exact h3
       have HFU:Hid (∀q:Nat,Fits (((w.drewN q).setCell ⟨sb,j*9+2,none⟩ (.bool false)).setCell ⟨sb,k*9+2,none⟩ (.bool false)) ρ):=fun q x hx=>hf x (by simpa [World.setCell] using hx)
       have HKU:Hid (∀q:Nat,Keeps (theirs ρ) w (((w.drewN q).setCell ⟨sb,j*9+2,none⟩ (.bool false)).setCell ⟨sb,k*9+2,none⟩ (.bool false))):=fun q=>((Keeps.drewN w q).setCell (Or.inl (show theirs ρ sb by unfold theirs;omega)) _).setCell (Or.inl (show theirs ρ sb by unfold theirs;omega)) _
       have HZU:Hid (∀q:Nat,(((w.drewN q).setCell ⟨sb,j*9+2,none⟩ (.bool false)).setCell ⟨sb,k*9+2,none⟩ (.bool false)).heap.size=w.heap.size):=fun q=>by simp [World.setCell]
       have HF:=hide hf
       have HMo:Hid (∀m,(∀x ∈ m,Fresh x)→More rs ((rs.set j { r with op:=false }).set k { t with op:=false } ++ m)):=fun m hm=>More.two hr ht1 m hm
       have HR1:=hide hr
       have HT1:=hide ht1
       clear h hf hr hr2 ht ht1 hcell e1 e2 HSame HA ro to hlh hc hPs ff
       go_enter Tryz.func103,Tryz.ntmps103
       go_wp2_with fail
       refine (uh HTh).mono ?_;rintro e w' ⟨rfl,rfl⟩
       go_wp2_with fail
       refine (uh HTj).mono ?_;rintro e w' ⟨rfl,rfl⟩
       go_wp2
       go_quiet (fail)
       go_wp2
       have RU:=hide (uh HU nq)
       have FU:=hide (uh HFU nq)
       have KU:=hide (uh HKU nq)
       have zU:=uh HZU nq
       have u0:(((w.drewN nq).setCell ⟨sb,j*9+2,none⟩ (.bool false)).setCell ⟨sb,k*9+2,none⟩ (.bool false)).cell? ⟨sb,j*9,none⟩=some (.int .i64 r.lo):=by rw [World.cell?_setCell_other _ _ _ _ (by intro e;injection e with e1 e2;omega),World.cell?_setCell_other _ _ _ _ (by intro e;injection e with e1 e2;omega)];exact b0
       have u1:(((w.drewN nq).setCell ⟨sb,j*9+2,none⟩ (.bool false)).setCell ⟨sb,k*9+2,none⟩ (.bool false)).cell? ⟨sb,k*9+1,none⟩=some (.int .i64 t.hi):=by rw [World.cell?_setCell_other _ _ _ _ (by intro e;injection e with e1 e2;omega),World.cell?_setCell_other _ _ _ _ (by intro e;injection e with e1 e2;omega)];exact d1
       clear HU HFU HKU HZU c7 f7 f2 g2 b0 b1 b2 d0 d1 d2 HTh HTj hbq
       generalize ((w.drewN nq).setCell ⟨sb,j*9+2,none⟩ (.bool false)).setCell ⟨sb,k*9+2,none⟩ (.bool false)=U at *
       have y7:U.cell? ⟨yb,7,none⟩=some (.slice (some ⟨sb,0,none⟩) rs.length cap):=cell_of (uh RU).blk 7
       have fy7:=frozen_of (uh RU).blk 7
       have hybU:yb<U.heap.size:=by omega
       have hsbU:sb<U.heap.size:=by omega
       obtain ⟨i0,hi0,hz0,hz1,hz2⟩:=info_parts info98
       have HX0:Hid ((rowRf ((rs.set j { r with op:=false }).set k { t with op:=false }))[j*9]?=some (.int .i64 r.lo)):=by (refine (rowRf_get ((rs.set j { r with op:=false }).set k { t with op:=false }) j 0 (by omega) { r with op:=false } ?_).trans rfl;rw [List.getElem?_set_ne (Ne.symm hjk),List.getElem?_set_self hj])
       have HX1:Hid ((rowRf ((rs.set j { r with op:=false }).set k { t with op:=false }))[k*9+1]?=some (.int .i64 t.hi)):=by (refine (rowRf_get ((rs.set j { r with op:=false }).set k { t with op:=false }) k 1 (by omega) { t with op:=false } ?_).trans rfl;rw [List.getElem?_set_self (by simpa using hk)])
       have HS:Hid (∀W,Below U.heap.size U W→(fun w'=>w'.cell? ⟨sb,j*9,none⟩=some (.int .i64 r.lo)∧w'.cell? ⟨sb,k*9+1,none⟩=some (.int .i64 t.hi)∧w'.cell? ⟨yb,7,none⟩=some (.slice (some ⟨sb,0,none⟩) rs.length cap)) W):=fun W hb=>⟨(hb.cell (p:=⟨sb,j*9,none⟩) hsbU).trans u0,(hb.cell (p:=⟨sb,k*9+1,none⟩) hsbU).trans u1,(hb.cell (p:=⟨yb,7,none⟩) hybU).trans y7⟩
       have B0:Hid (Below U.heap.size U U.drew):=(Below.refl _ _).drew
       have HFin:Hid (∀(W w3:World) (b1 g cap3:Nat),Below U.heap.size U W→W.heap[b1]?=some (.cells #[.int .i64 j,.int .i64 k] 3 (0,0))→U.heap.size≤b1→w3.ownsRow 0 73 9 (.slice (some ⟨g,0,none⟩) (rs.length+1) cap3) (rs.length+1) ((rowRf ((rs.set j { r with op:=false }).set k { t with op:=false })) ++ rfCells ⟨r.lo,t.hi,true,[(j:Int),(k:Int)],.slice (some ⟨b1,0,none⟩) 2 2,-1,0,0,0,0⟩)→W.grownBy w3 (some sb)→(some sb=some g∨g=W.heap.size)→RefTurn w ρ yb C time rs P wv fv (aMerge (absR rs P) j k) (.returned (.tuple #[.int .i64 rs.length,.int .i64 0])) (w3.setCell ⟨yb,7,none⟩ (.slice (some ⟨g,0,none⟩) (rs.length+1) cap3))):=by
        intro W w3 b1 g cap3 hB e1 l1 hown hgrow hat
        rw [uh HA2 (.slice (some ⟨b1,0,none⟩) 2 2)]
        refine ⟨rfl,((rs.set j { r with op:=false }).set k { t with op:=false }) ++ [⟨r.lo,t.hi,true,[(j:Int),(k:Int)],.slice (some ⟨b1,0,none⟩) 2 2,-1,0,0,0,0⟩],rfl,uh HMo _ (by simp [Fresh]),?_⟩
        refine RefPost.trans (uh KU) (ExtR.refl (uh HF)) ((uh RU).grow (uh FU) (W:=W) (w3:=w3) [⟨r.lo,t.hi,true,[(j:Int),(k:Int)],.slice (some ⟨b1,0,none⟩) 2 2,-1,0,0,0,0⟩] ((Keeps.of_below hB).mono (fun q hq hs=>absurd hs (by omega))) ?_ g cap3 (rs.length+1) (by simp) (by simpa [rowRf] using hown) hgrow hat)
        intro q hq
        simp at hq
        subst hq
        exact ⟨b1,rfl,by simpa using e1,l1,by simp⟩
       have HRow:Hid (∀W,Below U.heap.size U W→W.ownsRow 0 73 9 (.slice (some ⟨sb,0,none⟩) rs.length cap) rs.length (rowRf ((rs.set j { r with op:=false }).set k { t with op:=false }))):=fun W hB=>by simpa using ((uh RU).keeps (Keeps.of_below hB) (fun _ hk=>Or.inr hk) (fun _ _=>rfl)).row
       have HN2:Hid (some yb≠(Value.slice (some ⟨sb,0,none⟩) rs.length cap).ownBlock):=by (unfold Hid;simp [Value.ownBlock];omega)
       clear zU
       refine wp_region_but (S:=(fun w'=>w'.cell? ⟨sb,j*9,none⟩=some (.int .i64 r.lo)∧w'.cell? ⟨sb,k*9+1,none⟩=some (.int .i64 t.hi)∧w'.cell? ⟨yb,7,none⟩=some (.slice (some ⟨sb,0,none⟩) rs.length cap))) (z:=29) (by kernel_rfl) 30 rfl #[false,false,false,false,false,false,false,false,false,false,false,false,false,false,false,false,false,false,false,false,false,false,false,false,false,false,false,false,false,false] rfl ?_
       generalize U.drew=V at *
       refine anyBut_take (i:=0) (v:=?_) (l':=#[true,false,false,false,false,false,false,false,false,false,false,false,false,false,false,false,false,false,false,false,false,false,false,false,false,false,false,false,false,false]) rfl (by kernel_rfl) (by kernel_rfl) (by kernel_rfl) (by kernel_rfl) rfl (fun _ _ _ h=>h) rfl ?_ (uh HS _ (uh B0)) ?_
       rotate_left
       ·intro w' hSw;go_simp;try with_reducible rfl
       refine anyBut_take (i:=1) (v:=?_) (l':=#[true,true,false,false,false,false,false,false,false,false,false,false,false,false,false,false,false,false,false,false,false,false,false,false,false,false,false,false,false,false]) rfl (by kernel_rfl) (by kernel_rfl) (by kernel_rfl) (by kernel_rfl) rfl (fun _ _ _ h=>h) rfl ?_ (uh HS _ (uh B0)) ?_
       rotate_left
       ·intro w' hSw;go_simp;try with_reducible rfl
       refine anyBut_take (i:=2) (v:=?_) (l':=#[true,true,true,false,false,false,false,false,false,false,false,false,false,false,false,false,false,false,false,false,false,false,false,false,false,false,false,false,false,false]) rfl (by kernel_rfl) (by kernel_rfl) (by kernel_rfl) (by kernel_rfl) rfl (fun _ _ _ h=>h) rfl ?_ (uh HS _ (uh B0)) ?_
       rotate_left
       ·intro w' hSw;go_simp;try with_reducible rfl
       refine anyBut_take (i:=3) (v:=?_) (l':=#[true,true,true,true,false,false,false,false,false,false,false,false,false,false,false,false,false,false,false,false,false,false,false,false,false,false,false,false,false,false]) rfl (by kernel_rfl) (by kernel_rfl) (by kernel_rfl) (by kernel_rfl) rfl (fun _ _ _ h=>h) rfl ?_ (uh HS _ (uh B0)) ?_
       rotate_left
       ·intro w' hSw;go_simp;try with_reducible rfl
       refine anyBut_take (i:=4) (v:=?_) (l':=#[true,true,true,true,true,false,false,false,false,false,false,false,false,false,false,false,false,false,false,false,false,false,false,false,false,false,false,false,false,false]) rfl (by kernel_rfl) (by kernel_rfl) (by kernel_rfl) (by kernel_rfl) rfl (fun _ _ _ h=>h) rfl ?_ (uh HS _ (uh B0)) ?_
       rotate_left
       ·intro w' hSw;obtain ⟨q0,q1,q2⟩:=hSw;go_simp;try with_reducible rfl
       refine anyBut_take (i:=5) (v:=?_) (l':=#[true,true,true,true,true,true,false,false,false,false,false,false,false,false,false,false,false,false,false,false,false,false,false,false,false,false,false,false,false,false]) rfl (by kernel_rfl) (by kernel_rfl) (by kernel_rfl) (by kernel_rfl) rfl (fun _ _ _ h=>h) rfl ?_ (uh HS _ (uh B0)) ?_
       rotate_left
       ·intro w' hSw;go_simp;try with_reducible rfl
       refine anyBut_take (i:=6) (v:=?_) (l':=#[true,true,true,true,true,true,true,false,false,false,false,false,false,false,false,false,false,false,false,false,false,false,false,false,false,false,false,false,false,false]) rfl (by kernel_rfl) (by kernel_rfl) (by kernel_rfl) (by kernel_rfl) rfl (fun _ _ _ h=>h) rfl ?_ (uh HS _ (uh B0)) ?_
       rotate_left
       ·intro w' hSw;go_simp;try with_reducible rfl
       refine anyBut_take (i:=7) (v:=?_) (l':=#[true,true,true,true,true,true,true,true,false,false,false,false,false,false,false,false,false,false,false,false,false,false,false,false,false,false,false,false,false,false]) rfl (by kernel_rfl) (by kernel_rfl) (by kernel_rfl) (by kernel_rfl) rfl (fun _ _ _ h=>h) rfl ?_ (uh HS _ (uh B0)) ?_
       rotate_left
       ·intro w' hSw;go_simp;try with_reducible rfl
       refine anyBut_take (i:=8) (v:=?_) (l':=#[true,true,true,true,true,true,true,true,true,false,false,false,false,false,false,false,false,false,false,false,false,false,false,false,false,false,false,false,false,false]) rfl (by kernel_rfl) (by kernel_rfl) (by kernel_rfl) (by kernel_rfl) rfl (fun _ _ _ h=>h) rfl ?_ (uh HS _ (uh B0)) ?_
       rotate_left
       ·intro w' hSw;obtain ⟨q0,q1,q2⟩:=hSw;go_simp;try with_reducible rfl
       refine anyBut_take (i:=9) (v:=?_) (l':=#[true,true,true,true,true,true,true,true,true,true,false,false,false,false,false,false,false,false,false,false,false,false,false,false,false,false,false,false,false,false]) rfl (by kernel_rfl) (by kernel_rfl) (by kernel_rfl) (by kernel_rfl) rfl (fun _ _ _ h=>h) rfl ?_ (uh HS _ (uh B0)) ?_
       rotate_left
       ·intro w' hSw;go_simp;try with_reducible rfl
       refine anyBut_take (i:=10) (v:=?_) (l':=#[true,true,true,true,true,true,true,true,true,true,true,false,false,false,false,false,false,false,false,false,false,false,false,false,false,false,false,false,false,false]) rfl (by kernel_rfl) (by kernel_rfl) (by kernel_rfl) (by kernel_rfl) rfl (fun _ _ _ h=>h) rfl ?_ (uh HS _ (uh B0)) ?_
       rotate_left
       ·intro w' hSw;go_simp;try with_reducible rfl
       refine anyBut_take (i:=11) (v:=?_) (l':=#[true,true,true,true,true,true,true,true,true,true,true,true,false,false,false,false,false,false,false,false,false,false,false,false,false,false,false,false,false,false]) rfl (by kernel_rfl) (by kernel_rfl) (by kernel_rfl) (by kernel_rfl) rfl (fun _ _ _ h=>h) rfl ?_ (uh HS _ (uh B0)) ?_
       rotate_left
       ·intro w' hSw;go_simp;try with_reducible rfl
       refine anyBut_take (i:=12) (v:=?_) (l':=#[true,true,true,true,true,true,true,true,true,true,true,true,true,false,false,false,false,false,false,false,false,false,false,false,false,false,false,false,false,false]) rfl (by kernel_rfl) (by kernel_rfl) (by kernel_rfl) (by kernel_rfl) rfl (fun _ _ _ h=>h) rfl ?_ (uh HS _ (uh B0)) ?_
       rotate_left
       ·intro w' hSw;obtain ⟨q0,q1,q2⟩:=hSw;go_simp;try with_reducible rfl
       refine anyBut_take (i:=13) (v:=?_) (l':=#[true,true,true,true,true,true,true,true,true,true,true,true,true,true,false,false,false,false,false,false,false,false,false,false,false,false,false,false,false,false]) rfl (by kernel_rfl) (by kernel_rfl) (by kernel_rfl) (by kernel_rfl) rfl (fun _ _ _ h=>h) rfl ?_ (uh HS _ (uh B0)) ?_
       rotate_left
       ·intro w' hSw;go_simp;try with_reducible rfl
       refine anyBut_take (i:=14) (v:=?_) (l':=#[true,true,true,true,true,true,true,true,true,true,true,true,true,true,true,false,false,false,false,false,false,false,false,false,false,false,false,false,false,false]) rfl (by kernel_rfl) (by kernel_rfl) (by kernel_rfl) (by kernel_rfl) rfl (fun _ _ _ h=>h) rfl ?_ (uh HS _ (uh B0)) ?_
       rotate_left
       ·intro w' hSw;go_simp;try with_reducible rfl
       refine anyBut_take (i:=15) (v:=?_) (l':=#[true,true,true,true,true,true,true,true,true,true,true,true,true,true,true,true,false,false,false,false,false,false,false,false,false,false,false,false,false,false]) rfl (by kernel_rfl) (by kernel_rfl) (by kernel_rfl) (by kernel_rfl) rfl (fun _ _ _ h=>h) rfl ?_ (uh HS _ (uh B0)) ?_
       rotate_left
       ·intro w' hSw;go_simp;try with_reducible rfl
       refine anyBut_take (i:=16) (v:=?_) (l':=#[true,true,true,true,true,true,true,true,true,true,true,true,true,true,true,true,true,false,false,false,false,false,false,false,false,false,false,false,false,false]) rfl (by kernel_rfl) (by kernel_rfl) (by kernel_rfl) (by kernel_rfl) rfl (fun _ _ _ h=>h) rfl ?_ (uh HS _ (uh B0)) ?_
       rotate_left
       ·intro w' hSw;obtain ⟨q0,q1,q2⟩:=hSw;go_simp;try with_reducible rfl
       refine anyBut_take (i:=17) (v:=?_) (l':=#[true,true,true,true,true,true,true,true,true,true,true,true,true,true,true,true,true,true,false,false,false,false,false,false,false,false,false,false,false,false]) rfl (by kernel_rfl) (by kernel_rfl) (by kernel_rfl) (by kernel_rfl) rfl (fun _ _ _ h=>h) rfl ?_ (uh HS _ (uh B0)) ?_
       rotate_left
       ·intro w' hSw;go_simp;try with_reducible rfl
       refine anyBut_take (i:=18) (v:=?_) (l':=#[true,true,true,true,true,true,true,true,true,true,true,true,true,true,true,true,true,true,true,false,false,false,false,false,false,false,false,false,false,false]) rfl (by kernel_rfl) (by kernel_rfl) (by kernel_rfl) (by kernel_rfl) rfl (fun _ _ _ h=>h) rfl ?_ (uh HS _ (uh B0)) ?_
       rotate_left
       ·intro w' hSw;go_simp;try with_reducible rfl
       refine anyBut_take (i:=19) (v:=?_) (l':=#[true,true,true,true,true,true,true,true,true,true,true,true,true,true,true,true,true,true,true,true,false,false,false,false,false,false,false,false,false,false]) rfl (by kernel_rfl) (by kernel_rfl) (by kernel_rfl) (by kernel_rfl) rfl (fun _ _ _ h=>h) rfl ?_ (uh HS _ (uh B0)) ?_
       rotate_left
       ·intro w' hSw;go_simp;try with_reducible rfl
       refine anyBut_take (i:=20) (v:=?_) (l':=#[true,true,true,true,true,true,true,true,true,true,true,true,true,true,true,true,true,true,true,true,true,false,false,false,false,false,false,false,false,false]) rfl (by kernel_rfl) (by kernel_rfl) (by kernel_rfl) (by kernel_rfl) rfl (fun _ _ _ h=>h) rfl ?_ (uh HS _ (uh B0)) ?_
       rotate_left
       ·intro w' hSw;obtain ⟨q0,q1,q2⟩:=hSw;go_simp;try with_reducible rfl
       refine anyBut_take (i:=21) (v:=?_) (l':=#[true,true,true,true,true,true,true,true,true,true,true,true,true,true,true,true,true,true,true,true,true,true,false,false,false,false,false,false,false,false]) rfl (by kernel_rfl) (by kernel_rfl) (by kernel_rfl) (by kernel_rfl) rfl (fun _ _ _ h=>h) rfl ?_ (uh HS _ (uh B0)) ?_
       rotate_left
       ·intro w' hSw;go_simp;try with_reducible rfl
       refine anyBut_take (i:=22) (v:=?_) (l':=#[true,true,true,true,true,true,true,true,true,true,true,true,true,true,true,true,true,true,true,true,true,true,true,false,false,false,false,false,false,false]) rfl (by kernel_rfl) (by kernel_rfl) (by kernel_rfl) (by kernel_rfl) rfl (fun _ _ _ h=>h) rfl ?_ (uh HS _ (uh B0)) ?_
       rotate_left
       ·intro w' hSw;go_simp;try with_reducible rfl
       refine anyBut_one (i:=23) (l':=#[true,true,true,true,true,true,true,true,true,true,true,true,true,true,true,true,true,true,true,true,true,true,true,true,false,false,false,false,false,false]) (by kernel_rfl) rfl rfl rfl (fun K hK=>?_)
       go_simp
       have B1:Hid (Below U.heap.size U (V.alloc (Obj.cells #[Value.int .i64 j,Value.int .i64 k] 3))):=(uh B0).alloc (uh B0).size _
       refine hK.out _ _ (fun _=>uh HS _ (uh B1)) ?_
       clear hK K
       have e1:Hid ((V.alloc (Obj.cells #[Value.int .i64 j,Value.int .i64 k] 3)).heap[V.heap.size]?=some (.cells #[.int .i64 j,.int .i64 k] 3 (0,0))):=heap_alloc_new _ _
       have l1:Hid (U.heap.size≤V.heap.size):=(uh B0).size
       generalize V.alloc (Obj.cells #[Value.int .i64 j,Value.int .i64 k] 3)=W1 at *
       refine anyBut_one (i:=24) (l':=#[true,true,true,true,true,true,true,true,true,true,true,true,true,true,true,true,true,true,true,true,true,true,true,true,true,false,false,false,false,false]) (by kernel_rfl) rfl rfl rfl (fun K hK=>?_)
       go_simp
       refine (refFresh_any _ _ _ _ _ _).mono ?_;rintro e W2 ⟨rfl,hbF⟩
       have B2:Hid (Below U.heap.size U W2):=(uh B1).trans (hbF.mono (uh B1).size)
       have e2:Hid (W2.heap[V.heap.size]?=some (.cells #[.int .i64 j,.int .i64 k] 3 (0,0))):=(hbF.block _ (lt_of_heap (uh e1))).trans (uh e1)
       clear hbF
       go_wp2
       refine hK.out _ _ (fun _=>uh HS _ (uh B2)) ?_
       clear hK K
       try simp only [Act.put,List.setIfInBounds_toArray]
       refine anyBut_one (i:=25) (l':=#[true,true,true,true,true,true,true,true,true,true,true,true,true,true,true,true,true,true,true,true,true,true,true,true,true,true,false,false,false,false]) (by kernel_rfl) rfl rfl rfl (fun K hK=>?_)
       go_simp
       have BZ:Hid (Below U.heap.size U (W2.alloc (Obj.cells #[.int .i64 r.lo,.int .i64 t.hi,.bool true,.slice (some ⟨V.heap.size,0,none⟩) 2 2,.int .i64 (-1),.int .i64 0,.int .i64 0,.int .i64 0,.int .i64 0] 73))):=(uh B2).alloc (uh B2).size _
       refine hK.out _ _ (fun _=>uh HS _ (uh BZ)) ?_
       clear hK K
       have eZ:=hide (heap_alloc_new W2 (Obj.cells #[.int .i64 r.lo,.int .i64 t.hi,.bool true,.slice (some ⟨V.heap.size,0,none⟩) 2 2,.int .i64 (-1),.int .i64 0,.int .i64 0,.int .i64 0,.int .i64 0] 73))
       have e3:Hid ((W2.alloc (Obj.cells #[.int .i64 r.lo,.int .i64 t.hi,.bool true,.slice (some ⟨V.heap.size,0,none⟩) 2 2,.int .i64 (-1),.int .i64 0,.int .i64 0,.int .i64 0,.int .i64 0] 73)).heap[V.heap.size]?=some (.cells #[.int .i64 j,.int .i64 k] 3 (0,0))):=(Below.heap_alloc _ _ _ (lt_of_heap (uh e2))).trans (uh e2)
       generalize W2.alloc (Obj.cells #[.int .i64 r.lo,.int .i64 t.hi,.bool true,.slice (some ⟨V.heap.size,0,none⟩) 2 2,.int .i64 (-1),.int .i64 0,.int .i64 0,.int .i64 0,.int .i64 0] 73)=Z at *
       refine anyBut_one (i:=26) (l':=#[true,true,true,true,true,true,true,true,true,true,true,true,true,true,true,true,true,true,true,true,true,true,true,true,true,true,true,false,false,false]) (by kernel_rfl) rfl rfl rfl (fun K hK=>?_)
       refine wp_append_stands _ _ _ _ rfl 0 73 i0 _ 9 88 Tryz.underlying75 hi0 hz0 hz1 hz2 rfl (by omega) _ rs.length (rowRf ((rs.set j { r with op:=false }).set k { t with op:=false })) rfl (uh HRow _ (uh BZ)) ⟨W2.heap.size,0,none⟩ 1 1 (rfCells ⟨r.lo,t.hi,true,[(j:Int),(k:Int)],.slice (some ⟨V.heap.size,0,none⟩) 2 2,-1,0,0,0,0⟩) rfl rfl (World.news_of_block (uh eZ)) (rf_one _ ⟨_,_,_,rfl⟩) (by omega) (by unfold maxLen;omega) (by omega) (Nat.zero_le _) ?_
       intro g3 cap3 w3 hown3 hgrow3 hat3 hlt3 hst3
       have HS3:(fun w'=>w'.cell? ⟨sb,j*9,none⟩=some (.int .i64 r.lo)∧w'.cell? ⟨sb,k*9+1,none⟩=some (.int .i64 t.hi)∧w'.cell? ⟨yb,7,none⟩=some (.slice (some ⟨sb,0,none⟩) rs.length cap)) w3:=⟨row_cell_stands hown3 hst3 (uh HX0) (uh HS _ (uh BZ)).1,row_cell_stands hown3 hst3 (uh HX1) (uh HS _ (uh BZ)).2.1,hgrow3.cell (uh HS _ (uh BZ)).2.2 (uh HN2)⟩
       have z7:=HS3.2.2
       have zf:w3.frozen? ⟨yb,7,none⟩=false:=(hgrow3.frozen_far _ (Nat.lt_of_lt_of_le hybU (uh BZ).size) (uh HN2)).trans (((uh BZ).frozen hybU).trans fy7)
       have HF3:=hide (uh HFin Z w3 V.heap.size g3 cap3 (uh BZ) (uh e3) (uh l1) hown3 hgrow3 hat3)
       have HS4:=hide HS3
       clear hown3 hgrow3 hat3 hlt3 hst3 HS3
       refine hK.out _ _ (fun _=>uh HS4) ?_
       clear hK K
       simp only [Act.put,List.setIfInBounds_toArray]
       refine anyBut_one (i:=27) (l':=#[true,true,true,true,true,true,true,true,true,true,true,true,true,true,true,true,true,true,true,true,true,true,true,true,true,true,true,true,false,false]) (by kernel_rfl) rfl rfl rfl (fun K hK=>?_)
       go_simp
       refine hK.out _ _ (fun _=>uh HS4) ?_
       clear hK K
       refine anyBut_one (i:=28) (l':=#[true,true,true,true,true,true,true,true,true,true,true,true,true,true,true,true,true,true,true,true,true,true,true,true,true,true,true,true,true,false]) (by kernel_rfl) rfl rfl rfl (fun K hK=>?_)
       go_simp
       refine hK.out _ _ (fun _=>uh HS4) ?_
       clear hK K
       refine anyBut_one (i:=29) (l':=#[true,true,true,true,true,true,true,true,true,true,true,true,true,true,true,true,true,true,true,true,true,true,true,true,true,true,true,true,true,true]) (by kernel_rfl) rfl rfl rfl (fun K hK=>?_)
       go_simp
       refine hK.out _ _ (fun h=>absurd rfl h) (anyBut_done (by kernel_rfl) ?_ _)
       clear hK K
       go_wp2
       go_ret2
       exact uh HF3
     ·have hrb:(r.hi != t.lo)=true:=by rw [bne_iff_ne];exact hc
      have HE:=hide (fun w' hb=>uh HSame 7 w' hb (by rw [uh HA,if_neg (by simp),if_pos hc]))
      clear h hf hr ht hcell e1 e2 HSame HA ro to hlh hc
      go_enter Tryz.func103,Tryz.ntmps103
      go_wp2_with fail
      refine (uh HTh).mono ?_;rintro e w' ⟨rfl,rfl⟩
      go_wp2_with fail
      refine (uh HTj).mono ?_;rintro e w' ⟨rfl,rfl⟩
      go_wp2
      go_quiet (fail)
      go_wp2
      go_ret2
      exact uh HE _ (hbq _)
  ·have e1:decide (0≤n∧n<rs.length)=true:=by simp;omega
   have e2:decide (0≤a∧a<rs.length)=false:=by simp;omega
   rw [e1] at HTh
   rw [e2] at HTj
   have HE:=hide (uh HSame 5 w (Below.refl _ _) (by unfold aMerge;rw [if_neg (by rw [absR_len];exact fun h=>hna h.2)]))
   clear h hf hcell e1 e2 HSame hn hna hlh
   go_enter Tryz.func103,Tryz.ntmps103
   go_wp2_with fail
   refine (uh HTh).mono ?_;rintro e w' ⟨rfl,rfl⟩
   go_wp2_with fail
   refine (uh HTj).mono ?_;rintro e w' ⟨rfl,rfl⟩
   go_wp2
   go_ret2
   exact uh HE
 ·have e1:decide (0≤n∧n<rs.length)=false:=by simp;omega
  rw [e1] at HTh
  generalize decide (0≤a∧a<(rs.length:Int))=qa at HTj
  have HE:=hide (uh HSame 5 w (Below.refl _ _) (by unfold aMerge;rw [if_neg (by rw [absR_len];exact fun h=>hn h.1)]))
  clear h hf hcell e1 HSame hn hlh
  go_enter Tryz.func103,Tryz.ntmps103
  go_wp2_with fail
  refine (uh HTh).mono ?_;rintro e w' ⟨rfl,rfl⟩
  go_wp2_with fail
  refine (uh HTj).mono ?_;rintro e w' ⟨rfl,rfl⟩
  go_wp2
  go_ret2
  exact uh HE
end Go.Proofs.YtpnkmnmchdabkaaGreat
