import Derived.Test.YtpnkmnmchdabkaaGreatM14
import Derived.Test.YtpnkmnmchdabkaaGreatM08
namespace Go.Proofs.YtpnkmnmchdabkaaGreat
open Go.RowKit
attribute [local go_sem ↓] Go.wp_at_zero Go.wp_at_succ
def dnR (rs:List Rf) (k:Nat):Int:=(rs[k]?.map (·.done)).getD 0
theorem all_take_snoc (ps:List Int) (f:Int→Bool) (k:Nat) (h:k<ps.length):(ps.take (k+1)).all f=((ps.take k).all f && f ps[k]):=by
 rw [List.take_succ_eq_append_getElem h,List.all_append];simp
theorem all_not (ps:List Int) (f:Int→Bool) (k:Nat) (h:k<ps.length) (hf:f ps[k]=false):ps.all f=false:=by
 rw [List.all_eq_false]
 exact ⟨ps[k],List.getElem_mem _,by simp [hf]⟩
set_option maxRecDepth 100000 in
set_option maxHeartbeats 2000000 in
theorem refReady_of {w:World} {ρ:Nat→Nat} {yb:Nat} {C:Cfg} {time:Int} {rs:List Rf} {P:List Pt} {wv:Wks} {fv sv lv:Value} (h:RefAt w ρ yb C time rs P wv fv sv lv) (hI:Inv (absR rs P)) (k:Nat) (hk:k<rs.length)
 (ih:∀q,q<k→∀W,Below w.heap.size w W→Calls Tryz.prog 88 #[.pointer (some ⟨yb,0,none⟩),.int .i64 q] W fun e w'=>e=.returned (.bool (fin (absR rs P) (dnR rs) q))∧Below W.heap.size W w') :
 ∀W,Below w.heap.size w W→Calls Tryz.prog 93 #[.pointer (some ⟨yb,0,none⟩),.int .i64 k] W fun e w'=>e=.returned (.bool (rdy (absR rs P) (dnR rs) k))∧Below W.heap.size W w':=by
 intro W hW
 obtain ⟨r,hr⟩:∃r,rs[k]?=some r:=⟨_,List.getElem?_eq_getElem hk⟩
 have hrd:=rdy_is (dnR rs) (absR_get (P:=P) hr)
 simp only at hrd
 have hpr:=hI.parR k _ (absR_get (P:=P) hr)
 simp only at hpr
 have hpl:=(hI.parL k _ (absR_get (P:=P) hr)).1
 simp only at hpl
 have hR:=h.keeps (Keeps.of_below hW) (fun _ hk=>Or.inr hk) (fun _ _=>rfl)
 obtain ⟨sb,cap,rfl,hsb,_,_,hcell⟩:=hR.shards (by omega)
 have c7:W.cell? ⟨yb,7,none⟩=some (.slice (some ⟨sb,0,none⟩) rs.length cap):=cell_of hR.blk 7
 have c3:W.cell? ⟨sb,k*9+3,none⟩=some r.pv:=hcell k r hr 3 (by omega)
 have hrp:=hR.par k r hr
 obtain ⟨pa,pc,hpv⟩:=ownsRow_len hrp
 rw [hpv] at c3 hrp
 have HPv:Hid (∀i (hi:i<r.par.length),∃pb,pa=some ⟨pb,0,none⟩∧pb<W.heap.size∧W.cell? ⟨pb,i,none⟩=some (.int .i64 r.par[i])):=by
  intro i hi
  obtain ⟨pb,cp,cur,hv1,_,hcb,_⟩:=ownsRow_shape hrp (by omega)
  injection hv1 with e1 _ _
  refine ⟨pb,e1,lt_of_heap hcb,?_⟩
  subst e1
  have:=World.ownsRow.cellAt hrp i (by omega)
  rw [this];simp [hi]
 have HIh:=hide ih
 have HRd:=hide hrd
 have HPr:=hide hpr
 have HW:=hide hW
 have hWz:=hW.size
 clear hR hcell hrp hrd hpr hpv ih h hW hI
 go_enter Tryz.func93,Tryz.ntmps93
 go_wp2
 go_loopw [6] (fun i wr=>∃j:Nat,j≤r.par.length∧i=.int .i64 j∧(r.par.take j).all (fun p=>fin (absR rs P) (dnR rs) p.toNat)=true∧Below W.heap.size W wr) (fun i _=>r.par.length - (intOf i).toNat)
 case atStart=>exact ⟨0,Nat.zero_le _,rfl,by simp,Below.refl _ _⟩
 case round =>
  obtain ⟨j,hj,rfl,hall,hb⟩:=hrel
  by_cases hlt:j<r.par.length
  ·obtain ⟨pb,rfl,hpb,hc⟩:=uh HPv j hlt
   obtain ⟨q,t,hq,hqk,_⟩:=uh HPr r.par[j] (List.getElem_mem _)
   have hc:=(hb.cell (p:=⟨pb,j,none⟩) hpb).trans hc
   rw [hq] at hc
   have HC:=hide (uh HIh q hqk wr ((uh HW).trans (hb.mono (by omega))))
   have HA:=hide hall
   have HB:=hide hb
   have HQ:=hide hq
   have hbz:=hb.size
   clear hall hb hq
   cases hf:fin (absR rs P) (dnR rs) q
   ·have HF:=hide hf
    rw [hf] at HC
    clear hf
    go_wp2_with (go_at_call 88;refine (uh HC).mono ?_;rintro e w2 ⟨rfl,hb2⟩;have HB2:=hide hb2;clear hb2)
    go_ret
    refine ⟨ret_bool ?_,(uh HB).trans ((uh HB2).mono (by omega))⟩
    rw [uh HRd,all_not r.par _ j hlt]
    show fin (absR rs P) (dnR rs) r.par[j].toNat=false
    rw [uh HQ];exact uh HF
   ·have HF:=hide hf
    rw [hf] at HC
    clear hf
    go_wp2_with (go_at_call 88;refine (uh HC).mono ?_;rintro e w2 ⟨rfl,hb2⟩;have HB2:=hide hb2;clear hb2)
    go_roundw
    case rel =>
     refine ⟨j+1,by omega,by go_num,?_,(uh HB).trans ((uh HB2).mono (by omega))⟩
     rw [all_take_snoc _ _ _ hlt,uh HA,uh HQ]
     exact uh HF
    case measure=>simp [intOf];omega
  ·have ej:j=r.par.length:=by omega
   subst ej
   rw [List.take_length] at hall
   have HA:=hide hall
   have HB:=hide hb
   clear hall hb
   go_wp2
   go_ret
   exact ⟨ret_bool (by rw [uh HRd,uh HA]),uh HB⟩
set_option maxRecDepth 100000 in
set_option maxHeartbeats 2000000 in
theorem refFinished_of {w:World} {ρ:Nat→Nat} {yb:Nat} {C:Cfg} {time:Int} {rs:List Rf} {P:List Pt} {wv:Wks} {fv sv lv:Value} (h:RefAt w ρ yb C time rs P wv fv sv lv) (hI:Inv (absR rs P)) (hP:P.length≤1000000) (k:Nat) (hk:k<rs.length)
 (ih:∀W,Below w.heap.size w W→Calls Tryz.prog 93 #[.pointer (some ⟨yb,0,none⟩),.int .i64 k] W fun e w'=>e=.returned (.bool (rdy (absR rs P) (dnR rs) k))∧Below W.heap.size W w') :
 ∀W,Below w.heap.size w W→Calls Tryz.prog 88 #[.pointer (some ⟨yb,0,none⟩),.int .i64 k] W fun e w'=>e=.returned (.bool (fin (absR rs P) (dnR rs) k))∧Below W.heap.size W w':=by
 intro W hW
 obtain ⟨r,hr⟩:∃r,rs[k]?=some r:=⟨_,List.getElem?_eq_getElem hk⟩
 have hfi:=fin_is hI (dnR rs) (absR_get (P:=P) hr)
 simp only at hfi
 have hdn:dnR rs k=r.done:=by unfold dnR;rw [hr];rfl
 have hR:=h.keeps (Keeps.of_below hW) (fun _ hk=>Or.inr hk) (fun _ _=>rfl)
 have HRec:=hide (records_any hR hP k)
 obtain ⟨sb,cap,rfl,hsb,_,_,hcell⟩:=hR.shards (by omega)
 have c7:W.cell? ⟨yb,7,none⟩=some (.slice (some ⟨sb,0,none⟩) rs.length cap):=cell_of hR.blk 7
 have c2:W.cell? ⟨sb,k*9+2,none⟩=some (.bool r.op):=hcell k r hr 2 (by omega)
 have c8:W.cell? ⟨sb,k*9+7,none⟩=some (.int .i64 r.done):=hcell k r hr 7 (by omega)
 have hyb:=lt_of_heap hR.blk
 have HIh:=hide ih
 have HFi:=hide hfi
 have HDn:=hide hdn
 have HW:=hide hW
 have hWz:=hW.size
 clear hR hcell hfi hdn ih h hW hI
 go_enter Tryz.func88,Tryz.ntmps88
 go_wp2_with (go_at_call 43;refine (uh HRec).mono ?_;rintro e w1 ⟨a,cp,rfl,_,hb1⟩;have HB1:=hide hb1;clear hb1)
 have hz1:=(uh HB1).size
 have c7:=((uh HB1).cell (p:=⟨yb,7,none⟩) hyb).trans c7
 have c2:=((uh HB1).cell (p:=⟨sb,k*9+2,none⟩) hsb).trans c2
 have c8:=((uh HB1).cell (p:=⟨sb,k*9+7,none⟩) hsb).trans c8
 refine (uh HIh _ ((uh HW).trans ((uh HB1).mono hWz))).mono ?_
 rintro e w2 ⟨rfl,hb2⟩
 have HB2:Hid (Below W.heap.size W w2):=(uh HB1).trans (hb2.mono hz1)
 have c7:=(hb2.cell (p:=⟨yb,7,none⟩) (show yb<w1.heap.size by omega)).trans c7
 have c2:=(hb2.cell (p:=⟨sb,k*9+2,none⟩) (show sb<w1.heap.size by omega)).trans c2
 have c8:=(hb2.cell (p:=⟨sb,k*9+7,none⟩) (show sb<w1.heap.size by omega)).trans c8
 clear hb2
 cases hrd:rdy (absR rs P) (dnR rs) k
 ·have HRd:=hide hrd
  clear hrd
  go_wp2
  go_ret
  exact ⟨ret_bool (by rw [uh HFi,uh HRd];rfl),uh HB2⟩
 ·have HRd:=hide hrd
  clear hrd
  cases hop:r.op
  ·rw [hop] at c2 HFi
   go_wp2
   go_ret
   exact ⟨ret_bool (by rw [uh HFi,uh HRd,uh HDn];simp only [Bool.true_and,Bool.not_false];rw [Bool.eq_iff_iff];simp),uh HB2⟩
  ·rw [hop] at c2 HFi
   go_wp2
   go_ret
   exact ⟨ret_bool (by rw [uh HFi,uh HRd];rfl),uh HB2⟩
theorem refFin_any {w:World} {ρ:Nat→Nat} {yb:Nat} {C:Cfg} {time:Int} {rs:List Rf} {P:List Pt} {wv:Wks} {fv sv lv:Value} (h:RefAt w ρ yb C time rs P wv fv sv lv) (hI:Inv (absR rs P)) (hP:P.length≤1000000):∀(k:Nat),k<rs.length →
 (∀W,Below w.heap.size w W→Calls Tryz.prog 88 #[.pointer (some ⟨yb,0,none⟩),.int .i64 k] W fun e w'=>e=.returned (.bool (fin (absR rs P) (dnR rs) k))∧Below W.heap.size W w') ∧
 ∀W,Below w.heap.size w W→Calls Tryz.prog 93 #[.pointer (some ⟨yb,0,none⟩),.int .i64 k] W fun e w'=>e=.returned (.bool (rdy (absR rs P) (dnR rs) k))∧Below W.heap.size W w':=by
 intro k
 induction k using Nat.strongRecOn with
 | ind k ih =>
   intro hk
   have hr:=refReady_of h hI k hk (fun q hq=>(ih q hq (by omega)).1)
   exact ⟨refFinished_of h hI hP k hk hr,hr⟩
theorem rowNt_get (l:List Nt) (i j:Nat) (hj:j<3) (s:Nt) (h:l[i]?=some s):(rowNt l)[i*3+j]?=(ntCells s)[j]?:=by
 induction l generalizing i with
 | nil=>simp at h
 | cons x r ih =>
   cases i with
   | zero =>
     simp at h;subst h
     simp only [rowNt,Nat.zero_mul,Nat.zero_add]
     rw [List.getElem?_append_left (by simpa [ntCells] using hj)]
   | succ i =>
     simp at h
     simp only [rowNt]
     rw [List.getElem?_append_right (by simp only [ntCells,List.length_cons,List.length_nil];omega),←ih i h]
     congr 1
     simp only [ntCells,List.length_cons,List.length_nil];omega
theorem rowNt_append (l k:List Nt):rowNt (l ++ k)=rowNt l ++ rowNt k:=by
 induction l with
 | nil=>rfl
 | cons s r ih=>simp [rowNt,ih]
theorem rowWks_get (l:List Wk) (i:Nat) (y:Wk) (h:l[i]?=some y):(rowWks l)[i*2]?=some y.hv∧(rowWks l)[i*2+1]?=some y.nv:=by
 induction l generalizing i with
 | nil=>simp at h
 | cons x r ih =>
   cases i with
   | zero=>simp at h;subst h;exact ⟨rfl,rfl⟩
   | succ i =>
     simp at h
     rw [show (i+1)*2=i*2+2 by omega]
     exact ih i h
theorem rowWks_setH (l:List Wk) (i:Nat) (y y':Wk) (h:l[i]?=some y) (he:y'.nv=y.nv):(rowWks l).set (i*2) y'.hv=rowWks (l.set i y'):=by
 induction l generalizing i with
 | nil=>simp at h
 | cons x r ih =>
   cases i with
   | zero=>simp at h;subst h;simp only [Nat.zero_mul,rowWks,List.set_cons_zero,he]
   | succ i =>
     simp at h
     rw [show (i+1)*2=i*2+2 by omega]
     simp only [rowWks,List.set_cons_succ,ih i h]
theorem rowWks_setN (l:List Wk) (i:Nat) (y y':Wk) (h:l[i]?=some y) (he:y'.hv=y.hv):(rowWks l).set (i*2+1) y'.nv=rowWks (l.set i y'):=by
 induction l generalizing i with
 | nil=>simp at h
 | cons x r ih =>
   cases i with
   | zero=>simp at h;subst h;simp only [Nat.zero_mul,Nat.zero_add,rowWks,List.set_cons_succ,List.set_cons_zero,he]
   | succ i =>
     simp at h
     rw [show (i+1)*2+1=(i*2+1)+2 by omega]
     simp only [rowWks,List.set_cons_succ,ih i h]
theorem WkAt.shape {w:World} {ρ:Nat→Nat} {x:Wks} {fv:Value} (h:WkAt w ρ x fv) {i:Nat} {y:Wk} (hy:x.l[i]?=some y) :
 ∃vb vc,x.v=.slice (some ⟨vb,0,none⟩) x.l.length vc∧ρ vb=204∧vb<w.heap.size∧(∀j,w.frozen? ⟨vb,j,none⟩=false)∧w.cell? ⟨vb,i*2,none⟩=some y.hv∧w.cell? ⟨vb,i*2+1,none⟩=some y.nv:=by
 have hlt:=(List.getElem?_eq_some_iff.1 hy).1
 obtain ⟨g,cap,cur,hv,hb,hg,hn,hc,hsz,ht⟩:=ownsRow_shape h.row (by omega)
 refine ⟨g,cap,hv,h.rowT g (by rw [hv];rfl),lt_of_heap hg,fun j=>frozen_of hg j,?_,?_⟩
 ·have:=World.ownsRow.cellAt (hv ▸ h.row) (i*2) (by omega)
  rw [this];exact (rowWks_get x.l i y hy).1
 ·have:=World.ownsRow.cellAt (hv ▸ h.row) (i*2+1) (by omega)
  rw [this];exact (rowWks_get x.l i y hy).2
def ixOf:List Hd→Int→Nat→Int
 | [],_,_=>-1
 | h :: r,k,n=>if h.sh=k then n else ixOf r k (n+1)
theorem drop_at {α:Type} {l:List α} {j:Nat} {x:α} (h:l[j]?=some x):l.drop j=x :: l.drop (j+1):=by
 obtain ⟨hlt,he⟩:=List.getElem?_eq_some_iff.1 h
 rw [List.drop_eq_getElem_cons hlt,he]
set_option maxHeartbeats 400000 in
theorem refWorks_any (b n cap:Nat) (sa:Option Addr) (k:Int) (w:World)
 (c0:w.cell? ⟨b,8,none⟩=some (.slice sa n cap)) :
 Calls Tryz.prog 79 #[.pointer (some ⟨b,0,none⟩),.int .i64 k] w fun e w'=>e=.returned (.bool (decide (0≤k∧k<n)))∧w=w':=by
 by_cases h1:0≤k
 ·by_cases h2:k<n
  all_goals
   go_enter Tryz.func79,Tryz.ntmps79
   go_wp2
   go_ret
   exact ⟨by simp [h1,h2],rfl⟩
 ·go_enter Tryz.func79,Tryz.ntmps79
  go_wp2
  go_ret
  exact ⟨by simp;omega,rfl⟩
set_option maxRecDepth 100000 in
set_option maxHeartbeats 2000000 in
theorem refHold_any {w:World} {ρ:Nat→Nat} {yb:Nat} {C:Cfg} {time:Int} {rs:List Rf} {P:List Pt} {wv:Wks} {fv sv lv:Value} (h:RefAt w ρ yb C time rs P wv fv sv lv) (i:Nat) (y:Wk) (hy:wv.l[i]?=some y) (hl:y.hs.length≤1000) (k:Int) :
 Calls Tryz.prog 80 #[.pointer (some ⟨yb,0,none⟩),.int .i64 i,.int .i64 k] w fun e w'=>e=.returned (.int .i64 (ixOf y.hs k 0))∧w=w':=by
 have hi:=(List.getElem?_eq_some_iff.1 hy).1
 obtain ⟨vb,vc,hv,_,hvb,_,ch,_⟩:=h.wk.shape hy
 have c8:w.cell? ⟨yb,8,none⟩=some wv.v:=cell_of h.blk 8
 rw [hv] at c8
 have hr:=h.wk.hd i y hy
 obtain ⟨ha,hc,hhv⟩:=ownsRow_len hr
 rw [hhv] at ch hr
 have HC:Hid (∀(j:Nat) (x:Hd),y.hs[j]?=some x→∃hb,ha=some ⟨hb,0,none⟩∧w.cell? ⟨hb,j*4,none⟩=some (.int .i64 x.sh)):=by
  intro j x hj
  have hjl:=(List.getElem?_eq_some_iff.1 hj).1
  obtain ⟨hb,cp,cur,hv1,_,hcb,_⟩:=ownsRow_shape hr (by omega)
  injection hv1 with e1 _ _
  refine ⟨hb,e1,?_⟩
  subst e1
  have hln:(rowHd y.hs).length=y.hs.length*4:=by
   have:∀l:List Hd,(rowHd l).length=l.length*4:=by
    intro l
    induction l with
    | nil=>rfl
    | cons s r ih=>simp only [rowHd,List.length_append,ih,hdCells,List.length_cons,List.length_nil];omega
   exact this _
  rw [World.ownsRow.cellAt hr (j*4) (by omega)]
  exact rowHd_get y.hs j 0 (by omega) x hj
 clear h hr hhv hv
 go_enter Tryz.func80,Tryz.ntmps80
 go_wp2
 go_loop [8] (fun q=>∃j:Nat,j≤y.hs.length∧q=.int .i64 j∧ixOf y.hs k 0=ixOf (y.hs.drop j) k j) (fun q=>y.hs.length - (intOf q).toNat)
 case atStart=>exact ⟨0,Nat.zero_le _,rfl,rfl⟩
 case round =>
  obtain ⟨j,hj,rfl,he⟩:=hrel
  have HE:=hide he
  clear he
  by_cases hlt:j<y.hs.length
  ·obtain ⟨x,hx⟩:∃x,y.hs[j]?=some x:=⟨_,List.getElem?_eq_getElem hlt⟩
   obtain ⟨hb,rfl,cx⟩:=uh HC j x hx
   have HD:=hide (drop_at hx)
   clear hx
   by_cases hk:x.sh=k
   ·have HK:=hide hk
    rw [hk] at cx
    clear hk
    go_wp2
    go_ret
    exact ⟨ret_int (by rw [uh HE,uh HD,ixOf,if_pos (uh HK)]),rfl⟩
   ·go_wp2
    go_round
    case rel=>exact ⟨j+1,by omega,by go_num,by rw [uh HE,uh HD,ixOf,if_neg hk]⟩
    case measure=>simp [intOf];omega
  ·have ej:j=y.hs.length:=by omega
   subst ej
   go_wp2
   go_ret
   exact ⟨ret_int (by rw [uh HE,List.drop_length];rfl),rfl⟩
end Go.Proofs.YtpnkmnmchdabkaaGreat
namespace Go.Proofs.YtpnkmnmchdabkaaGreat
open Go.RowKit
def Wks.setH (x:Wks) (i:Nat) (y:Wk) (hs:List Hd) (hv:Value):Wks:={ x with l:=x.l.set i { y with hs:=hs,hv:=hv } }
def Wks.setN (x:Wks) (i:Nat) (y:Wk) (ns:List Nt) (nv:Value):Wks:={ x with l:=x.l.set i { y with ns:=ns,nv:=nv } }
theorem set_cases {l:List Wk} {i j:Nat} {y z:Wk} (h:(l.set i y)[j]?=some z):(j=i∧z=y)∨(j≠i∧l[j]?=some z):=by
 rw [List.getElem?_set] at h
 split at h
 ·rename_i e;subst e
  split at h
  ·cases h;exact Or.inl ⟨rfl,rfl⟩
  ·cases h
 ·rename_i e;exact Or.inr ⟨fun q=>e q.symm,h⟩
theorem RefAt.setHolds {w w2:World} {ρ:Nat→Nat} {yb:Nat} {C:Cfg} {time:Int} {rs:List Rf} {P:List Pt} {wv:Wks} {fv sv lv:Value} (h:RefAt w ρ yb C time rs P wv fv sv lv) (hf:Fits w ρ) {i:Nat} {y:Wk} (hy:wv.l[i]?=some y)
 {vb vc:Nat} (hv:wv.v=.slice (some ⟨vb,0,none⟩) wv.l.length vc) (hs':List Hd) (hv':Value) (hown:w2.ownsRow 0 102 4 hv' hs'.length (rowHd hs')) (hk:Keeps (fun k=>y.hv.ownBlock=some k) w w2) (hnew:∀k,hv'.ownBlock=some k→k<w.heap.size→y.hv.ownBlock=some k) :
 RefPost w ρ yb C time rs P (wv.setH i y hs' hv') fv (w2.setCell ⟨vb,i*2,none⟩ hv'):=by
 have hi:=(List.getElem?_eq_some_iff.1 hy).1
 have hi4:i<4:=by have:=h.wk.four;omega
 have hvbT:ρ vb=204:=h.wk.rowT vb (by rw [hv];rfl)
 have hvbl:vb<w.heap.size:=(h.wk.row.lt vb (by rw [hv];rfl)).2
 have yT:=h.wk.hdT i y hy
 have hz:=hk.size
 have hs3:(w2.setCell ⟨vb,i*2,none⟩ hv').heap.size=w2.heap.size:=by simp [World.setCell]
 have tg:∀k,k<w.heap.size→(if hv'.ownBlock=some k then 205+2*i else ρ k)=ρ k:=by
  intro k hk'
  split
  ·rename_i e;exact (yT k (hnew k e hk')).symm
  ·rfl
 have st:∀k,k<w.heap.size→ρ k≠204→ρ k≠205+2*i→(w2.setCell ⟨vb,i*2,none⟩ hv').heap[k]?=w.heap[k]?:=by
  intro k hk' h1 h2
  rw [Below.heap_setCell _ _ _ _ (by rintro rfl;exact h1 hvbT),hk.block k hk' (fun e=>h2 (yT k e))]
 have row:∀{te:TypeId} {size n:Nat} {v:Value} {xs:List Value} {t:Nat},w.ownsRow 0 te size v n xs→(∀k,v.ownBlock=some k→ρ k=t)→t≠204→t≠205+2*i→(w2.setCell ⟨vb,i*2,none⟩ hv').ownsRow 0 te size v n xs∧∀k,v.ownBlock=some k→(if hv'.ownBlock=some k then 205+2*i else ρ k)=t:=by
  intro te size n v xs t ho ht h1 h2
  exact ⟨ownsRow_of_block ho fun k hk'=>st k (ho.lt k hk').2 (by rw [ht k hk'];exact h1) (by rw [ht k hk'];exact h2),fun k hk'=>by rw [tg k (ho.lt k hk').2];exact ht k hk'⟩
 have nvb:hv'.ownBlock≠some vb:=fun e=>by have:=yT vb (hnew vb e hvbl);omega
 have hyl:=lt_of_heap h.blk
 refine ⟨fun k=>if hv'.ownBlock=some k then 205+2*i else ρ k,sv,lv,⟨?_,?_,(row h.row h.rowT (by omega) (by omega)).1,(row h.row h.rowT (by omega) (by omega)).2,(row h.log h.logT (by omega) (by omega)).1,(row h.log h.logT (by omega) (by omega)).2,fun j r hj=>(row (h.par j r hj) (h.parT j r hj) (by omega) (by omega)).1,fun j r hj=>(row (h.par j r hj) (h.parT j r hj) (by omega) (by omega)).2,?_⟩,?_,?_,?_⟩
 ·rw [st yb hyl (by rw [h.tag];omega) (by rw [h.tag];omega)];exact h.blk
 ·show (if hv'.ownBlock=some yb then _ else ρ yb)=200
  rw [tg yb hyl];exact h.tag
 ·refine ⟨?_,?_,?_,?_,?_,?_,(row h.wk.fold h.wk.foldT (by omega) (by omega)).1,(row h.wk.fold h.wk.foldT (by omega) (by omega)).2,by simpa [Wks.setH] using h.wk.four⟩
  ·have hr2:w2.ownsRow 0 84 2 (.slice (some ⟨vb,0,none⟩) wv.l.length vc) wv.l.length (rowWks wv.l):=by
    have:=h.wk.row
    rw [hv] at this
    refine ownsRow_of_block this fun k hk'=>?_
    have e:k=vb:=by simp [Value.ownBlock] at hk';exact hk'.symm
    rw [e]
    exact hk.block vb hvbl (fun e=>by have:=yT vb e;omega)
   have:=(World.ownsRow.stored hr2 (i*2) hv').1
   rw [show hv'=({ y with hs:=hs',hv:=hv' }:Wk).hv from rfl,rowWks_setH wv.l i y { y with hs:=hs',hv:=hv' } hy rfl] at this
   show World.ownsRow _ 0 _ 2 wv.v (wv.l.set i _).length (rowWks (wv.l.set i _))
   rw [hv,List.length_set]
   exact this
  ·intro k hk'
   show (if hv'.ownBlock=some k then _ else ρ k)=204
   have e:k=vb:=by
    have:wv.v.ownBlock=some k:=hk'
    rw [hv] at this
    simp [Value.ownBlock] at this;exact this.symm
   rw [e,tg vb hvbl];exact hvbT
  ·intro j z hj
   rcases set_cases hj with ⟨rfl,rfl⟩ | ⟨hne,hj⟩
   ·exact ownsRow_of_block hown fun k hk'=>Below.heap_setCell _ _ _ _ (by rintro rfl;exact nvb hk')
   ·exact (row (h.wk.hd j z hj) (h.wk.hdT j z hj) (by omega) (by omega)).1
  ·intro j z hj k hk'
   show (if hv'.ownBlock=some k then _ else ρ k)=_
   rcases set_cases hj with ⟨rfl,rfl⟩ | ⟨hne,hj⟩
   ·rw [if_pos hk']
   ·exact (row (h.wk.hd j z hj) (h.wk.hdT j z hj) (by omega) (by omega)).2 k hk'
  ·intro j z hj
   rcases set_cases hj with ⟨rfl,rfl⟩ | ⟨hne,hj⟩
   ·exact (row (h.wk.nt j y hy) (h.wk.ntT j y hy) (by omega) (by omega)).1
   ·exact (row (h.wk.nt j z hj) (h.wk.ntT j z hj) (by omega) (by omega)).1
  ·intro j z hj k hk'
   rcases set_cases hj with ⟨rfl,rfl⟩ | ⟨hne,hj⟩
   ·exact (row (h.wk.nt j y hy) (h.wk.ntT j y hy) (by omega) (by omega)).2 k hk'
   ·exact (row (h.wk.nt j z hj) (h.wk.ntT j z hj) (by omega) (by omega)).2 k hk'
 ·refine ⟨?_,?_,?_,by omega,fun k hk' hs=>?_⟩
  ·show w2.os=w.os;exact hk.os
  ·show w2.tape=w.tape;exact hk.tape
  ·show w2.output=w.output;exact hk.output
  ·exact st k hk' (fun e=>hs (by unfold theirs;omega)) (fun e=>hs (by unfold theirs;omega))
 ·refine ⟨tg,fun k hk'=>?_⟩
  show (if hv'.ownBlock=some k then 205+2*i else ρ k)=0∨(200≤(if hv'.ownBlock=some k then 205+2*i else ρ k)∧(if hv'.ownBlock=some k then 205+2*i else ρ k)<300)
  split
  ·right;omega
  ·left;exact hf k hk'
 ·intro k hk'
  show (if hv'.ownBlock=some k then 205+2*i else ρ k)=0
  rw [if_neg (fun e=>by have:=(hown.lt k e).2;omega)]
  exact hf k (by omega)
theorem RefAt.setNotes {w w2:World} {ρ:Nat→Nat} {yb:Nat} {C:Cfg} {time:Int} {rs:List Rf} {P:List Pt} {wv:Wks} {fv sv lv:Value} (h:RefAt w ρ yb C time rs P wv fv sv lv) (hf:Fits w ρ) {i:Nat} {y:Wk} (hy:wv.l[i]?=some y)
 {vb vc:Nat} (hv:wv.v=.slice (some ⟨vb,0,none⟩) wv.l.length vc) (ns':List Nt) (nv':Value) (hown:w2.ownsRow 0 199 3 nv' ns'.length (rowNt ns')) (hk:Keeps (fun k=>y.nv.ownBlock=some k) w w2) (hnew:∀k,nv'.ownBlock=some k→k<w.heap.size→y.nv.ownBlock=some k) :
 RefPost w ρ yb C time rs P (wv.setN i y ns' nv') fv (w2.setCell ⟨vb,i*2+1,none⟩ nv'):=by
 have hi:=(List.getElem?_eq_some_iff.1 hy).1
 have hi4:i<4:=by have:=h.wk.four;omega
 have hvbT:ρ vb=204:=h.wk.rowT vb (by rw [hv];rfl)
 have hvbl:vb<w.heap.size:=(h.wk.row.lt vb (by rw [hv];rfl)).2
 have yT:=h.wk.ntT i y hy
 have hz:=hk.size
 have hs3:(w2.setCell ⟨vb,i*2+1,none⟩ nv').heap.size=w2.heap.size:=by simp [World.setCell]
 have tg:∀k,k<w.heap.size→(if nv'.ownBlock=some k then 206+2*i else ρ k)=ρ k:=by
  intro k hk'
  split
  ·rename_i e;exact (yT k (hnew k e hk')).symm
  ·rfl
 have st:∀k,k<w.heap.size→ρ k≠204→ρ k≠206+2*i→(w2.setCell ⟨vb,i*2+1,none⟩ nv').heap[k]?=w.heap[k]?:=by
  intro k hk' h1 h2
  rw [Below.heap_setCell _ _ _ _ (by rintro rfl;exact h1 hvbT),hk.block k hk' (fun e=>h2 (yT k e))]
 have row:∀{te:TypeId} {size n:Nat} {v:Value} {xs:List Value} {t:Nat},w.ownsRow 0 te size v n xs→(∀k,v.ownBlock=some k→ρ k=t)→t≠204→t≠206+2*i→(w2.setCell ⟨vb,i*2+1,none⟩ nv').ownsRow 0 te size v n xs∧∀k,v.ownBlock=some k→(if nv'.ownBlock=some k then 206+2*i else ρ k)=t:=by
  intro te size n v xs t ho ht h1 h2
  exact ⟨ownsRow_of_block ho fun k hk'=>st k (ho.lt k hk').2 (by rw [ht k hk'];exact h1) (by rw [ht k hk'];exact h2),fun k hk'=>by rw [tg k (ho.lt k hk').2];exact ht k hk'⟩
 have nvb:nv'.ownBlock≠some vb:=fun e=>by have:=yT vb (hnew vb e hvbl);omega
 have hyl:=lt_of_heap h.blk
 refine ⟨fun k=>if nv'.ownBlock=some k then 206+2*i else ρ k,sv,lv,⟨?_,?_,(row h.row h.rowT (by omega) (by omega)).1,(row h.row h.rowT (by omega) (by omega)).2,(row h.log h.logT (by omega) (by omega)).1,(row h.log h.logT (by omega) (by omega)).2,fun j r hj=>(row (h.par j r hj) (h.parT j r hj) (by omega) (by omega)).1,fun j r hj=>(row (h.par j r hj) (h.parT j r hj) (by omega) (by omega)).2,?_⟩,?_,?_,?_⟩
 ·rw [st yb hyl (by rw [h.tag];omega) (by rw [h.tag];omega)];exact h.blk
 ·show (if nv'.ownBlock=some yb then _ else ρ yb)=200
  rw [tg yb hyl];exact h.tag
 ·refine ⟨?_,?_,?_,?_,?_,?_,(row h.wk.fold h.wk.foldT (by omega) (by omega)).1,(row h.wk.fold h.wk.foldT (by omega) (by omega)).2,by simpa [Wks.setN] using h.wk.four⟩
  ·have hr2:w2.ownsRow 0 84 2 (.slice (some ⟨vb,0,none⟩) wv.l.length vc) wv.l.length (rowWks wv.l):=by
    have:=h.wk.row
    rw [hv] at this
    refine ownsRow_of_block this fun k hk'=>?_
    have e:k=vb:=by simp [Value.ownBlock] at hk';exact hk'.symm
    rw [e]
    exact hk.block vb hvbl (fun e=>by have:=yT vb e;omega)
   have:=(World.ownsRow.stored hr2 (i*2+1) nv').1
   rw [show nv'=({ y with ns:=ns',nv:=nv' }:Wk).nv from rfl,rowWks_setN wv.l i y { y with ns:=ns',nv:=nv' } hy rfl] at this
   show World.ownsRow _ 0 _ 2 wv.v (wv.l.set i _).length (rowWks (wv.l.set i _))
   rw [hv,List.length_set]
   exact this
  ·intro k hk'
   show (if nv'.ownBlock=some k then _ else ρ k)=204
   have e:k=vb:=by
    have:wv.v.ownBlock=some k:=hk'
    rw [hv] at this
    simp [Value.ownBlock] at this;exact this.symm
   rw [e,tg vb hvbl];exact hvbT
  ·intro j z hj
   rcases set_cases hj with ⟨rfl,rfl⟩ | ⟨hne,hj⟩
   ·exact (row (h.wk.hd j y hy) (h.wk.hdT j y hy) (by omega) (by omega)).1
   ·exact (row (h.wk.hd j z hj) (h.wk.hdT j z hj) (by omega) (by omega)).1
  ·intro j z hj k hk'
   rcases set_cases hj with ⟨rfl,rfl⟩ | ⟨hne,hj⟩
   ·exact (row (h.wk.hd j y hy) (h.wk.hdT j y hy) (by omega) (by omega)).2 k hk'
   ·exact (row (h.wk.hd j z hj) (h.wk.hdT j z hj) (by omega) (by omega)).2 k hk'
  ·intro j z hj
   rcases set_cases hj with ⟨rfl,rfl⟩ | ⟨hne,hj⟩
   ·exact ownsRow_of_block hown fun k hk'=>Below.heap_setCell _ _ _ _ (by rintro rfl;exact nvb hk')
   ·exact (row (h.wk.nt j z hj) (h.wk.ntT j z hj) (by omega) (by omega)).1
  ·intro j z hj k hk'
   show (if nv'.ownBlock=some k then _ else ρ k)=_
   rcases set_cases hj with ⟨rfl,rfl⟩ | ⟨hne,hj⟩
   ·rw [if_pos hk']
   ·exact (row (h.wk.nt j z hj) (h.wk.ntT j z hj) (by omega) (by omega)).2 k hk'
 ·refine ⟨?_,?_,?_,by omega,fun k hk' hs=>?_⟩
  ·show w2.os=w.os;exact hk.os
  ·show w2.tape=w.tape;exact hk.tape
  ·show w2.output=w.output;exact hk.output
  ·exact st k hk' (fun e=>hs (by unfold theirs;omega)) (fun e=>hs (by unfold theirs;omega))
 ·refine ⟨tg,fun k hk'=>?_⟩
  show (if nv'.ownBlock=some k then 206+2*i else ρ k)=0∨(200≤(if nv'.ownBlock=some k then 206+2*i else ρ k)∧(if nv'.ownBlock=some k then 206+2*i else ρ k)<300)
  split
  ·right;omega
  ·left;exact hf k hk'
 ·intro k hk'
  show (if nv'.ownBlock=some k then 206+2*i else ρ k)=0
  rw [if_neg (fun e=>by have:=(hown.lt k e).2;omega)]
  exact hf k (by omega)
theorem RefAt.setRf {w:World} {ρ:Nat→Nat} {yb:Nat} {C:Cfg} {time:Int} {rs:List Rf} {P:List Pt} {wv:Wks} {fv lv:Value} {sb cap:Nat} (h:RefAt w ρ yb C time rs P wv fv (.slice (some ⟨sb,0,none⟩) rs.length cap) lv) (i j:Nat) (hj9:j<9) (r r':Rf) (hi:rs[i]?=some r) (v:Value) (hs:(rfCells r).set j v=rfCells r') (hpv:r'.pv=r.pv) (hpar:r'.par=r.par) :
 RefAt (w.setCell ⟨sb,i*9+j,none⟩ v) ρ yb C time (rs.set i r') P wv fv (.slice (some ⟨sb,0,none⟩) rs.length cap) lv:=by
 have hsb:ρ sb=201:=h.rowT sb rfl
 have ok:∀{e:TypeId} {size:Nat} {v':Value} {n:Nat} {xs:List Value} {t:Nat},w.ownsRow 0 e size v' n xs→(∀k,v'.ownBlock=some k→ρ k=t)→t≠201→(w.setCell ⟨sb,i*9+j,none⟩ v).ownsRow 0 e size v' n xs:=by
  intro e size v' n xs t ho ht h1
  refine ownsRow_of_block ho fun k hkk=>Below.heap_setCell _ _ _ _ ?_
  rintro rfl
  have:=ht _ hkk;omega
 have at_:∀{j':Nat} {q:Rf},(rs.set i r')[j']?=some q→∃q',rs[j']?=some q'∧q.pv=q'.pv∧q.par=q'.par:=by
  intro j' q hj
  rw [List.getElem?_set] at hj
  split at hj
  ·rename_i e;subst e
   split at hj
   ·cases hj;exact ⟨r,hi,hpv,hpar⟩
   ·cases hj
  ·exact ⟨q,hj,rfl,rfl⟩
 refine ⟨?_,h.tag,?_,h.rowT,ok h.log h.logT (by omega),h.logT,?_,?_,h.wk.same fun k h1 h2 h3=>⟨Below.heap_setCell _ _ _ _ (by rintro rfl;omega),rfl⟩⟩
 ·rw [Below.heap_setCell _ _ _ _ (by rintro rfl;have:=h.tag;omega)];exact h.blk
 ·have:=(World.ownsRow.stored h.row (i*9+j) v).1
  rw [rowRf_set rs i j hj9 r r' hi _ hs] at this
  simpa using this
 ·intro j' q hj
  obtain ⟨q',h1,h2,h3⟩:=at_ hj
  rw [h2,h3]
  exact ok (h.par j' q' h1) (h.parT j' q' h1) (by omega)
 ·intro j' q hj k hk
  obtain ⟨q',h1,h2,h3⟩:=at_ hj
  rw [h2] at hk
  exact h.parT j' q' h1 k hk
end Go.Proofs.YtpnkmnmchdabkaaGreat
namespace Go.Proofs.YtpnkmnmchdabkaaGreat
open Go.RowKit
attribute [local go_sem ↓] Go.wp_at_zero Go.wp_at_succ
theorem infoNote:(Tryz.prog.info? 199).map (fun i=>(i.zero,i.size,i.bytes))=some (some (.agg #[.int .i64 0,.int .i64 0,.int .i64 0]),3,24):=by kernel_rfl
def lost (hs:List Hd) (k:Int):List Hd:=hs.filter (fun h=>decide (h.sh≠k))
theorem lost_take (hs:List Hd) (k:Int) (i:Nat) (e:Hd) (h:hs[i]?=some e):lost (hs.take (i+1)) k=lost (hs.take i) k ++ if e.sh≠k then [e] else []:=by
 have hi:=(List.getElem?_eq_some_iff.1 h).1
 have he:hs[i]=e:=(List.getElem?_eq_some_iff.1 h).2
 unfold lost
 rw [List.take_succ_eq_append_getElem hi,List.filter_append,he]
 by_cases hk:e.sh=k <;> simp [hk]
theorem lost_le (hs:List Hd) (k:Int):(lost hs k).length≤hs.length:=List.length_filter_le _ _
theorem RefAt.holdsAt {w:World} {ρ:Nat→Nat} {yb:Nat} {C:Cfg} {time:Int} {rs:List Rf} {P:List Pt} {wv:Wks} {fv sv lv:Value} (h:RefAt w ρ yb C time rs P wv fv sv lv) {i:Nat} {y:Wk} (hy:wv.l[i]?=some y) :
 ∃ha hc,y.hv=.slice ha y.hs.length hc∧∀(j:Nat) (x:Hd),y.hs[j]?=some x→∃hb,ha=some ⟨hb,0,none⟩∧hb<w.heap.size∧ρ hb=205+2*i∧(∀q,w.frozen? ⟨hb,q,none⟩=false)∧∀q,q<4→w.cell? ⟨hb,j*4+q,none⟩=(hdCells x)[q]?:=by
 have hr:=h.wk.hd i y hy
 have ht:=h.wk.hdT i y hy
 obtain ⟨ha,hc,hhv⟩:=ownsRow_len hr
 refine ⟨ha,hc,hhv,fun j x hj=>?_⟩
 rw [hhv] at hr ht
 have hjl:=(List.getElem?_eq_some_iff.1 hj).1
 obtain ⟨hb,cp,cur,hv1,_,hcb,_⟩:=ownsRow_shape hr (by omega)
 injection hv1 with e1 _ _
 subst e1
 refine ⟨hb,rfl,lt_of_heap hcb,ht hb rfl,fun q=>frozen_of hcb q,fun q hq=>?_⟩
 rw [World.ownsRow.cellAt hr (j*4+q) (by omega)]
 exact rowHd_get y.hs j q hq x hj
set_option maxRecDepth 100000 in
set_option maxHeartbeats 4000000 in
theorem refLoses_any {w:World} {ρ:Nat→Nat} {yb:Nat} {C:Cfg} {time:Int} {rs:List Rf} {P:List Pt} {wv:Wks} {fv sv lv:Value} (h:RefAt w ρ yb C time rs P wv fv sv lv) (hf:Fits w ρ) (i:Nat) (y:Wk) (hy:wv.l[i]?=some y) (hl:y.hs.length≤1000) (k:Int) :
 Calls Tryz.prog 46 #[.pointer (some ⟨yb,0,none⟩),.int .i64 i,.int .i64 k] w fun e w'=>e=.returned (.tuple #[])∧∃hv',RefPost w ρ yb C time rs P (wv.setH i y (lost y.hs k) hv') fv w':=by
 have hi:=(List.getElem?_eq_some_iff.1 hy).1
 obtain ⟨vb,vc,hv,_,hvb,hvf,ch,_⟩:=h.wk.shape hy
 have c8:w.cell? ⟨yb,8,none⟩=some wv.v:=cell_of h.blk 8
 rw [hv] at c8
 have hyb:=lt_of_heap h.blk
 obtain ⟨ha,hc,hhv,hcell⟩:=h.holdsAt hy
 rw [hhv] at ch
 obtain ⟨i0,hi0,hz0,hz1,hz2⟩:=info_parts infoHold
 have HC:=hide hcell
 have HH:Hid (∀w2 hv',w2.ownsRow w.heap.size 102 4 hv' (lost y.hs k).length (rowHd (lost y.hs k))→Below w.heap.size w w2→RefPost w ρ yb C time rs P (wv.setH i y (lost y.hs k) hv') fv (w2.setCell ⟨vb,i*2,none⟩ hv')):=fun w2 hv' ho hb =>
  h.setHolds hf hy hv (lost y.hs k) hv' (ownsRow_base ho (Nat.zero_le _)) ((Keeps.of_below hb).mono (fun q hq hs=>by omega)) (fun q hq hlt=>by have:=(ho.lt q hq).1;omega)
 clear h hf hcell hhv hv
 go_enter Tryz.func46,Tryz.ntmps46
 go_wp2
 go_loopw [6,7] (fun p q wr=>∃(j cap:Nat) (a:Option Addr),j≤y.hs.length∧q=.int .i64 j∧p=.slice a (lost (y.hs.take j) k).length cap∧wr.ownsRow w.heap.size 102 4 (.slice a (lost (y.hs.take j) k).length cap) (lost (y.hs.take j) k).length (rowHd (lost (y.hs.take j) k))∧Below w.heap.size w wr) (fun _ q _=>y.hs.length - (intOf q).toNat)
 case atStart=>exact ⟨0,0,none,Nat.zero_le _,rfl,rfl,World.ownsRow_nil _ _ _ _,Below.refl _ _⟩
 case round =>
  obtain ⟨j,cap,a,hj,rfl,rfl,hown,hB⟩:=hrel
  have d8:=(hB.cell (p:=⟨yb,8,none⟩) hyb).trans c8
  have dh:=(hB.cell (p:=⟨vb,i*2,none⟩) hvb).trans ch
  by_cases hlt:j<y.hs.length
  ·obtain ⟨e,he⟩:∃e,y.hs[j]?=some e:=⟨_,List.getElem?_eq_getElem hlt⟩
   obtain ⟨pb,rfl,hpb,_,_,hcc⟩:=uh HC j e he
   have hc:∀q,q<4→wr.cell? ⟨pb,j*4+q,none⟩=(hdCells e)[q]?:=fun q hq=>(hB.cell (p:=⟨pb,j*4+q,none⟩) hpb).trans (hcc q hq)
   have b0:wr.cell? ⟨pb,j*4,none⟩=some (.int .i64 e.sh):=hc 0 (by omega)
   have b1:wr.cell? ⟨pb,j*4+1,none⟩=some (.int .i64 e.ep):=hc 1 (by omega)
   have b2:wr.cell? ⟨pb,j*4+2,none⟩=some (.int .i64 e.at_):=hc 2 (by omega)
   have b3:wr.cell? ⟨pb,j*4+3,none⟩=some (.int .i64 e.bf):=hc 3 (by omega)
   have HS:=hide (lost_take y.hs k j e he)
   have hle:(lost (y.hs.take j) k).length≤1000:=by have:=lost_le (y.hs.take j) k;rw [List.length_take] at this;omega
   have HO:=hide hown
   have HB:=hide hB
   have hws:=hB.size
   have HGL:=hide (fun q hq=>hown.lt q hq)
   clear hcc hc he hown hB
   by_cases hk:e.sh=k
   ·have HK:=hide hk
    have dk:(e.sh != k)=false:=by simp [hk]
    clear hk
    go_wp2
    go_roundw
    case rel =>
     refine ⟨j+1,cap,a,by omega,by go_num,?_,?_,(uh HB).alloc hws _⟩
     ·rw [uh HS,if_neg (fun q=>q (uh HK)),List.append_nil]
     ·rw [uh HS,if_neg (fun q=>q (uh HK)),List.append_nil];exact (uh HO).alloc _
    case measure=>simp [intOf];omega
   ·have HK:=hide hk
    have dk:(e.sh != k)=true:=by rw [bne_iff_ne];exact hk
    clear hk
    generalize hFF:lost (y.hs.take j) k=F at *
    have HFF:=hide hFF
    clear hFF
    go_wp2_with (at_builtin;go_must (refine wpList_append_lies _ rfl _ _ _ rfl w.heap.size 102 i0 _ 4 32 Tryz.underlying81 hi0 hz0 hz1 hz2 rfl (by omega) _ F.length (rowHd F) rfl ?own ⟨wr.heap.size+1,0,none⟩ 1 1 (hdCells e) rfl rfl ?news ?one (by omega) ?h63 ?bytes ?base (wr.heap.size+2) ?hH ?next))
    case own=>exact ((uh HO).alloc _).alloc _
    case news =>
     have:=World.news_of_block (cs:=#[.int .i64 e.sh,.int .i64 e.ep,.int .i64 e.at_,.int .i64 e.bf]) (heap_alloc_new (wr.alloc (.cells #[.int .i64 e.sh,.int .i64 e.ep,.int .i64 e.at_,.int .i64 e.bf] 102)) (.cells #[.int .i64 e.sh,.int .i64 e.ep,.int .i64 e.at_,.int .i64 e.bf] 102))
     simpa [hdCells] using this
    case one =>
     intro u hu
     simp [hdCells] at hu
     rcases hu with rfl | rfl | rfl | rfl <;> rfl
    case h63=>unfold maxLen;omega
    case bytes=>omega
    case base=>simp;omega
    case hH=>simp
    case next =>
     intro g2 cap2 w2 hown2 hgrow2 hat hlt2
     have hB2:Hid (Below w.heap.size w w2):=(((uh HB).alloc hws _).alloc (by simp;omega) _).grown hgrow2 (by simp;omega) (fun q hq=>(uh HGL q hq).1)
     have HN:=hide hown2
     clear hown2 hgrow2 hat
     go_wp2
     go_roundw
     case rel =>
      refine ⟨j+1,cap2,some ⟨g2,0,none⟩,by omega,by go_num,?_,?_,uh hB2⟩
      ·rw [uh HS,if_pos (uh HK),List.length_append];rfl
      ·rw [uh HS,if_pos (uh HK),List.length_append,rowHd_append]
       simp only [rowHd,List.append_nil,List.length_cons,List.length_nil]
       exact uh HN
     case measure=>simp [intOf];omega
  ·have ej:j=y.hs.length:=by omega
   subst ej
   rw [List.take_length] at hown
   have HP:=hide (uh HH wr _ hown hB)
   have df:wr.frozen? ⟨vb,i*2,none⟩=false:=(World.frozen?_of_block (w:=w) (hB.block vb hvb)).trans (hvf _)
   clear hown hB
   simp only [List.take_length]
   go_wp2
   go_end0
   exact ⟨rfl,_,uh HP⟩
set_option maxRecDepth 100000 in
set_option maxHeartbeats 2000000 in
theorem refLease_any {w:World} {ρ:Nat→Nat} {yb:Nat} {C:Cfg} {time:Int} {rs:List Rf} {P:List Pt} {wv:Wks} {fv sv lv:Value} (h:RefAt w ρ yb C time rs P wv fv sv lv) (hpos:0<rs.length) (n:Int) :
 (∀(k:Nat) (r:Rf),n=k→rs[k]?=some r→Calls Tryz.prog 68 #[.pointer (some ⟨yb,0,none⟩),.int .i64 n] w fun e w'=>e=.returned (.tuple #[.agg #[.int .i64 r.own,.int .i64 r.ctr,.int .i64 r.lep],.int .i64 0])∧Below w.heap.size w w') ∧
 (¬(0≤n∧n<rs.length)→Calls Tryz.prog 68 #[.pointer (some ⟨yb,0,none⟩),.int .i64 n] w fun e w'=>e=.returned (.tuple #[.agg #[.int .i64 0,.int .i64 0,.int .i64 0],.int .i64 5])∧Below w.heap.size w w'):=by
 obtain ⟨sb,cap,rfl,hsb,_,_,hcell⟩:=h.shards hpos
 have c7:w.cell? ⟨yb,7,none⟩=some (.slice (some ⟨sb,0,none⟩) rs.length cap):=cell_of h.blk 7
 have hyb:=lt_of_heap h.blk
 have HT:Hid (∀W,W.cell? ⟨yb,7,none⟩=some (.slice (some ⟨sb,0,none⟩) rs.length cap)→Calls Tryz.prog 49 #[.pointer (some ⟨yb,0,none⟩),.int .i64 n] W fun e w'=>e=.returned (.bool (decide (0≤n∧n<(rs.length:Int))))∧W=w'):=fun W hc=>refThere_any yb rs.length cap (some ⟨sb,0,none⟩) n W hc
 refine ⟨?_,?_⟩
 ·rintro k r rfl hr
  have hk:=(List.getElem?_eq_some_iff.1 hr).1
  have e4:w.cell? ⟨sb,k*9+4,none⟩=some (.int .i64 r.own):=hcell k r hr 4 (by omega)
  have e5:w.cell? ⟨sb,k*9+5,none⟩=some (.int .i64 r.ctr):=hcell k r hr 5 (by omega)
  have e6:w.cell? ⟨sb,k*9+6,none⟩=some (.int .i64 r.lep):=hcell k r hr 6 (by omega)
  have hd:decide (0≤(k:Int)∧(k:Int)<(rs.length:Int))=true:=by simp;omega
  rw [hd] at HT
  clear h hcell hd
  go_enter Tryz.func68,Tryz.ntmps68
  go_wp2_with (go_at_call 49;refine (uh HT _ ((World.cell?_of_block (w:=w) (Below.heap_alloc _ _ _ hyb)).trans c7)).mono ?_;rintro e w1 ⟨rfl,rfl⟩)
  refine bodyPost_ret (v:=.tuple #[.agg #[.int .i64 r.own,.int .i64 r.ctr,.int .i64 r.lep],.int .i64 0]) ?_ rfl ⟨rfl,(Below.refl _ w).alloc (Nat.le_refl _) _⟩
  simp [results,Tryz.results68,go_sem]
 ·intro hn
  have hd:decide (0≤n∧n<(rs.length:Int))=false:=by simpa using hn
  rw [hd] at HT
  clear h hcell hd hn
  go_enter Tryz.func68,Tryz.ntmps68
  go_wp2_with (go_at_call 49;refine (uh HT _ ((World.cell?_of_block (w:=w) (Below.heap_alloc _ _ _ hyb)).trans c7)).mono ?_;rintro e w1 ⟨rfl,rfl⟩)
  refine bodyPost_ret (v:=.tuple #[.agg #[.int .i64 0,.int .i64 0,.int .i64 0],.int .i64 5]) ?_ rfl ⟨rfl,(Below.refl _ w).alloc (Nat.le_refl _) _⟩
  simp [results,Tryz.results68,go_sem]
theorem Wks.get_setH {x:Wks} {i:Nat} {y:Wk} (hy:x.l[i]?=some y) (hs:List Hd) (hv:Value):(x.setH i y hs hv).l[i]?=some { y with hs:=hs,hv:=hv }:=by
 have:=(List.getElem?_eq_some_iff.1 hy).1
 simp [Wks.setH,this]
set_option maxRecDepth 100000 in
set_option maxHeartbeats 2000000 in
theorem refCrash_any {w:World} {ρ:Nat→Nat} {yb:Nat} {C:Cfg} {time:Int} {rs:List Rf} {P:List Pt} {wv:Wks} {fv sv lv:Value} (h:RefAt w ρ yb C time rs P wv fv sv lv) (hf:Fits w ρ) (i:Nat) (y:Wk) (hy:wv.l[i]?=some y) :
 Calls Tryz.prog 66 #[.pointer (some ⟨yb,0,none⟩),.int .i64 i] w fun e w'=>e=.returned (.int .i64 0)∧RefPost w ρ yb C time rs P { wv with l:=wv.l.set i ⟨[],.slice none 0 0,[],.slice none 0 0⟩ } fv w':=by
 have hi:=(List.getElem?_eq_some_iff.1 hy).1
 obtain ⟨vb,vc,hv,_,hvb,hvf,ch,cn⟩:=h.wk.shape hy
 have c8:w.cell? ⟨yb,8,none⟩=some wv.v:=cell_of h.blk 8
 rw [hv] at c8
 have f0:=hvf (i*2)
 have f1:=hvf (i*2+1)
 have HW:=hide (refWorks_any yb wv.l.length vc (some ⟨vb,0,none⟩) i w c8)
 have HP:Hid (RefPost w ρ yb C time rs P { wv with l:=wv.l.set i ⟨[],.slice none 0 0,[],.slice none 0 0⟩ } fv ((w.setCell ⟨vb,i*2,none⟩ (.slice none 0 0)).setCell ⟨vb,i*2+1,none⟩ (.slice none 0 0))):=by
  obtain ⟨ρ1,sv1,lv1,R1,k1,x1,f1⟩:=h.setHolds hf hy hv [] (.slice none 0 0) (World.ownsRow_nil _ _ _ _) (Keeps.refl _ w) (fun k hk=>by simp [Value.ownBlock] at hk)
  have hy1:=Wks.get_setH hy [] (.slice none 0 0)
  have hv1:(wv.setH i y [] (.slice none 0 0)).v=.slice (some ⟨vb,0,none⟩) (wv.setH i y [] (.slice none 0 0)).l.length vc:=by simp [Wks.setH,hv]
  have p2:=R1.setNotes f1 hy1 hv1 [] (.slice none 0 0) (World.ownsRow_nil _ _ _ _) (Keeps.refl _ _) (fun k hk=>by simp [Value.ownBlock] at hk)
  have:=RefPost.trans k1 x1 p2
  simp only [Wks.setN,Wks.setH,List.set_set] at this
  exact this
 have hd:decide (0≤(i:Int)∧(i:Int)<(wv.l.length:Int))=true:=by simp;omega
 rw [hd] at HW
 clear h hf hv hvf hd
 go_enter Tryz.func66,Tryz.ntmps66
 go_wp2_with (go_at_call 79;refine (uh HW).mono ?_;rintro e w1 ⟨rfl,rfl⟩)
 go_ret
 exact ⟨rfl,uh HP⟩
def firstOf:List Hd→Int→Option Hd
 | [],_=>none
 | h :: r,k=>if h.sh=k then some h else firstOf r k
theorem ixOf_first (hs:List Hd) (k:Int) (n:Nat):(firstOf hs k=none→ixOf hs k n=-1)∧(∀x,firstOf hs k=some x→∃j,hs[j]?=some x∧ixOf hs k n=(n+j:Nat)):=by
 induction hs generalizing n with
 | nil=>exact ⟨fun _=>rfl,fun x hx=>by cases hx⟩
 | cons h r ih =>
   by_cases hk:h.sh=k
   ·refine ⟨fun e=>by simp [firstOf,hk] at e,fun x hx=>?_⟩
    simp [firstOf,hk] at hx
    subst hx
    exact ⟨0,rfl,by simp [ixOf,hk]⟩
   ·refine ⟨fun e=>?_,fun x hx=>?_⟩
    ·simp only [firstOf,if_neg hk] at e
     simp only [ixOf,if_neg hk]
     exact (ih (n+1)).1 e
    ·simp only [firstOf,if_neg hk] at hx
     obtain ⟨j,h1,h2⟩:=(ih (n+1)).2 x hx
     refine ⟨j+1,by simpa using h1,?_⟩
     simp only [ixOf,if_neg hk]
     rw [h2]
     congr 1
     omega
def byShard (hs:List Hd) (n:Nat):List Hd:=(List.range n).filterMap (fun k:Nat=>firstOf hs (k:Int))
theorem byShard_succ (hs:List Hd) (n:Nat):byShard hs (n+1)=byShard hs n ++ (match firstOf hs n with | none=>[] | some x=>[x]):=by
 unfold byShard
 rw [List.range_succ,List.filterMap_append]
 congr 1
 simp only [List.filterMap_cons,List.filterMap_nil]
 cases firstOf hs n <;> rfl
theorem byShard_le (hs:List Hd) (n:Nat):(byShard hs n).length≤n:=by
 have:=List.length_filterMap_le (fun k:Nat=>firstOf hs (k:Int)) (List.range n)
 simpa [byShard] using this
theorem firstOf_in {hs:List Hd} {k:Int} {x:Hd} (h:firstOf hs k=some x):x ∈ hs∧x.sh=k:=by
 induction hs with
 | nil=>cases h
 | cons a r ih =>
   by_cases hk:a.sh=k
   ·simp [firstOf,hk] at h
    subst h
    exact ⟨by simp,hk⟩
   ·simp only [firstOf,if_neg hk] at h
    exact ⟨List.mem_cons_of_mem _ (ih h).1,(ih h).2⟩
set_option maxRecDepth 100000 in
set_option maxHeartbeats 4000000 in
theorem refHolds_any {w:World} {ρ:Nat→Nat} {yb:Nat} {C:Cfg} {time:Int} {rs:List Rf} {P:List Pt} {wv:Wks} {fv sv lv:Value} (h:RefAt w ρ yb C time rs P wv fv sv lv) (hpos:0<rs.length) (hrs:rs.length≤16) (i:Nat) (y:Wk) (hy:wv.l[i]?=some y) (hl:y.hs.length≤1000) :
 Calls Tryz.prog 73 #[.pointer (some ⟨yb,0,none⟩),.int .i64 i] w fun e w'=>∃v,e=.returned (.tuple #[v,.int .i64 0])∧w'.ownsRow w.heap.size 102 4 v (byShard y.hs rs.length).length (rowHd (byShard y.hs rs.length))∧Below w.heap.size w w':=by
 have hi:=(List.getElem?_eq_some_iff.1 hy).1
 obtain ⟨vb,vc,hv,_,hvb,hvf,ch,_⟩:=h.wk.shape hy
 have c8:w.cell? ⟨yb,8,none⟩=some wv.v:=cell_of h.blk 8
 rw [hv] at c8
 have hyb:=lt_of_heap h.blk
 obtain ⟨ha,hc,hhv,hcell⟩:=h.holdsAt hy
 rw [hhv] at ch
 obtain ⟨i0,hi0,hz0,hz1,hz2⟩:=info_parts infoHold
 have HC:=hide hcell
 have HH:Hid (∀W (k:Int),Below w.heap.size w W→Calls Tryz.prog 80 #[.pointer (some ⟨yb,0,none⟩),.int .i64 i,.int .i64 k] W fun e w'=>e=.returned (.int .i64 (ixOf y.hs k 0))∧W=w'):=fun W k hb=>refHold_any (h.keeps (Keeps.of_below hb) (fun _ hk=>Or.inr hk) (fun _ _=>rfl)) i y hy hl k
 obtain ⟨sb,cap,rfl,_⟩:=h.shards hpos
 have c7:w.cell? ⟨yb,7,none⟩=some (.slice (some ⟨sb,0,none⟩) rs.length cap):=cell_of h.blk 7
 have HW:=hide (refWorks_any yb wv.l.length vc (some ⟨vb,0,none⟩) i w c8)
 have hd:decide (0≤(i:Int)∧(i:Int)<(wv.l.length:Int))=true:=by simp;omega
 rw [hd] at HW
 clear h hcell hhv hv hd hvf
 go_enter Tryz.func73,Tryz.ntmps73
 go_wp2_with (go_at_call 79;refine (uh HW).mono ?_;rintro e w1 ⟨rfl,rfl⟩)
 go_loopw [7,8] (fun p q wr=>∃(j cp:Nat) (a:Option Addr),j≤rs.length∧q=.int .i64 j∧p=.slice a (byShard y.hs j).length cp∧wr.ownsRow w.heap.size 102 4 (.slice a (byShard y.hs j).length cp) (byShard y.hs j).length (rowHd (byShard y.hs j))∧Below w.heap.size w wr) (fun _ q _=>rs.length - (intOf q).toNat)
 case atStart=>exact ⟨0,0,none,Nat.zero_le _,rfl,rfl,World.ownsRow_nil _ _ _ _,Below.refl _ _⟩
 case round =>
  obtain ⟨j,cp,a,hj,rfl,rfl,hown,hB⟩:=hrel
  have d7:=(hB.cell (p:=⟨yb,7,none⟩) hyb).trans c7
  have d8:=(hB.cell (p:=⟨yb,8,none⟩) hyb).trans c8
  have dh:=(hB.cell (p:=⟨vb,i*2,none⟩) hvb).trans ch
  by_cases hlt:j<rs.length
  ·have HS:=hide (byShard_succ y.hs j)
   have hle:(byShard y.hs j).length≤16:=by have:=byShard_le y.hs j;omega
   have HO:=hide hown
   have HB:=hide hB
   have hws:=hB.size
   have HGL:=hide (fun q hq=>hown.lt q hq)
   have HI:=hide (uh HH wr j hB)
   cases hfi:firstOf y.hs (j:Int) with
   | none =>
     have hix:=(ixOf_first y.hs j 0).1 hfi
     rw [hix] at HI
     have HF:=hide hfi
     clear hown hB hfi hix
     go_wp2_with (go_at_call 80;refine (uh HI).mono ?_;rintro e w1 ⟨rfl,rfl⟩)
     go_roundw
     case rel =>
      refine ⟨j+1,cp,a,by omega,by go_num,?_,?_,uh HB⟩
      ·rw [uh HS,uh HF,List.append_nil]
      ·rw [uh HS,uh HF,List.append_nil];exact uh HO
     case measure=>simp [intOf];omega
   | some e =>
     obtain ⟨q,hq,hix⟩:=(ixOf_first y.hs j 0).2 e hfi
     rw [Nat.zero_add] at hix
     rw [hix] at HI
     have hql:=(List.getElem?_eq_some_iff.1 hq).1
     obtain ⟨pb,rfl,hpb,_,_,hcc⟩:=uh HC q e hq
     have hcx:∀x,x<4→wr.cell? ⟨pb,q*4+x,none⟩=(hdCells e)[x]?:=fun x hx=>(hB.cell (p:=⟨pb,q*4+x,none⟩) hpb).trans (hcc x hx)
     have b0:wr.cell? ⟨pb,q*4,none⟩=some (.int .i64 e.sh):=hcx 0 (by omega)
     have b1:wr.cell? ⟨pb,q*4+1,none⟩=some (.int .i64 e.ep):=hcx 1 (by omega)
     have b2:wr.cell? ⟨pb,q*4+2,none⟩=some (.int .i64 e.at_):=hcx 2 (by omega)
     have b3:wr.cell? ⟨pb,q*4+3,none⟩=some (.int .i64 e.bf):=hcx 3 (by omega)
     have HF:=hide hfi
     have hq0:¬((q:Int)<0):=by omega
     clear hown hB hfi hix hcc hcx hq
     generalize hFF:byShard y.hs j=F at *
     clear hFF
     go_wp2_with (first | (go_at_call 80;refine (uh HI).mono ?_;rintro e w1 ⟨rfl,rfl⟩) | (at_builtin;go_must (refine wpList_append_lies _ rfl _ _ _ rfl w.heap.size 102 i0 _ 4 32 Tryz.underlying81 hi0 hz0 hz1 hz2 rfl (by omega) _ F.length (rowHd F) rfl ?own ⟨wr.heap.size,0,none⟩ 1 1 (hdCells e) rfl rfl ?news ?one (by omega) ?h63 ?bytes ?base (wr.heap.size+1) ?hH ?next)))
     case own=>exact (uh HO).alloc _
     case news=>exact World.news_of_block (cs:=#[.int .i64 e.sh,.int .i64 e.ep,.int .i64 e.at_,.int .i64 e.bf]) (heap_alloc_new wr _)
     case one =>
      intro u hu
      simp [hdCells] at hu
      rcases hu with rfl | rfl | rfl | rfl <;> rfl
     case h63=>unfold maxLen;omega
     case bytes=>omega
     case base=>simp;omega
     case hH=>simp
     case next =>
      intro g2 cap2 w2 hown2 hgrow2 hat hlt2
      have hB2:Hid (Below w.heap.size w w2):=((uh HB).alloc hws _).grown hgrow2 (by simp;omega) (fun q hq=>(uh HGL q hq).1)
      have HN:=hide hown2
      clear hown2 hgrow2 hat
      go_wp2
      go_roundw
      case rel =>
       refine ⟨j+1,cap2,some ⟨g2,0,none⟩,by omega,by go_num,?_,?_,uh hB2⟩
       ·rw [uh HS,uh HF,List.length_append];rfl
       ·rw [uh HS,uh HF,List.length_append,rowHd_append]
        simp only [rowHd,List.append_nil,List.length_cons,List.length_nil]
        exact uh HN
      case measure=>simp [intOf];omega
  ·have ej:j=rs.length:=by omega
   subst ej
   have HO:=hide hown
   have HB:=hide hB
   clear hown hB
   go_wp2
   go_ret2
   exact ⟨_,rfl,uh HO,uh HB⟩
end Go.Proofs.YtpnkmnmchdabkaaGreat
