import Derived.Test.YtpnkmnmchdabkaaGreatM18
import Derived.Test.YtpnkmnmchdabkaaGreatM14
import Derived.Test.YtpnkmnmchdabkaaGreatM01
import Derived.Test.YtpnkmnmchdabkaaGreatM02
namespace Go.Proofs.YtpnkmnmchdabkaaGreat
open Go.RowKit
attribute [local go_sem ↓] Go.wp_at_zero Go.wp_at_succ
set_option maxHeartbeats 400000 in
theorem sinkHas_any (n:Int) (w:World) :
 Calls Tryz.prog 81 #[.int .i64 n] w fun e w'=>e=.returned (.bool (decide (0≤n∧n<16)))∧w=w':=by
 by_cases h1:0≤n
 ·by_cases h2:n<16
  all_goals
   go_enter Tryz.func81,Tryz.ntmps81
   go_wp2
   go_ret
   exact ⟨by simp [h1,h2],rfl⟩
 ·go_enter Tryz.func81,Tryz.ntmps81
  go_wp2
  go_ret
  exact ⟨by simp;omega,rfl⟩
theorem hasS16 {n:Nat} (h:n<16):decide (0≤(n:Int)∧(n:Int)<16)=true:=by simp;omega
set_option maxHeartbeats 1000000 in
theorem sinkDone_any (b o n:Nat) (hn:n<16) (d:Int) (w:World) (c:w.cell? ⟨b,o+n*2,none⟩=some (.int .i64 d)) :
 Calls Tryz.prog 111 #[.pointer (some ⟨b,o,none⟩),.int .i64 n] w fun e w'=>e=.returned (.int .i64 d)∧w=w':=by
 have HH:=fun w=>hide (sinkHas_any n w)
 rw [hasS16 hn] at HH
 go_enter Tryz.func111,Tryz.ntmps111
 go_wp2_with (go_at_call 81;refine (uh (HH _)).mono ?_;rintro e w1 ⟨rfl,rfl⟩)
 go_ret
 exact ⟨rfl,rfl⟩
set_option maxHeartbeats 1000000 in
theorem sinkFolded_any (b o off n N cap bs cnt rcap:Nat) (ra:Option Addr) (op:Bool) (hn:n<16) (hN:n<N) (d:Int) (w:World) (c:w.cell? ⟨b,o+n*2,none⟩=some (.int .i64 d)) (c0:w.cell? ⟨b,off,none⟩=some (.slice (some ⟨bs,0,none⟩) N cap)) (c1:w.cell? ⟨bs,n*5+2,none⟩=some (.bool op)) (c2:w.cell? ⟨bs,n*5+4,none⟩=some (.slice ra cnt rcap)) :
 Calls Tryz.prog 116 #[.pointer (some ⟨b,o,none⟩),.pointer (some ⟨b,off,none⟩),.int .i64 n] w fun e w'=>e=.returned (.bool (!op && decide ((cnt:Int)≤d)))∧w=w':=by
 have H1:=hide (logClosed_any b off N cap bs n op w hN c0 c1)
 have H2:=hide (sinkDone_any b o n hn d w c)
 have H3:=hide (logCount_any b off N cap bs n cnt rcap ra w hN c0 c2)
 clear c c0 c1 c2
 cases op
 all_goals
  go_enter Tryz.func116,Tryz.ntmps116
  go_wp2_with (first | (go_at_call 130;refine (uh H1).mono ?_;rintro e w1 ⟨rfl,rfl⟩) | (go_at_call 111;refine (uh H2).mono ?_;rintro e w1 ⟨rfl,rfl⟩) | (go_at_call 40;refine (uh H3).mono ?_;rintro e w1 ⟨rfl,rfl⟩))
  go_ret
  exact ⟨by simp,rfl⟩
def allTwo (st:List Int) (par:List Int):Bool:=par.all (fun p=>decide (st[p.toNat]?=some 2))
theorem allTwo_take (st par:List Int) (j:Nat) (hj:j<par.length):allTwo st (par.take (j+1))=(allTwo st (par.take j) && decide (st[par[j].toNat]?=some 2)):=by
 unfold allTwo
 rw [List.take_add_one,List.getElem?_eq_getElem hj,List.all_append]
 simp
theorem allTwo_not (st par:List Int) (j:Nat) (hj:j<par.length) (h:¬st[par[j].toNat]?=some 2):allTwo st par=false:=by
 unfold allTwo
 rw [List.all_eq_false]
 exact ⟨par[j],List.getElem_mem hj,by simpa using h⟩
set_option maxRecDepth 100000 in
set_option maxHeartbeats 1000000 in
theorem allFinished_any (st:List Int) (hst:st.length=16) (par:List Int) (pa:Option Addr) (pc:Nat) (w:World) (hr:∀p ∈ par,0≤p∧p<16) (hl:par.length≤2)
 (hpar:∀j (hj:j<par.length),∃pb,pa=some ⟨pb,0,none⟩∧pb<w.heap.size∧w.cell? ⟨pb,j,none⟩=some (.int .i64 par[j])) :
 Calls Tryz.prog 115 #[.agg (st.map (Value.int .i64)).toArray,.slice pa par.length pc] w fun e w'=>e=.returned (.bool (allTwo st par))∧Below w.heap.size w w':=by
 have HP:=hide hpar
 have HR:=hide hr
 have HS:Hid ((w.alloc (.cells (st.map (Value.int .i64)).toArray 175)).heap[w.heap.size]?=some (.cells (st.map (Value.int .i64)).toArray 175 (0,0))):=heap_alloc_new w _
 clear hpar hr
 go_enter Tryz.func115,Tryz.ntmps115
 go_wp2
 go_loopw [5] (fun i wr=>∃j:Nat,j≤par.length∧i=.int .i64 j∧allTwo st (par.take j)=true∧wr.heap[w.heap.size]?=some (.cells (st.map (Value.int .i64)).toArray 175 (0,0))∧Below w.heap.size w wr) (fun i _=>par.length - (intOf i).toNat)
 case atStart=>exact ⟨0,Nat.zero_le _,rfl,rfl,uh HS,(Below.refl _ w).alloc (Nat.le_refl _) _⟩
 case round =>
  obtain ⟨j,hj,rfl,hA,hH,hB⟩:=hrel
  by_cases hlt:j<par.length
  ·obtain ⟨pb,rfl,hpb,hc⟩:=uh HP j hlt
   have dc:=(hB.cell (p:=⟨pb,j,none⟩) hpb).trans hc
   have hmem:=uh HR par[j] (List.getElem_mem hlt)
   have HT:=hide (allTwo_take st par j hlt)
   have HNo:=hide (allTwo_not st par j hlt)
   obtain ⟨q,hq⟩:∃q:Nat,par[j]=(q:Int):=⟨par[j].toNat,by omega⟩
   rw [hq] at dc hmem HT HNo
   have hq16:q<st.length:=by omega
   have hsq:st[q]?=some st[q]:=List.getElem?_eq_getElem hq16
   have ds:wr.cell? ⟨w.heap.size,q,none⟩=some (.int .i64 st[q]):=by rw [cell_of hH];simp [hsq]
   generalize st[q]=v at hsq ds
   have q1:¬((q:Int)<0):=by omega
   have q2:¬(16≤(q:Int)):=by omega
   have q3:(q:Int)<16:=by omega
   have HSQ:=hide hsq
   have HA:=hide hA
   have HH:=hide hH
   have HB:=hide hB
   clear hc hA hH hB hsq hq hpb
   by_cases hv:v=2
   ·subst hv
    go_wp2
    go_roundw
    case rel=>exact ⟨j+1,by omega,by go_num,by rw [uh HT,uh HA];simpa using uh HSQ,uh HH,uh HB⟩
    case measure=>simp [intOf];omega
   ·have hv2:Hid (¬st[(q:Int).toNat]?=some 2):=by
     unfold Hid
     rw [show ((q:Int)).toNat=q by omega,uh HSQ]
     simpa using hv
    go_wp2
    go_ret
    exact ⟨by rw [uh HNo (uh hv2)];rfl,uh HB⟩
  ·have e:j=par.length:=by omega
   subst e
   rw [List.take_length] at hA
   have HA:=hide hA
   have HB:=hide hB
   clear hA hH hB
   go_wp2
   go_ret
   exact ⟨by rw [uh HA];rfl,uh HB⟩
end Go.Proofs.YtpnkmnmchdabkaaGreat
namespace Go.Proofs.YtpnkmnmchdabkaaGreat
def dnP (dn:List Int) (k:Nat):Int:=(dn[k*2]?).getD 0
theorem dnP_get {dn:List Int} (h:dn.length=32) {k:Nat} (hk:k<16):dn[k*2]?=some (dnP dn k):=by
 unfold dnP
 rw [List.getElem?_eq_getElem (by omega)]
 rfl
def stgV (st:List Int) (d:Int) (s:Sh):Int:=if allTwo st s.par=true then (if (!s.op && decide ((s.cnt:Int)≤d))=true then 2 else 1) else 0
def stgUp (l:List Sh) (dn:Nat→Int):Nat→List Int
 | 0=>List.replicate 16 0
 | k+1=>match l[k]? with
   | some s=>(stgUp l dn k).set k (stgV (stgUp l dn k) (dn k) s)
   | none=>stgUp l dn k
theorem stgUp_len (l:List Sh) (dn:Nat→Int) (k:Nat):(stgUp l dn k).length=16:=by
 induction k with
 | zero=>simp [stgUp]
 | succ k ih=>unfold stgUp;cases l[k]? <;> simp [ih]
theorem stgUp_succ {l:List Sh} {dn:Nat→Int} {k:Nat} {s:Sh} (h:l[k]?=some s):stgUp l dn (k+1)=(stgUp l dn k).set k (stgV (stgUp l dn k) (dn k) s):=by
 rw [stgUp,h]
theorem stgUp_zero (l:List Sh) (dn:Nat→Int):∀k j,k≤j→j<16→(stgUp l dn k)[j]?=some 0:=by
 intro k
 induction k with
 | zero=>intro j _ hj;rw [stgUp,List.getElem?_replicate,if_pos hj]
 | succ k ih =>
   intro j hkj hj
   unfold stgUp
   cases l[k]? with
   | none=>exact ih j (by omega) hj
   | some s=>rw [List.getElem?_set_ne (by omega)];exact ih j (by omega) hj
def stg (l:List Sh) (dn:Nat→Int) (k:Nat):Int:=if rdy l dn k=true then (if fin l dn k=true then 2 else 1) else 0
theorem stg_two {l:List Sh} (hI:Inv l) {dn:Nat→Int} {k:Nat} {s:Sh} (hk:l[k]?=some s):stg l dn k=2 ↔ fin l dn k=true:=by
 have:=fin_is hI dn hk
 unfold stg
 by_cases hr:rdy l dn k=true
 ·rw [if_pos hr]
  by_cases hf:fin l dn k=true
  ·simp [hf]
  ·simp [hf]
 ·rw [if_neg hr]
  have hf:fin l dn k=false:=by rw [this];simp [hr]
  simp [hf]
theorem stgUp_is {l:List Sh} (hI:Inv l) (dn:Nat→Int) (hd:∀k s,l[k]?=some s→dn k≤s.cnt):∀n,n≤l.length→(∀k,k<n→(stgUp l dn n)[k]?=some (stg l dn k))∧(∀k,n≤k→k<16→(stgUp l dn n)[k]?=some 0):=by
 have h16:=hI.len
 intro n
 induction n with
 | zero =>
   intro _
   refine ⟨fun k hk=>by omega,fun k _ hk=>?_⟩
   rw [stgUp,List.getElem?_replicate,if_pos hk]
 | succ n ih =>
   intro hn
   obtain ⟨ih1,ih2⟩:=ih (by omega)
   have hs:l[n]?=some l[n]:=List.getElem?_eq_getElem (by omega)
   generalize l[n]=s at hs
   have hlen:=stgUp_len l dn n
   rw [stgUp_succ hs]
   refine ⟨fun k hk=>?_,fun k hk1 hk2=>?_⟩
   ·by_cases he:k=n
    ·subst he
     rw [List.getElem?_set_self (by omega)]
     congr 1
     have hall:allTwo (stgUp l dn k) s.par=rdy l dn k:=by
      rw [rdy_is dn hs]
      unfold allTwo
      refine all_same fun p hp=>?_
      obtain ⟨q,t,rfl,hq,hqt⟩:=hI.parR k s hs p hp
      have ht:l[q]?=some l[q]:=List.getElem?_eq_getElem (by omega)
      rw [show ((q:Int)).toNat=q by omega,ih1 q hq]
      have:=stg_two hI (dn:=dn) ht
      by_cases hf:fin l dn q=true
      ·simp [this.2 hf,hf]
      ·have h2:stg l dn q≠2:=fun e=>hf (this.1 e)
       simp [h2,hf]
     have hfin:=fin_is hI dn hs
     have hle:=hd k s hs
     unfold stgV stg
     rw [hall,hfin]
     by_cases hr:rdy l dn k=true
     ·rw [if_pos hr,if_pos hr,hr,Bool.true_and]
      have:decide ((s.cnt:Int)≤dn k)=decide (dn k=s.cnt):=by
       by_cases he:dn k=s.cnt
       ·simp [he]
       ·have:¬((s.cnt:Int)≤dn k):=by omega
        simp [he,this]
      rw [this]
     ·rw [if_neg hr,if_neg hr]
    ·rw [List.getElem?_set_ne (by omega)]
     exact ih1 k (by omega)
   ·rw [List.getElem?_set_ne (by omega)]
    exact ih2 k (by omega) hk2
end Go.Proofs.YtpnkmnmchdabkaaGreat
namespace Go.Proofs.YtpnkmnmchdabkaaGreat
open Go.RowKit
structure LeRow (w:World) (b:Nat) (t:TypeId) (A:List Value) (ls:List Le) (B:List Value):Prop where
 blk:w.heap[b]?=some (.cells (A ++ (leCells ls ++ B)).toArray t (0,0))
 len:ls.length=16
theorem LeRow.cellAt {w:World} {b:Nat} {t:TypeId} {A B:List Value} {ls:List Le} (h:LeRow w b t A ls B) (j:Nat) (hj:j<48):w.cell? ⟨b,A.length+j,none⟩=(leCells ls)[j]?:=by
 rw [cell_of h.blk,List.getElem?_toArray,List.getElem?_append_right (by omega),Nat.add_sub_cancel_left,List.getElem?_append_left (by rw [leCells_len,h.len];omega)]
theorem LeRow.setAt {w:World} {b:Nat} {t:TypeId} {A B:List Value} {ls ls':List Le} (h:LeRow w b t A ls B) (j:Nat) (hj:j<48) (u:Value) (e:(leCells ls).set j u=leCells ls') (hl:ls'.length=ls.length):LeRow (w.setCell ⟨b,A.length+j,none⟩ u) b t A ls' B:=by
 refine ⟨?_,hl.trans h.len⟩
 rw [heap_setCell_same h.blk,List.setIfInBounds_toArray,List.set_append_right _ _ (by omega),Nat.add_sub_cancel_left,List.set_append_left _ _ (by rw [leCells_len,h.len];omega),e]
theorem LeRow.block {w w':World} {b:Nat} {t:TypeId} {A B:List Value} {ls:List Le} (h:LeRow w b t A ls B) (hb:w'.heap[b]?=w.heap[b]?):LeRow w' b t A ls B:=⟨hb.trans h.blk,h.len⟩
theorem LeRow.three {w:World} {b:Nat} {t:TypeId} {A B:List Value} {ls:List Le} (h:LeRow w b t A ls B) {n:Nat} {x:Le} (hx:ls[n]?=some x) :
 w.cell? ⟨b,A.length+n*3,none⟩=some (.int .i64 x.o)∧w.cell? ⟨b,A.length+n*3+1,none⟩=some (.int .i64 x.c)∧w.cell? ⟨b,A.length+n*3+2,none⟩=some (.int .i64 x.e):=by
 have hn:=(List.getElem?_eq_some_iff.1 hx).1
 have hl:=h.len
 obtain ⟨g0,g1,g2⟩:=leCells_get ls n x hx
 exact ⟨(h.cellAt _ (by omega)).trans g0,(h.cellAt (n*3+1) (by omega)).trans g1,(h.cellAt (n*3+2) (by omega)).trans g2⟩
theorem leGet_set {ls:List Le} {n:Nat} {x y:Le} (h:ls[n]?=some x):(ls.set n y)[n]?=some y:=by
 have:=(List.getElem?_eq_some_iff.1 h).1
 simp [this]
def LePost (w:World) (b:Nat) (t:TypeId) (A:List Value) (ls:List Le) (B:List Value) (w':World):Prop:=LeRow w' b t A ls B∧Keeps (fun k=>k=b) w w'
theorem rowOf_any (w:World) (b:Nat) (t:TypeId) (A B:List Value) (ls:List Le) (n:Nat) (x:Le) (h:LeRow w b t A ls B) (hx:ls[n]?=some x) :
 Calls Tryz.prog 97 #[.pointer (some ⟨b,A.length,none⟩),.int .i64 n] w fun e w'=>e=.returned (.agg #[.int .i64 x.o,.int .i64 x.c,.int .i64 x.e])∧Below w.heap.size w w':=by
 have hn:=(List.getElem?_eq_some_iff.1 hx).1
 have hl:=h.len
 obtain ⟨c0,c1,c2⟩:=h.three hx
 exact leOf_any b A.length n (by omega) x w (lt_of_heap h.blk) c0 c1 c2
theorem rowGive_any (w:World) (b:Nat) (t:TypeId) (A B:List Value) (ls:List Le) (n:Nat) (x:Le) (wk:Int) (h:LeRow w b t A ls B) (hx:ls[n]?=some x) :
 Calls Tryz.prog 121 #[.pointer (some ⟨b,A.length,none⟩),.int .i64 n,.int .i64 wk] w fun e w'=>e=.returned (.int .i64 (inc x.e))∧LePost w b t A (ls.set n ⟨wk,inc x.c,inc x.e⟩) B w':=by
 have hn:=(List.getElem?_eq_some_iff.1 hx).1
 have hl:=h.len
 obtain ⟨c0,c1,c2⟩:=h.three hx
 refine (leGive_any b A.length n (by omega) x wk w c0 c1 c2 (fun q=>frozen_of h.blk q)).mono ?_
 intro e w' hq
 have s0:=h.setAt (n*3) (by omega) (.int .i64 wk) (leCells_set0 ls n x hx wk) (by simp)
 have s1:=s0.setAt (n*3+1) (by omega) (.int .i64 (inc x.c)) (leCells_set1 _ n _ (leGet_set hx) _) (by simp)
 have s2:=s1.setAt (n*3+2) (by omega) (.int .i64 (inc x.e)) (leCells_set2 _ n _ (leGet_set (leGet_set hx)) _) (by simp)
 rw [List.set_set,List.set_set] at s2
 refine ⟨hq.1,s2.block (hq.2.block b (lt_of_heap h.blk)),?_⟩
 have k0:Keeps (fun k=>k=b) w (((w.setCell ⟨b,A.length+n*3,none⟩ (.int .i64 wk)).setCell ⟨b,A.length+n*3+1,none⟩ (.int .i64 (inc x.c))).setCell ⟨b,A.length+n*3+2,none⟩ (.int .i64 (inc x.e))):=by
  iterate 3 refine Keeps.setCell (S:=fun k=>k=b) ?_ (by exact Or.inl rfl) _
  exact Keeps.refl _ w
 exact k0.trans ((Keeps.of_below hq.2).mono fun k hk hs=>by simp at hk;omega)
theorem rowRenew_any (w:World) (b:Nat) (t:TypeId) (A B:List Value) (ls:List Le) (n:Nat) (x:Le) (h:LeRow w b t A ls B) (hx:ls[n]?=some x) :
 Calls Tryz.prog 118 #[.pointer (some ⟨b,A.length,none⟩),.int .i64 n] w fun e w'=>e=.returned (.tuple #[])∧LePost w b t A (ls.set n { x with c:=inc x.c }) B w':=by
 have hn:=(List.getElem?_eq_some_iff.1 hx).1
 have hl:=h.len
 obtain ⟨c0,c1,c2⟩:=h.three hx
 refine (leRenew_any b A.length n (by omega) x w c1 (fun q=>frozen_of h.blk q)).mono ?_
 intro e w' hq
 have s1:=h.setAt (n*3+1) (by omega) (.int .i64 (inc x.c)) (leCells_set1 _ n _ hx _) (by simp)
 refine ⟨hq.1,s1.block (hq.2.block b (lt_of_heap h.blk)),?_⟩
 have k0:Keeps (fun k=>k=b) w (w.setCell ⟨b,A.length+n*3+1,none⟩ (.int .i64 (inc x.c))):=by
  refine Keeps.setCell (S:=fun k=>k=b) ?_ (by exact Or.inl rfl) _
  exact Keeps.refl _ w
 exact k0.trans ((Keeps.of_below hq.2).mono fun k hk hs=>by simp at hk;omega)
theorem rowFree_any (w:World) (b:Nat) (t:TypeId) (A B:List Value) (ls:List Le) (n:Nat) (x:Le) (h:LeRow w b t A ls B) (hx:ls[n]?=some x) :
 Calls Tryz.prog 117 #[.pointer (some ⟨b,A.length,none⟩),.int .i64 n] w fun e w'=>e=.returned (.tuple #[])∧LePost w b t A (ls.set n ⟨-1,inc x.c,x.e⟩) B w':=by
 have hn:=(List.getElem?_eq_some_iff.1 hx).1
 have hl:=h.len
 obtain ⟨c0,c1,c2⟩:=h.three hx
 refine (leFree_any b A.length n (by omega) x w c0 c1 (fun q=>frozen_of h.blk q)).mono ?_
 intro e w' hq
 have s0:=h.setAt (n*3) (by omega) (.int .i64 (-1)) (leCells_set0 ls n x hx (-1)) (by simp)
 have s1:=s0.setAt (n*3+1) (by omega) (.int .i64 (inc x.c)) (leCells_set1 _ n _ (leGet_set hx) _) (by simp)
 rw [List.set_set] at s1
 refine ⟨hq.1,s1.block (hq.2.block b (lt_of_heap h.blk)),?_⟩
 have k0:Keeps (fun k=>k=b) w ((w.setCell ⟨b,A.length+n*3,none⟩ (.int .i64 (-1))).setCell ⟨b,A.length+n*3+1,none⟩ (.int .i64 (inc x.c))):=by
  iterate 2 refine Keeps.setCell (S:=fun k=>k=b) ?_ (by exact Or.inl rfl) _
  exact Keeps.refl _ w
 exact k0.trans ((Keeps.of_below hq.2).mono fun k hk hs=>by simp at hk;omega)
end Go.Proofs.YtpnkmnmchdabkaaGreat
namespace Go.Proofs.YtpnkmnmchdabkaaGreat
open Go.RowKit
attribute [local go_sem ↓] Go.wp_at_zero Go.wp_at_succ
def heldOf (P:List Pl) (i:Nat):Nat→List Hd
 | 0=>[]
 | k+1=>heldOf P i k ++ (match P[i*16+k]? with | some p=>if p.held=true then [p.h] else [] | none=>[])
theorem heldOf_le (P:List Pl) (i k:Nat):(heldOf P i k).length≤k:=by
 induction k with
 | zero=>simp [heldOf]
 | succ k ih =>
   rw [heldOf,List.length_append]
   cases P[i*16+k]? with
   | none=>simp;omega
   | some p=>by_cases h:p.held=true <;> simp [h] <;> omega
set_option maxRecDepth 100000 in
set_option maxHeartbeats 4000000 in
theorem plHolds_any (w:World) (g cap N:Nat) (P:List Pl) (i:Nat) (hi:i<N) (h:PlsAt w g cap N P) :
 Calls Tryz.prog 107 #[.pointer (some ⟨g,i*128,none⟩)] w fun e w'=>∃v,e=.returned v∧w'.ownsRow w.heap.size 102 4 v (heldOf P i 16).length (rowHd (heldOf P i 16))∧Below w.heap.size w w':=by
 obtain ⟨i0,hi0,hz0,hz1,hz2⟩:=info_parts infoHold
 have hlen:=h.len
 have HX:Hid (∀W,Below w.heap.size w W→PlsAt W g cap N P):=fun W hb=>h.block (hb.block g h.lt)
 have hg:=h.lt
 have HS0:Hid ((w.alloc (.cells #[] 102)).ownsRow w.heap.size 102 4 (.slice (some ⟨w.heap.size,0,none⟩) 0 0) 0 []):=⟨rfl,.inr ⟨w.heap.size,0,#[],rfl,Nat.le_refl _,heap_alloc_new w _,Nat.le_refl _,by unfold maxLen;omega,rfl,rfl⟩⟩
 clear h
 go_enter Tryz.func107,Tryz.ntmps107
 go_wp2
 go_loopw [3,4] (fun p q wr=>∃(j cp:Nat) (a:Option Addr),j≤16∧q=.int .i64 j∧p=.slice a (heldOf P i j).length cp∧wr.ownsRow w.heap.size 102 4 (.slice a (heldOf P i j).length cp) (heldOf P i j).length (rowHd (heldOf P i j))∧Below w.heap.size w wr) (fun _ q _=>16 - (intOf q).toNat)
 case atStart=>exact ⟨0,0,some ⟨w.heap.size,0,none⟩,Nat.zero_le _,rfl,rfl,uh HS0,(Below.refl _ w).alloc (Nat.le_refl _) _⟩
 case round =>
  obtain ⟨j,cp,a,hj,rfl,rfl,hown,hB⟩:=hrel
  by_cases hlt:j<16
  ·have hl:i*16+j<P.length:=by omega
   have hp:=List.getElem?_eq_getElem hl
   generalize P[i*16+j]=p at hp
   have HS:Hid (heldOf P i (j+1)=heldOf P i j ++ (if p.held=true then [p.h] else [])):=by
    unfold Hid
    rw [heldOf,hp]
   obtain ⟨_,a0,a1,a2,a3,a4,_⟩:=(uh HX wr hB).place hp
   have hle:(heldOf P i j).length≤16:=by have:=heldOf_le P i j;omega
   have HO:=hide hown
   have HB:=hide hB
   have hws:=hB.size
   have HGL:=hide (fun q hq=>hown.lt q hq)
   cases hh:p.held
   ·rw [hh] at a0 HS
    clear hown hB hp hl
    go_wp2
    go_roundw
    case rel =>
     refine ⟨j+1,cp,a,by omega,by go_num,?_,?_,uh HB⟩
     ·rw [uh HS];simp
     ·rw [uh HS];simpa using uh HO
    case measure=>simp [intOf];omega
   ·rw [hh] at a0 HS
    clear hown hB hp hl
    generalize hFF:heldOf P i j=F at *
    clear hFF
    go_wp2_with (at_builtin;go_must (refine wpList_append_lies _ rfl _ _ _ rfl w.heap.size 102 i0 _ 4 32 Tryz.underlying81 hi0 hz0 hz1 hz2 rfl (by omega) _ F.length (rowHd F) rfl ?own ⟨wr.heap.size,0,none⟩ 1 1 (hdCells p.h) rfl rfl ?news ?one (by omega) ?h63 ?bytes ?base (wr.heap.size+1) ?hH ?next))
    case own=>exact (uh HO).alloc _
    case news=>exact fun _ _ hj=>hj
    case one =>
     intro u hu
     simp [hdCells] at hu
     rcases hu with rfl | rfl | rfl | rfl <;> rfl
    case h63=>unfold maxLen;omega
    case bytes=>omega
    case base=>omega
    case next =>
     intro g2 cap2 w2 hown2 hgrow2 hat hlt2
     have hB2:Hid (Below w.heap.size w w2):=((uh HB).alloc hws _).grown hgrow2 (by simp;omega) (fun q hq=>(uh HGL q hq).1)
     have HN:=hide hown2
     clear hown2 hgrow2 hat
     go_wp2
     go_roundw
     case rel =>
      refine ⟨j+1,cap2,some ⟨g2,0,none⟩,by omega,by go_num,?_,?_,uh hB2⟩
      ·rw [uh HS];simp
      ·rw [uh HS,if_pos trivial,rowHd_append]
       simpa [rowHd] using uh HN
     case measure=>simp [intOf];omega
  ·have e:j=16:=by omega
   subst e
   have HO:=hide hown
   have HB:=hide hB
   clear hown hB
   go_wp2
   go_ret
   exact ⟨_,rfl,uh HO,uh HB⟩
end Go.Proofs.YtpnkmnmchdabkaaGreat
namespace Go.Proofs.YtpnkmnmchdabkaaGreat
open Go.RowKit
theorem LogAt.keepsT {S:Nat→Prop} {w w':World} {ρ:Nat→Nat} {sv:Value} {m:List Cs} (h:LogAt w ρ sv m) (hk:Keeps S w w') (hS:∀k,k<w.heap.size→S k→ρ k<2∨40≤ρ k) (hm:m.length≤16):LogAt w' ρ sv m:=by
 have lt:∀{i:Nat} {s:Cs},m[i]?=some s→i<16:=fun hi=>by have:=(List.getElem?_eq_some_iff.1 hi).1;omega
 refine ⟨?_,h.rowT,?_,h.parT,?_,h.rcT⟩
 ·refine ownsRow_keeps h.row hk fun k hkk hs=>?_
  have:=h.rowT k hkk;have:=hS k (h.row.lt k hkk).2 hs
  omega
 ·intro i s hi
  refine ownsRow_keeps (h.par i s hi) hk fun k hkk hs=>?_
  have:=h.parT i s hi k hkk;have:=hS k ((h.par i s hi).lt k hkk).2 hs;have:=lt hi
  omega
 ·intro i s hi
  have hx:=h.rcv i s hi
  refine ownsRow_keeps hx hk fun k hkk hs=>?_
  have:=h.rcT i s hi k hkk;have:=hS k (hx.lt k hkk).2 hs;have:=lt hi
  omega
structure GrpL (w:World) (ρ:Nat→Nat) (gb:Nat) (C:Cfg) (now:Rest) (sv:Value) (m:List Cs) (g cap:Nat) (P:List Pl):Prop where
 G:GrpAt w ρ gb C now sv m
 hw:now.wv=.slice (some ⟨g,0,none⟩) now.n cap
 hm:now.mem=plsCells P
 hl:P.length=now.n*16
 le:m.length≤16
 fits:Fits w ρ
def grpA (C:Cfg) (sv:Value) (now:Rest):List Value:=[.int .i64 C.a,.int .i64 C.l,.int .i64 C.b,.int .i64 C.n,.int .i64 C.s,.int .i64 C.t,.int .i64 now.t,sv] ++ now.dn.map (Value.int .i64)
theorem grpArr_A (C:Cfg) (sv:Value) (now:Rest):grpArr C sv now=(grpA C sv now ++ (leCells now.ls ++ [now.wv])).toArray:=by
 unfold grpArr grpA Rest.cells
 simp
theorem grpA_len (C:Cfg) (sv:Value) (now:Rest) (h:now.dn.length=32):(grpA C sv now).length=40:=by
 unfold grpA;simp [h]
theorem GrpL.pls {w:World} {ρ:Nat→Nat} {gb:Nat} {C:Cfg} {now:Rest} {sv:Value} {m:List Cs} {g cap:Nat} {P:List Pl} (h:GrpL w ρ gb C now sv m g cap P):PlsAt w g cap now.n P :=
 ⟨by have:=h.G.wk;rw [h.hw,h.hm] at this;exact this,h.hl⟩
theorem GrpL.gT {w:World} {ρ:Nat→Nat} {gb:Nat} {C:Cfg} {now:Rest} {sv:Value} {m:List Cs} {g cap:Nat} {P:List Pl} (h:GrpL w ρ gb C now sv m g cap P):ρ g=40∧ρ gb=1∧gb<w.heap.size∧g<w.heap.size :=
 ⟨h.G.wkT g (by rw [h.hw];rfl),h.G.tag,lt_of_heap h.G.blk,h.pls.lt⟩
theorem GrpL.row {w:World} {ρ:Nat→Nat} {gb:Nat} {C:Cfg} {now:Rest} {sv:Value} {m:List Cs} {g cap:Nat} {P:List Pl} (h:GrpL w ρ gb C now sv m g cap P):LeRow w gb 71 (grpA C sv now) now.ls [now.wv] :=
 ⟨by rw [←grpArr_A];exact h.G.blk,h.G.lsL⟩
theorem GrpL.wcell {w:World} {ρ:Nat→Nat} {gb:Nat} {C:Cfg} {now:Rest} {sv:Value} {m:List Cs} {g cap:Nat} {P:List Pl} (h:GrpL w ρ gb C now sv m g cap P):w.cell? ⟨gb,88,none⟩=some (.slice (some ⟨g,0,none⟩) now.n cap):=by
 rw [cell_of h.G.blk,grpArr_A,List.getElem?_toArray,List.getElem?_append_right (by rw [grpA_len _ _ _ h.G.dnL];omega),grpA_len _ _ _ h.G.dnL,List.getElem?_append_right (by rw [leCells_len,h.G.lsL];omega),leCells_len,h.G.lsL]
 simp [h.hw]
theorem GrpL.dcell {w:World} {ρ:Nat→Nat} {gb:Nat} {C:Cfg} {now:Rest} {sv:Value} {m:List Cs} {g cap:Nat} {P:List Pl} (h:GrpL w ρ gb C now sv m g cap P) (j:Nat) (d:Int) (hj:now.dn[j]?=some d):w.cell? ⟨gb,8+j,none⟩=some (.int .i64 d):=by
 have hlt:=(List.getElem?_eq_some_iff.1 hj).1
 have:=h.G.dnL
 rw [cell_of h.G.blk,grpArr_A,List.getElem?_toArray,List.getElem?_append_left (by rw [grpA_len _ _ _ h.G.dnL];omega)]
 unfold grpA
 rw [List.getElem?_append_right (by simp)]
 simp [hj]
theorem GrpL.tcell {w:World} {ρ:Nat→Nat} {gb:Nat} {C:Cfg} {now:Rest} {sv:Value} {m:List Cs} {g cap:Nat} {P:List Pl} (h:GrpL w ρ gb C now sv m g cap P):w.cell? ⟨gb,6,none⟩=some (.int .i64 now.t)∧w.cell? ⟨gb,7,none⟩=some sv∧w.cell? ⟨gb,1,none⟩=some (.int .i64 C.l)∧w.cell? ⟨gb,2,none⟩=some (.int .i64 C.b) :=
 ⟨cell_of h.G.blk 6,cell_of h.G.blk 7,cell_of h.G.blk 1,cell_of h.G.blk 2⟩
theorem GrpL.setPl {w w':World} {ρ:Nat→Nat} {gb:Nat} {C:Cfg} {now:Rest} {sv:Value} {m:List Cs} {g cap:Nat} {P P':List Pl} (h:GrpL w ρ gb C now sv m g cap P) (hp:PlPost w g cap now.n P' w'):GrpL w' ρ gb C { now with mem:=plsCells P' } sv m g cap P'∧Keeps (mine ρ) w w':=by
 obtain ⟨t1,t2,l1,l2⟩:=h.gT
 have hk:=hp.2
 refine ⟨⟨⟨?_,h.G.tag,h.G.log.keepsT hk (fun k _ e=>by subst e;omega) h.le,?_,h.G.wkT,h.G.dnL,h.G.lsL⟩,h.hw,rfl,hp.1.len,h.le,fun k hk'=>h.fits k (by have:=hk.size;omega)⟩,hk.mono fun k _ e=>by subst e;unfold mine;omega⟩
 ·rw [hk.block gb l1 (by rintro rfl;omega)];exact h.G.blk
 ·have:=hp.1.row
  simpa [h.hw] using this
theorem GrpL.setLe {w w':World} {ρ:Nat→Nat} {gb:Nat} {C:Cfg} {now:Rest} {sv:Value} {m:List Cs} {g cap:Nat} {P:List Pl} {ls':List Le} (h:GrpL w ρ gb C now sv m g cap P) (hp:LePost w gb 71 (grpA C sv now) ls' [now.wv] w'):GrpL w' ρ gb C { now with ls:=ls' } sv m g cap P∧Keeps (mine ρ) w w':=by
 obtain ⟨t1,t2,l1,l2⟩:=h.gT
 have hk:=hp.2
 refine ⟨⟨⟨?_,h.G.tag,h.G.log.keepsT hk (fun k _ e=>by subst e;omega) h.le,?_,h.G.wkT,h.G.dnL,hp.1.len⟩,h.hw,h.hm,h.hl,h.le,fun k hk'=>h.fits k (by have:=hk.size;omega)⟩,hk.mono fun k _ e=>by subst e;unfold mine;omega⟩
 ·rw [hp.1.blk,grpArr_A];rfl
 ·refine ownsRow_keeps h.G.wk hk fun k hkk e=>?_
  subst e
  have:=h.G.wkT _ hkk
  omega
theorem GrpL.below {w w':World} {ρ:Nat→Nat} {gb:Nat} {C:Cfg} {now:Rest} {sv:Value} {m:List Cs} {g cap:Nat} {P:List Pl} (h:GrpL w ρ gb C now sv m g cap P) (hb:Below w.heap.size w w'):GrpL w' ρ gb C now sv m g cap P∧Keeps (mine ρ) w w' :=
 ⟨⟨h.G.keeps (Keeps.of_below hb) (fun j hj=>Or.inr hj) (fun _ _=>rfl) h.le,h.hw,h.hm,h.hl,h.le,fun k hk=>h.fits k (by have:=hb.size;omega)⟩,(Keeps.of_below hb).mono fun k hk hs=>by omega⟩
theorem GrpL.setDn {w:World} {ρ:Nat→Nat} {gb:Nat} {C:Cfg} {now:Rest} {sv:Value} {m:List Cs} {g cap:Nat} {P:List Pl} (h:GrpL w ρ gb C now sv m g cap P) (j:Nat) (hj:j<32) (v:Int):GrpL (w.setCell ⟨gb,8+j,none⟩ (.int .i64 v)) ρ gb C { now with dn:=now.dn.set j v } sv m g cap P∧Keeps (mine ρ) w (w.setCell ⟨gb,8+j,none⟩ (.int .i64 v)):=by
 obtain ⟨t1,t2,l1,l2⟩:=h.gT
 have hk:Keeps (fun k=>k=gb) w (w.setCell ⟨gb,8+j,none⟩ (.int .i64 v)):=Keeps.setCell (S:=fun k=>k=gb) (Keeps.refl _ w) (by exact Or.inl rfl) _
 refine ⟨⟨⟨?_,h.G.tag,h.G.log.keepsT hk (fun k _ e=>by subst e;omega) h.le,?_,h.G.wkT,by simpa using h.G.dnL,h.G.lsL⟩,h.hw,h.hm,h.hl,h.le,fun k hk'=>h.fits k (by simpa [World.setCell] using hk')⟩,hk.mono fun k _ e=>by subst e;unfold mine;omega⟩
 ·have hd:=h.G.dnL
  rw [heap_setCell_same h.G.blk,grpArr_A,grpArr_A,List.setIfInBounds_toArray,List.set_append_left _ _ (by rw [grpA_len _ _ _ hd];omega)]
  unfold grpA
  rw [List.set_append_right _ _ (by simp)]
  simp [List.map_set]
 ·refine ownsRow_keeps h.G.wk hk fun k hkk e=>?_
  subst e
  have:=h.G.wkT _ hkk
  omega
def LP (w:World) (ρ:Nat→Nat) (gb:Nat) (C:Cfg) (now:Rest) (sv:Value) (m:List Cs) (g cap:Nat) (P:List Pl) (w':World):Prop:=GrpL w' ρ gb C now sv m g cap P∧Keeps (mine ρ) w w'
theorem LP.refl {w:World} {ρ:Nat→Nat} {gb:Nat} {C:Cfg} {now:Rest} {sv:Value} {m:List Cs} {g cap:Nat} {P:List Pl} (h:GrpL w ρ gb C now sv m g cap P):LP w ρ gb C now sv m g cap P w:=⟨h,Keeps.refl _ w⟩
theorem LP.trans {w w1 w2:World} {ρ:Nat→Nat} {gb:Nat} {C:Cfg} {now now':Rest} {sv:Value} {m:List Cs} {g cap:Nat} {P P':List Pl} (h:LP w ρ gb C now sv m g cap P w1) (h':LP w1 ρ gb C now' sv m g cap P' w2):LP w ρ gb C now' sv m g cap P' w2:=⟨h'.1,h.2.trans h'.2⟩
theorem gOf_any {w:World} {ρ:Nat→Nat} {gb:Nat} {C:Cfg} {now:Rest} {sv:Value} {m:List Cs} {g cap:Nat} {P:List Pl} (h:GrpL w ρ gb C now sv m g cap P) (n:Nat) (x:Le) (hx:now.ls[n]?=some x) :
 Calls Tryz.prog 97 #[.pointer (some ⟨gb,40,none⟩),.int .i64 n] w fun e w'=>e=.returned (.agg #[.int .i64 x.o,.int .i64 x.c,.int .i64 x.e])∧LP w ρ gb C now sv m g cap P w':=by
 have:=rowOf_any w gb _ _ _ _ n x h.row hx
 rw [grpA_len _ _ _ h.G.dnL] at this
 exact this.mono fun _ _ q=>⟨q.1,h.below q.2⟩
theorem gGive_any {w:World} {ρ:Nat→Nat} {gb:Nat} {C:Cfg} {now:Rest} {sv:Value} {m:List Cs} {g cap:Nat} {P:List Pl} (h:GrpL w ρ gb C now sv m g cap P) (n:Nat) (x:Le) (hx:now.ls[n]?=some x) (wk:Int) :
 Calls Tryz.prog 121 #[.pointer (some ⟨gb,40,none⟩),.int .i64 n,.int .i64 wk] w fun e w'=>e=.returned (.int .i64 (inc x.e))∧LP w ρ gb C { now with ls:=now.ls.set n ⟨wk,inc x.c,inc x.e⟩ } sv m g cap P w':=by
 have:=rowGive_any w gb _ _ _ _ n x wk h.row hx
 rw [grpA_len _ _ _ h.G.dnL] at this
 exact this.mono fun _ _ q=>⟨q.1,h.setLe q.2⟩
theorem gLRenew_any {w:World} {ρ:Nat→Nat} {gb:Nat} {C:Cfg} {now:Rest} {sv:Value} {m:List Cs} {g cap:Nat} {P:List Pl} (h:GrpL w ρ gb C now sv m g cap P) (n:Nat) (x:Le) (hx:now.ls[n]?=some x) :
 Calls Tryz.prog 118 #[.pointer (some ⟨gb,40,none⟩),.int .i64 n] w fun e w'=>e=.returned (.tuple #[])∧LP w ρ gb C { now with ls:=now.ls.set n { x with c:=inc x.c } } sv m g cap P w':=by
 have:=rowRenew_any w gb _ _ _ _ n x h.row hx
 rw [grpA_len _ _ _ h.G.dnL] at this
 exact this.mono fun _ _ q=>⟨q.1,h.setLe q.2⟩
theorem gFree_any {w:World} {ρ:Nat→Nat} {gb:Nat} {C:Cfg} {now:Rest} {sv:Value} {m:List Cs} {g cap:Nat} {P:List Pl} (h:GrpL w ρ gb C now sv m g cap P) (n:Nat) (x:Le) (hx:now.ls[n]?=some x) :
 Calls Tryz.prog 117 #[.pointer (some ⟨gb,40,none⟩),.int .i64 n] w fun e w'=>e=.returned (.tuple #[])∧LP w ρ gb C { now with ls:=now.ls.set n ⟨-1,inc x.c,x.e⟩ } sv m g cap P w':=by
 have:=rowFree_any w gb _ _ _ _ n x h.row hx
 rw [grpA_len _ _ _ h.G.dnL] at this
 exact this.mono fun _ _ q=>⟨q.1,h.setLe q.2⟩
theorem gHold_any {w:World} {ρ:Nat→Nat} {gb:Nat} {C:Cfg} {now:Rest} {sv:Value} {m:List Cs} {g cap:Nat} {P:List Pl} (h:GrpL w ρ gb C now sv m g cap P) (i n:Nat) (hn:n<16) (p:Pl) (hp:P[i*16+n]?=some p) :
 Calls Tryz.prog 77 #[.pointer (some ⟨g,i*128,none⟩),.int .i64 n] w fun e w'=>e=.returned (.tuple #[if p.held=true then .agg #[.int .i64 p.h.sh,.int .i64 p.h.ep,.int .i64 p.h.at_,.int .i64 p.h.bf] else .agg #[.int .i64 0,.int .i64 0,.int .i64 0,.int .i64 0],.bool p.held])∧LP w ρ gb C now sv m g cap P w' :=
 (plHold_any w g cap now.n P i n hn p h.pls hp).mono fun _ _ q=>⟨q.1,h.below q.2⟩
theorem gKeep_any {w:World} {ρ:Nat→Nat} {gb:Nat} {C:Cfg} {now:Rest} {sv:Value} {m:List Cs} {g cap:Nat} {P:List Pl} (h:GrpL w ρ gb C now sv m g cap P) (i n:Nat) (hn:n<16) (p:Pl) (hp:P[i*16+n]?=some p) (ep at_ bf:Int) :
 Calls Tryz.prog 41 #[.pointer (some ⟨g,i*128,none⟩),.agg #[.int .i64 n,.int .i64 ep,.int .i64 at_,.int .i64 bf]] w fun e w'=>e=.returned (.tuple #[])∧LP w ρ gb C { now with mem:=plsCells (P.set (i*16+n) { p with held:=true,h:=⟨n,ep,at_,bf⟩ }) } sv m g cap (P.set (i*16+n) { p with held:=true,h:=⟨n,ep,at_,bf⟩ }) w' :=
 (plKeep_any w g cap now.n P i n hn p ep at_ bf h.pls hp).mono fun _ _ q=>⟨q.1,h.setPl q.2⟩
theorem gDrop_any {w:World} {ρ:Nat→Nat} {gb:Nat} {C:Cfg} {now:Rest} {sv:Value} {m:List Cs} {g cap:Nat} {P:List Pl} (h:GrpL w ρ gb C now sv m g cap P) (i n:Nat) (hn:n<16) (p:Pl) (hp:P[i*16+n]?=some p) :
 Calls Tryz.prog 82 #[.pointer (some ⟨g,i*128,none⟩),.int .i64 n] w fun e w'=>e=.returned (.tuple #[])∧LP w ρ gb C { now with mem:=plsCells (P.set (i*16+n) { p with held:=false,h:=⟨0,0,0,0⟩ }) } sv m g cap (P.set (i*16+n) { p with held:=false,h:=⟨0,0,0,0⟩ }) w' :=
 (plDrop_any w g cap now.n P i n hn p h.pls hp).mono fun _ _ q=>⟨q.1,h.setPl q.2⟩
theorem gNote_any {w:World} {ρ:Nat→Nat} {gb:Nat} {C:Cfg} {now:Rest} {sv:Value} {m:List Cs} {g cap:Nat} {P:List Pl} (h:GrpL w ρ gb C now sv m g cap P) (i n:Nat) (hn:n<16) (p:Pl) (hp:P[i*16+n]?=some p) (c s:Int) :
 Calls Tryz.prog 119 #[.pointer (some ⟨g,i*128,none⟩),.int .i64 n,.int .i64 c,.int .i64 s] w fun e w'=>e=.returned (.tuple #[])∧LP w ρ gb C { now with mem:=plsCells (P.set (i*16+n) (noted p c s)) } sv m g cap (P.set (i*16+n) (noted p c s)) w' :=
 (plNote_any w g cap now.n P i n hn p c s h.pls hp).mono fun _ _ q=>⟨q.1,h.setPl q.2⟩
theorem gNoted_any {w:World} {ρ:Nat→Nat} {gb:Nat} {C:Cfg} {now:Rest} {sv:Value} {m:List Cs} {g cap:Nat} {P:List Pl} (h:GrpL w ρ gb C now sv m g cap P) (i n:Nat) (hn:n<16) (p:Pl) (hp:P[i*16+n]?=some p) (c s u:Int) :
 Calls Tryz.prog 131 #[.pointer (some ⟨g,i*128,none⟩),.int .i64 n,.int .i64 c,.int .i64 s,.int .i64 u] w fun e w'=>e=.returned (.bool (p.made && decide (p.c=c) && decide (u≤dif s p.s)))∧LP w ρ gb C now sv m g cap P w' :=
 (memNoted_any g (i*128) n hn p c s u w (h.pls.place hp)).mono fun _ _ q=>⟨q.1,h.below q.2⟩
theorem gForget_any {w:World} {ρ:Nat→Nat} {gb:Nat} {C:Cfg} {now:Rest} {sv:Value} {m:List Cs} {g cap:Nat} {P:List Pl} (h:GrpL w ρ gb C now sv m g cap P) (i:Nat) (hi:i<now.n) :
 Calls Tryz.prog 96 #[.pointer (some ⟨g,i*128,none⟩)] w fun e w'=>e=.returned (.tuple #[])∧LP w ρ gb C { now with mem:=plsCells (forgetP P i 16) } sv m g cap (forgetP P i 16) w' :=
 (plForget_any w g cap now.n P i hi h.pls).mono fun _ _ q=>⟨q.1,h.setPl q.2⟩
end Go.Proofs.YtpnkmnmchdabkaaGreat
namespace Go.Proofs.YtpnkmnmchdabkaaGreat
open Go.RowKit
attribute [local go_sem ↓] Go.wp_at_zero Go.wp_at_succ
def stA (L:List Int):Array Value:=(L.map (Value.int .i64)).toArray
theorem stA_size {L:List Int} (h:L.length=16):(stA L).size=16:=by unfold stA;simp [h]
theorem stCells_one (L:List Int):∀v ∈ L.map (Value.int .i64),v.oneCell'=true:=by
 intro v hv
 obtain ⟨x,_,rfl⟩:=List.mem_map.1 hv
 rfl
def st0:List Int:=List.replicate 16 0
theorem st0_len:st0.length=16:=by simp [st0]
theorem infoStg:(Tryz.prog.info? 175).map (fun i=>(i.zero,i.size))=some (some (.agg (stA st0)),16):=by kernel_rfl
theorem infoStgSize:(Tryz.prog.info? 175).map (·.size)=some 16:=by kernel_rfl
theorem zvStg (w:World):(zeroValue 175).run Tryz.prog w=.ok (.agg (stA st0)) w:=(zero_of_info infoStg).1 w
theorem ldStg {w:World} {b:Nat} {L:List Int} {t:TypeId} {f:Nat × Nat} (h:w.heap[b]?=some (.cells (stA L) t f)) (hL:L.length=16):(loadVar 175 ⟨b,0,none⟩).run Tryz.prog w=.ok (.agg (stA L)) w :=
 run_loadVar_row w b t _ (stA L) f _ h Tryz.underlying175 rfl (by rw [stA_size hL];exact infoStgSize)
theorem stStg {w:World} {b:Nat} {K L:List Int} {t:TypeId} (h:w.heap[b]?=some (.cells (stA K) t (0,0))) (hK:K.length=16) (hL:L.length=16):(storeVar 175 ⟨b,0,none⟩ (.agg (stA L))).run Tryz.prog w=.ok () (w.setRow b (stA L)) :=
 run_storeVar_row w b t _ (stA K) (stA L) h (by rw [stA_size hL];exact infoStgSize) (by rw [stA_size hK,stA_size hL]) (all_oneCell_toArray (stCells_one L))
def ldS (a:Addr):Sem Value:=loadVar 175 a
def stS (a:Addr) (v:Value):Sem Unit:=storeVar 175 a v
theorem ldS_shut (a:Addr):loadVar 175 a=ldS a:=rfl
theorem stS_shut (a:Addr) (v:Value):storeVar 175 a v=stS a v:=rfl
theorem ldS_is {w:World} {b:Nat} {L:List Int} {t:TypeId} {f:Nat × Nat} (h:w.heap[b]?=some (.cells (stA L) t f)) (hL:L.length=16):(ldS ⟨b,0,none⟩).run Tryz.prog w=.ok (.agg (stA L)) w:=ldStg h hL
theorem stS_is {w:World} {b:Nat} {K L:List Int} {t:TypeId} (h:w.heap[b]?=some (.cells (stA K) t (0,0))) (hK:K.length=16) (hL:L.length=16):(stS ⟨b,0,none⟩ (.agg (stA L))).run Tryz.prog w=.ok () (w.setRow b (stA L)):=stStg h hK hL
theorem stS_new (w:World) (n:Nat) (K L:List Int) (hn:n=w.heap.size) (hK:K.length=16) (hL:L.length=16):(stS ⟨n,0,none⟩ (.agg (stA L))).run Tryz.prog (w.alloc (.cells (stA K) 175))=.ok () (w.alloc (.cells (stA L) 175)):=by
 subst hn
 rw [stS_is (heap_alloc_new w _) hK hL,World.setRow_alloc_new]
attribute [local go_sem ↓] zvStg ldS_shut stS_shut
attribute [local go_sem] stS_new
theorem stA_set {L:List Int} {k:Nat} {v:Int}:(stA L).setIfInBounds k (.int .i64 v)=stA (L.set k v):=by
 unfold stA
 rw [List.setIfInBounds_toArray,List.map_set]
theorem gParents_any {w:World} {ρ:Nat→Nat} {gb:Nat} {C:Cfg} {now:Rest} {sv:Value} {m:List Cs} {g cap:Nat} {P:List Pl} (h:GrpL w ρ gb C now sv m g cap P) {k:Nat} {s:Cs} (hk:m[k]?=some s) (hp:s.s.par.length≤2) :
 Calls Tryz.prog 109 #[.pointer (some ⟨gb,7,none⟩),.int .i64 k] w (CopyPost w s.s.par):=by
 have hk':=(List.getElem?_eq_some_iff.1 hk).1
 obtain ⟨bs,cp,rfl,hbs,hbsl,hcap,hcm,ff,cc⟩:=h.G.log.shape (by omega)
 obtain ⟨a0,a1,a2,a3,a4⟩:=cc k s hk
 obtain ⟨pa,pcap,hpv⟩:=ownsRow_len (h.G.log.par k s hk)
 refine logParents_any gb 7 m.length cp bs k s.s.par pcap pa w hk' hp hbsl h.tcell.2.1 (by rw [a3,hpv]) ?_
 intro j hj
 obtain ⟨q,cap',cur,hv,_,hg,_⟩:=ownsRow_shape (h.G.log.par k s hk) (by omega)
 rw [hpv] at hv
 injection hv with e1 e2 e3
 refine ⟨q,e1,lt_of_heap hg,?_⟩
 have hrow:=h.G.log.par k s hk
 rw [hpv,e1] at hrow
 rw [World.ownsRow.cellAt hrow j (by omega)]
 simp [hj]
theorem gFolded_any {w:World} {ρ:Nat→Nat} {gb:Nat} {C:Cfg} {now:Rest} {sv:Value} {m:List Cs} {g cap:Nat} {P:List Pl} (h:GrpL w ρ gb C now sv m g cap P) {k:Nat} {s:Cs} (hk:m[k]?=some s) :
 Calls Tryz.prog 116 #[.pointer (some ⟨gb,8,none⟩),.pointer (some ⟨gb,7,none⟩),.int .i64 k] w fun e w'=>e=.returned (.bool (!s.s.op && decide ((s.s.cnt:Int)≤dnP now.dn k)))∧w=w':=by
 have hk':=(List.getElem?_eq_some_iff.1 hk).1
 have h16:=h.le
 obtain ⟨bs,cp,rfl,hbs,hbsl,hcap,hcm,ff,cc⟩:=h.G.log.shape (by omega)
 obtain ⟨a0,a1,a2,a3,a4⟩:=cc k s hk
 obtain ⟨xs,hx⟩:=h.G.log.rcs k s hk
 obtain ⟨ra,rcap,hrv⟩:=ownsRow_len hx
 exact sinkFolded_any gb 8 7 k m.length cp bs s.s.cnt rcap ra s.s.op (by omega) hk' (dnP now.dn k) w (h.dcell (k*2) _ (dnP_get h.G.dnL (by omega))) h.tcell.2.1 a2 (by rw [a4,hrv])
theorem gDone_any {w:World} {ρ:Nat→Nat} {gb:Nat} {C:Cfg} {now:Rest} {sv:Value} {m:List Cs} {g cap:Nat} {P:List Pl} (h:GrpL w ρ gb C now sv m g cap P) (k:Nat) (hk:k<16) :
 Calls Tryz.prog 111 #[.pointer (some ⟨gb,8,none⟩),.int .i64 k] w fun e w'=>e=.returned (.int .i64 (dnP now.dn k))∧w=w' :=
 sinkDone_any gb 8 k hk (dnP now.dn k) w (h.dcell (k*2) _ (dnP_get h.G.dnL hk))
theorem gLen_any {w:World} {ρ:Nat→Nat} {gb:Nat} {C:Cfg} {now:Rest} {sv:Value} {m:List Cs} {g cap:Nat} {P:List Pl} (h:GrpL w ρ gb C now sv m g cap P) (h0:0<m.length) :
 Calls Tryz.prog 108 #[.pointer (some ⟨gb,7,none⟩)] w fun e w'=>e=.returned (.int .i64 m.length)∧w=w':=by
 obtain ⟨bs,cp,rfl,_⟩:=h.G.log.shape h0
 exact logLen_any gb 7 m.length cp (some ⟨bs,0,none⟩) w h.tcell.2.1
theorem gAllFin_any (st:List Int) (hst:st.length=16) (par:List Int) (q qc:Nat) (w:World) (hr:∀p ∈ par,0≤p∧p<16) (hl:par.length≤2) (hrow:w.ownsRow 0 3 1 (.slice (some ⟨q,0,none⟩) par.length qc) par.length (par.map (Value.int .i64))) :
 Calls Tryz.prog 115 #[.agg (stA st),.slice (some ⟨q,0,none⟩) par.length qc] w fun e w'=>e=.returned (.bool (allTwo st par))∧Below w.heap.size w w' :=
 allFinished_any st hst par (some ⟨q,0,none⟩) qc w hr hl fun j hj=>⟨q,rfl,(hrow.lt q rfl).2,by rw [World.ownsRow.cellAt hrow j (by omega)];simp [hj]⟩
def StInv (w:World) (ans loc:Nat) (st:List Int) (wr:World):Prop:=wr.heap[ans]?=some (.cells (stA st0) 175 (0,0))∧wr.heap[loc]?=some (.cells (stA st) 175 (0,0))∧Below w.heap.size w wr
set_option maxRecDepth 100000 in
set_option maxHeartbeats 4000000 in
theorem stages_any {w:World} {ρ:Nat→Nat} {gb:Nat} {C:Cfg} {now:Rest} {sv:Value} {m:List Cs} {g cap:Nat} {P:List Pl} (h:GrpL w ρ gb C now sv m g cap P) (hI:Inv (m.map (·.s))) :
 Calls Tryz.prog 86 #[.pointer (some ⟨gb,8,none⟩),.pointer (some ⟨gb,7,none⟩)] w fun e w'=>e=.returned (.agg (stA (stgUp (m.map (·.s)) (dnP now.dn) m.length)))∧Below w.heap.size w w':=by
 have h0:0<m.length:=by have:=hI.pos;simpa using this
 have h16:=h.le
 have z0:=st0_len
 have s0:=stA_size z0
 have HN:Hid (∀W,Below w.heap.size w W→Calls Tryz.prog 108 #[.pointer (some ⟨gb,7,none⟩)] W fun e w'=>e=.returned (.int .i64 m.length)∧W=w'):=fun W hb=>gLen_any (h.below hb).1 h0
 have HP:Hid (∀W,Below w.heap.size w W→∀(k:Nat) (s:Cs),m[k]?=some s→Calls Tryz.prog 109 #[.pointer (some ⟨gb,7,none⟩),.int .i64 k] W (CopyPost W s.s.par)):=fun W hb k s hk=>gParents_any (h.below hb).1 hk (hI.parL k s.s (by simp [hk])).1
 have HF:Hid (∀W,Below w.heap.size w W→∀(k:Nat) (s:Cs),m[k]?=some s→Calls Tryz.prog 116 #[.pointer (some ⟨gb,8,none⟩),.pointer (some ⟨gb,7,none⟩),.int .i64 k] W fun e w'=>e=.returned (.bool (!s.s.op && decide ((s.s.cnt:Int)≤dnP now.dn k)))∧W=w'):=fun W hb k s hk=>gFolded_any (h.below hb).1 hk
 have HA:Hid (∀(k:Nat) (s:Cs),m[k]?=some s→(∀p ∈ s.s.par,0≤p∧p<16)∧s.s.par.length≤2):=fun k s hk=>⟨fun p hp=>by
  obtain ⟨q,t,rfl,hq,_⟩:=hI.parR k s.s (by simp [hk]) p hp
  have:=(List.getElem?_eq_some_iff.1 hk).1
  omega,(hI.parL k s.s (by simp [hk])).1⟩
 have HU:Hid (∀(k:Nat) (s:Cs),m[k]?=some s→stgUp (m.map (·.s)) (dnP now.dn) (k+1)=(stgUp (m.map (·.s)) (dnP now.dn) k).set k (stgV (stgUp (m.map (·.s)) (dnP now.dn) k) (dnP now.dn k) s.s)):=fun k s hk=>stgUp_succ (by simp [hk])
 have HL:Hid (∀k,(stgUp (m.map (·.s)) (dnP now.dn) k).length=16):=fun k=>stgUp_len _ _ k
 have HZ:Hid (∀k j,k≤j→j<16→(stgUp (m.map (·.s)) (dnP now.dn) k)[j]?=some 0):=fun k j hkj hj=>stgUp_zero _ _ k j hkj hj
 have H00:Hid (stgUp (m.map (·.s)) (dnP now.dn) 0=st0):=rfl
 generalize hU:stgUp (m.map (·.s)) (dnP now.dn)=U at HU HL HZ H00 ⊢
 generalize hdn:dnP now.dn=dn at HF HU
 clear h hI hU hdn
 go_enter Tryz.func86,Tryz.ntmps86
 go_wp2_with fail
 have h0':Hid (((w.alloc (.cells (stA st0) 175)).alloc (.cells (stA st0) 175)).heap[w.heap.size]?=some (.cells (stA st0) 175 (0,0))):=by
  unfold Hid
  rw [Below.heap_alloc _ _ _ (by simp)];exact heap_alloc_new w _
 have h1':Hid (((w.alloc (.cells (stA st0) 175)).alloc (.cells (stA st0) 175)).heap[w.heap.size+1]?=some (.cells (stA st0) 175 (0,0))):=by
  unfold Hid
  have:=heap_alloc_new (w.alloc (.cells (stA st0) 175)) (.cells (stA st0) 175)
  simpa using this
 have hb':Hid (Below w.heap.size w ((w.alloc (.cells (stA st0) 175)).alloc (.cells (stA st0) 175))):=((Below.refl _ w).alloc (Nat.le_refl _) _).alloc (by simp) _
 generalize (w.alloc (.cells (stA st0) 175)).alloc (.cells (stA st0) 175)=W at *
 refine (uh HN _ (uh hb')).mono ?_
 rintro e w1 ⟨rfl,rfl⟩
 go_wp2
 go_loopw [7] (fun i wr=>∃k:Nat,k≤m.length∧i=.int .i64 k∧StInv w w.heap.size (w.heap.size+1) (U k) wr) (fun i _=>m.length - (intOf i).toNat)
 case atStart=>exact ⟨0,by omega,rfl,uh h0',by rw [uh H00];exact uh h1',uh hb'⟩
 case round =>
  obtain ⟨k,hk,rfl,q0,q1,qb⟩:=hrel
  have hlk:=uh HL k
  by_cases hlt:k<m.length
  ·obtain ⟨s,hs⟩:∃s,m[k]?=some s:=⟨m[k],List.getElem?_eq_getElem hlt⟩
   have k16:k<16:=by omega
   have Q0:=hide q0
   have Q1:=hide q1
   have QB:=hide qb
   have HS:=hide hs
   clear q0 q1 qb hs
   go_wp2_with fail
   refine (uh HP _ (uh QB) k s (uh HS)).mono ?_
   intro e w1 hcp
   obtain ⟨q,qc,rfl,hrow,hcb⟩:=hcp
   have ROW:=hide (ownsRow_base hrow (Nat.zero_le _))
   have L1:w1.heap[w.heap.size+1]?=some (.cells (stA (U k)) 175 (0,0)):=(hcb.block _ (lt_of_heap (uh Q1))).trans (uh Q1)
   have A1:Hid (w1.heap[w.heap.size]?=some (.cells (stA st0) 175 (0,0))):=(hcb.block _ (lt_of_heap (uh Q0))).trans (uh Q0)
   have B1:Hid (Below w.heap.size w w1):=(uh QB).trans (hcb.mono (uh QB).size)
   have hld:=ldS_is L1 hlk
   have LL:=hide L1
   clear hrow hcb L1 Q0 Q1 QB
   go_wp2_with fail
   refine (gAllFin_any (U k) hlk s.s.par q qc w1 (uh HA k s (uh HS)).1 (uh HA k s (uh HS)).2 (uh ROW)).mono ?_
   rintro e w2 ⟨rfl,hb2⟩
   have L2:w2.heap[w.heap.size+1]?=some (.cells (stA (U k)) 175 (0,0)):=(hb2.block _ (lt_of_heap (uh LL))).trans (uh LL)
   have A2:Hid (w2.heap[w.heap.size]?=some (.cells (stA st0) 175 (0,0))):=(hb2.block _ (lt_of_heap (uh A1))).trans (uh A1)
   have B2:Hid (Below w.heap.size w w2):=(uh B1).trans (hb2.mono (uh B1).size)
   have hf2:=frozen_of L2 k
   have hck:k<(U k).length:=by omega
   have hc2:w2.cell? ⟨w.heap.size+1,k,none⟩=some (.int .i64 (U k)[k]):=by
    rw [cell_of L2]
    unfold stA
    simp [hck]
   have LL2:=hide L2
   have HUk:=hide (uh HU k s (uh HS))
   have nxt:Hid (∀v:Int,U (k+1)=(U k).set k v→StInv w w.heap.size (w.heap.size+1) (U (k+1)) (w2.setCell ⟨w.heap.size+1,k,none⟩ (.int .i64 v))):=by
    intro v hv
    refine ⟨?_,?_,(uh B2).setCell (p:=⟨w.heap.size+1,k,none⟩) (by simp) _⟩
    ·rw [Below.heap_setCell _ _ _ _ (by simp)];exact uh A2
    ·rw [heap_setCell_same (uh LL2),stA_set,hv]
   have nxt0:Hid (U (k+1)=(U k).set k 0→(U k)[k]?=some 0→StInv w w.heap.size (w.heap.size+1) (U (k+1)) w2):=by
    intro hv h0
    refine ⟨uh A2,?_,uh B2⟩
    have:(U k).set k 0=U k:=by
     have h9:=List.getElem?_eq_some_iff.1 h0
     rw [←h9.2,List.set_getElem_self]
    rw [hv,this]
    exact uh LL2
   generalize (U k)[k]=old at hc2
   clear hb2 L2 hld A1 B1 LL ROW
   go_wp2_with fail
   refine (uh HF _ (uh B2) k s (uh HS)).mono ?_
   rintro e w3 ⟨rfl,rfl⟩
   generalize hr:allTwo (U k) s.s.par=rd
   generalize hfo:(!s.s.op && decide ((s.s.cnt:Int)≤dn k))=fo
   have HV:Hid (stgV (U k) (dn k) s.s=if rd=true then (if fo=true then 2 else 1) else 0):=by unfold Hid stgV;rw [hr,hfo]
   clear hr hfo
   rw [uh HV] at HUk
   cases rd
   ·go_wp2
    go_roundw
    case rel=>exact ⟨k+1,by omega,by go_num,uh nxt0 (uh HUk) (uh HZ k k (Nat.le_refl _) k16)⟩
    case measure=>simp [intOf];omega
   ·cases fo
    ·go_wp2
     go_roundw
     case rel=>exact ⟨k+1,by omega,by go_num,uh nxt _ (uh HUk)⟩
     case measure=>simp [intOf];omega
    ·go_wp2
     go_roundw
     case rel=>exact ⟨k+1,by omega,by go_num,uh nxt _ (uh HUk)⟩
     case measure=>simp [intOf];omega
  ·have e:k=m.length:=by omega
   subst e
   have HLd:=ldS_is q1 hlk
   have HSt:=stS_is q0 z0 hlk
   have hs16:=stA_size hlk
   have H2:=hide (setRow_same (cs':=stA (U m.length)) q0)
   have QB:=hide (setRow_below qb (Nat.le_refl _) (stA (U m.length)))
   clear q0 q1 qb
   go_wp2
   refine bodyPost_ret (v:=.agg (stA (U m.length))) ?_ rfl ⟨rfl,uh QB⟩
   exact results_cell_row rfl _ _ w.heap.size _ _ _ _ rfl (uh H2) Tryz.underlying175 rfl (by rw [hs16];exact infoStgSize)
end Go.Proofs.YtpnkmnmchdabkaaGreat
