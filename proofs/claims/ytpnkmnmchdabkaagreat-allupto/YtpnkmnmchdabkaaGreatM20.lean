import Derived.Test.YtpnkmnmchdabkaaGreatM19
import Derived.Test.YtpnkmnmchdabkaaGreatM15
import Derived.Test.YtpnkmnmchdabkaaGreatM12
import Derived.Test.YtpnkmnmchdabkaaGreatM03
namespace Go.Proofs.YtpnkmnmchdabkaaGreat
open Go.RowKit
attribute [local go_sem ↓] Go.wp_at_zero Go.wp_at_succ
set_option maxHeartbeats 400000 in
theorem sinkHas_any (n:Int) (w:World) :
 Calls Tryz.prog 81 #[.int .i64 n] w fun e w'=>e=.returned (.bool (decide (0≤n∧n<16)))∧w=w':=by
 by_cases h1:0≤n
 ·by_cases h2:n<16
  all_goals
   go_enter Tryz.func81,Tryz.ntmps81
   go_wp2
   go_ret
   exact ⟨by simp [h1,h2],rfl⟩
 ·go_enter Tryz.func81,Tryz.ntmps81
  go_wp2
  go_ret
  exact ⟨by simp;omega,rfl⟩
theorem hasS16 {n:Nat} (h:n<16):decide (0≤(n:Int)∧(n:Int)<16)=true:=by simp;omega
set_option maxHeartbeats 1000000 in
theorem sinkDone_any (b o n:Nat) (hn:n<16) (d:Int) (w:World) (c:w.cell? ⟨b,o+n*2,none⟩=some (.int .i64 d)) :
 Calls Tryz.prog 111 #[.pointer (some ⟨b,o,none⟩),.int .i64 n] w fun e w'=>e=.returned (.int .i64 d)∧w=w':=by
 have HH:=fun w=>hide (sinkHas_any n w)
 rw [hasS16 hn] at HH
 go_enter Tryz.func111,Tryz.ntmps111
 go_wp2_with (go_at_call 81;refine (uh (HH _)).mono ?_;rintro e w1 ⟨rfl,rfl⟩)
 go_ret
 exact ⟨rfl,rfl⟩
set_option maxHeartbeats 1000000 in
theorem sinkFolded_any (b o off n N cap bs cnt rcap:Nat) (ra:Option Addr) (op:Bool) (hn:n<16) (hN:n<N) (d:Int) (w:World) (c:w.cell? ⟨b,o+n*2,none⟩=some (.int .i64 d)) (c0:w.cell? ⟨b,off,none⟩=some (.slice (some ⟨bs,0,none⟩) N cap)) (c1:w.cell? ⟨bs,n*5+2,none⟩=some (.bool op)) (c2:w.cell? ⟨bs,n*5+4,none⟩=some (.slice ra cnt rcap)) :
 Calls Tryz.prog 116 #[.pointer (some ⟨b,o,none⟩),.pointer (some ⟨b,off,none⟩),.int .i64 n] w fun e w'=>e=.returned (.bool (!op && decide ((cnt:Int)≤d)))∧w=w':=by
 have H1:=hide (logClosed_any b off N cap bs n op w hN c0 c1)
 have H2:=hide (sinkDone_any b o n hn d w c)
 have H3:=hide (logCount_any b off N cap bs n cnt rcap ra w hN c0 c2)
 clear c c0 c1 c2
 cases op
 all_goals
  go_enter Tryz.func116,Tryz.ntmps116
  go_wp2_with (first | (go_at_call 130;refine (uh H1).mono ?_;rintro e w1 ⟨rfl,rfl⟩) | (go_at_call 111;refine (uh H2).mono ?_;rintro e w1 ⟨rfl,rfl⟩) | (go_at_call 40;refine (uh H3).mono ?_;rintro e w1 ⟨rfl,rfl⟩))
  go_ret
  exact ⟨by simp,rfl⟩
def allTwo (st:List Int) (par:List Int):Bool:=par.all (fun p=>decide (st[p.toNat]?=some 2))
theorem allTwo_take (st par:List Int) (j:Nat) (hj:j<par.length):allTwo st (par.take (j+1))=(allTwo st (par.take j) && decide (st[par[j].toNat]?=some 2)):=by
 unfold allTwo
 rw [List.take_add_one,List.getElem?_eq_getElem hj,List.all_append]
 simp
theorem allTwo_not (st par:List Int) (j:Nat) (hj:j<par.length) (h:¬st[par[j].toNat]?=some 2):allTwo st par=false:=by
 unfold allTwo
 rw [List.all_eq_false]
 exact ⟨par[j],List.getElem_mem hj,by simpa using h⟩
set_option maxRecDepth 100000 in
set_option maxHeartbeats 1000000 in
theorem allFinished_any (st:List Int) (hst:st.length=16) (par:List Int) (pa:Option Addr) (pc:Nat) (w:World) (hr:∀p ∈ par,0≤p∧p<16) (hl:par.length≤2)
 (hpar:∀j (hj:j<par.length),∃pb,pa=some ⟨pb,0,none⟩∧pb<w.heap.size∧w.cell? ⟨pb,j,none⟩=some (.int .i64 par[j])) :
 Calls Tryz.prog 115 #[.agg (st.map (Value.int .i64)).toArray,.slice pa par.length pc] w fun e w'=>e=.returned (.bool (allTwo st par))∧Below w.heap.size w w':=by
 have HP:=hide hpar
 have HR:=hide hr
 have HS:Hid ((w.alloc (.cells (st.map (Value.int .i64)).toArray 175)).heap[w.heap.size]?=some (.cells (st.map (Value.int .i64)).toArray 175 (0,0))):=heap_alloc_new w _
 clear hpar hr
 go_enter Tryz.func115,Tryz.ntmps115
 go_wp2
 go_loopw [5] (fun i wr=>∃j:Nat,j≤par.length∧i=.int .i64 j∧allTwo st (par.take j)=true∧wr.heap[w.heap.size]?=some (.cells (st.map (Value.int .i64)).toArray 175 (0,0))∧Below w.heap.size w wr) (fun i _=>par.length - (intOf i).toNat)
 case atStart=>exact ⟨0,Nat.zero_le _,rfl,rfl,uh HS,(Below.refl _ w).alloc (Nat.le_refl _) _⟩
 case round =>
  obtain ⟨j,hj,rfl,hA,hH,hB⟩:=hrel
  by_cases hlt:j<par.length
  ·obtain ⟨pb,rfl,hpb,hc⟩:=uh HP j hlt
   have dc:=(hB.cell (p:=⟨pb,j,none⟩) hpb).trans hc
   have hmem:=uh HR par[j] (List.getElem_mem hlt)
   have HT:=hide (allTwo_take st par j hlt)
   have HNo:=hide (allTwo_not st par j hlt)
   obtain ⟨q,hq⟩:∃q:Nat,par[j]=(q:Int):=⟨par[j].toNat,by omega⟩
   rw [hq] at dc hmem HT HNo
   have hq16:q<st.length:=by omega
   have hsq:st[q]?=some st[q]:=List.getElem?_eq_getElem hq16
   have ds:wr.cell? ⟨w.heap.size,q,none⟩=some (.int .i64 st[q]):=by rw [cell_of hH];simp [hsq]
   generalize st[q]=v at hsq ds
   have q1:¬((q:Int)<0):=by omega
   have q2:¬(16≤(q:Int)):=by omega
   have q3:(q:Int)<16:=by omega
   have HSQ:=hide hsq
   have HA:=hide hA
   have HH:=hide hH
   have HB:=hide hB
   clear hc hA hH hB hsq hq hpb
   by_cases hv:v=2
   ·subst hv
    go_wp2
    go_roundw
    case rel=>exact ⟨j+1,by omega,by go_num,by rw [uh HT,uh HA];simpa using uh HSQ,uh HH,uh HB⟩
    case measure=>simp [intOf];omega
   ·have hv2:Hid (¬st[(q:Int).toNat]?=some 2):=by
     unfold Hid
     rw [show ((q:Int)).toNat=q by omega,uh HSQ]
     simpa using hv
    go_wp2
    go_ret
    exact ⟨by rw [uh HNo (uh hv2)];rfl,uh HB⟩
  ·have e:j=par.length:=by omega
   subst e
   rw [List.take_length] at hA
   have HA:=hide hA
   have HB:=hide hB
   clear hA hH hB
   go_wp2
   go_ret
   exact ⟨by rw [uh HA];rfl,uh HB⟩
end Go.Proofs.YtpnkmnmchdabkaaGreat
namespace Go.Proofs.YtpnkmnmchdabkaaGreat
def dnP (dn:List Int) (k:Nat):Int:=(dn[k*2]?).getD 0
theorem dnP_get {dn:List Int} (h:dn.length=32) {k:Nat} (hk:k<16):dn[k*2]?=some (dnP dn k):=by
 unfold dnP
 rw [List.getElem?_eq_getElem (by omega)]
 rfl
def stgV (st:List Int) (d:Int) (s:Sh):Int:=if allTwo st s.par=true then (if (!s.op && decide ((s.cnt:Int)≤d))=true then 2 else 1) else 0
def stgUp (l:List Sh) (dn:Nat→Int):Nat→List Int
 | 0=>List.replicate 16 0
 | k+1=>match l[k]? with
   | some s=>(stgUp l dn k).set k (stgV (stgUp l dn k) (dn k) s)
   | none=>stgUp l dn k
theorem stgUp_len (l:List Sh) (dn:Nat→Int) (k:Nat):(stgUp l dn k).length=16:=by
 induction k with
 | zero=>simp [stgUp]
 | succ k ih=>unfold stgUp;cases l[k]? <;> simp [ih]
theorem stgUp_succ {l:List Sh} {dn:Nat→Int} {k:Nat} {s:Sh} (h:l[k]?=some s):stgUp l dn (k+1)=(stgUp l dn k).set k (stgV (stgUp l dn k) (dn k) s):=by
 rw [stgUp,h]
theorem stgUp_zero (l:List Sh) (dn:Nat→Int):∀k j,k≤j→j<16→(stgUp l dn k)[j]?=some 0:=by
 intro k
 induction k with
 | zero=>intro j _ hj;rw [stgUp,List.getElem?_replicate,if_pos hj]
 | succ k ih =>
   intro j hkj hj
   unfold stgUp
   cases l[k]? with
   | none=>exact ih j (by omega) hj
   | some s=>rw [List.getElem?_set_ne (by omega)];exact ih j (by omega) hj
def stg (l:List Sh) (dn:Nat→Int) (k:Nat):Int:=if rdy l dn k=true then (if fin l dn k=true then 2 else 1) else 0
theorem stg_two {l:List Sh} (hI:Inv l) {dn:Nat→Int} {k:Nat} {s:Sh} (hk:l[k]?=some s):stg l dn k=2 ↔ fin l dn k=true:=by
 have:=fin_is hI dn hk
 unfold stg
 by_cases hr:rdy l dn k=true
 ·rw [if_pos hr]
  by_cases hf:fin l dn k=true
  ·simp [hf]
  ·simp [hf]
 ·rw [if_neg hr]
  have hf:fin l dn k=false:=by rw [this];simp [hr]
  simp [hf]
theorem stgUp_is {l:List Sh} (hI:Inv l) (dn:Nat→Int) (hd:∀k s,l[k]?=some s→dn k≤s.cnt):∀n,n≤l.length→(∀k,k<n→(stgUp l dn n)[k]?=some (stg l dn k))∧(∀k,n≤k→k<16→(stgUp l dn n)[k]?=some 0):=by
 have h16:=hI.len
 intro n
 induction n with
 | zero =>
   intro _
   refine ⟨fun k hk=>by omega,fun k _ hk=>?_⟩
   rw [stgUp,List.getElem?_replicate,if_pos hk]
 | succ n ih =>
   intro hn
   obtain ⟨ih1,ih2⟩:=ih (by omega)
   have hs:l[n]?=some l[n]:=List.getElem?_eq_getElem (by omega)
   generalize l[n]=s at hs
   have hlen:=stgUp_len l dn n
   rw [stgUp_succ hs]
   refine ⟨fun k hk=>?_,fun k hk1 hk2=>?_⟩
   ·by_cases he:k=n
    ·subst he
     rw [List.getElem?_set_self (by omega)]
     congr 1
     have hall:allTwo (stgUp l dn k) s.par=rdy l dn k:=by
      rw [rdy_is dn hs]
      unfold allTwo
      refine all_same fun p hp=>?_
      obtain ⟨q,t,rfl,hq,hqt⟩:=hI.parR k s hs p hp
      have ht:l[q]?=some l[q]:=List.getElem?_eq_getElem (by omega)
      rw [show ((q:Int)).toNat=q by omega,ih1 q hq]
      have:=stg_two hI (dn:=dn) ht
      by_cases hf:fin l dn q=true
      ·simp [this.2 hf,hf]
      ·have h2:stg l dn q≠2:=fun e=>hf (this.1 e)
       simp [h2,hf]
     have hfin:=fin_is hI dn hs
     have hle:=hd k s hs
     unfold stgV stg
     rw [hall,hfin]
     by_cases hr:rdy l dn k=true
     ·rw [if_pos hr,if_pos hr,hr,Bool.true_and]
      have:decide ((s.cnt:Int)≤dn k)=decide (dn k=s.cnt):=by
       by_cases he:dn k=s.cnt
       ·simp [he]
       ·have:¬((s.cnt:Int)≤dn k):=by omega
        simp [he,this]
      rw [this]
     ·rw [if_neg hr,if_neg hr]
    ·rw [List.getElem?_set_ne (by omega)]
     exact ih1 k (by omega)
   ·rw [List.getElem?_set_ne (by omega)]
    exact ih2 k (by omega) hk2
end Go.Proofs.YtpnkmnmchdabkaaGreat
namespace Go.Proofs.YtpnkmnmchdabkaaGreat
open Go.RowKit
attribute [local go_sem ↓] Go.wp_at_zero Go.wp_at_succ
def inc (x:Int):Int:=IntKind.i64.wrap (x+1)
theorem inc_is {x:Int} (h:0≤x∧x≤1000000000000):inc x=x+1:=by unfold inc;rw [IntKind.wrap_i64];omega
def dif (s p:Int):Int:=IntKind.i64.wrap (s - p)
theorem dif_is {s p:Int} (h:0≤s∧s≤1000000000000) (h':0≤p∧p≤1000000000000):dif s p=s - p:=by unfold dif;rw [IntKind.wrap_i64];omega
set_option maxHeartbeats 400000 in
theorem leHas_any (b o:Nat) (n:Int) (w:World) :
 Calls Tryz.prog 122 #[.pointer (some ⟨b,o,none⟩),.int .i64 n] w fun e w'=>e=.returned (.bool (decide (0≤n∧n<16)))∧w=w':=by
 by_cases h1:0≤n
 ·by_cases h2:n<16
  all_goals
   go_enter Tryz.func122,Tryz.ntmps122
   go_wp2
   go_ret
   exact ⟨by simp [h1,h2],rfl⟩
 ·go_enter Tryz.func122,Tryz.ntmps122
  go_wp2
  go_ret
  exact ⟨by simp;omega,rfl⟩
theorem has16 {n:Nat} (h:n<16):decide (0≤(n:Int)∧(n:Int)<16)=true:=by simp;omega
set_option maxRecDepth 100000 in
set_option maxHeartbeats 1000000 in
theorem leOf_any (b o n:Nat) (hn:n<16) (x:Le) (w:World) (hb:b<w.heap.size) (c0:w.cell? ⟨b,o+n*3,none⟩=some (.int .i64 x.o)) (c1:w.cell? ⟨b,o+n*3+1,none⟩=some (.int .i64 x.c)) (c2:w.cell? ⟨b,o+n*3+2,none⟩=some (.int .i64 x.e)) :
 Calls Tryz.prog 97 #[.pointer (some ⟨b,o,none⟩),.int .i64 n] w fun e w'=>e=.returned (.agg #[.int .i64 x.o,.int .i64 x.c,.int .i64 x.e])∧Below w.heap.size w w':=by
 have HH:=fun w=>hide (leHas_any b o n w)
 rw [has16 hn] at HH
 go_enter Tryz.func97,Tryz.ntmps97
 go_wp2_with (go_at_call 122;refine (uh (HH _)).mono ?_;rintro e w1 ⟨rfl,rfl⟩)
 refine bodyPost_ret (v:=.agg #[.int .i64 x.o,.int .i64 x.c,.int .i64 x.e]) ?_ rfl ⟨rfl,(Below.refl _ w).alloc (Nat.le_refl _) _⟩
 simp [results,Tryz.results97,go_sem]
set_option maxRecDepth 100000 in
set_option maxHeartbeats 1000000 in
theorem leGive_any (b o n:Nat) (hn:n<16) (x:Le) (wk:Int) (w:World) (c0:w.cell? ⟨b,o+n*3,none⟩=some (.int .i64 x.o)) (c1:w.cell? ⟨b,o+n*3+1,none⟩=some (.int .i64 x.c)) (c2:w.cell? ⟨b,o+n*3+2,none⟩=some (.int .i64 x.e)) (f:∀q,w.frozen? ⟨b,q,none⟩=false) :
 Calls Tryz.prog 121 #[.pointer (some ⟨b,o,none⟩),.int .i64 n,.int .i64 wk] w fun e w'=>e=.returned (.int .i64 (inc x.e))∧Below w.heap.size (((w.setCell ⟨b,o+n*3,none⟩ (.int .i64 wk)).setCell ⟨b,o+n*3+1,none⟩ (.int .i64 (inc x.c))).setCell ⟨b,o+n*3+2,none⟩ (.int .i64 (inc x.e))) w':=by
 have we:IntKind.i64.wrap (x.e+1)=inc x.e:=rfl
 have wc:IntKind.i64.wrap (x.c+1)=inc x.c:=rfl
 have f0:w.frozen? ⟨b,o+n*3,none⟩=false:=f _
 have f1:w.frozen? ⟨b,o+n*3+1,none⟩=false:=f _
 have f2:w.frozen? ⟨b,o+n*3+2,none⟩=false:=f _
 have HH:=fun w=>hide (leHas_any b o n w)
 rw [has16 hn] at HH
 go_enter Tryz.func121,Tryz.ntmps121
 go_wp2_with (go_at_call 122;refine (uh (HH _)).mono ?_;rintro e w1 ⟨rfl,rfl⟩)
 go_region
 go_wp2
 go_region
 go_wp2
 go_ret
 exact ⟨rfl,(Below.refl _ _).drew.drew⟩
set_option maxRecDepth 100000 in
set_option maxHeartbeats 1000000 in
theorem leRenew_any (b o n:Nat) (hn:n<16) (x:Le) (w:World) (c1:w.cell? ⟨b,o+n*3+1,none⟩=some (.int .i64 x.c)) (f:∀q,w.frozen? ⟨b,q,none⟩=false) :
 Calls Tryz.prog 118 #[.pointer (some ⟨b,o,none⟩),.int .i64 n] w fun e w'=>e=.returned (.tuple #[])∧Below w.heap.size (w.setCell ⟨b,o+n*3+1,none⟩ (.int .i64 (inc x.c))) w':=by
 have wc:IntKind.i64.wrap (x.c+1)=inc x.c:=rfl
 have f0:w.frozen? ⟨b,o+n*3,none⟩=false:=f _
 have f1:w.frozen? ⟨b,o+n*3+1,none⟩=false:=f _
 have f2:w.frozen? ⟨b,o+n*3+2,none⟩=false:=f _
 have HH:=fun w=>hide (leHas_any b o n w)
 rw [has16 hn] at HH
 go_enter Tryz.func118,Tryz.ntmps118
 go_wp2_with (go_at_call 122;refine (uh (HH _)).mono ?_;rintro e w1 ⟨rfl,rfl⟩)
 go_region
 all_goals (try go_wp2)
 go_end0
 exact ⟨rfl,(Below.refl _ _).drew⟩
set_option maxRecDepth 100000 in
set_option maxHeartbeats 1000000 in
theorem leFree_any (b o n:Nat) (hn:n<16) (x:Le) (w:World) (c0:w.cell? ⟨b,o+n*3,none⟩=some (.int .i64 x.o)) (c1:w.cell? ⟨b,o+n*3+1,none⟩=some (.int .i64 x.c)) (f:∀q,w.frozen? ⟨b,q,none⟩=false) :
 Calls Tryz.prog 117 #[.pointer (some ⟨b,o,none⟩),.int .i64 n] w fun e w'=>e=.returned (.tuple #[])∧Below w.heap.size ((w.setCell ⟨b,o+n*3,none⟩ (.int .i64 (-1))).setCell ⟨b,o+n*3+1,none⟩ (.int .i64 (inc x.c))) w':=by
 have wc:IntKind.i64.wrap (x.c+1)=inc x.c:=rfl
 have f0:w.frozen? ⟨b,o+n*3,none⟩=false:=f _
 have f1:w.frozen? ⟨b,o+n*3+1,none⟩=false:=f _
 have f2:w.frozen? ⟨b,o+n*3+2,none⟩=false:=f _
 have HH:=fun w=>hide (leHas_any b o n w)
 rw [has16 hn] at HH
 go_enter Tryz.func117,Tryz.ntmps117
 go_wp2_with (go_at_call 122;refine (uh (HH _)).mono ?_;rintro e w1 ⟨rfl,rfl⟩)
 go_region
 all_goals (try go_wp2)
 go_end0
 exact ⟨rfl,(Below.refl _ _).drew⟩
end Go.Proofs.YtpnkmnmchdabkaaGreat
namespace Go.Proofs.YtpnkmnmchdabkaaGreat
open Go.RowKit
structure LeRow (w:World) (b:Nat) (t:TypeId) (A:List Value) (ls:List Le) (B:List Value):Prop where
 blk:w.heap[b]?=some (.cells (A ++ (leCells ls ++ B)).toArray t (0,0))
 len:ls.length=16
theorem LeRow.cellAt {w:World} {b:Nat} {t:TypeId} {A B:List Value} {ls:List Le} (h:LeRow w b t A ls B) (j:Nat) (hj:j<48):w.cell? ⟨b,A.length+j,none⟩=(leCells ls)[j]?:=by
 rw [cell_of h.blk,List.getElem?_toArray,List.getElem?_append_right (by omega),Nat.add_sub_cancel_left,List.getElem?_append_left (by rw [leCells_len,h.len];omega)]
theorem LeRow.setAt {w:World} {b:Nat} {t:TypeId} {A B:List Value} {ls ls':List Le} (h:LeRow w b t A ls B) (j:Nat) (hj:j<48) (u:Value) (e:(leCells ls).set j u=leCells ls') (hl:ls'.length=ls.length):LeRow (w.setCell ⟨b,A.length+j,none⟩ u) b t A ls' B:=by
 refine ⟨?_,hl.trans h.len⟩
 rw [heap_setCell_same h.blk,List.setIfInBounds_toArray,List.set_append_right _ _ (by omega),Nat.add_sub_cancel_left,List.set_append_left _ _ (by rw [leCells_len,h.len];omega),e]
theorem LeRow.block {w w':World} {b:Nat} {t:TypeId} {A B:List Value} {ls:List Le} (h:LeRow w b t A ls B) (hb:w'.heap[b]?=w.heap[b]?):LeRow w' b t A ls B:=⟨hb.trans h.blk,h.len⟩
theorem LeRow.three {w:World} {b:Nat} {t:TypeId} {A B:List Value} {ls:List Le} (h:LeRow w b t A ls B) {n:Nat} {x:Le} (hx:ls[n]?=some x) :
 w.cell? ⟨b,A.length+n*3,none⟩=some (.int .i64 x.o)∧w.cell? ⟨b,A.length+n*3+1,none⟩=some (.int .i64 x.c)∧w.cell? ⟨b,A.length+n*3+2,none⟩=some (.int .i64 x.e):=by
 have hn:=(List.getElem?_eq_some_iff.1 hx).1
 have hl:=h.len
 obtain ⟨g0,g1,g2⟩:=leCells_get ls n x hx
 exact ⟨(h.cellAt _ (by omega)).trans g0,(h.cellAt (n*3+1) (by omega)).trans g1,(h.cellAt (n*3+2) (by omega)).trans g2⟩
theorem leGet_set {ls:List Le} {n:Nat} {x y:Le} (h:ls[n]?=some x):(ls.set n y)[n]?=some y:=by
 have:=(List.getElem?_eq_some_iff.1 h).1
 simp [this]
def LePost (w:World) (b:Nat) (t:TypeId) (A:List Value) (ls:List Le) (B:List Value) (w':World):Prop:=LeRow w' b t A ls B∧Keeps (fun k=>k=b) w w'
theorem rowOf_any (w:World) (b:Nat) (t:TypeId) (A B:List Value) (ls:List Le) (n:Nat) (x:Le) (h:LeRow w b t A ls B) (hx:ls[n]?=some x) :
 Calls Tryz.prog 97 #[.pointer (some ⟨b,A.length,none⟩),.int .i64 n] w fun e w'=>e=.returned (.agg #[.int .i64 x.o,.int .i64 x.c,.int .i64 x.e])∧Below w.heap.size w w':=by
 have hn:=(List.getElem?_eq_some_iff.1 hx).1
 have hl:=h.len
 obtain ⟨c0,c1,c2⟩:=h.three hx
 exact leOf_any b A.length n (by omega) x w (lt_of_heap h.blk) c0 c1 c2
theorem rowGive_any (w:World) (b:Nat) (t:TypeId) (A B:List Value) (ls:List Le) (n:Nat) (x:Le) (wk:Int) (h:LeRow w b t A ls B) (hx:ls[n]?=some x) :
 Calls Tryz.prog 121 #[.pointer (some ⟨b,A.length,none⟩),.int .i64 n,.int .i64 wk] w fun e w'=>e=.returned (.int .i64 (inc x.e))∧LePost w b t A (ls.set n ⟨wk,inc x.c,inc x.e⟩) B w':=by
 have hn:=(List.getElem?_eq_some_iff.1 hx).1
 have hl:=h.len
 obtain ⟨c0,c1,c2⟩:=h.three hx
 refine (leGive_any b A.length n (by omega) x wk w c0 c1 c2 (fun q=>frozen_of h.blk q)).mono ?_
 intro e w' hq
 have s0:=h.setAt (n*3) (by omega) (.int .i64 wk) (leCells_set0 ls n x hx wk) (by simp)
 have s1:=s0.setAt (n*3+1) (by omega) (.int .i64 (inc x.c)) (leCells_set1 _ n _ (leGet_set hx) _) (by simp)
 have s2:=s1.setAt (n*3+2) (by omega) (.int .i64 (inc x.e)) (leCells_set2 _ n _ (leGet_set (leGet_set hx)) _) (by simp)
 rw [List.set_set,List.set_set] at s2
 refine ⟨hq.1,s2.block (hq.2.block b (lt_of_heap h.blk)),?_⟩
 have k0:Keeps (fun k=>k=b) w (((w.setCell ⟨b,A.length+n*3,none⟩ (.int .i64 wk)).setCell ⟨b,A.length+n*3+1,none⟩ (.int .i64 (inc x.c))).setCell ⟨b,A.length+n*3+2,none⟩ (.int .i64 (inc x.e))):=by
  iterate 3 refine Keeps.setCell (S:=fun k=>k=b) ?_ (by exact Or.inl rfl) _
  exact Keeps.refl _ w
 exact k0.trans ((Keeps.of_below hq.2).mono fun k hk hs=>by simp at hk;omega)
theorem rowRenew_any (w:World) (b:Nat) (t:TypeId) (A B:List Value) (ls:List Le) (n:Nat) (x:Le) (h:LeRow w b t A ls B) (hx:ls[n]?=some x) :
 Calls Tryz.prog 118 #[.pointer (some ⟨b,A.length,none⟩),.int .i64 n] w fun e w'=>e=.returned (.tuple #[])∧LePost w b t A (ls.set n { x with c:=inc x.c }) B w':=by
 have hn:=(List.getElem?_eq_some_iff.1 hx).1
 have hl:=h.len
 obtain ⟨c0,c1,c2⟩:=h.three hx
 refine (leRenew_any b A.length n (by omega) x w c1 (fun q=>frozen_of h.blk q)).mono ?_
 intro e w' hq
 have s1:=h.setAt (n*3+1) (by omega) (.int .i64 (inc x.c)) (leCells_set1 _ n _ hx _) (by simp)
 refine ⟨hq.1,s1.block (hq.2.block b (lt_of_heap h.blk)),?_⟩
 have k0:Keeps (fun k=>k=b) w (w.setCell ⟨b,A.length+n*3+1,none⟩ (.int .i64 (inc x.c))):=by
  refine Keeps.setCell (S:=fun k=>k=b) ?_ (by exact Or.inl rfl) _
  exact Keeps.refl _ w
 exact k0.trans ((Keeps.of_below hq.2).mono fun k hk hs=>by simp at hk;omega)
theorem rowFree_any (w:World) (b:Nat) (t:TypeId) (A B:List Value) (ls:List Le) (n:Nat) (x:Le) (h:LeRow w b t A ls B) (hx:ls[n]?=some x) :
 Calls Tryz.prog 117 #[.pointer (some ⟨b,A.length,none⟩),.int .i64 n] w fun e w'=>e=.returned (.tuple #[])∧LePost w b t A (ls.set n ⟨-1,inc x.c,x.e⟩) B w':=by
 have hn:=(List.getElem?_eq_some_iff.1 hx).1
 have hl:=h.len
 obtain ⟨c0,c1,c2⟩:=h.three hx
 refine (leFree_any b A.length n (by omega) x w c0 c1 (fun q=>frozen_of h.blk q)).mono ?_
 intro e w' hq
 have s0:=h.setAt (n*3) (by omega) (.int .i64 (-1)) (leCells_set0 ls n x hx (-1)) (by simp)
 have s1:=s0.setAt (n*3+1) (by omega) (.int .i64 (inc x.c)) (leCells_set1 _ n _ (leGet_set hx) _) (by simp)
 rw [List.set_set] at s1
 refine ⟨hq.1,s1.block (hq.2.block b (lt_of_heap h.blk)),?_⟩
 have k0:Keeps (fun k=>k=b) w ((w.setCell ⟨b,A.length+n*3,none⟩ (.int .i64 (-1))).setCell ⟨b,A.length+n*3+1,none⟩ (.int .i64 (inc x.c))):=by
  iterate 2 refine Keeps.setCell (S:=fun k=>k=b) ?_ (by exact Or.inl rfl) _
  exact Keeps.refl _ w
 exact k0.trans ((Keeps.of_below hq.2).mono fun k hk hs=>by simp at hk;omega)
end Go.Proofs.YtpnkmnmchdabkaaGreat
namespace Go.Proofs.YtpnkmnmchdabkaaGreat
open Go.RowKit
attribute [local go_sem ↓] Go.wp_at_zero Go.wp_at_succ
structure Pl where
 held:Bool
 h:Hd
 made:Bool
 c:Int
 s:Int
def plCells (p:Pl):List Value:=[.bool p.held,.int .i64 p.h.sh,.int .i64 p.h.ep,.int .i64 p.h.at_,.int .i64 p.h.bf,.bool p.made,.int .i64 p.c,.int .i64 p.s]
structure PlAt (w:World) (b o:Nat) (p:Pl):Prop where
 lt:b<w.heap.size
 a0:w.cell? ⟨b,o,none⟩=some (.bool p.held)
 a1:w.cell? ⟨b,o+1,none⟩=some (.int .i64 p.h.sh)
 a2:w.cell? ⟨b,o+1+1,none⟩=some (.int .i64 p.h.ep)
 a3:w.cell? ⟨b,o+1+2,none⟩=some (.int .i64 p.h.at_)
 a4:w.cell? ⟨b,o+1+3,none⟩=some (.int .i64 p.h.bf)
 a5:w.cell? ⟨b,o+5,none⟩=some (.bool p.made)
 a6:w.cell? ⟨b,o+5+1,none⟩=some (.int .i64 p.c)
 a7:w.cell? ⟨b,o+5+2,none⟩=some (.int .i64 p.s)
 fr:∀q,w.frozen? ⟨b,q,none⟩=false
set_option maxHeartbeats 400000 in
theorem memHas_any (n:Int) (w:World) :
 Calls Tryz.prog 78 #[.int .i64 n] w fun e w'=>e=.returned (.bool (decide (0≤n∧n<16)))∧w=w':=by
 by_cases h1:0≤n
 ·by_cases h2:n<16
  all_goals
   go_enter Tryz.func78,Tryz.ntmps78
   go_wp2
   go_ret
   exact ⟨by simp [h1,h2],rfl⟩
 ·go_enter Tryz.func78,Tryz.ntmps78
  go_wp2
  go_ret
  exact ⟨by simp;omega,rfl⟩
theorem hasM16 {n:Nat} (h:n<16):decide (0≤(n:Int)∧(n:Int)<16)=true:=by simp;omega
set_option maxRecDepth 100000 in
set_option maxHeartbeats 1000000 in
theorem memHold_any (b o n:Nat) (hn:n<16) (p:Pl) (w:World) (h:PlAt w b (o+n*8) p) :
 Calls Tryz.prog 77 #[.pointer (some ⟨b,o,none⟩),.int .i64 n] w fun e w'=>e=.returned (.tuple #[if p.held=true then .agg #[.int .i64 p.h.sh,.int .i64 p.h.ep,.int .i64 p.h.at_,.int .i64 p.h.bf] else .agg #[.int .i64 0,.int .i64 0,.int .i64 0,.int .i64 0],.bool p.held])∧Below w.heap.size w w':=by
 obtain ⟨hl,a0,a1,a2,a3,a4,a5,a6,a7,fr⟩:=h
 clear a5 a6 a7 fr
 have HH:=fun w=>hide (memHas_any n w)
 rw [hasM16 hn] at HH
 cases hh:p.held
 ·rw [hh] at a0
  go_enter Tryz.func77,Tryz.ntmps77
  go_wp2_with (go_at_call 78;refine (uh (HH _)).mono ?_;rintro e w1 ⟨rfl,rfl⟩)
  refine bodyPost_ret (v:=.tuple #[.agg #[.int .i64 0,.int .i64 0,.int .i64 0,.int .i64 0],.bool false]) ?_ rfl ⟨rfl,?_⟩
  ·simp [results,Tryz.results77,go_sem]
  ·exact (Below.refl _ w).alloc (Nat.le_refl _) _
 ·rw [hh] at a0
  go_enter Tryz.func77,Tryz.ntmps77
  go_wp2_with (go_at_call 78;refine (uh (HH _)).mono ?_;rintro e w1 ⟨rfl,rfl⟩)
  refine bodyPost_ret (v:=.tuple #[.agg #[.int .i64 p.h.sh,.int .i64 p.h.ep,.int .i64 p.h.at_,.int .i64 p.h.bf],.bool true]) ?_ rfl ⟨rfl,?_⟩
  ·simp [results,Tryz.results77,go_sem]
  ·exact (Below.refl _ w).alloc (Nat.le_refl _) _
set_option maxRecDepth 100000 in
set_option maxHeartbeats 1000000 in
theorem memKeep_any (b o n:Nat) (hn:n<16) (p:Pl) (ep at_ bf:Int) (w:World) (h:PlAt w b (o+n*8) p) :
 Calls Tryz.prog 41 #[.pointer (some ⟨b,o,none⟩),.agg #[.int .i64 n,.int .i64 ep,.int .i64 at_,.int .i64 bf]] w fun e w'=>e=.returned (.tuple #[])∧Below w.heap.size (((((w.setCell ⟨b,o+n*8,none⟩ (.bool true)).setCell ⟨b,o+n*8+1,none⟩ (.int .i64 n)).setCell ⟨b,o+n*8+1+1,none⟩ (.int .i64 ep)).setCell ⟨b,o+n*8+1+2,none⟩ (.int .i64 at_)).setCell ⟨b,o+n*8+1+3,none⟩ (.int .i64 bf)) w':=by
 obtain ⟨hl,a0,a1,a2,a3,a4,a5,a6,a7,fr⟩:=h
 have HH:=fun w=>hide (memHas_any n w)
 rw [hasM16 hn] at HH
 have f0:=fr (o+n*8)
 have f1:=fr (o+n*8+1)
 have f2:=fr (o+n*8+1+1)
 have f3:=fr (o+n*8+1+2)
 have f4:=fr (o+n*8+1+3)
 have f5:=fr (o+n*8+5)
 have f6:=fr (o+n*8+5+1)
 have f7:=fr (o+n*8+5+2)
 go_enter Tryz.func41,Tryz.ntmps41
 go_wp2_with (go_at_call 78;refine (uh (HH _)).mono ?_;rintro e w1 ⟨rfl,rfl⟩)
 go_region
 go_wp2
 go_region
 go_wp2
 go_end0
 exact ⟨rfl,((Below.refl _ _).alloc (by simp) _).drew.drew⟩
set_option maxRecDepth 100000 in
set_option maxHeartbeats 1000000 in
theorem memDrop_any (b o n:Nat) (hn:n<16) (p:Pl) (w:World) (h:PlAt w b (o+n*8) p) :
 Calls Tryz.prog 82 #[.pointer (some ⟨b,o,none⟩),.int .i64 n] w fun e w'=>e=.returned (.tuple #[])∧Below w.heap.size (((((w.setCell ⟨b,o+n*8,none⟩ (.bool false)).setCell ⟨b,o+n*8+1,none⟩ (.int .i64 0)).setCell ⟨b,o+n*8+1+1,none⟩ (.int .i64 0)).setCell ⟨b,o+n*8+1+2,none⟩ (.int .i64 0)).setCell ⟨b,o+n*8+1+3,none⟩ (.int .i64 0)) w':=by
 obtain ⟨hl,a0,a1,a2,a3,a4,a5,a6,a7,fr⟩:=h
 have HH:=fun w=>hide (memHas_any n w)
 rw [hasM16 hn] at HH
 have f0:=fr (o+n*8)
 have f1:=fr (o+n*8+1)
 have f2:=fr (o+n*8+1+1)
 have f3:=fr (o+n*8+1+2)
 have f4:=fr (o+n*8+1+3)
 have f5:=fr (o+n*8+5)
 have f6:=fr (o+n*8+5+1)
 have f7:=fr (o+n*8+5+2)
 go_enter Tryz.func82,Tryz.ntmps82
 go_wp2_with (go_at_call 78;refine (uh (HH _)).mono ?_;rintro e w1 ⟨rfl,rfl⟩)
 go_end0
 exact ⟨rfl,Below.refl _ _⟩
set_option maxRecDepth 100000 in
set_option maxHeartbeats 1000000 in
theorem memNote_new (b o n:Nat) (hn:n<16) (p:Pl) (c s:Int) (w:World) (h:PlAt w b (o+n*8) p) (hm:¬(p.made=true∧p.c=c)) :
 Calls Tryz.prog 119 #[.pointer (some ⟨b,o,none⟩),.int .i64 n,.int .i64 c,.int .i64 s] w fun e w'=>e=.returned (.tuple #[])∧Below w.heap.size (((w.setCell ⟨b,o+n*8+5,none⟩ (.bool true)).setCell ⟨b,o+n*8+5+1,none⟩ (.int .i64 c)).setCell ⟨b,o+n*8+5+2,none⟩ (.int .i64 s)) w':=by
 obtain ⟨hl,a0,a1,a2,a3,a4,a5,a6,a7,fr⟩:=h
 have HH:=fun w=>hide (memHas_any n w)
 rw [hasM16 hn] at HH
 have f0:=fr (o+n*8)
 have f1:=fr (o+n*8+1)
 have f2:=fr (o+n*8+1+1)
 have f3:=fr (o+n*8+1+2)
 have f4:=fr (o+n*8+1+3)
 have f5:=fr (o+n*8+5)
 have f6:=fr (o+n*8+5+1)
 have f7:=fr (o+n*8+5+2)
 cases hh:p.made
 ·rw [hh] at a5
  clear hm
  go_enter Tryz.func119,Tryz.ntmps119
  go_wp2_with (go_at_call 78;refine (uh (HH _)).mono ?_;rintro e w1 ⟨rfl,rfl⟩)
  go_end0
  exact ⟨rfl,(Below.refl _ _).alloc (by simp) _⟩
 ·rw [hh] at a5
  have hq:¬p.c=c:=fun e=>hm ⟨hh,e⟩
  clear hm
  go_enter Tryz.func119,Tryz.ntmps119
  go_wp2_with (go_at_call 78;refine (uh (HH _)).mono ?_;rintro e w1 ⟨rfl,rfl⟩)
  go_end0
  exact ⟨rfl,(Below.refl _ _).alloc (by simp) _⟩
set_option maxRecDepth 100000 in
set_option maxHeartbeats 1000000 in
theorem memNote_old (b o n:Nat) (hn:n<16) (p:Pl) (s:Int) (w:World) (h:PlAt w b (o+n*8) p) (hm:p.made=true) :
 Calls Tryz.prog 119 #[.pointer (some ⟨b,o,none⟩),.int .i64 n,.int .i64 p.c,.int .i64 s] w fun e w'=>e=.returned (.tuple #[])∧Below w.heap.size w w':=by
 obtain ⟨hl,a0,a1,a2,a3,a4,a5,a6,a7,fr⟩:=h
 have HH:=fun w=>hide (memHas_any n w)
 rw [hasM16 hn] at HH
 rw [hm] at a5
 go_enter Tryz.func119,Tryz.ntmps119
 go_wp2_with (go_at_call 78;refine (uh (HH _)).mono ?_;rintro e w1 ⟨rfl,rfl⟩)
 refine bodyPost_ret (v:=.tuple #[]) ?_ rfl ⟨rfl,(Below.refl _ _).alloc (by simp) _⟩
 simp [results,Tryz.results119,go_sem]
set_option maxRecDepth 100000 in
set_option maxHeartbeats 1000000 in
theorem memNoted_any (b o n:Nat) (hn:n<16) (p:Pl) (c s u:Int) (w:World) (h:PlAt w b (o+n*8) p) :
 Calls Tryz.prog 131 #[.pointer (some ⟨b,o,none⟩),.int .i64 n,.int .i64 c,.int .i64 s,.int .i64 u] w fun e w'=>e=.returned (.bool (p.made && decide (p.c=c) && decide (u≤dif s p.s)))∧Below w.heap.size w w':=by
 obtain ⟨hl,a0,a1,a2,a3,a4,a5,a6,a7,fr⟩:=h
 have HH:=fun w=>hide (memHas_any n w)
 rw [hasM16 hn] at HH
 have ws:IntKind.i64.wrap (s - p.s)=dif s p.s:=rfl
 cases hh:p.made
 ·rw [hh] at a5
  go_enter Tryz.func131,Tryz.ntmps131
  go_wp2_with (go_at_call 78;refine (uh (HH _)).mono ?_;rintro e w1 ⟨rfl,rfl⟩)
  go_ret
  exact ⟨by simp,(Below.refl _ _).alloc (by simp) _⟩
 ·rw [hh] at a5
  by_cases hq:p.c=c
  ·go_enter Tryz.func131,Tryz.ntmps131
   go_wp2_with (go_at_call 78;refine (uh (HH _)).mono ?_;rintro e w1 ⟨rfl,rfl⟩)
   go_ret
   exact ⟨by simp [hq],(Below.refl _ _).alloc (by simp) _⟩
  ·go_enter Tryz.func131,Tryz.ntmps131
   go_wp2_with (go_at_call 78;refine (uh (HH _)).mono ?_;rintro e w1 ⟨rfl,rfl⟩)
   go_ret
   exact ⟨by simp [hq],(Below.refl _ _).alloc (by simp) _⟩
end Go.Proofs.YtpnkmnmchdabkaaGreat
namespace Go.Proofs.YtpnkmnmchdabkaaGreat
open Go.RowKit
def plsCells:List Pl→List Value
 | []=>[]
 | p :: r=>plCells p ++ plsCells r
theorem plsCells_get (P:List Pl) (q j:Nat) (hj:j<8) (p:Pl) (h:P[q]?=some p):(plsCells P)[q*8+j]?=(plCells p)[j]?:=by
 induction P generalizing q with
 | nil=>simp at h
 | cons a r ih =>
   cases q with
   | zero =>
     simp only [List.getElem?_cons_zero,Option.some.injEq] at h
     subst h
     rw [plsCells,List.getElem?_append_left (by simp [plCells];omega)]
     simp
   | succ q =>
     simp only [List.getElem?_cons_succ] at h
     rw [plsCells,List.getElem?_append_right (by simp [plCells];omega)]
     have e:(q+1)*8+j - (plCells a).length=q*8+j:=by simp [plCells];omega
     rw [e]
     exact ih q h
theorem plsCells_set (P:List Pl) (q j:Nat) (hj:j<8) (p p':Pl) (u:Value) (h:P[q]?=some p) (e:(plCells p).set j u=plCells p'):(plsCells P).set (q*8+j) u=plsCells (P.set q p'):=by
 induction P generalizing q with
 | nil=>simp at h
 | cons a r ih =>
   cases q with
   | zero =>
     simp only [List.getElem?_cons_zero,Option.some.injEq] at h
     subst h
     rw [plsCells,List.set_append_left _ _ (by simp [plCells];omega),List.set_cons_zero,plsCells]
     simp [e]
   | succ q =>
     simp only [List.getElem?_cons_succ] at h
     rw [plsCells,List.set_append_right _ _ (by simp [plCells];omega),List.set_cons_succ,plsCells]
     have e':(q+1)*8+j - (plCells a).length=q*8+j:=by simp [plCells];omega
     rw [e',ih q h]
structure PlsAt (w:World) (g cap N:Nat) (P:List Pl):Prop where
 row:w.ownsRow 0 162 128 (.slice (some ⟨g,0,none⟩) N cap) N (plsCells P)
 len:P.length=N*16
theorem PlsAt.lt {w:World} {g cap N:Nat} {P:List Pl} (h:PlsAt w g cap N P):g<w.heap.size:=(h.row.lt g rfl).2
theorem PlsAt.place {w:World} {g cap N:Nat} {P:List Pl} (h:PlsAt w g cap N P) {i n:Nat} {p:Pl} (hp:P[i*16+n]?=some p):PlAt w g (i*128+n*8) p:=by
 have hl:=(List.getElem?_eq_some_iff.1 hp).1
 have hn:=h.len
 have c:∀j,j<8→w.cell? ⟨g,i*128+n*8+j,none⟩=(plCells p)[j]?:=fun j hj=>by
  have e:i*128+n*8+j=(i*16+n)*8+j:=by omega
  rw [e,h.row.cellAt _ (by omega),plsCells_get P _ j hj p hp]
 exact ⟨h.lt,c 0 (by omega),c 1 (by omega),c 2 (by omega),c 3 (by omega),c 4 (by omega),c 5 (by omega),c 6 (by omega),c 7 (by omega),fun q=>h.row.frozenAt q⟩
theorem PlsAt.set {w:World} {g cap N:Nat} {P:List Pl} (h:PlsAt w g cap N P) {i n j:Nat} (hj:j<8) {p:Pl} (p':Pl) (hp:P[i*16+n]?=some p) (u:Value) (e:(plCells p).set j u=plCells p') :
 PlsAt (w.setCell ⟨g,i*128+n*8+j,none⟩ u) g cap N (P.set (i*16+n) p'):=by
 have he:i*128+n*8+j=(i*16+n)*8+j:=by omega
 refine ⟨?_,by simpa using h.len⟩
 rw [he,←plsCells_set P _ j hj p p' u hp e]
 exact (h.row.stored _ u).1
theorem PlsAt.block {w w':World} {g cap N:Nat} {P:List Pl} (h:PlsAt w g cap N P) (hb:w'.heap[g]?=w.heap[g]?):PlsAt w' g cap N P :=
 ⟨ownsRow_of_block h.row fun k hk=>by
  have e:g=k:=by simpa [Value.ownBlock] using hk
  subst e;exact hb,h.len⟩
def PlPost (w:World) (g cap N:Nat) (P:List Pl) (w':World):Prop:=PlsAt w' g cap N P∧Keeps (fun k=>k=g) w w'
theorem set_set_at {P:List Pl} {q:Nat} {a b:Pl}:(P.set q a).set q b=P.set q b:=by simp
theorem get_set_at {P:List Pl} {q:Nat} {p a:Pl} (h:P[q]?=some p):(P.set q a)[q]?=some a:=by
 have:=(List.getElem?_eq_some_iff.1 h).1
 simp [this]
theorem keep_chain {w:World} {g cap N:Nat} {P:List Pl} (h:PlsAt w g cap N P) {i n:Nat} {p:Pl} (hp:P[i*16+n]?=some p) (held:Bool) (sh ep at_ bf:Int) {w':World}
 (hb:Below w.heap.size (((((w.setCell ⟨g,i*128+n*8,none⟩ (.bool held)).setCell ⟨g,i*128+n*8+1,none⟩ (.int .i64 sh)).setCell ⟨g,i*128+n*8+1+1,none⟩ (.int .i64 ep)).setCell ⟨g,i*128+n*8+1+2,none⟩ (.int .i64 at_)).setCell ⟨g,i*128+n*8+1+3,none⟩ (.int .i64 bf)) w') :
 PlPost w g cap N (P.set (i*16+n) { p with held:=held,h:=⟨sh,ep,at_,bf⟩ }) w':=by
 have s1:=h.set (j:=0) (by omega) { p with held:=held } hp (.bool held) rfl
 have s2:=s1.set (j:=1) (by omega) { p with held:=held,h:={ p.h with sh:=sh } } (get_set_at hp) (.int .i64 sh) rfl
 rw [set_set_at] at s2
 have s3:=s2.set (j:=2) (by omega) { p with held:=held,h:=⟨sh,ep,p.h.at_,p.h.bf⟩ } (get_set_at hp) (.int .i64 ep) rfl
 rw [set_set_at] at s3
 have s4:=s3.set (j:=3) (by omega) { p with held:=held,h:=⟨sh,ep,at_,p.h.bf⟩ } (get_set_at hp) (.int .i64 at_) rfl
 rw [set_set_at] at s4
 have s5:=s4.set (j:=4) (by omega) { p with held:=held,h:=⟨sh,ep,at_,bf⟩ } (get_set_at hp) (.int .i64 bf) rfl
 rw [set_set_at] at s5
 refine ⟨s5.block (hb.block g h.lt),?_⟩
 have k0:Keeps (fun k=>k=g) w (((((w.setCell ⟨g,i*128+n*8,none⟩ (.bool held)).setCell ⟨g,i*128+n*8+1,none⟩ (.int .i64 sh)).setCell ⟨g,i*128+n*8+1+1,none⟩ (.int .i64 ep)).setCell ⟨g,i*128+n*8+1+2,none⟩ (.int .i64 at_)).setCell ⟨g,i*128+n*8+1+3,none⟩ (.int .i64 bf)):=by
  iterate 5 refine Keeps.setCell (S:=fun k=>k=g) ?_ (by exact Or.inl rfl) _
  exact Keeps.refl _ w
 exact k0.trans ((Keeps.of_below hb).mono fun k hk hs=>by simp at hk;omega)
theorem note_chain {w:World} {g cap N:Nat} {P:List Pl} (h:PlsAt w g cap N P) {i n:Nat} {p:Pl} (hp:P[i*16+n]?=some p) (c s:Int) {w':World}
 (hb:Below w.heap.size (((w.setCell ⟨g,i*128+n*8+5,none⟩ (.bool true)).setCell ⟨g,i*128+n*8+5+1,none⟩ (.int .i64 c)).setCell ⟨g,i*128+n*8+5+2,none⟩ (.int .i64 s)) w') :
 PlPost w g cap N (P.set (i*16+n) { p with made:=true,c:=c,s:=s }) w':=by
 have s1:=h.set (j:=5) (by omega) { p with made:=true } hp (.bool true) rfl
 have s2:=s1.set (j:=6) (by omega) { p with made:=true,c:=c } (get_set_at hp) (.int .i64 c) rfl
 rw [set_set_at] at s2
 have s3:=s2.set (j:=7) (by omega) { p with made:=true,c:=c,s:=s } (get_set_at hp) (.int .i64 s) rfl
 rw [set_set_at] at s3
 refine ⟨s3.block (hb.block g h.lt),?_⟩
 have k0:Keeps (fun k=>k=g) w (((w.setCell ⟨g,i*128+n*8+5,none⟩ (.bool true)).setCell ⟨g,i*128+n*8+5+1,none⟩ (.int .i64 c)).setCell ⟨g,i*128+n*8+5+2,none⟩ (.int .i64 s)):=by
  iterate 3 refine Keeps.setCell (S:=fun k=>k=g) ?_ (by exact Or.inl rfl) _
  exact Keeps.refl _ w
 exact k0.trans ((Keeps.of_below hb).mono fun k hk hs=>by simp at hk;omega)
theorem plKeep_any (w:World) (g cap N:Nat) (P:List Pl) (i n:Nat) (hn:n<16) (p:Pl) (ep at_ bf:Int) (h:PlsAt w g cap N P) (hp:P[i*16+n]?=some p) :
 Calls Tryz.prog 41 #[.pointer (some ⟨g,i*128,none⟩),.agg #[.int .i64 n,.int .i64 ep,.int .i64 at_,.int .i64 bf]] w fun e w'=>e=.returned (.tuple #[])∧PlPost w g cap N (P.set (i*16+n) { p with held:=true,h:=⟨n,ep,at_,bf⟩ }) w' :=
 (memKeep_any g (i*128) n hn p ep at_ bf w (h.place hp)).mono fun _ _ q=>⟨q.1,keep_chain h hp _ _ _ _ _ q.2⟩
theorem plDrop_any (w:World) (g cap N:Nat) (P:List Pl) (i n:Nat) (hn:n<16) (p:Pl) (h:PlsAt w g cap N P) (hp:P[i*16+n]?=some p) :
 Calls Tryz.prog 82 #[.pointer (some ⟨g,i*128,none⟩),.int .i64 n] w fun e w'=>e=.returned (.tuple #[])∧PlPost w g cap N (P.set (i*16+n) { p with held:=false,h:=⟨0,0,0,0⟩ }) w' :=
 (memDrop_any g (i*128) n hn p w (h.place hp)).mono fun _ _ q=>⟨q.1,keep_chain h hp _ _ _ _ _ q.2⟩
def noted (p:Pl) (c s:Int):Pl:=if p.made=true∧p.c=c then p else { p with made:=true,c:=c,s:=s }
theorem plNote_any (w:World) (g cap N:Nat) (P:List Pl) (i n:Nat) (hn:n<16) (p:Pl) (c s:Int) (h:PlsAt w g cap N P) (hp:P[i*16+n]?=some p) :
 Calls Tryz.prog 119 #[.pointer (some ⟨g,i*128,none⟩),.int .i64 n,.int .i64 c,.int .i64 s] w fun e w'=>e=.returned (.tuple #[])∧PlPost w g cap N (P.set (i*16+n) (noted p c s)) w':=by
 by_cases hm:p.made=true∧p.c=c
 ·obtain ⟨h1,rfl⟩:=hm
  have e:P.set (i*16+n) (noted p p.c s)=P:=by
   have hl:=List.getElem?_eq_some_iff.1 hp
   rw [noted,if_pos ⟨h1,rfl⟩,←hl.2,List.set_getElem_self]
  rw [e]
  exact (memNote_old g (i*128) n hn p s w (h.place hp) h1).mono fun _ _ q=>⟨q.1,h.block (q.2.block g h.lt),(Keeps.of_below q.2).mono fun k hk hs=>by omega⟩
 ·rw [noted,if_neg hm]
  exact (memNote_new g (i*128) n hn p c s w (h.place hp) hm).mono fun _ _ q=>⟨q.1,note_chain h hp _ _ q.2⟩
theorem plHold_any (w:World) (g cap N:Nat) (P:List Pl) (i n:Nat) (hn:n<16) (p:Pl) (h:PlsAt w g cap N P) (hp:P[i*16+n]?=some p) :
 Calls Tryz.prog 77 #[.pointer (some ⟨g,i*128,none⟩),.int .i64 n] w fun e w'=>e=.returned (.tuple #[if p.held=true then .agg #[.int .i64 p.h.sh,.int .i64 p.h.ep,.int .i64 p.h.at_,.int .i64 p.h.bf] else .agg #[.int .i64 0,.int .i64 0,.int .i64 0,.int .i64 0],.bool p.held])∧Below w.heap.size w w' :=
 memHold_any g (i*128) n hn p w (h.place hp)
end Go.Proofs.YtpnkmnmchdabkaaGreat
namespace Go.Proofs.YtpnkmnmchdabkaaGreat
open Go.RowKit
attribute [local go_sem ↓] Go.wp_at_zero Go.wp_at_succ
def pl0:Pl:=⟨false,⟨0,0,0,0⟩,false,0,0⟩
def forgetP (P:List Pl) (i:Nat):Nat→List Pl
 | 0=>P
 | k+1=>(forgetP P i k).set (i*16+k) pl0
theorem forgetP_len (P:List Pl) (i k:Nat):(forgetP P i k).length=P.length:=by
 induction k with
 | zero=>rfl
 | succ k ih=>simp [forgetP,ih]
theorem forget_chain {w:World} {g cap N:Nat} {P:List Pl} (h:PlsAt w g cap N P) {i n:Nat} {p:Pl} (hp:P[i*16+n]?=some p) :
 PlsAt ((((((((w.setCell ⟨g,i*128+n*8,none⟩ (.bool false)).setCell ⟨g,i*128+n*8+1,none⟩ (.int .i64 0)).setCell ⟨g,i*128+n*8+2,none⟩ (.int .i64 0)).setCell ⟨g,i*128+n*8+3,none⟩ (.int .i64 0)).setCell ⟨g,i*128+n*8+4,none⟩ (.int .i64 0)).setCell ⟨g,i*128+n*8+5,none⟩ (.bool false)).setCell ⟨g,i*128+n*8+6,none⟩ (.int .i64 0)).setCell ⟨g,i*128+n*8+7,none⟩ (.int .i64 0)) g cap N (P.set (i*16+n) pl0)∧Keeps (fun k=>k=g) w ((((((((w.setCell ⟨g,i*128+n*8,none⟩ (.bool false)).setCell ⟨g,i*128+n*8+1,none⟩ (.int .i64 0)).setCell ⟨g,i*128+n*8+2,none⟩ (.int .i64 0)).setCell ⟨g,i*128+n*8+3,none⟩ (.int .i64 0)).setCell ⟨g,i*128+n*8+4,none⟩ (.int .i64 0)).setCell ⟨g,i*128+n*8+5,none⟩ (.bool false)).setCell ⟨g,i*128+n*8+6,none⟩ (.int .i64 0)).setCell ⟨g,i*128+n*8+7,none⟩ (.int .i64 0)):=by
 have s1:=h.set (j:=0) (by omega) { p with held:=false } hp (.bool false) rfl
 have s2:=s1.set (j:=1) (by omega) { p with held:=false,h:=⟨0,p.h.ep,p.h.at_,p.h.bf⟩ } (get_set_at hp) (.int .i64 0) rfl
 rw [set_set_at] at s2
 have s3:=s2.set (j:=2) (by omega) { p with held:=false,h:=⟨0,0,p.h.at_,p.h.bf⟩ } (get_set_at hp) (.int .i64 0) rfl
 rw [set_set_at] at s3
 have s4:=s3.set (j:=3) (by omega) { p with held:=false,h:=⟨0,0,0,p.h.bf⟩ } (get_set_at hp) (.int .i64 0) rfl
 rw [set_set_at] at s4
 have s5:=s4.set (j:=4) (by omega) ⟨false,⟨0,0,0,0⟩,p.made,p.c,p.s⟩ (get_set_at hp) (.int .i64 0) rfl
 rw [set_set_at] at s5
 have s6:=s5.set (j:=5) (by omega) ⟨false,⟨0,0,0,0⟩,false,p.c,p.s⟩ (get_set_at hp) (.bool false) rfl
 rw [set_set_at] at s6
 have s7:=s6.set (j:=6) (by omega) ⟨false,⟨0,0,0,0⟩,false,0,p.s⟩ (get_set_at hp) (.int .i64 0) rfl
 rw [set_set_at] at s7
 have s8:=s7.set (j:=7) (by omega) pl0 (get_set_at hp) (.int .i64 0) rfl
 rw [set_set_at] at s8
 refine ⟨s8,?_⟩
 iterate 8 refine Keeps.setCell (S:=fun k=>k=g) ?_ (by exact Or.inl rfl) _
 exact Keeps.refl _ w
set_option maxRecDepth 100000 in
set_option maxHeartbeats 1000000 in
theorem plForget_any (w:World) (g cap N:Nat) (P:List Pl) (i:Nat) (hi:i<N) (h:PlsAt w g cap N P) :
 Calls Tryz.prog 96 #[.pointer (some ⟨g,i*128,none⟩)] w fun e w'=>e=.returned (.tuple #[])∧PlPost w g cap N (forgetP P i 16) w':=by
 have HP:=hide h
 have hlen:=h.len
 clear h
 go_enter Tryz.func96,Tryz.ntmps96
 go_wp2
 go_loopw [2] (fun n wr=>∃k:Nat,k≤16∧n=.int .i64 k∧PlPost w g cap N (forgetP P i k) wr) (fun n _=>16 - (intOf n).toNat)
 case atStart=>exact ⟨0,by omega,rfl,uh HP,Keeps.refl _ w⟩
 case round =>
  obtain ⟨k,hk,rfl,q1,q2⟩:=hrel
  by_cases hlt:k<16
  ·have hl:i*16+k<(forgetP P i k).length:=by rw [forgetP_len];omega
   have hp:=List.getElem?_eq_getElem hl
   generalize (forgetP P i k)[i*16+k]=p at hp
   have HC:=hide (forget_chain q1 hp)
   obtain ⟨hll,a0,a1,a2,a3,a4,a5,a6,a7,fr⟩:=q1.place hp
   have b2:wr.cell? ⟨g,i*128+k*8+2,none⟩=some (.int .i64 p.h.ep):=a2
   have b3:wr.cell? ⟨g,i*128+k*8+3,none⟩=some (.int .i64 p.h.at_):=a3
   have b4:wr.cell? ⟨g,i*128+k*8+4,none⟩=some (.int .i64 p.h.bf):=a4
   have b6:wr.cell? ⟨g,i*128+k*8+6,none⟩=some (.int .i64 p.c):=a6
   have b7:wr.cell? ⟨g,i*128+k*8+7,none⟩=some (.int .i64 p.s):=a7
   have f0:=fr (i*128+k*8)
   have f1:=fr (i*128+k*8+1)
   have f2:=fr (i*128+k*8+2)
   have f3:=fr (i*128+k*8+3)
   have f4:=fr (i*128+k*8+4)
   have f5:=fr (i*128+k*8+5)
   have f6:=fr (i*128+k*8+6)
   have f7:=fr (i*128+k*8+7)
   have Q2:=hide q2
   clear q1 q2 hp hl fr a2 a3 a4 a6 a7
   go_wp2
   go_roundw
   case rel=>exact ⟨k+1,by omega,by go_num,(uh HC).1,(uh Q2).trans (uh HC).2⟩
   case measure=>simp [intOf];omega
  ·have e:k=16:=by omega
   subst e
   have Q1:=hide q1
   have Q2:=hide q2
   clear q1 q2
   go_wp2
   go_end0
   exact ⟨rfl,uh Q1,uh Q2⟩
def heldOf (P:List Pl) (i:Nat):Nat→List Hd
 | 0=>[]
 | k+1=>heldOf P i k ++ (match P[i*16+k]? with | some p=>if p.held=true then [p.h] else [] | none=>[])
theorem heldOf_le (P:List Pl) (i k:Nat):(heldOf P i k).length≤k:=by
 induction k with
 | zero=>simp [heldOf]
 | succ k ih =>
   rw [heldOf,List.length_append]
   cases P[i*16+k]? with
   | none=>simp;omega
   | some p=>by_cases h:p.held=true <;> simp [h] <;> omega
set_option maxRecDepth 100000 in
set_option maxHeartbeats 4000000 in
theorem plHolds_any (w:World) (g cap N:Nat) (P:List Pl) (i:Nat) (hi:i<N) (h:PlsAt w g cap N P) :
 Calls Tryz.prog 107 #[.pointer (some ⟨g,i*128,none⟩)] w fun e w'=>∃v,e=.returned v∧w'.ownsRow w.heap.size 102 4 v (heldOf P i 16).length (rowHd (heldOf P i 16))∧Below w.heap.size w w':=by
 obtain ⟨i0,hi0,hz0,hz1,hz2⟩:=info_parts infoHold
 have hlen:=h.len
 have HX:Hid (∀W,Below w.heap.size w W→PlsAt W g cap N P):=fun W hb=>h.block (hb.block g h.lt)
 have hg:=h.lt
 have HS0:Hid ((w.alloc (.cells #[] 102)).ownsRow w.heap.size 102 4 (.slice (some ⟨w.heap.size,0,none⟩) 0 0) 0 []):=⟨rfl,.inr ⟨w.heap.size,0,#[],rfl,Nat.le_refl _,heap_alloc_new w _,Nat.le_refl _,by unfold maxLen;omega,rfl,rfl⟩⟩
 clear h
 go_enter Tryz.func107,Tryz.ntmps107
 go_wp2
 go_loopw [3,4] (fun p q wr=>∃(j cp:Nat) (a:Option Addr),j≤16∧q=.int .i64 j∧p=.slice a (heldOf P i j).length cp∧wr.ownsRow w.heap.size 102 4 (.slice a (heldOf P i j).length cp) (heldOf P i j).length (rowHd (heldOf P i j))∧Below w.heap.size w wr) (fun _ q _=>16 - (intOf q).toNat)
 case atStart=>exact ⟨0,0,some ⟨w.heap.size,0,none⟩,Nat.zero_le _,rfl,rfl,uh HS0,(Below.refl _ w).alloc (Nat.le_refl _) _⟩
 case round =>
  obtain ⟨j,cp,a,hj,rfl,rfl,hown,hB⟩:=hrel
  by_cases hlt:j<16
  ·have hl:i*16+j<P.length:=by omega
   have hp:=List.getElem?_eq_getElem hl
   generalize P[i*16+j]=p at hp
   have HS:Hid (heldOf P i (j+1)=heldOf P i j ++ (if p.held=true then [p.h] else [])):=by
    unfold Hid
    rw [heldOf,hp]
   obtain ⟨_,a0,a1,a2,a3,a4,_⟩:=(uh HX wr hB).place hp
   have hle:(heldOf P i j).length≤16:=by have:=heldOf_le P i j;omega
   have HO:=hide hown
   have HB:=hide hB
   have hws:=hB.size
   have HGL:=hide (fun q hq=>hown.lt q hq)
   cases hh:p.held
   ·rw [hh] at a0 HS
    clear hown hB hp hl
    go_wp2
    go_roundw
    case rel =>
     refine ⟨j+1,cp,a,by omega,by go_num,?_,?_,uh HB⟩
     ·rw [uh HS];simp
     ·rw [uh HS];simpa using uh HO
    case measure=>simp [intOf];omega
   ·rw [hh] at a0 HS
    clear hown hB hp hl
    generalize hFF:heldOf P i j=F at *
    clear hFF
    go_wp2_with (at_builtin;go_must (refine wpList_append_lies _ rfl _ _ _ rfl w.heap.size 102 i0 _ 4 32 Tryz.underlying81 hi0 hz0 hz1 hz2 rfl (by omega) _ F.length (rowHd F) rfl ?own ⟨wr.heap.size,0,none⟩ 1 1 (hdCells p.h) rfl rfl ?news ?one (by omega) ?h63 ?bytes ?base (wr.heap.size+1) ?hH ?next))
    case own=>exact (uh HO).alloc _
    case news=>exact fun _ _ hj=>hj
    case one =>
     intro u hu
     simp [hdCells] at hu
     rcases hu with rfl | rfl | rfl | rfl <;> rfl
    case h63=>unfold maxLen;omega
    case bytes=>omega
    case base=>omega
    case next =>
     intro g2 cap2 w2 hown2 hgrow2 hat hlt2
     have hB2:Hid (Below w.heap.size w w2):=((uh HB).alloc hws _).grown hgrow2 (by simp;omega) (fun q hq=>(uh HGL q hq).1)
     have HN:=hide hown2
     clear hown2 hgrow2 hat
     go_wp2
     go_roundw
     case rel =>
      refine ⟨j+1,cap2,some ⟨g2,0,none⟩,by omega,by go_num,?_,?_,uh hB2⟩
      ·rw [uh HS];simp
      ·rw [uh HS,if_pos trivial,rowHd_append]
       simpa [rowHd] using uh HN
     case measure=>simp [intOf];omega
  ·have e:j=16:=by omega
   subst e
   have HO:=hide hown
   have HB:=hide hB
   clear hown hB
   go_wp2
   go_ret
   exact ⟨_,rfl,uh HO,uh HB⟩
end Go.Proofs.YtpnkmnmchdabkaaGreat
