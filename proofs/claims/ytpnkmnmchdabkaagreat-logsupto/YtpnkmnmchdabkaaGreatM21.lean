import Derived.Test.YtpnkmnmchdabkaaGreatM20
import Derived.Test.YtpnkmnmchdabkaaGreatM18
namespace Go.Proofs.YtpnkmnmchdabkaaGreat
open Go.RowKit
attribute [local go_sem ↓] Go.wp_at_zero Go.wp_at_succ
attribute [local go_sem ↓] zvStg ldS_shut stS_shut
attribute [local go_sem] stS_new
theorem GS.wcell {w:World} {ρ:Nat→Nat} {gb:Nat} {C:Cfg} {now:Rest} {sv:Value} {m:List Cs} {g cap:Nat} {ls:List Le} {P:List Pl} (h:GS w ρ gb C now sv m g cap ls P):w.cell? ⟨gb,88,none⟩=some (.slice (some ⟨g,0,none⟩) now.n cap):=by
 have:=GrpL.wcell (now:=now.up ls P) h
 exact this
def finS (st:List Int) (n:Nat):Bool:=decide (st[n]?=some 2)
def rnUp (i:Nat) (st:List Int):Nat→List Le × List Pl→List Le × List Pl
 | 0,q=>q
 | n+1,q=>(rhLs i n (finS st n) (rnUp i st n q).1 (rnUp i st n q).2,rhP i n (finS st n) (rnUp i st n q).1 (rnUp i st n q).2)
def rnCnt (i:Nat) (st:List Int):Nat→List Le × List Pl→Nat
 | 0,_=>0
 | n+1,q=>rnCnt i st n q+(if rhKeep i n (finS st n) (rnUp i st n q).1 (rnUp i st n q).2=true then 1 else 0)
theorem rnCnt_le (i:Nat) (st:List Int) (n:Nat) (q:List Le × List Pl):rnCnt i st n q≤n:=by
 induction n with
 | zero=>exact Nat.le_refl _
 | succ n ih =>
   unfold rnCnt
   split <;> omega
set_option maxRecDepth 100000 in
set_option maxHeartbeats 4000000 in
theorem gRenew_any {w:World} {ρ:Nat→Nat} {gb:Nat} {C:Cfg} {now:Rest} {sv:Value} {m:List Cs} {g cap:Nat} {ls:List Le} {P:List Pl} (h:GS w ρ gb C now sv m g cap ls P) (hI:Inv (m.map (·.s))) (i:Nat) (hi:i<now.n) :
 Calls Tryz.prog 59 #[.pointer (some ⟨gb,0,none⟩),.int .i64 i] w fun e w'=>e=.returned (.tuple #[.int .i64 (rnCnt i (stgUp (m.map (·.s)) (dnP now.dn) m.length) 16 (ls,P)),.int .i64 0])∧GSP w ρ gb C now sv m g cap (rnUp i (stgUp (m.map (·.s)) (dnP now.dn) m.length) 16 (ls,P)).1 (rnUp i (stgUp (m.map (·.s)) (dnP now.dn) m.length) 16 (ls,P)).2 w':=by
 have HS:Hid (∀W,GS W ρ gb C now sv m g cap ls P→Calls Tryz.prog 86 #[.pointer (some ⟨gb,8,none⟩),.pointer (some ⟨gb,7,none⟩)] W fun e w'=>e=.returned (.agg (stA (stgUp (m.map (·.s)) (dnP now.dn) m.length)))∧Below W.heap.size W w'):=fun W hW=>gStages_any hW hI
 have HLn:=stgUp_len (m.map (·.s)) (dnP now.dn) m.length
 generalize stgUp (m.map (·.s)) (dnP now.dn) m.length=st at HS HLn ⊢
 have HK:=hide (hasWorker_any h i)
 rw [show decide (0≤(i:Int)∧(i:Int)<now.n)=true by simp;omega] at HK
 have c88:w.cell? ⟨gb,88,none⟩=some (.slice (some ⟨g,0,none⟩) now.n cap):=h.wcell
 have H1:Hid (∀W ls' P' n f,n<16→GS W ρ gb C now sv m g cap ls' P'→Calls Tryz.prog 87 #[.pointer (some ⟨gb,0,none⟩),.int .i64 i,.pointer (some ⟨g,i*128,none⟩),.int .i64 (n:Nat),.bool f] W fun e w'=>e=.returned (.bool (rhKeep i n f ls' P'))∧GSP W ρ gb C now sv m g cap (rhLs i n f ls' P') (rhP i n f ls' P') w'):=fun W ls' P' n f hn hW=>renewHold_any hW i n hi hn f
 have HG:=hide h
 clear h hI
 go_enter Tryz.func59,Tryz.ntmps59
 go_wp2_with (go_at_call 76;refine (uh HK).mono ?_;rintro e w1 ⟨rfl,rfl⟩)
 have hN:(w.alloc (.cells (stA st0) 175)).heap[w.heap.size]?=some (.cells (stA st0) 175 (0,0)):=heap_alloc_new w _
 have hA:=(uh HG).alloc (.cells (stA st0) 175)
 have hone:∀v,v ∈ List.map (Value.int IntKind.i64) st→v.oneCell'=true:=stCells_one st
 have hinf:Option.map (fun x=>x.size) (Tryz.prog.info? 175)=some (List.map (Value.int IntKind.i64) st).length:=by rw [infoStgSize];simp [HLn]
 have HSd:=hide (uh HS _ (hA.1.below (Below.refl _ _).drew).1)
 have HSe:=hide (uh HS _ ((uh HG).below (Below.refl _ _).drew).1)
 have HD:=hide (hA.1.below (Below.refl _ _).drew)
 have HA:=hide hA
 have HN:=hide hN
 clear hA hN
 go_region_held3 (fun _=>True) (trivial) (first | (go_at_call 86;refine (uh HSd).mono ?_;rintro e w1 ⟨rfl,hbA⟩;have hNA:=(hbA.block _ (lt_of_heap (uh HN))).trans (uh HN);have htA:=there_of hNA st0_len (List.map (Value.int IntKind.i64) st).length (by simp [HLn])) | (go_at_call 86;refine (uh HSe).mono ?_;rintro e w1 ⟨rfl,hbB⟩;have htB:=there_of (heap_alloc_new w1 (.cells (stA st0) 175)) st0_len (List.map (Value.int IntKind.i64) st).length (by simp [HLn])))
 all_goals
  first
  | (have hX:=stLaid ((uh HA).trans ((uh HD).trans ((uh HD).1.below hbA))) hNA st0_len HLn (Nat.le_refl _) (uh HG).fits rfl
     clear hbA hNA htA
     generalize hB:w.heap.size=B at *
     generalize w1.setCells B 0 (List.map (Value.int IntKind.i64) st)=V at *)
  | (have hX:=stLaid ((((uh HG).below (Below.refl _ _).drew).trans (((uh HG).below (Below.refl _ _).drew).1.below hbB)).alloc (w1:=w1) (.cells (stA st0) 175)) (heap_alloc_new w1 _) st0_len HLn hbB.size (uh HG).fits rfl
     clear hbB htB
     generalize (w1.alloc (.cells (stA st0) 175)).setCells w1.heap.size 0 (List.map (Value.int IntKind.i64) st)=V at *
     generalize hB:w1.heap.size=B at *)
  obtain ⟨hX1,hX2,hX3⟩:=hX
  have V1:=hide hX1
  have V2:=hide hX2
  have V3:=hide hX3
  clear hX1 hX2 hX3 hB HSd HSe HD HA HN
  go_wp2
  go_loopw [8,9] (fun a q wr=>∃k:Nat,k≤16∧q=.int .i64 k∧a=.int .i64 (rnCnt i st k (ls,P))∧wr.heap[B]?=some (.cells (stA st) 175 (0,0))∧GSP w ρ gb C now sv m g cap (rnUp i st k (ls,P)).1 (rnUp i st k (ls,P)).2 wr) (fun _ q _=>16 - (intOf q).toNat)
  case atStart=>exact ⟨0,by omega,rfl,rfl,uh V1,uh V2⟩
  case round =>
   obtain ⟨k,hk,rfl,rfl,hrow,hgs⟩:=hrel
   by_cases hlt:k<16
   ·have C1:=fun f=>hide (uh H1 wr _ _ k f hlt hgs.1)
    have ROW:=hide hrow
    have HGS:=hide hgs
    have hB:=lt_of_heap hrow
    have hsk:k<st.length:=by omega
    have hstk:Hid (finS st k=(st[k] == 2)):=by unfold Hid finS;rw [List.getElem?_eq_getElem hsk,Bool.eq_iff_iff];simp
    have cst:wr.cell? ⟨B,k,none⟩=some (.int .i64 st[k]):=by
     rw [cell_of hrow]
     unfold stA
     simp [hsk]
    have hle:=rnCnt_le i st k (ls,P)
    have HU1:Hid (rnCnt i st (k+1) (ls,P)=rnCnt i st k (ls,P)+(if rhKeep i k (finS st k) (rnUp i st k (ls,P)).1 (rnUp i st k (ls,P)).2=true then 1 else 0)):=rfl
    have HU2:Hid (rnUp i st (k+1) (ls,P)=(rhLs i k (finS st k) (rnUp i st k (ls,P)).1 (rnUp i st k (ls,P)).2,rhP i k (finS st k) (rnUp i st k (ls,P)).1 (rnUp i st k (ls,P)).2)):=rfl
    rw [uh hstk] at HU1 HU2
    generalize st[k]=v at *
    clear hrow hgs
    go_wp2_with fail
    refine (uh (C1 _)).mono ?_
    rintro e w1 ⟨rfl,q1⟩
    have ROW1:=hide ((q1.2.block _ hB (uh V3)).trans (uh ROW))
    have Q1:=hide ((uh HGS).trans q1)
    clear q1
    generalize rhKeep i k (v == 2) (rnUp i st k (ls,P)).1 (rnUp i st k (ls,P)).2=kp at *
    cases kp
    ·go_wp2
     go_roundw
     case rel=>exact ⟨k+1,by omega,by go_num,by rw [uh HU1];simp,uh ROW1,by rw [uh HU2];exact uh Q1⟩
     case measure=>simp [intOf];omega
    ·go_wp2
     go_roundw
     case rel=>exact ⟨k+1,by omega,by go_num,by rw [uh HU1];simp,uh ROW1,by rw [uh HU2];exact uh Q1⟩
     case measure=>simp [intOf];omega
   ·have e:k=16:=by omega
    subst e
    have HGS:=hide hgs
    clear hrow hgs
    go_wp2
    go_ret2
    exact ⟨rfl,uh HGS⟩
set_option maxHeartbeats 1000000 in
theorem gRenew_none {w:World} {ρ:Nat→Nat} {gb:Nat} {C:Cfg} {now:Rest} {sv:Value} {m:List Cs} {g cap:Nat} {ls:List Le} {P:List Pl} (h:GS w ρ gb C now sv m g cap ls P) (i:Int) (hi:¬(0≤i∧i<now.n)) :
 Calls Tryz.prog 59 #[.pointer (some ⟨gb,0,none⟩),.int .i64 i] w fun e w'=>e=.returned (.tuple #[.int .i64 0,.int .i64 9])∧w=w':=by
 have HK:=hide (hasWorker_any h i)
 rw [decide_eq_false hi] at HK
 clear h hi
 go_enter Tryz.func59,Tryz.ntmps59
 go_wp2_with (go_at_call 76;refine (uh HK).mono ?_;rintro e w1 ⟨rfl,rfl⟩)
 go_ret2
 exact ⟨rfl,rfl⟩
set_option maxHeartbeats 1000000 in
theorem gTake_none {w:World} {ρ:Nat→Nat} {gb:Nat} {C:Cfg} {now:Rest} {sv:Value} {m:List Cs} {g cap:Nat} {ls:List Le} {P:List Pl} (h:GS w ρ gb C now sv m g cap ls P) (i:Int) (hi:¬(0≤i∧i<now.n)) :
 Calls Tryz.prog 61 #[.pointer (some ⟨gb,0,none⟩),.int .i64 i] w fun e w'=>e=.returned (.tuple #[.int .i64 0,.int .i64 9])∧w=w':=by
 have HK:=hide (hasWorker_any h i)
 rw [decide_eq_false hi] at HK
 clear h hi
 go_enter Tryz.func61,Tryz.ntmps61
 go_wp2_with (go_at_call 76;refine (uh HK).mono ?_;rintro e w1 ⟨rfl,rfl⟩)
 go_ret2
 exact ⟨rfl,rfl⟩
set_option maxHeartbeats 1000000 in
theorem gCrash_none {w:World} {ρ:Nat→Nat} {gb:Nat} {C:Cfg} {now:Rest} {sv:Value} {m:List Cs} {g cap:Nat} {ls:List Le} {P:List Pl} (h:GS w ρ gb C now sv m g cap ls P) (i:Int) (hi:¬(0≤i∧i<now.n)) :
 Calls Tryz.prog 65 #[.pointer (some ⟨gb,0,none⟩),.int .i64 i] w fun e w'=>e=.returned (.int .i64 9)∧w=w':=by
 have HK:=hide (hasWorker_any h i)
 rw [decide_eq_false hi] at HK
 clear h hi
 go_enter Tryz.func65,Tryz.ntmps65
 go_wp2_with (go_at_call 76;refine (uh HK).mono ?_;rintro e w1 ⟨rfl,rfl⟩)
 go_ret
 exact ⟨rfl,rfl⟩
set_option maxHeartbeats 1000000 in
theorem gHolds_none {w:World} {ρ:Nat→Nat} {gb:Nat} {C:Cfg} {now:Rest} {sv:Value} {m:List Cs} {g cap:Nat} {ls:List Le} {P:List Pl} (h:GS w ρ gb C now sv m g cap ls P) (i:Int) (hi:¬(0≤i∧i<now.n)) :
 Calls Tryz.prog 72 #[.pointer (some ⟨gb,0,none⟩),.int .i64 i] w fun e w'=>e=.returned (.tuple #[.slice none 0 0,.int .i64 9])∧w=w':=by
 have HK:=hide (hasWorker_any h i)
 rw [decide_eq_false hi] at HK
 clear h hi
 go_enter Tryz.func72,Tryz.ntmps72
 go_wp2_with (go_at_call 76;refine (uh HK).mono ?_;rintro e w1 ⟨rfl,rfl⟩)
 go_ret2
 exact ⟨rfl,rfl⟩
set_option maxHeartbeats 1000000 in
theorem gSteal_none {w:World} {ρ:Nat→Nat} {gb:Nat} {C:Cfg} {now:Rest} {sv:Value} {m:List Cs} {g cap:Nat} {ls:List Le} {P:List Pl} (h:GS w ρ gb C now sv m g cap ls P) (i k:Int) (hi:¬(0≤i∧i<now.n)) :
 Calls Tryz.prog 63 #[.pointer (some ⟨gb,0,none⟩),.int .i64 i,.int .i64 k] w fun e w'=>e=.returned (.int .i64 9)∧w=w':=by
 have HK:=hide (hasWorker_any h i)
 rw [decide_eq_false hi] at HK
 clear h hi
 go_enter Tryz.func63,Tryz.ntmps63
 go_wp2_with (go_at_call 76;refine (uh HK).mono ?_;rintro e w1 ⟨rfl,rfl⟩)
 go_ret
 exact ⟨rfl,rfl⟩
theorem gHas_any {w:World} {ρ:Nat→Nat} {gb:Nat} {C:Cfg} {now:Rest} {sv:Value} {m:List Cs} {g cap:Nat} {ls:List Le} {P:List Pl} (h:GS w ρ gb C now sv m g cap ls P) (h0:0<m.length) (k:Int) :
 Calls Tryz.prog 47 #[.pointer (some ⟨gb,7,none⟩),.int .i64 k] w fun e w'=>e=.returned (.bool (decide (0≤k∧k<m.length)))∧w=w':=by
 have hG:GrpL w ρ gb C (now.up ls P) sv m g cap P:=h
 obtain ⟨bs,cp,rfl,_⟩:=hG.G.log.shape h0
 exact has_any gb 7 m.length cp (some ⟨bs,0,none⟩) k w hG.tcell.2.1
set_option maxHeartbeats 1000000 in
theorem gSteal_noShard {w:World} {ρ:Nat→Nat} {gb:Nat} {C:Cfg} {now:Rest} {sv:Value} {m:List Cs} {g cap:Nat} {ls:List Le} {P:List Pl} (h:GS w ρ gb C now sv m g cap ls P) (h0:0<m.length) (i:Nat) (hi:i<now.n) (k:Int) (hk:¬(0≤k∧k<m.length)) :
 Calls Tryz.prog 63 #[.pointer (some ⟨gb,0,none⟩),.int .i64 i,.int .i64 k] w fun e w'=>e=.returned (.int .i64 5)∧w=w':=by
 have HK:=hide (hasWorker_any h i)
 rw [show decide (0≤(i:Int)∧(i:Int)<now.n)=true by simp;omega] at HK
 have HL:=hide (gHas_any h h0 k)
 rw [decide_eq_false hk] at HL
 clear h hi
 go_enter Tryz.func63,Tryz.ntmps63
 go_wp2_with (first | (go_at_call 76;refine (uh HK).mono ?_;rintro e w1 ⟨rfl,rfl⟩) | (go_at_call 47;refine (uh HL).mono ?_;rintro e w1 ⟨rfl,rfl⟩))
 go_ret
 exact ⟨rfl,rfl⟩
set_option maxHeartbeats 1000000 in
theorem gCrash_any {w:World} {ρ:Nat→Nat} {gb:Nat} {C:Cfg} {now:Rest} {sv:Value} {m:List Cs} {g cap:Nat} {ls:List Le} {P:List Pl} (h:GS w ρ gb C now sv m g cap ls P) (i:Nat) (hi:i<now.n) :
 Calls Tryz.prog 65 #[.pointer (some ⟨gb,0,none⟩),.int .i64 i] w fun e w'=>e=.returned (.int .i64 0)∧GSP w ρ gb C now sv m g cap ls (forgetP P i 16) w':=by
 have HK:=hide (hasWorker_any h i)
 rw [show decide (0≤(i:Int)∧(i:Int)<now.n)=true by simp;omega] at HK
 have c88:w.cell? ⟨gb,88,none⟩=some (.slice (some ⟨g,0,none⟩) now.n cap):=h.wcell
 have HF:Hid (Calls Tryz.prog 96 #[.pointer (some ⟨g,i*128,none⟩)] w fun e w'=>e=.returned (.tuple #[])∧GSP w ρ gb C now sv m g cap ls (forgetP P i 16) w'):=gForget_any (now:=now.up ls P) h i hi
 clear h
 go_enter Tryz.func65,Tryz.ntmps65
 go_wp2_with (first | (go_at_call 76;refine (uh HK).mono ?_;rintro e w1 ⟨rfl,rfl⟩) | (go_at_call 96;refine (uh HF).mono ?_;rintro e w1 ⟨rfl,q1⟩;have Q1:=hide q1;clear q1))
 go_ret
 exact ⟨rfl,uh Q1⟩
set_option maxRecDepth 100000 in
set_option maxHeartbeats 2000000 in
theorem gHolds_any {w:World} {ρ:Nat→Nat} {gb:Nat} {C:Cfg} {now:Rest} {sv:Value} {m:List Cs} {g cap:Nat} {ls:List Le} {P:List Pl} (h:GS w ρ gb C now sv m g cap ls P) (i:Nat) (hi:i<now.n) :
 Calls Tryz.prog 72 #[.pointer (some ⟨gb,0,none⟩),.int .i64 i] w fun e w'=>∃v,e=.returned (.tuple #[v,.int .i64 0])∧w'.ownsRow w.heap.size 102 4 v (heldOf P i 16).length (rowHd (heldOf P i 16))∧Below w.heap.size w w':=by
 have HK:=hide (hasWorker_any h i)
 rw [show decide (0≤(i:Int)∧(i:Int)<now.n)=true by simp;omega] at HK
 have c88:w.cell? ⟨gb,88,none⟩=some (.slice (some ⟨g,0,none⟩) now.n cap):=h.wcell
 have HF:=hide (plHolds_any w g cap now.n P i hi (GrpL.pls (now:=now.up ls P) h))
 clear h
 go_enter Tryz.func72,Tryz.ntmps72
 go_wp2_with (first | (go_at_call 76;refine (uh HK).mono ?_;rintro e w1 ⟨rfl,rfl⟩) | (go_at_call 107;refine (uh HF).mono ?_;intro e w1 hq;obtain ⟨v,rfl,q1,q2⟩:=hq;have Q1:=hide q1;have Q2:=hide q2;clear q1 q2))
 go_ret2
 exact ⟨v,rfl,uh Q1,uh Q2⟩
set_option maxHeartbeats 1000000 in
theorem gLease_none {w:World} {ρ:Nat→Nat} {gb:Nat} {C:Cfg} {now:Rest} {sv:Value} {m:List Cs} {g cap:Nat} {ls:List Le} {P:List Pl} (h:GS w ρ gb C now sv m g cap ls P) (h0:0<m.length) (k:Int) (hk:¬(0≤k∧k<m.length)) :
 Calls Tryz.prog 67 #[.pointer (some ⟨gb,0,none⟩),.int .i64 k] w fun e w'=>e=.returned (.tuple #[.agg #[.int .i64 0,.int .i64 0,.int .i64 0],.int .i64 5])∧Below w.heap.size w w':=by
 have HL:=hide (gHas_any (h.alloc (.cells #[.int .i64 0,.int .i64 0,.int .i64 0] 59)).1 h0 k)
 rw [decide_eq_false hk] at HL
 clear h
 go_enter Tryz.func67,Tryz.ntmps67
 go_wp2_with (go_at_call 47;refine (uh HL).mono ?_;rintro e w1 ⟨rfl,rfl⟩)
 refine bodyPost_ret (v:=.tuple #[.agg #[.int .i64 0,.int .i64 0,.int .i64 0],.int .i64 5]) ?_ rfl ⟨rfl,(Below.refl _ w).alloc (Nat.le_refl _) _⟩
 simp [results,Tryz.results67,go_sem]
set_option maxRecDepth 100000 in
set_option maxHeartbeats 1000000 in
theorem gLease_any {w:World} {ρ:Nat→Nat} {gb:Nat} {C:Cfg} {now:Rest} {sv:Value} {m:List Cs} {g cap:Nat} {ls:List Le} {P:List Pl} (h:GS w ρ gb C now sv m g cap ls P) (h0:0<m.length) (k:Nat) (hk:k<m.length) (x:Le) (hx:ls[k]?=some x) :
 Calls Tryz.prog 67 #[.pointer (some ⟨gb,0,none⟩),.int .i64 k] w fun e w'=>e=.returned (.tuple #[.agg #[.int .i64 x.o,.int .i64 x.c,.int .i64 x.e],.int .i64 0])∧Below w.heap.size w w':=by
 have hA:=(h.alloc (.cells #[.int .i64 0,.int .i64 0,.int .i64 0] 59)).1
 have hG:GrpL (w.alloc (.cells #[.int .i64 0,.int .i64 0,.int .i64 0] 59)) ρ gb C (now.up ls P) sv m g cap P:=hA
 have HL:=hide (gHas_any hA h0 k)
 rw [show decide (0≤(k:Int)∧(k:Int)<m.length)=true by simp;omega] at HL
 have HO:=hide (rowOf_any _ gb _ _ _ _ k x hG.row hx)
 rw [grpA_len _ _ _ hG.G.dnL] at HO
 clear h hA hG
 go_enter Tryz.func67,Tryz.ntmps67
 go_wp2_with fail
 refine (uh HL).mono ?_
 rintro e w1 ⟨rfl,rfl⟩
 go_wp2_with fail
 have N0:=heap_alloc_new w (.cells #[.int .i64 0,.int .i64 0,.int .i64 0] 59)
 have B0:=(Below.refl w.heap.size w).alloc (Nat.le_refl _) (.cells #[.int .i64 0,.int .i64 0,.int .i64 0] 59)
 generalize w.alloc (.cells #[.int .i64 0,.int .i64 0,.int .i64 0] 59)=W at *
 refine (uh HO).mono ?_
 rintro e w1 ⟨rfl,hb⟩
 have N1:=(hb.block _ (lt_of_heap N0)).trans N0
 have BB:=hide (B0.trans (hb.mono B0.size))
 have k0:=cell_of N1 0
 have k1:=cell_of N1 1
 have k2:=cell_of N1 2
 simp at k0 k1 k2
 have f0:=frozen_of N1 0
 have f1:=frozen_of N1 1
 have f2:=frozen_of N1 2
 have NN:=hide N1
 clear N1 N0 B0 hb
 go_wp2
 have M1:=heap_setCell_same (i:=0) (uh NN) (.int .i64 x.o)
 have M2:=heap_setCell_same (i:=1) M1 (.int .i64 x.c)
 have M3:=heap_setCell_same (i:=2) M2 (.int .i64 x.e)
 have B3:Hid (Below w.heap.size w (((w1.setCell ⟨w.heap.size,0,none⟩ (.int .i64 x.o)).setCell ⟨w.heap.size,1,none⟩ (.int .i64 x.c)).setCell ⟨w.heap.size,2,none⟩ (.int .i64 x.e))):=(((uh BB).setCell (p:=⟨w.heap.size,0,none⟩) (Nat.le_refl _) _).setCell (p:=⟨w.heap.size,1,none⟩) (Nat.le_refl _) _).setCell (p:=⟨w.heap.size,2,none⟩) (Nat.le_refl _) _
 generalize ((w1.setCell ⟨w.heap.size,0,none⟩ (.int .i64 x.o)).setCell ⟨w.heap.size,1,none⟩ (.int .i64 x.c)).setCell ⟨w.heap.size,2,none⟩ (.int .i64 x.e)=V at *
 have r0:=cell_of M3 0
 have r1:=cell_of M3 1
 have r2:=cell_of M3 2
 simp at r0 r1 r2
 refine bodyPost_ret (v:=.tuple #[.agg #[.int .i64 x.o,.int .i64 x.c,.int .i64 x.e],.int .i64 0]) ?_ rfl ⟨rfl,uh B3⟩
 simp [results,Tryz.results67,go_sem,r0,r1,r2]
def TakeIs (f:Nat→Bool) (r:Option Nat):Prop:=match r with
 | some n=>n<16∧f n=true∧∀k,k<n→f k=false
 | none=>∀k,k<16→f k=false
def takeLs (i:Nat) (ls:List Le) (r:Option Nat):List Le:=match r with
 | some n=>giveLs i n ls
 | none=>ls
def takeP (dn:Nat→Int) (i:Nat) (ls:List Le) (P:List Pl) (r:Option Nat):List Pl:=match r with
 | some n=>giveP (dn n) i n ls P
 | none=>P
def takeV (r:Option Nat):Value:=match r with
 | some n=>.tuple #[.int .i64 n,.int .i64 0]
 | none=>.tuple #[.int .i64 0,.int .i64 10]
def TakeP (w:World) (ρ:Nat→Nat) (gb:Nat) (C:Cfg) (now:Rest) (sv:Value) (m:List Cs) (g cap:Nat) (ls:List Le) (P:List Pl) (i:Nat) (f:Nat→Bool) (e:Ending) (w':World):Prop :=
 ∃r,TakeIs f r∧e=.returned (takeV r)∧GSP w ρ gb C now sv m g cap (takeLs i ls r) (takeP (dnP now.dn) i ls P r) w'
set_option maxRecDepth 100000 in
set_option maxHeartbeats 2000000 in
theorem gTake_any {w:World} {ρ:Nat→Nat} {gb:Nat} {C:Cfg} {now:Rest} {sv:Value} {m:List Cs} {g cap:Nat} {ls:List Le} {P:List Pl} (h:GS w ρ gb C now sv m g cap ls P) (hI:Inv (m.map (·.s))) (i:Nat) (hi:i<now.n) :
 Calls Tryz.prog 61 #[.pointer (some ⟨gb,0,none⟩),.int .i64 i] w (TakeP w ρ gb C now sv m g cap ls (notesP ls now.t i m.length P) i (mayP (stgUp (m.map (·.s)) (dnP now.dn) m.length) ls (notesP ls now.t i m.length P) now.t C.l i)):=by
 have h0:0<m.length:=by have:=hI.pos;simpa using this
 have HK:=hide (hasWorker_any h i)
 rw [show decide (0≤(i:Int)∧(i:Int)<now.n)=true by simp;omega] at HK
 have c88:w.cell? ⟨gb,88,none⟩=some (.slice (some ⟨g,0,none⟩) now.n cap):=h.wcell
 have H1:=hide (makeNotes_any h h0 i hi)
 generalize hN:notesP ls now.t i m.length P=N at H1 ⊢
 have H2:Hid (∀W,GS W ρ gb C now sv m g cap ls N→Calls Tryz.prog 90 #[.pointer (some ⟨gb,0,none⟩),.pointer (some ⟨g,i*128,none⟩)] W fun e w'=>FreePost (mayP (stgUp (m.map (·.s)) (dnP now.dn) m.length) ls N now.t C.l i) e∧GSP W ρ gb C now sv m g cap ls N w'):=fun W hW=>findFree_any hW hI i hi
 have H3:Hid (∀W (n:Nat),n<16→GS W ρ gb C now sv m g cap ls N→Calls Tryz.prog 91 #[.pointer (some ⟨gb,0,none⟩),.int .i64 i,.pointer (some ⟨g,i*128,none⟩),.int .i64 n] W fun e w'=>e=.returned (.tuple #[])∧GSP W ρ gb C now sv m g cap (giveLs i n ls) (giveP (dnP now.dn n) i n ls N) w'):=fun W n hn hW=>give_any hW i n hi hn
 generalize mayP (stgUp (m.map (·.s)) (dnP now.dn) m.length) ls N now.t C.l i=F at H2 ⊢
 clear h hI hN
 go_enter Tryz.func61,Tryz.ntmps61
 go_wp2_with (go_at_call 76;refine (uh HK).mono ?_;rintro e w1 ⟨rfl,rfl⟩)
 refine (uh H1).mono ?_
 rintro e w1 ⟨rfl,q1⟩
 have Q1:=hide q1
 clear q1
 go_wp2_with fail
 refine (uh H2 _ (uh Q1).1).mono ?_
 rintro e w2 ⟨hfp,q2⟩
 have Q2:=hide ((uh Q1).trans q2)
 clear q2
 rcases hfp with ⟨n,hn,hf,hno,rfl⟩ | ⟨hno,rfl⟩
 ·have HF:=hide hf
  have HN:=hide hno
  clear hf hno
  go_wp2_with fail
  refine (uh H3 _ n hn (uh Q2).1).mono ?_
  rintro e w3 ⟨rfl,q3⟩
  have Q3:=hide ((uh Q2).trans q3)
  clear q3
  go_wp2
  go_ret2
  exact ⟨some n,⟨hn,uh HF,uh HN⟩,rfl,uh Q3⟩
 ·have HN:=hide hno
  clear hno
  go_wp2
  go_ret2
  exact ⟨none,uh HN,rfl,uh Q2⟩
set_option maxRecDepth 100000 in
set_option maxHeartbeats 2000000 in
theorem gStage_any {w:World} {ρ:Nat→Nat} {gb:Nat} {C:Cfg} {now:Rest} {sv:Value} {m:List Cs} {g cap:Nat} {ls:List Le} {P:List Pl} (h:GS w ρ gb C now sv m g cap ls P) (hI:Inv (m.map (·.s))) (k:Nat) (hk:k<16) :
 Calls Tryz.prog 95 #[.pointer (some ⟨gb,8,none⟩),.pointer (some ⟨gb,7,none⟩),.int .i64 k] w fun e w'=>(∃v,(stgUp (m.map (·.s)) (dnP now.dn) m.length)[k]?=some v∧e=.returned (.int .i64 v))∧Below w.heap.size w w':=by
 have HS:=hide (gStages_any h hI)
 have HLn:=stgUp_len (m.map (·.s)) (dnP now.dn) m.length
 generalize stgUp (m.map (·.s)) (dnP now.dn) m.length=st at HS HLn ⊢
 have HH':=hide (sinkHas_any k w)
 rw [hasS16 hk] at HH'
 clear h hI
 go_enter Tryz.func95,Tryz.ntmps95
 go_wp2_with (go_at_call 81;refine (uh HH').mono ?_;rintro e w1 ⟨rfl,rfl⟩)
 refine (uh HS).mono ?_
 rintro e w1 ⟨rfl,hb⟩
 have hsk:k<st.length:=by omega
 have hstk:Hid (st[k]?=some st[k]):=List.getElem?_eq_getElem hsk
 have cst:(w1.alloc (.cells (stA st) 175)).cell? ⟨w1.heap.size,k,none⟩=some (.int .i64 st[k]):=by
  rw [cell_of (heap_alloc_new w1 _)]
  unfold stA
  simp [hsk]
 have BB:=hide (hb.alloc hb.size (.cells (stA st) 175))
 have hsz:=stA_size HLn
 have z0:=st0_len
 generalize st[k]=v at *
 clear hb
 go_wp2
 go_ret
 exact ⟨⟨v,uh hstk,rfl⟩,uh BB⟩
def stealV (held:Bool) (v:Int):Int:=if held=true then 11 else if v=1 then 0 else 12
def stealLs (held:Bool) (v:Int) (i k:Nat) (ls:List Le):List Le:=if held=false∧v=1 then giveLs i k ls else ls
def stealP (held:Bool) (v:Int) (d:Int) (i k:Nat) (ls:List Le) (P:List Pl):List Pl:=if held=false∧v=1 then giveP d i k ls P else P
set_option maxRecDepth 100000 in
set_option maxHeartbeats 2000000 in
theorem gSteal_any {w:World} {ρ:Nat→Nat} {gb:Nat} {C:Cfg} {now:Rest} {sv:Value} {m:List Cs} {g cap:Nat} {ls:List Le} {P:List Pl} (h:GS w ρ gb C now sv m g cap ls P) (hI:Inv (m.map (·.s))) (i:Nat) (hi:i<now.n) (k:Nat) (hk:k<m.length) (p:Pl) (hp:P[i*16+k]?=some p) (v:Int) (hv:(stgUp (m.map (·.s)) (dnP now.dn) m.length)[k]?=some v) :
 Calls Tryz.prog 63 #[.pointer (some ⟨gb,0,none⟩),.int .i64 i,.int .i64 k] w fun e w'=>e=.returned (.int .i64 (stealV p.held v))∧GSP w ρ gb C now sv m g cap (stealLs p.held v i k ls) (stealP p.held v (dnP now.dn k) i k ls P) w':=by
 have h0:0<m.length:=by omega
 have h16:m.length≤16:=GrpL.le h
 have k16:k<16:=by omega
 have HK:=hide (hasWorker_any h i)
 rw [show decide (0≤(i:Int)∧(i:Int)<now.n)=true by simp;omega] at HK
 have HL:=hide (gHas_any h h0 k)
 rw [show decide (0≤(k:Int)∧(k:Int)<m.length)=true by simp;omega] at HL
 have c88:w.cell? ⟨gb,88,none⟩=some (.slice (some ⟨g,0,none⟩) now.n cap):=h.wcell
 have H1:Hid (Calls Tryz.prog 77 #[.pointer (some ⟨g,i*128,none⟩),.int .i64 k] w fun e w'=>e=.returned (.tuple #[if p.held=true then .agg #[.int .i64 p.h.sh,.int .i64 p.h.ep,.int .i64 p.h.at_,.int .i64 p.h.bf] else .agg #[.int .i64 0,.int .i64 0,.int .i64 0,.int .i64 0],.bool p.held])∧GSP w ρ gb C now sv m g cap ls P w'):=gHold_any (now:=now.up ls P) h i k k16 p hp
 have H2:Hid (∀W,GS W ρ gb C now sv m g cap ls P→Calls Tryz.prog 95 #[.pointer (some ⟨gb,8,none⟩),.pointer (some ⟨gb,7,none⟩),.int .i64 k] W fun e w'=>e=.returned (.int .i64 v)∧GSP W ρ gb C now sv m g cap ls P w'):=fun W hW=>(gStage_any hW hI k k16).mono fun e w' q=>by
  obtain ⟨⟨v',hv',rfl⟩,q2⟩:=q
  rw [hv] at hv'
  injection hv' with hv'
  subst hv'
  exact ⟨rfl,hW.below q2⟩
 have H3:Hid (∀W,GS W ρ gb C now sv m g cap ls P→Calls Tryz.prog 91 #[.pointer (some ⟨gb,0,none⟩),.int .i64 i,.pointer (some ⟨g,i*128,none⟩),.int .i64 k] W fun e w'=>e=.returned (.tuple #[])∧GSP W ρ gb C now sv m g cap (giveLs i k ls) (giveP (dnP now.dn k) i k ls P) w'):=fun W hW=>give_any hW i k hi k16
 obtain ⟨ha,hb,hc,hd,hhv⟩:∃a b c d:Int,(if p.held=true then Value.agg #[.int .i64 p.h.sh,.int .i64 p.h.ep,.int .i64 p.h.at_,.int .i64 p.h.bf] else .agg #[.int .i64 0,.int .i64 0,.int .i64 0,.int .i64 0])=.agg #[.int .i64 a,.int .i64 b,.int .i64 c,.int .i64 d]:=by
  cases p.held
  ·exact ⟨_,_,_,_,rfl⟩
  ·exact ⟨_,_,_,_,rfl⟩
 rw [hhv] at H1
 generalize dnP now.dn k=dk at *
 generalize p.held=held at *
 have HG:=hide h
 clear h hI hv hp hhv
 go_enter Tryz.func63,Tryz.ntmps63
 go_wp2_with (first | (go_at_call 76;refine (uh HK).mono ?_;rintro e w1 ⟨rfl,rfl⟩) | (go_at_call 47;refine (uh HL).mono ?_;rintro e w1 ⟨rfl,rfl⟩))
 refine (uh H1).mono ?_
 rintro e w1 ⟨rfl,q1⟩
 have Q1:=hide (q1.alloc (w1:=w1) (.cells #[.int .i64 ha,.int .i64 hb,.int .i64 hc,.int .i64 hd] 102))
 clear q1
 cases held
 ·go_wp2_with fail
  generalize w1.alloc (.cells #[.int .i64 ha,.int .i64 hb,.int .i64 hc,.int .i64 hd] 102)=W at *
  have QD:=hide ((uh Q1).trans ((uh Q1).1.below (Below.refl _ _).drew))
  have HSd:=hide (uh H2 _ (uh QD).1)
  go_region_held3 (fun _=>True) (trivial) ((go_at_call 95;refine (uh HSd).mono ?_;rintro e w2 ⟨rfl,q2⟩))
  have Q2:=hide ((uh QD).trans q2)
  clear q2
  by_cases hv1:v=1
  ·subst hv1
   go_wp2_with fail
   refine (uh H3 _ (uh Q2).1).mono ?_
   rintro e w3 ⟨rfl,q3⟩
   have Q3:=hide ((uh Q2).trans q3)
   clear q3
   go_wp2
   go_ret
   exact ⟨rfl,uh Q3⟩
  ·go_wp2
   go_ret
   refine ⟨by simp [stealV,hv1],?_⟩
   rw [stealLs,stealP,if_neg (fun e=>hv1 e.2),if_neg (fun e=>hv1 e.2)]
   exact uh Q2
 ·go_wp2
  go_ret
  refine ⟨by simp [stealV],?_⟩
  rw [stealLs,stealP,if_neg (by simp),if_neg (by simp)]
  exact uh Q1
end Go.Proofs.YtpnkmnmchdabkaaGreat
namespace Go.Proofs.YtpnkmnmchdabkaaGreat
def noteOf:List Nt→Int→Option Nt
 | [],_=>none
 | n :: r,k=>if n.sh=k then some n else noteOf r k
theorem firstOf_append (hs:List Hd) (x:Hd) (k:Int):firstOf (hs ++ [x]) k=match firstOf hs k with | some y=>some y | none=>if x.sh=k then some x else none:=by
 induction hs with
 | nil=>simp [firstOf]
 | cons h r ih =>
   simp only [List.cons_append,firstOf]
   by_cases e:h.sh=k
   ·simp [e]
   ·simp only [if_neg e];exact ih
theorem firstOf_lost (hs:List Hd) (j k:Int):firstOf (lost hs j) k=if k=j then none else firstOf hs k:=by
 unfold lost
 induction hs with
 | nil=>simp [firstOf]
 | cons h r ih =>
   by_cases e:h.sh=j
   ·rw [List.filter_cons_of_neg (by simp [e])]
    rw [ih]
    by_cases ek:k=j
    ·simp [ek]
    ·simp only [if_neg ek,firstOf]
     rw [if_neg (by omega)]
   ·rw [List.filter_cons_of_pos (by simpa using e)]
    simp only [firstOf]
    by_cases ek:k=j
    ·rw [if_neg (by omega),ih,if_pos ek,if_pos ek]
    ·rw [ih,if_neg ek,if_neg ek]
theorem firstOf_none {hs:List Hd} {k:Int}:firstOf hs k=none ↔ ∀x ∈ hs,x.sh≠k:=by
 induction hs with
 | nil=>simp [firstOf]
 | cons h r ih =>
   simp only [firstOf]
   by_cases e:h.sh=k
   ·simp [e]
   ·simp [e,ih]
structure HsOk (hs:List Hd) (n:Nat):Prop where
 nd:(hs.map (·.sh)).Nodup
 rg:∀x ∈ hs,∃k:Nat,k<n∧x.sh=(k:Int)
theorem HsOk.lost {hs:List Hd} {n:Nat} (h:HsOk hs n) (k:Int):HsOk (lost hs k) n:=by
 refine ⟨?_,fun x hx=>h.rg x (List.mem_filter.1 hx).1⟩
 unfold Go.Proofs.YtpnkmnmchdabkaaGreat.lost
 exact h.nd.sublist (List.Sublist.map _ (List.filter_sublist))
theorem HsOk.add {hs:List Hd} {n:Nat} (h:HsOk hs n) (x:Hd) (k:Nat) (hk:k<n) (hx:x.sh=(k:Int)) (hno:firstOf hs k=none):HsOk (hs ++ [x]) n:=by
 refine ⟨?_,fun y hy=>?_⟩
 ·rw [List.map_append,List.nodup_append]
  refine ⟨h.nd,by simp,fun a ha b hb=>?_⟩
  simp at hb
  subst hb
  obtain ⟨y,hy,rfl⟩:=List.mem_map.1 ha
  rw [hx]
  exact firstOf_none.1 hno y hy
 ·rcases List.mem_append.1 hy with hy | hy
  ·exact h.rg y hy
  ·simp at hy
   subst hy
   exact ⟨k,hk,hx⟩
theorem HsOk.mono {hs:List Hd} {n m:Nat} (h:HsOk hs n) (hm:n≤m):HsOk hs m:=⟨h.nd,fun x hx=>by obtain ⟨k,a,b⟩:=h.rg x hx;exact ⟨k,by omega,b⟩⟩
theorem byShard_cons_len (h:Hd) (t:List Hd) (k0:Nat) (hk:h.sh=(k0:Int)) (hno:firstOf t k0=none):∀n,(byShard (h :: t) n).length=(byShard t n).length+if k0<n then 1 else 0:=by
 intro n
 induction n with
 | zero=>simp [byShard]
 | succ n ih =>
   rw [byShard_succ,byShard_succ,List.length_append,List.length_append,ih]
   have e:firstOf (h :: t) (n:Int)=if k0=n then some h else firstOf t n:=by
    simp only [firstOf,hk]
    by_cases e:k0=n
    ·simp [e]
    ·rw [if_neg (by omega),if_neg e]
   rw [e]
   by_cases e:k0=n
   ·subst e
    rw [hno]
    simp
   ·rw [if_neg e]
    by_cases hlt:k0<n
    ·rw [if_pos hlt,if_pos (by omega)];omega
    ·rw [if_neg hlt,if_neg (by omega)];omega
theorem byShard_len {n:Nat}:∀{hs:List Hd},HsOk hs n→(byShard hs n).length=hs.length
 | [],_=>by
   have:byShard [] n=[]:=by unfold byShard;simp [firstOf]
   simp [this]
 | h :: t,hO=>by
   obtain ⟨k,hk,e⟩:=hO.rg h (by simp)
   have nd:=hO.nd
   rw [List.map_cons,List.nodup_cons] at nd
   have hno:firstOf t k=none:=firstOf_none.2 fun x hx hc=>nd.1 (by rw [e];rw [←hc];exact List.mem_map.2 ⟨x,hx,rfl⟩)
   rw [byShard_cons_len h t k e hno n,if_pos hk,byShard_len ⟨nd.2,fun x hx=>hO.rg x (by simp [hx])⟩]
   simp
theorem HsOk.le {hs:List Hd} {n:Nat} (h:HsOk hs n):hs.length≤n:=by
 rw [←byShard_len h]
 exact byShard_le hs n
theorem byShard_more {hs:List Hd} {n:Nat} (h:HsOk hs n):∀m,n≤m→byShard hs m=byShard hs n:=by
 intro m hm
 induction m with
 | zero=>have:n=0:=by omega
         rw [this]
 | succ m ih =>
   by_cases e:n=m+1
   ·rw [e]
   ·rw [byShard_succ,ih (by omega)]
    have hno:firstOf hs (m:Int)=none:=firstOf_none.2 fun x hx hc=>by
     obtain ⟨k,hk,e2⟩:=h.rg x hx
     omega
    rw [hno]
    simp
structure NsOk (ns:List Nt) (n:Nat) (B:Int):Prop where
 nd:(ns.map (·.sh)).Nodup
 rg:∀x ∈ ns,∃k:Nat,k<n∧x.sh=(k:Int)
 bd:∀x ∈ ns,0≤x.s∧x.s≤B
theorem nodup_le:∀(n:Nat) (l:List Int),l.Nodup→(∀x ∈ l,0≤x∧x<n)→l.length≤n
 | 0,l,_,h=>by
   cases l with
   | nil=>simp
   | cons x r=>have:=h x (by simp);omega
 | n+1,l,hn,h=>by
   have h1:=nodup_le n (l.erase (n:Int)) (hn.erase _) (fun x hx=>by
    have:=h x (List.mem_of_mem_erase hx)
    have hne:x≠(n:Int):=fun e=>by subst e;exact (List.Nodup.not_mem_erase hn) hx
    omega)
   have h2:l.length≤(l.erase (n:Int)).length+1:=by
    by_cases hm:(n:Int) ∈ l
    ·rw [List.length_erase_of_mem hm];omega
    ·rw [List.erase_of_not_mem hm];omega
   omega
theorem NsOk.le {ns:List Nt} {n:Nat} {B:Int} (h:NsOk ns n B):ns.length≤n:=by
 have:=nodup_le n (ns.map (·.sh)) h.nd (fun x hx=>by
  obtain ⟨y,hy,rfl⟩:=List.mem_map.1 hx
  obtain ⟨k,hk,e⟩:=h.rg y hy
  omega)
 simpa using this
theorem NsOk.mono {ns:List Nt} {n m:Nat} {B B':Int} (h:NsOk ns n B) (hm:n≤m) (hB:B≤B'):NsOk ns m B' :=
 ⟨h.nd,fun x hx=>by obtain ⟨k,a,b⟩:=h.rg x hx;exact ⟨k,by omega,b⟩,fun x hx=>by have:=h.bd x hx;omega⟩
theorem noteOf_some {ns:List Nt} {k:Int} {x:Nt} (h:noteOf ns k=some x):x ∈ ns∧x.sh=k:=by
 induction ns with
 | nil=>simp [noteOf] at h
 | cons y r ih =>
   simp only [noteOf] at h
   by_cases e:y.sh=k
   ·rw [if_pos e] at h
    injection h with h
    subst h
    exact ⟨by simp,e⟩
   ·rw [if_neg e] at h
    exact ⟨List.mem_cons_of_mem _ (ih h).1,(ih h).2⟩
def sinceV (ns:List Nt) (k c t:Int):Int:=match noteOf ns k with
 | some x=>if x.c=c then x.s else t
 | none=>t
theorem sinceN_val (ns:List Nt) (k c t:Int):(sinceN ns k c t).2=sinceV ns k c t:=by
 induction ns with
 | nil=>rfl
 | cons n r ih =>
   unfold sinceV
   by_cases hk:n.sh=k
   ·by_cases hc:n.c=c
    ·simp [sinceN,noteOf,hk,hc]
    ·simp [sinceN,noteOf,hk,hc]
   ·simp only [sinceN,noteOf,if_neg hk]
    exact ih
theorem sinceN_note (ns:List Nt) (k c t j:Int):noteOf (sinceN ns k c t).1 j=if j=k then some ⟨k,c,sinceV ns k c t⟩ else noteOf ns j:=by
 induction ns with
 | nil =>
   simp only [sinceN,noteOf,sinceV]
   by_cases e:j=k
   ·simp [e]
   ·rw [if_neg (by omega),if_neg e]
 | cons n r ih =>
   by_cases hk:n.sh=k
   ·by_cases hc:n.c=c
    ·simp only [sinceN,if_pos hk,if_pos hc,noteOf,sinceV]
     by_cases e:j=k
     ·subst e
      obtain ⟨a,b,d⟩:=n
      simp only at hk hc
      subst hk hc
      simp
     ·simp [hk,e]
    ·simp only [sinceN,if_pos hk,if_neg hc,noteOf,sinceV]
     by_cases e:j=k
     ·subst e
      simp [hk]
     ·rw [if_neg (by omega),if_neg e,if_neg (by omega)]
   ·simp only [sinceN,if_neg hk,noteOf]
    have hs:sinceV (n :: r) k c t=sinceV r k c t:=by simp [sinceV,noteOf,hk]
    rw [hs]
    by_cases e:j=k
    ·subst e
     rw [if_neg hk,ih,if_pos rfl,if_pos rfl]
    ·rw [ih,if_neg e,if_neg e]
theorem sinceN_ok {ns:List Nt} {n:Nat} {B:Int} (h:NsOk ns n B) (k:Nat) (hk:k<n) (c t:Int) (ht:0≤t∧t≤B):NsOk (sinceN ns k c t).1 n B∧∀x ∈ (sinceN ns k c t).1,x.sh=(k:Int)∨x ∈ ns:=by
 induction ns with
 | nil=>exact ⟨⟨by simp [sinceN],fun x hx=>by simp [sinceN] at hx;subst hx;exact ⟨k,hk,rfl⟩,fun x hx=>by simp [sinceN] at hx;subst hx;exact ht⟩,fun x hx=>by simp [sinceN] at hx;subst hx;exact Or.inl rfl⟩
 | cons y r ih =>
   have nd:=h.nd
   rw [List.map_cons,List.nodup_cons] at nd
   have hr:NsOk r n B:=⟨nd.2,fun x hx=>h.rg x (by simp [hx]),fun x hx=>h.bd x (by simp [hx])⟩
   by_cases hy:y.sh=(k:Int)
   ·by_cases hc:y.c=c
    ·simp only [sinceN,if_pos hy,if_pos hc]
     exact ⟨h,fun x hx=>Or.inr hx⟩
    ·simp only [sinceN,if_pos hy,if_neg hc]
     refine ⟨⟨by rw [List.map_cons,List.nodup_cons];exact nd,fun x hx=>?_,fun x hx=>?_⟩,fun x hx=>?_⟩
     ·rcases List.mem_cons.1 hx with rfl | hx
      ·exact ⟨k,hk,hy⟩
      ·exact h.rg x (by simp [hx])
     ·rcases List.mem_cons.1 hx with rfl | hx
      ·exact ht
      ·exact h.bd x (by simp [hx])
     ·rcases List.mem_cons.1 hx with rfl | hx
      ·exact Or.inl hy
      ·exact Or.inr (by simp [hx])
   ·simp only [sinceN,if_neg hy]
    obtain ⟨i1,i2⟩:=ih hr
    refine ⟨⟨?_,fun x hx=>?_,fun x hx=>?_⟩,fun x hx=>?_⟩
    ·rw [List.map_cons,List.nodup_cons]
     refine ⟨fun hm=>?_,i1.nd⟩
     obtain ⟨x,hx,e⟩:=List.mem_map.1 hm
     rcases i2 x hx with h1 | h1
     ·exact hy (by rw [←e];exact h1)
     ·exact nd.1 (List.mem_map.2 ⟨x,h1,e⟩)
    ·rcases List.mem_cons.1 hx with rfl | hx
     ·exact h.rg _ (by simp)
     ·exact i1.rg x hx
    ·rcases List.mem_cons.1 hx with rfl | hx
     ·exact h.bd _ (by simp)
     ·exact i1.bd x hx
    ·rcases List.mem_cons.1 hx with rfl | hx
     ·exact Or.inr (by simp)
     ·rcases i2 x hx with h1 | h1
      ·exact Or.inl h1
      ·exact Or.inr (by simp [h1])
def leOf (rs:List Rf) (k:Nat):Le:=match rs[k]? with
 | some r=>⟨r.own,r.ctr,r.lep⟩
 | none=>⟨-1,0,0⟩
def LsRel (ls:List Le) (rs:List Rf):Prop:=ls.length=16∧∀k,k<16→ls[k]?=some (leOf rs k)
theorem leOf_set {rs:List Rf} {k:Nat} {r':Rf} (hk:k<rs.length) (j:Nat):leOf (rs.set k r') j=if j=k then ⟨r'.own,r'.ctr,r'.lep⟩ else leOf rs j:=by
 unfold leOf
 by_cases e:j=k
 ·subst e
  rw [List.getElem?_set_self hk,if_pos rfl]
 ·rw [List.getElem?_set_ne (fun q=>e q.symm),if_neg e]
theorem LsRel.set {ls:List Le} {rs:List Rf} (h:LsRel ls rs) {k:Nat} (hk:k<rs.length) (hk16:k<16) (r':Rf) (x:Le) (hx:x=⟨r'.own,r'.ctr,r'.lep⟩):LsRel (ls.set k x) (rs.set k r'):=by
 refine ⟨by simpa using h.1,fun j hj=>?_⟩
 rw [leOf_set hk]
 by_cases e:j=k
 ·subst e
  rw [List.getElem?_set_self (by rw [h.1];exact hj),if_pos rfl,hx]
 ·rw [List.getElem?_set_ne (fun q=>e q.symm),if_neg e]
  exact h.2 j hj
def PlRel (p:Pl) (hs:List Hd) (ns:List Nt) (k:Nat):Prop:=firstOf hs k=(if p.held=true then some p.h else none)∧noteOf ns k=(if p.made=true then some ⟨k,p.c,p.s⟩ else none)
def WkRel (P:List Pl) (i:Nat) (hs:List Hd) (ns:List Nt):Prop:=∀k,k<16→∃p,P[i*16+k]?=some p∧PlRel p hs ns k
theorem WkRel.held {P:List Pl} {i:Nat} {hs:List Hd} {ns:List Nt} (h:WkRel P i hs ns):∀n,n≤16→heldOf P i n=byShard hs n:=by
 intro n
 induction n with
 | zero=>intro _;simp [heldOf,byShard]
 | succ n ih =>
   intro hn
   obtain ⟨p,hp,h1,_⟩:=h n (by omega)
   rw [heldOf,byShard_succ,ih (by omega),hp,h1]
   cases hh:p.held <;> simp [hh]
theorem WkRel.set {P:List Pl} {i:Nat} {hs hs':List Hd} {ns ns':List Nt} (h:WkRel P i hs ns) (k:Nat) (hk:k<16) (p':Pl) (hp:PlRel p' hs' ns' k) (ho:∀j:Nat,j<16→j≠k→firstOf hs' j=firstOf hs j∧noteOf ns' j=noteOf ns j):WkRel (P.set (i*16+k) p') i hs' ns':=by
 intro j hj
 by_cases e:j=k
 ·subst e
  obtain ⟨p,hq,_⟩:=h j hj
  have:=(List.getElem?_eq_some_iff.1 hq).1
  exact ⟨p',List.getElem?_set_self this,hp⟩
 ·obtain ⟨p,hq,h1,h2⟩:=h j hj
  obtain ⟨a,b⟩:=ho j hj e
  exact ⟨p,by rw [List.getElem?_set_ne (by omega)];exact hq,a.trans h1,b.trans h2⟩
def Oth (i:Nat) (P P':List Pl):Prop:=P'.length=P.length∧∀j k,j≠i→k<16→P'[j*16+k]?=P[j*16+k]?
theorem Oth.refl (i:Nat) (P:List Pl):Oth i P P:=⟨rfl,fun _ _ _ _=>rfl⟩
theorem Oth.set {i:Nat} {P P':List Pl} (h:Oth i P P') (k:Nat) (hk:k<16) (p:Pl):Oth i P (P'.set (i*16+k) p) :=
 ⟨by rw [List.length_set];exact h.1,fun j q hj hq=>by rw [List.getElem?_set_ne (by omega)];exact h.2 j q hj hq⟩
theorem Oth.wk {i j:Nat} {P P':List Pl} (h:Oth i P P') (hj:j≠i) {hs:List Hd} {ns:List Nt} (hw:WkRel P j hs ns):WkRel P' j hs ns:=fun k hk=>by
 obtain ⟨p,hp,hr⟩:=hw k hk
 exact ⟨p,(h.2 j k hj hk).trans hp,hr⟩
theorem renew_one {f:Nat→Bool} {i k:Nat} {ls:List Le} {P:List Pl} {rs:List Rf} {hs:List Hd} {ns:List Nt} {B:Int} (hB:B≤1000000000000) (hk:k<16) (hL:LsRel ls rs) (hW:WkRel P i hs ns) (hH:HsOk hs rs.length)
 (hb:∀r,rs[k]?=some r→0≤r.ctr∧r.ctr≤B) (fb:Bool) (hf:k<rs.length→fb=f k) :
 LsRel (rhLs i k fb ls P) (renewAt f i k (rs,hs)).1∧WkRel (rhP i k fb ls P) i (renewAt f i k (rs,hs)).2 ns∧HsOk (renewAt f i k (rs,hs)).2 rs.length∧(renewAt f i k (rs,hs)).1.length=rs.length∧Oth i P (rhP i k fb ls P) ∧
  (∀j,j≠k→(renewAt f i k (rs,hs)).1[j]?=rs[j]?∧firstOf (renewAt f i k (rs,hs)).2 j=firstOf hs j)∧(rhKeep i k fb ls P=(firstOf (renewAt f i k (rs,hs)).2 k).isSome)∧(∀r',(renewAt f i k (rs,hs)).1[k]?=some r'→∃r,rs[k]?=some r∧(r'.ctr=r.ctr∨r'.ctr=r.ctr+1)∧r'.lep=r.lep∧r'.done=r.done∧r'.ep=r.ep):=by
 obtain ⟨p,hp,h1,h2⟩:=hW k hk
 have hx:=hL.2 k hk
 have same:∀r',rs[k]?=some r'→∃r,rs[k]?=some r∧(r'.ctr=r.ctr∨r'.ctr=r.ctr+1)∧r'.lep=r.lep∧r'.done=r.done∧r'.ep=r.ep:=fun r' h=>⟨r',h,Or.inl rfl,rfl,rfl,rfl⟩
 cases hh:p.held
 ·rw [hh] at h1
  simp only [Bool.false_eq_true,if_false] at h1
  have e0:renewAt f i k (rs,hs)=(rs,hs):=by unfold renewAt;simp only [h1]
  have e1:rhLs i k fb ls P=ls:=by unfold rhLs;rw [hx,hp];simp [hh]
  have e2:rhP i k fb ls P=P:=by unfold rhP;rw [hx,hp];simp [hh]
  have e3:rhKeep i k fb ls P=false:=by unfold rhKeep;rw [hx,hp];simp [hh]
  rw [e0,e1,e2,e3]
  refine ⟨hL,hW,hH,rfl,Oth.refl i P,fun j _=>⟨rfl,rfl⟩,?_,same⟩
  simp only [h1];rfl
 ·rw [hh] at h1
  simp only [if_true] at h1
  obtain ⟨hin,hsh⟩:=firstOf_in h1
  obtain ⟨k',hk',e⟩:=hH.rg _ hin
  have ek:k'=k:=by omega
  subst ek
  obtain ⟨r,hr⟩:∃r,rs[k']?=some r:=⟨rs[k'],List.getElem?_eq_getElem hk'⟩
  have hfb:=hf hk'
  have hle:leOf rs k'=⟨r.own,r.ctr,r.lep⟩:=by unfold leOf;rw [hr]
  rw [hle] at hx
  have hbr:=hb r hr
  have hinc:inc r.ctr=r.ctr+1:=inc_is ⟨hbr.1,by omega⟩
  have dr:PlRel (dropped p) (lost hs k') ns k':=by
   refine ⟨?_,?_⟩
   ·rw [firstOf_lost,if_pos rfl];rfl
   ·rw [h2];rfl
  have lo:∀j:Nat,j<16→j≠k'→firstOf (lost hs k') j=firstOf hs j∧noteOf ns j=noteOf ns j:=fun j _ hj=>⟨by rw [firstOf_lost,if_neg (by omega)],rfl⟩
  have lo2:∀j:Nat,j≠k'→firstOf (lost hs k') j=firstOf hs j:=fun j hj=>by rw [firstOf_lost,if_neg (by omega)]
  by_cases hm:r.own=i∧r.lep=p.h.ep
  ·have hm':¬(r.own≠i∨r.lep≠p.h.ep):=by omega
   cases hfk:f k'
   ·have e0:renewAt f i k' (rs,hs)=(rs.set k' { r with own:=i,ctr:=r.ctr+1,lep:=r.lep },hs):=by unfold renewAt;simp only [h1,hr];rw [if_neg hm',if_neg (by simp [hfk])]
    have e1:rhLs i k' fb ls P=ls.set k' ⟨r.own,r.ctr+1,r.lep⟩:=by unfold rhLs;rw [hx,hp];simp only;rw [if_pos ⟨hh,hm.1,hm.2⟩,hfb,hfk,if_neg (by simp),hinc]
    have e2:rhP i k' fb ls P=P:=by unfold rhP;rw [hx,hp];simp only;rw [if_neg (by rw [hfb,hfk];simp [hm.1,hm.2])]
    have e3:rhKeep i k' fb ls P=true:=by unfold rhKeep;rw [hx,hp];simp [hh,hm.1,hm.2,hfb,hfk]
    rw [e0,e1,e2,e3]
    refine ⟨hL.set hk' hk _ _ (by rw [hm.1]),hW,hH,by simp,Oth.refl i P,fun j hj=>⟨by simp only;rw [List.getElem?_set_ne (fun q=>hj q.symm)],rfl⟩,by simp only [h1];rfl,fun r' h=>?_⟩
    simp only at h
    rw [List.getElem?_set_self hk'] at h
    injection h with h
    subst h
    exact ⟨r,hr,Or.inr rfl,rfl,rfl,rfl⟩
   ·have e0:renewAt f i k' (rs,hs)=(rs.set k' { r with own:=-1,ctr:=r.ctr+1,lep:=r.lep },lost hs k'):=by unfold renewAt;simp only [h1,hr];rw [if_neg hm',if_pos hfk]
    have e1:rhLs i k' fb ls P=ls.set k' ⟨-1,r.ctr+1,r.lep⟩:=by unfold rhLs;rw [hx,hp];simp only;rw [if_pos ⟨hh,hm.1,hm.2⟩,hfb,hfk,if_pos rfl,hinc]
    have e2:rhP i k' fb ls P=P.set (i*16+k') (dropped p):=by unfold rhP;rw [hx,hp];simp only;rw [if_pos (by rw [hfb,hfk];simp [hh])]
    have e3:rhKeep i k' fb ls P=false:=by unfold rhKeep;rw [hx,hp];simp [hfb,hfk]
    rw [e0,e1,e2,e3]
    refine ⟨hL.set hk' hk _ _ rfl,hW.set k' hk _ dr lo,hH.lost _,by simp,(Oth.refl i P).set k' hk _,fun j hj=>⟨by simp only;rw [List.getElem?_set_ne (fun q=>hj q.symm)],lo2 j hj⟩,?_,fun r' h=>?_⟩
    ·simp only;rw [firstOf_lost,if_pos rfl];rfl
    ·simp only at h
     rw [List.getElem?_set_self hk'] at h
     injection h with h
     subst h
     exact ⟨r,hr,Or.inr rfl,rfl,rfl,rfl⟩
  ·have hm':r.own≠i∨r.lep≠p.h.ep:=by omega
   have e0:renewAt f i k' (rs,hs)=(rs,lost hs k'):=by unfold renewAt;simp only [h1,hr];rw [if_pos hm']
   have e1:rhLs i k' fb ls P=ls:=by unfold rhLs;rw [hx,hp];simp only;rw [if_neg (fun q=>hm q.2)]
   have e2:rhP i k' fb ls P=P.set (i*16+k') (dropped p):=by unfold rhP;rw [hx,hp];simp only;rw [if_pos ⟨hh,fun q=>hm ⟨q.1,q.2.1⟩⟩]
   have e3:rhKeep i k' fb ls P=false:=by unfold rhKeep;rw [hx,hp];simp only [decide_eq_false_iff_not];exact fun q=>hm ⟨q.2.1,q.2.2.1⟩
   rw [e0,e1,e2,e3]
   refine ⟨hL,hW.set k' hk _ dr lo,hH.lost _,rfl,(Oth.refl i P).set k' hk _,fun j hj=>⟨rfl,lo2 j hj⟩,?_,same⟩
   simp only;rw [firstOf_lost,if_pos rfl];rfl
end Go.Proofs.YtpnkmnmchdabkaaGreat
