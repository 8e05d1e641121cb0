import Derived.Test.YtpnkmnmchdabkaaGreatM21
namespace Go.Proofs.YtpnkmnmchdabkaaGreat
open Go.RowKit
attribute [local go_sem ↓] Go.wp_at_zero Go.wp_at_succ
attribute [local go_sem ↓] zvStg ldS_shut stS_shut
attribute [local go_sem] stS_new
theorem there_of {w:World} {b:Nat} {K:List Int} {t:TypeId} (h:w.heap[b]?=some (.cells (stA K) t (0,0))) (hK:K.length=16) (n:Nat) (hn:n≤16):w.there b 0 n:=by
 intro j hj
 refine ⟨?_,frozen_of h _⟩
 rw [cell_of h]
 unfold stA
 simp
 omega
theorem stSet {w:World} {b:Nat} {K L:List Int} {t:TypeId} (h:w.heap[b]?=some (.cells (stA K) t (0,0))) (hK:K.length=16) (hL:L.length=16):w.setCells b 0 (List.map (Value.int .i64) L)=w.setRow b (stA L):=by
 have h1:=stStg h hK hL
 have h2:=run_storeVar_mid (P:=Tryz.prog) w b 0 175 (stA L) (there_of h hK _ (by rw [stA_size hL];exact Nat.le_refl _)) (by rw [stA_size hL];exact infoStgSize) (all_oneCell_toArray (stCells_one L))
 have h3:=h1.symm.trans h2
 simp only [Result.ok.injEq,true_and] at h3
 rw [h3]
 unfold stA
 rw [List.toList_toArray]
theorem stLaid {w W V:World} {ρ:Nat→Nat} {gb:Nat} {C:Cfg} {now:Rest} {sv:Value} {m:List Cs} {g cap:Nat} {ls:List Le} {P:List Pl} (hW:GSP w ρ gb C now sv m g cap ls P W) {b:Nat} {K L:List Int} (h:W.heap[b]?=some (.cells (stA K) 175 (0,0))) (hK:K.length=16) (hL:L.length=16) (hb:w.heap.size≤b) (hf:Fits w ρ) (hV:V=W.setCells b 0 (List.map (Value.int .i64) L)) :
 V.heap[b]?=some (.cells (stA L) 175 (0,0))∧GSP w ρ gb C now sv m g cap ls P V∧¬mine ρ b:=by
 have hz:ρ b=0:=hf b hb
 rw [stSet h hK hL] at hV
 subst hV
 have hk:Keeps (fun k=>k=b) W (W.setRow b (stA L)):=⟨rfl,rfl,rfl,by simp [World.setRow],fun k _ hne=>setRow_other hne⟩
 refine ⟨setRow_same h,⟨?_,hW.2.os,hW.2.tape,hW.2.output,by have:=hW.2.size;simpa [World.setRow] using this,fun k hk' hn=>(setRow_other (by omega)).trans (hW.2.block k hk' hn)⟩,by unfold mine;omega⟩
 have hG:GrpL W ρ gb C (now.up ls P) sv m g cap P:=hW.1
 exact ⟨hG.G.keeps hk (fun k e=>Or.inl (by subst e;unfold mine;omega)) (fun _ _=>rfl) hG.le,hG.hw,hG.hm,hG.hl,hG.le,fun k hk'=>hG.fits k (by simpa [World.setRow] using hk')⟩
theorem gStages_any {w:World} {ρ:Nat→Nat} {gb:Nat} {C:Cfg} {now:Rest} {sv:Value} {m:List Cs} {g cap:Nat} {ls:List Le} {P:List Pl} (h:GS w ρ gb C now sv m g cap ls P) (hI:Inv (m.map (·.s))) :
 Calls Tryz.prog 86 #[.pointer (some ⟨gb,8,none⟩),.pointer (some ⟨gb,7,none⟩)] w fun e w'=>e=.returned (.agg (stA (stgUp (m.map (·.s)) (dnP now.dn) m.length)))∧Below w.heap.size w w' :=
 stages_any (now:=now.up ls P) h hI
def freeP (ls:List Le) (P:List Pl) (t L:Int) (i n:Nat):Bool:=match ls[n]?,P[i*16+n]? with
 | some x,some p=>decide (x.o=-1) || (p.made && decide (p.c=x.c) && decide (L≤dif t p.s))
 | _,_=>false
set_option maxRecDepth 100000 in
set_option maxHeartbeats 2000000 in
theorem isFree_any {w:World} {ρ:Nat→Nat} {gb:Nat} {C:Cfg} {now:Rest} {sv:Value} {m:List Cs} {g cap:Nat} {ls:List Le} {P:List Pl} (h:GS w ρ gb C now sv m g cap ls P) (i n:Nat) (hi:i<now.n) (hn:n<16) :
 Calls Tryz.prog 120 #[.pointer (some ⟨gb,0,none⟩),.pointer (some ⟨g,i*128,none⟩),.int .i64 n] w fun e w'=>e=.returned (.bool (freeP ls P now.t C.l i n))∧GSP w ρ gb C now sv m g cap ls P w':=by
 obtain ⟨x,hx⟩:=h.lease hn
 obtain ⟨p,hp⟩:=h.pl hi hn
 have E1:Hid (freeP ls P now.t C.l i n=(decide (x.o=-1) || (p.made && decide (p.c=x.c) && decide (C.l≤dif now.t p.s)))):=by unfold Hid freeP;rw [hx,hp]
 have H1:Hid (Calls Tryz.prog 97 #[.pointer (some ⟨gb,40,none⟩),.int .i64 n] w fun e w'=>e=.returned (.agg #[.int .i64 x.o,.int .i64 x.c,.int .i64 x.e])∧GSP w ρ gb C now sv m g cap ls P w'):=gOf_any h n x hx
 have H2:Hid (∀W,GS W ρ gb C now sv m g cap ls P→∀c s u:Int,Calls Tryz.prog 131 #[.pointer (some ⟨g,i*128,none⟩),.int .i64 n,.int .i64 c,.int .i64 s,.int .i64 u] W fun e w'=>e=.returned (.bool (p.made && decide (p.c=c) && decide (u≤dif s p.s)))∧GSP W ρ gb C now sv m g cap ls P w'):=fun W hW c s u=>gNoted_any hW i n hn p hp c s u
 have H3:Hid (∀W,GS W ρ gb C now sv m g cap ls P→W.cell? ⟨gb,6,none⟩=some (.int .i64 now.t)∧W.cell? ⟨gb,1,none⟩=some (.int .i64 C.l)):=fun W hW=>⟨(GrpL.tcell hW).1,(GrpL.tcell hW).2.2.1⟩
 clear h hx hp
 by_cases ho:x.o=-1
 ·go_enter Tryz.func120,Tryz.ntmps120
  go_wp2_with fail
  refine (uh H1).mono ?_
  rintro e w1 ⟨rfl,q1⟩
  have Q1:=hide q1
  clear q1
  go_wp2
  go_ret
  exact ⟨by rw [uh E1];simp [ho],(uh Q1).alloc _⟩
 ·go_enter Tryz.func120,Tryz.ntmps120
  go_wp2_with fail
  refine (uh H1).mono ?_
  rintro e w1 ⟨rfl,q1⟩
  have Q1:=hide q1
  have A1:=hide (q1.alloc (w1:=w1) (.cells #[.int .i64 x.o,.int .i64 x.c,.int .i64 x.e] 59))
  obtain ⟨c6,c1⟩:=uh H3 _ (uh A1).1
  clear q1
  go_wp2_with fail
  have cl:(w1.alloc (.cells #[.int .i64 x.o,.int .i64 x.c,.int .i64 x.e] 59)).cell? ⟨w1.heap.size,1,none⟩=some (.int .i64 x.c):=cell_of (heap_alloc_new w1 _) 1
  have hlt:w1.heap.size<(w1.alloc (.cells #[.int .i64 x.o,.int .i64 x.c,.int .i64 x.e] 59)).heap.size:=by simp
  have AD:=hide ((uh A1).1.below ((Below.refl _ _).drew))
  have hz:Hid (¬mine ρ w1.heap.size):=fun hm=>by have:=(uh Q1).1.fits _ (Nat.le_refl _);unfold mine at hm;omega
  generalize w1.alloc (.cells #[.int .i64 x.o,.int .i64 x.c,.int .i64 x.e] 59)=W at *
  have HC:=hide (uh H2 _ (uh AD).1 x.c now.t C.l)
  go_region_held3 (fun w'=>w'.cell? ⟨w1.heap.size,1,none⟩=some (.int .i64 x.c)∧w'.cell? ⟨gb,6,none⟩=some (.int .i64 now.t)∧w'.cell? ⟨gb,1,none⟩=some (.int .i64 C.l)) (first | go_keep | trivial) ((go_at_call 131;refine (uh HC).mono ?_;rintro e w2 ⟨rfl,q2⟩;have d1:=(q2.2.cell (p:=⟨w1.heap.size,1,none⟩) hlt (uh hz)).trans cl;obtain ⟨d6,d2⟩:=uh H3 _ q2.1;have Q2:=hide q2;clear q2))
  go_wp2
  go_ret
  exact ⟨by rw [uh E1];simp [ho],(uh A1).trans ((uh AD).trans (uh Q2))⟩
def notesP (ls:List Le) (t:Int) (i:Nat):Nat→List Pl→List Pl
 | 0,P=>P
 | n+1,P=>match ls[n]?,(notesP ls t i n P)[i*16+n]? with
   | some x,some p=>(notesP ls t i n P).set (i*16+n) (noted p x.c t)
   | _,_=>notesP ls t i n P
set_option maxRecDepth 100000 in
set_option maxHeartbeats 2000000 in
theorem makeNotes_any {w:World} {ρ:Nat→Nat} {gb:Nat} {C:Cfg} {now:Rest} {sv:Value} {m:List Cs} {g cap:Nat} {ls:List Le} {P:List Pl} (h:GS w ρ gb C now sv m g cap ls P) (h0:0<m.length) (i:Nat) (hi:i<now.n) :
 Calls Tryz.prog 89 #[.pointer (some ⟨gb,0,none⟩),.pointer (some ⟨g,i*128,none⟩)] w fun e w'=>e=.returned (.tuple #[])∧GSP w ρ gb C now sv m g cap ls (notesP ls now.t i m.length P) w':=by
 have h16:=GrpL.le h
 have HN:Hid (Calls Tryz.prog 108 #[.pointer (some ⟨gb,7,none⟩)] w fun e w'=>e=.returned (.int .i64 m.length)∧w=w'):=gLen_any h h0
 have H1:Hid (∀W P' n x,ls[n]?=some x→GS W ρ gb C now sv m g cap ls P'→Calls Tryz.prog 97 #[.pointer (some ⟨gb,40,none⟩),.int .i64 (n:Nat)] W fun e w'=>e=.returned (.agg #[.int .i64 x.o,.int .i64 x.c,.int .i64 x.e])∧GSP W ρ gb C now sv m g cap ls P' w'):=fun W P' n x hx hW=>gOf_any hW n x hx
 have H2:Hid (∀W P' n p,n<16→P'[i*16+n]?=some p→GS W ρ gb C now sv m g cap ls P'→∀c s:Int,Calls Tryz.prog 119 #[.pointer (some ⟨g,i*128,none⟩),.int .i64 (n:Nat),.int .i64 c,.int .i64 s] W fun e w'=>e=.returned (.tuple #[])∧GSP W ρ gb C now sv m g cap ls (P'.set (i*16+n) (noted p c s)) w'):=fun W P' n p hn hp hW c s=>gNote_any hW i n hn p hp c s
 have H3:Hid (∀W P',GS W ρ gb C now sv m g cap ls P'→W.cell? ⟨gb,6,none⟩=some (.int .i64 now.t)):=fun W P' hW=>(GrpL.tcell hW).1
 have HX:=hide h.lsL
 have HG:=hide h
 clear h
 go_enter Tryz.func89,Tryz.ntmps89
 go_wp2_with fail
 refine (uh HN).mono ?_
 rintro e w1 ⟨rfl,rfl⟩
 go_wp2
 go_loopw [5] (fun q wr=>∃k:Nat,k≤m.length∧q=.int .i64 k∧GSP w ρ gb C now sv m g cap ls (notesP ls now.t i k P) wr) (fun q _=>m.length - (intOf q).toNat)
 case atStart=>exact ⟨0,by omega,rfl,GSP.refl (uh HG)⟩
 case round =>
  obtain ⟨k,hk,rfl,q0⟩:=hrel
  by_cases hlt:k<m.length
  ·obtain ⟨x,hx⟩:∃x,ls[k]?=some x:=⟨ls[k]'(by rw [uh HX];omega),List.getElem?_eq_getElem _⟩
   obtain ⟨p,hp⟩:∃p,(notesP ls now.t i k P)[i*16+k]?=some p:=⟨(notesP ls now.t i k P)[i*16+k]'(by rw [q0.1.plL];omega),List.getElem?_eq_getElem _⟩
   have HU:Hid (notesP ls now.t i (k+1) P=(notesP ls now.t i k P).set (i*16+k) (noted p x.c now.t)):=by unfold Hid;rw [notesP,hx,hp]
   have Q0:=hide q0
   have HXk:=hide hx
   have HPk:=hide hp
   clear q0 hx hp
   go_wp2_with fail
   refine (uh H1 _ _ k x (uh HXk) (uh Q0).1).mono ?_
   rintro e w1 ⟨rfl,q1⟩
   have hz:Hid (¬mine ρ w1.heap.size):=fun hm=>by have:=q1.1.fits _ (Nat.le_refl _);unfold mine at hm;omega
   have A1:=hide (q1.alloc (w1:=w1) (.cells #[.int .i64 x.o,.int .i64 x.c,.int .i64 x.e] 59))
   have c6:=uh H3 _ _ (uh A1).1
   clear q1
   go_wp2_with fail
   have cl:(w1.alloc (.cells #[.int .i64 x.o,.int .i64 x.c,.int .i64 x.e] 59)).cell? ⟨w1.heap.size,1,none⟩=some (.int .i64 x.c):=cell_of (heap_alloc_new w1 _) 1
   have hlt':w1.heap.size<(w1.alloc (.cells #[.int .i64 x.o,.int .i64 x.c,.int .i64 x.e] 59)).heap.size:=by simp
   have AD:=hide ((uh A1).1.below ((Below.refl _ _).drew))
   generalize w1.alloc (.cells #[.int .i64 x.o,.int .i64 x.c,.int .i64 x.e] 59)=W at *
   have HC:=hide (uh H2 _ _ k p (by omega) (uh HPk) (uh AD).1 x.c now.t)
   go_region_held3 (fun w'=>w'.cell? ⟨w1.heap.size,1,none⟩=some (.int .i64 x.c)∧w'.cell? ⟨gb,6,none⟩=some (.int .i64 now.t)) (first | go_keep | trivial) ((go_at_call 119;refine (uh HC).mono ?_;rintro e w2 ⟨rfl,q2⟩;have d1:=(q2.2.cell (p:=⟨w1.heap.size,1,none⟩) hlt' (uh hz)).trans cl;have d6:=uh H3 _ _ q2.1;have Q2:=hide q2;clear q2))
   go_wp2
   go_roundw
   case rel=>exact ⟨k+1,by omega,by go_num,by rw [uh HU];exact (uh Q0).trans ((uh A1).trans ((uh AD).trans (uh Q2)))⟩
   case measure=>simp [intOf];omega
  ·have e:k=m.length:=by omega
   subst e
   have Q0:=hide q0
   clear q0
   go_wp2
   go_end0
   exact ⟨rfl,uh Q0⟩
def mayP (st:List Int) (ls:List Le) (P:List Pl) (t L:Int) (i n:Nat):Bool:=match P[i*16+n]? with
 | some p=>decide (st[n]?=some 1) && !p.held && freeP ls P t L i n
 | none=>false
def FreePost (f:Nat→Bool) (e:Ending):Prop :=
 (∃n:Nat,n<16∧f n=true∧(∀k,k<n→f k=false)∧e=.returned (.tuple #[.int .i64 n,.bool true]))∨((∀k,k<16→f k=false)∧e=.returned (.tuple #[.int .i64 0,.bool false]))
set_option maxRecDepth 100000 in
set_option maxHeartbeats 4000000 in
theorem findFree_any {w:World} {ρ:Nat→Nat} {gb:Nat} {C:Cfg} {now:Rest} {sv:Value} {m:List Cs} {g cap:Nat} {ls:List Le} {P:List Pl} (h:GS w ρ gb C now sv m g cap ls P) (hI:Inv (m.map (·.s))) (i:Nat) (hi:i<now.n) :
 Calls Tryz.prog 90 #[.pointer (some ⟨gb,0,none⟩),.pointer (some ⟨g,i*128,none⟩)] w fun e w'=>FreePost (mayP (stgUp (m.map (·.s)) (dnP now.dn) m.length) ls P now.t C.l i) e∧GSP w ρ gb C now sv m g cap ls P w':=by
 have HS:Hid (∀W,GS W ρ gb C now sv m g cap ls P→Calls Tryz.prog 86 #[.pointer (some ⟨gb,8,none⟩),.pointer (some ⟨gb,7,none⟩)] W fun e w'=>e=.returned (.agg (stA (stgUp (m.map (·.s)) (dnP now.dn) m.length)))∧Below W.heap.size W w'):=fun W hW=>gStages_any hW hI
 have HLn:=stgUp_len (m.map (·.s)) (dnP now.dn) m.length
 generalize stgUp (m.map (·.s)) (dnP now.dn) m.length=st at HS HLn ⊢
 have H1:Hid (∀W n p,n<16→P[i*16+n]?=some p→GS W ρ gb C now sv m g cap ls P→Calls Tryz.prog 77 #[.pointer (some ⟨g,i*128,none⟩),.int .i64 (n:Nat)] W fun e w'=>e=.returned (.tuple #[if p.held=true then .agg #[.int .i64 p.h.sh,.int .i64 p.h.ep,.int .i64 p.h.at_,.int .i64 p.h.bf] else .agg #[.int .i64 0,.int .i64 0,.int .i64 0,.int .i64 0],.bool p.held])∧GSP W ρ gb C now sv m g cap ls P w'):=fun W n p hn hp hW=>gHold_any hW i n hn p hp
 have H2:Hid (∀W (n:Nat),n<16→GS W ρ gb C now sv m g cap ls P→Calls Tryz.prog 120 #[.pointer (some ⟨gb,0,none⟩),.pointer (some ⟨g,i*128,none⟩),.int .i64 n] W fun e w'=>e=.returned (.bool (freeP ls P now.t C.l i n))∧GSP W ρ gb C now sv m g cap ls P w'):=fun W n hn hW=>isFree_any hW i n hi hn
 have HP:Hid (∀n,n<16→∃p,P[i*16+n]?=some p):=fun n hn=>h.pl hi hn
 have HG:=hide h
 clear h hI
 go_enter Tryz.func90,Tryz.ntmps90
 go_wp2_with fail
 have hN:(w.alloc (.cells (stA st0) 175)).heap[w.heap.size]?=some (.cells (stA st0) 175 (0,0)):=heap_alloc_new w _
 have hA:=(uh HG).alloc (.cells (stA st0) 175)
 have hone:∀v,v ∈ List.map (Value.int IntKind.i64) st→v.oneCell'=true:=stCells_one st
 have hinf:Option.map (fun x=>x.size) (Tryz.prog.info? 175)=some (List.map (Value.int IntKind.i64) st).length:=by rw [infoStgSize];simp [HLn]
 have HSd:=hide (uh HS _ (hA.1.below (Below.refl _ _).drew).1)
 have HSe:=hide (uh HS _ ((uh HG).below (Below.refl _ _).drew).1)
 have HD:=hide (hA.1.below (Below.refl _ _).drew)
 have HA:=hide hA
 have HN:=hide hN
 clear hA hN
 go_region_held3 (fun _=>True) (trivial) (first | (go_at_call 86;refine (uh HSd).mono ?_;rintro e w1 ⟨rfl,hbA⟩;have hNA:=(hbA.block _ (lt_of_heap (uh HN))).trans (uh HN);have htA:=there_of hNA st0_len (List.map (Value.int IntKind.i64) st).length (by simp [HLn])) | (go_at_call 86;refine (uh HSe).mono ?_;rintro e w1 ⟨rfl,hbB⟩;have htB:=there_of (heap_alloc_new w1 (.cells (stA st0) 175)) st0_len (List.map (Value.int IntKind.i64) st).length (by simp [HLn])))
 all_goals
  first
  | (have hX:=stLaid ((uh HA).trans ((uh HD).trans ((uh HD).1.below hbA))) hNA st0_len HLn (Nat.le_refl _) (uh HG).fits rfl
     clear hbA hNA htA
     generalize hB:w.heap.size=B at *
     generalize w1.setCells B 0 (List.map (Value.int IntKind.i64) st)=V at *)
  | (have hX:=stLaid ((((uh HG).below (Below.refl _ _).drew).trans (((uh HG).below (Below.refl _ _).drew).1.below hbB)).alloc (w1:=w1) (.cells (stA st0) 175)) (heap_alloc_new w1 _) st0_len HLn hbB.size (uh HG).fits rfl
     clear hbB htB
     generalize (w1.alloc (.cells (stA st0) 175)).setCells w1.heap.size 0 (List.map (Value.int IntKind.i64) st)=V at *
     generalize hB:w1.heap.size=B at *)
  obtain ⟨hX1,hX2,hX3⟩:=hX
  have V1:=hide hX1
  have V2:=hide hX2
  have V3:=hide hX3
  clear hX1 hX2 hX3 hB HSd HSe HD HA HN
  go_wp2
  go_loopw [7] (fun q wr=>∃k:Nat,k≤16∧q=.int .i64 k∧(∀j,j<k→mayP st ls P now.t C.l i j=false)∧wr.heap[B]?=some (.cells (stA st) 175 (0,0))∧GSP w ρ gb C now sv m g cap ls P wr) (fun q _=>16 - (intOf q).toNat)
  case atStart=>exact ⟨0,by omega,rfl,fun j hj=>by omega,uh V1,uh V2⟩
  case round =>
   obtain ⟨k,hk,rfl,hno,hrow,hgs⟩:=hrel
   by_cases hlt:k<16
   ·obtain ⟨p,hp⟩:=uh HP k hlt
    have HM:Hid (mayP st ls P now.t C.l i k=(decide (st[k]?=some 1) && !p.held && freeP ls P now.t C.l i k)):=by unfold Hid mayP;rw [hp]
    have C1:=hide (uh H1 wr k p hlt hp hgs.1)
    have HNo:=hide hno
    have ROW:=hide hrow
    have HGS:=hide hgs
    have hB:=lt_of_heap hrow
    have hsk:k<st.length:=by omega
    have hstk:Hid (st[k]?=some st[k]):=List.getElem?_eq_getElem hsk
    generalize st[k]=v at hstk
    clear hno hrow hgs hp
    obtain ⟨ha,hb,hc,hd,hhv⟩:∃a b c d:Int,(if p.held=true then Value.agg #[.int .i64 p.h.sh,.int .i64 p.h.ep,.int .i64 p.h.at_,.int .i64 p.h.bf] else .agg #[.int .i64 0,.int .i64 0,.int .i64 0,.int .i64 0])=.agg #[.int .i64 a,.int .i64 b,.int .i64 c,.int .i64 d]:=by
     cases p.held
     ·exact ⟨_,_,_,_,rfl⟩
     ·exact ⟨_,_,_,_,rfl⟩
    rw [hhv] at C1
    clear hhv
    generalize p.held=held at *
    go_wp2_with fail
    refine (uh C1).mono ?_
    rintro e w1 ⟨rfl,q1⟩
    have hr1:=(q1.2.block _ hB (uh V3)).trans (uh ROW)
    have ROW1:=hide ((Below.heap_alloc w1 (.cells #[.int .i64 ha,.int .i64 hb,.int .i64 hc,.int .i64 hd] 102) _ (lt_of_heap hr1)).trans hr1)
    have Q1:=hide (((uh HGS).trans q1).alloc (w1:=w1) (.cells #[.int .i64 ha,.int .i64 hb,.int .i64 hc,.int .i64 hd] 102))
    clear q1 hr1
    go_wp2_with fail
    refine (uh H2 _ k hlt (uh Q1).1).mono ?_
    rintro e w2 ⟨rfl,q2⟩
    have hr2:=(q2.2.block _ (lt_of_heap (uh ROW1)) (uh V3)).trans (uh ROW1)
    have cst:w2.cell? ⟨B,k,none⟩=some (.int .i64 v):=by
     rw [cell_of hr2]
     unfold stA
     have:=uh hstk
     simp [this]
    have ROW2:=hide hr2
    have Q2:=hide ((uh Q1).trans q2)
    clear q2 hr2
    generalize freeP ls P now.t C.l i k=fr at *
    have nxt:Hid (mayP st ls P now.t C.l i k=false→∀j,j<k+1→mayP st ls P now.t C.l i j=false):=fun hf j hj=>by
     by_cases e:j=k
     ·rw [e];exact hf
     ·exact uh HNo j (by omega)
    by_cases hv1:v=1
    ·subst hv1
     cases held
     ·cases fr
      ·go_wp2
       go_roundw
       case rel=>exact ⟨k+1,by omega,by go_num,uh nxt (by rw [uh HM];simp),uh ROW2,uh Q2⟩
       case measure=>simp [intOf];omega
      ·go_wp2
       go_ret2
       exact ⟨Or.inl ⟨k,hlt,by rw [uh HM,uh hstk];simp,uh HNo,rfl⟩,uh Q2⟩
     ·go_wp2
      go_roundw
      case rel=>exact ⟨k+1,by omega,by go_num,uh nxt (by rw [uh HM];simp),uh ROW2,uh Q2⟩
      case measure=>simp [intOf];omega
    ·go_wp2
     go_roundw
     case rel=>exact ⟨k+1,by omega,by go_num,uh nxt (by rw [uh HM,uh hstk];simp [hv1]),uh ROW2,uh Q2⟩
     case measure=>simp [intOf];omega
   ·have e:k=16:=by omega
    subst e
    have HNo:=hide hno
    have HGS:=hide hgs
    clear hno hrow hgs
    go_wp2
    go_ret2
    exact ⟨Or.inr ⟨uh HNo,rfl⟩,uh HGS⟩
theorem GS.wcell {w:World} {ρ:Nat→Nat} {gb:Nat} {C:Cfg} {now:Rest} {sv:Value} {m:List Cs} {g cap:Nat} {ls:List Le} {P:List Pl} (h:GS w ρ gb C now sv m g cap ls P):w.cell? ⟨gb,88,none⟩=some (.slice (some ⟨g,0,none⟩) now.n cap):=by
 have:=GrpL.wcell (now:=now.up ls P) h
 exact this
def finS (st:List Int) (n:Nat):Bool:=decide (st[n]?=some 2)
def rnUp (i:Nat) (st:List Int):Nat→List Le × List Pl→List Le × List Pl
 | 0,q=>q
 | n+1,q=>(rhLs i n (finS st n) (rnUp i st n q).1 (rnUp i st n q).2,rhP i n (finS st n) (rnUp i st n q).1 (rnUp i st n q).2)
def rnCnt (i:Nat) (st:List Int):Nat→List Le × List Pl→Nat
 | 0,_=>0
 | n+1,q=>rnCnt i st n q+(if rhKeep i n (finS st n) (rnUp i st n q).1 (rnUp i st n q).2=true then 1 else 0)
theorem rnCnt_le (i:Nat) (st:List Int) (n:Nat) (q:List Le × List Pl):rnCnt i st n q≤n:=by
 induction n with
 | zero=>exact Nat.le_refl _
 | succ n ih =>
   unfold rnCnt
   split <;> omega
set_option maxRecDepth 100000 in
set_option maxHeartbeats 4000000 in
theorem gRenew_any {w:World} {ρ:Nat→Nat} {gb:Nat} {C:Cfg} {now:Rest} {sv:Value} {m:List Cs} {g cap:Nat} {ls:List Le} {P:List Pl} (h:GS w ρ gb C now sv m g cap ls P) (hI:Inv (m.map (·.s))) (i:Nat) (hi:i<now.n) :
 Calls Tryz.prog 59 #[.pointer (some ⟨gb,0,none⟩),.int .i64 i] w fun e w'=>e=.returned (.tuple #[.int .i64 (rnCnt i (stgUp (m.map (·.s)) (dnP now.dn) m.length) 16 (ls,P)),.int .i64 0])∧GSP w ρ gb C now sv m g cap (rnUp i (stgUp (m.map (·.s)) (dnP now.dn) m.length) 16 (ls,P)).1 (rnUp i (stgUp (m.map (·.s)) (dnP now.dn) m.length) 16 (ls,P)).2 w':=by
 have HS:Hid (∀W,GS W ρ gb C now sv m g cap ls P→Calls Tryz.prog 86 #[.pointer (some ⟨gb,8,none⟩),.pointer (some ⟨gb,7,none⟩)] W fun e w'=>e=.returned (.agg (stA (stgUp (m.map (·.s)) (dnP now.dn) m.length)))∧Below W.heap.size W w'):=fun W hW=>gStages_any hW hI
 have HLn:=stgUp_len (m.map (·.s)) (dnP now.dn) m.length
 generalize stgUp (m.map (·.s)) (dnP now.dn) m.length=st at HS HLn ⊢
 have HK:=hide (hasWorker_any h i)
 rw [show decide (0≤(i:Int)∧(i:Int)<now.n)=true by simp;omega] at HK
 have c88:w.cell? ⟨gb,88,none⟩=some (.slice (some ⟨g,0,none⟩) now.n cap):=h.wcell
 have H1:Hid (∀W ls' P' n f,n<16→GS W ρ gb C now sv m g cap ls' P'→Calls Tryz.prog 87 #[.pointer (some ⟨gb,0,none⟩),.int .i64 i,.pointer (some ⟨g,i*128,none⟩),.int .i64 (n:Nat),.bool f] W fun e w'=>e=.returned (.bool (rhKeep i n f ls' P'))∧GSP W ρ gb C now sv m g cap (rhLs i n f ls' P') (rhP i n f ls' P') w'):=fun W ls' P' n f hn hW=>renewHold_any hW i n hi hn f
 have HG:=hide h
 clear h hI
 go_enter Tryz.func59,Tryz.ntmps59
 go_wp2_with (go_at_call 76;refine (uh HK).mono ?_;rintro e w1 ⟨rfl,rfl⟩)
 have hN:(w.alloc (.cells (stA st0) 175)).heap[w.heap.size]?=some (.cells (stA st0) 175 (0,0)):=heap_alloc_new w _
 have hA:=(uh HG).alloc (.cells (stA st0) 175)
 have hone:∀v,v ∈ List.map (Value.int IntKind.i64) st→v.oneCell'=true:=stCells_one st
 have hinf:Option.map (fun x=>x.size) (Tryz.prog.info? 175)=some (List.map (Value.int IntKind.i64) st).length:=by rw [infoStgSize];simp [HLn]
 have HSd:=hide (uh HS _ (hA.1.below (Below.refl _ _).drew).1)
 have HSe:=hide (uh HS _ ((uh HG).below (Below.refl _ _).drew).1)
 have HD:=hide (hA.1.below (Below.refl _ _).drew)
 have HA:=hide hA
 have HN:=hide hN
 clear hA hN
 go_region_held3 (fun _=>True) (trivial) (first | (go_at_call 86;refine (uh HSd).mono ?_;rintro e w1 ⟨rfl,hbA⟩;have hNA:=(hbA.block _ (lt_of_heap (uh HN))).trans (uh HN);have htA:=there_of hNA st0_len (List.map (Value.int IntKind.i64) st).length (by simp [HLn])) | (go_at_call 86;refine (uh HSe).mono ?_;rintro e w1 ⟨rfl,hbB⟩;have htB:=there_of (heap_alloc_new w1 (.cells (stA st0) 175)) st0_len (List.map (Value.int IntKind.i64) st).length (by simp [HLn])))
 all_goals
  first
  | (have hX:=stLaid ((uh HA).trans ((uh HD).trans ((uh HD).1.below hbA))) hNA st0_len HLn (Nat.le_refl _) (uh HG).fits rfl
     clear hbA hNA htA
     generalize hB:w.heap.size=B at *
     generalize w1.setCells B 0 (List.map (Value.int IntKind.i64) st)=V at *)
  | (have hX:=stLaid ((((uh HG).below (Below.refl _ _).drew).trans (((uh HG).below (Below.refl _ _).drew).1.below hbB)).alloc (w1:=w1) (.cells (stA st0) 175)) (heap_alloc_new w1 _) st0_len HLn hbB.size (uh HG).fits rfl
     clear hbB htB
     generalize (w1.alloc (.cells (stA st0) 175)).setCells w1.heap.size 0 (List.map (Value.int IntKind.i64) st)=V at *
     generalize hB:w1.heap.size=B at *)
  obtain ⟨hX1,hX2,hX3⟩:=hX
  have V1:=hide hX1
  have V2:=hide hX2
  have V3:=hide hX3
  clear hX1 hX2 hX3 hB HSd HSe HD HA HN
  go_wp2
  go_loopw [8,9] (fun a q wr=>∃k:Nat,k≤16∧q=.int .i64 k∧a=.int .i64 (rnCnt i st k (ls,P))∧wr.heap[B]?=some (.cells (stA st) 175 (0,0))∧GSP w ρ gb C now sv m g cap (rnUp i st k (ls,P)).1 (rnUp i st k (ls,P)).2 wr) (fun _ q _=>16 - (intOf q).toNat)
  case atStart=>exact ⟨0,by omega,rfl,rfl,uh V1,uh V2⟩
  case round =>
   obtain ⟨k,hk,rfl,rfl,hrow,hgs⟩:=hrel
   by_cases hlt:k<16
   ·have C1:=fun f=>hide (uh H1 wr _ _ k f hlt hgs.1)
    have ROW:=hide hrow
    have HGS:=hide hgs
    have hB:=lt_of_heap hrow
    have hsk:k<st.length:=by omega
    have hstk:Hid (finS st k=(st[k] == 2)):=by unfold Hid finS;rw [List.getElem?_eq_getElem hsk,Bool.eq_iff_iff];simp
    have cst:wr.cell? ⟨B,k,none⟩=some (.int .i64 st[k]):=by
     rw [cell_of hrow]
     unfold stA
     simp [hsk]
    have hle:=rnCnt_le i st k (ls,P)
    have HU1:Hid (rnCnt i st (k+1) (ls,P)=rnCnt i st k (ls,P)+(if rhKeep i k (finS st k) (rnUp i st k (ls,P)).1 (rnUp i st k (ls,P)).2=true then 1 else 0)):=rfl
    have HU2:Hid (rnUp i st (k+1) (ls,P)=(rhLs i k (finS st k) (rnUp i st k (ls,P)).1 (rnUp i st k (ls,P)).2,rhP i k (finS st k) (rnUp i st k (ls,P)).1 (rnUp i st k (ls,P)).2)):=rfl
    rw [uh hstk] at HU1 HU2
    generalize st[k]=v at *
    clear hrow hgs
    go_wp2_with fail
    refine (uh (C1 _)).mono ?_
    rintro e w1 ⟨rfl,q1⟩
    have ROW1:=hide ((q1.2.block _ hB (uh V3)).trans (uh ROW))
    have Q1:=hide ((uh HGS).trans q1)
    clear q1
    generalize rhKeep i k (v == 2) (rnUp i st k (ls,P)).1 (rnUp i st k (ls,P)).2=kp at *
    cases kp
    ·go_wp2
     go_roundw
     case rel=>exact ⟨k+1,by omega,by go_num,by rw [uh HU1];simp,uh ROW1,by rw [uh HU2];exact uh Q1⟩
     case measure=>simp [intOf];omega
    ·go_wp2
     go_roundw
     case rel=>exact ⟨k+1,by omega,by go_num,by rw [uh HU1];simp,uh ROW1,by rw [uh HU2];exact uh Q1⟩
     case measure=>simp [intOf];omega
   ·have e:k=16:=by omega
    subst e
    have HGS:=hide hgs
    clear hrow hgs
    go_wp2
    go_ret2
    exact ⟨rfl,uh HGS⟩
set_option maxHeartbeats 1000000 in
theorem gRenew_none {w:World} {ρ:Nat→Nat} {gb:Nat} {C:Cfg} {now:Rest} {sv:Value} {m:List Cs} {g cap:Nat} {ls:List Le} {P:List Pl} (h:GS w ρ gb C now sv m g cap ls P) (i:Int) (hi:¬(0≤i∧i<now.n)) :
 Calls Tryz.prog 59 #[.pointer (some ⟨gb,0,none⟩),.int .i64 i] w fun e w'=>e=.returned (.tuple #[.int .i64 0,.int .i64 9])∧w=w':=by
 have HK:=hide (hasWorker_any h i)
 rw [decide_eq_false hi] at HK
 clear h hi
 go_enter Tryz.func59,Tryz.ntmps59
 go_wp2_with (go_at_call 76;refine (uh HK).mono ?_;rintro e w1 ⟨rfl,rfl⟩)
 go_ret2
 exact ⟨rfl,rfl⟩
set_option maxHeartbeats 1000000 in
theorem gTake_none {w:World} {ρ:Nat→Nat} {gb:Nat} {C:Cfg} {now:Rest} {sv:Value} {m:List Cs} {g cap:Nat} {ls:List Le} {P:List Pl} (h:GS w ρ gb C now sv m g cap ls P) (i:Int) (hi:¬(0≤i∧i<now.n)) :
 Calls Tryz.prog 61 #[.pointer (some ⟨gb,0,none⟩),.int .i64 i] w fun e w'=>e=.returned (.tuple #[.int .i64 0,.int .i64 9])∧w=w':=by
 have HK:=hide (hasWorker_any h i)
 rw [decide_eq_false hi] at HK
 clear h hi
 go_enter Tryz.func61,Tryz.ntmps61
 go_wp2_with (go_at_call 76;refine (uh HK).mono ?_;rintro e w1 ⟨rfl,rfl⟩)
 go_ret2
 exact ⟨rfl,rfl⟩
set_option maxHeartbeats 1000000 in
theorem gCrash_none {w:World} {ρ:Nat→Nat} {gb:Nat} {C:Cfg} {now:Rest} {sv:Value} {m:List Cs} {g cap:Nat} {ls:List Le} {P:List Pl} (h:GS w ρ gb C now sv m g cap ls P) (i:Int) (hi:¬(0≤i∧i<now.n)) :
 Calls Tryz.prog 65 #[.pointer (some ⟨gb,0,none⟩),.int .i64 i] w fun e w'=>e=.returned (.int .i64 9)∧w=w':=by
 have HK:=hide (hasWorker_any h i)
 rw [decide_eq_false hi] at HK
 clear h hi
 go_enter Tryz.func65,Tryz.ntmps65
 go_wp2_with (go_at_call 76;refine (uh HK).mono ?_;rintro e w1 ⟨rfl,rfl⟩)
 go_ret
 exact ⟨rfl,rfl⟩
set_option maxHeartbeats 1000000 in
theorem gHolds_none {w:World} {ρ:Nat→Nat} {gb:Nat} {C:Cfg} {now:Rest} {sv:Value} {m:List Cs} {g cap:Nat} {ls:List Le} {P:List Pl} (h:GS w ρ gb C now sv m g cap ls P) (i:Int) (hi:¬(0≤i∧i<now.n)) :
 Calls Tryz.prog 72 #[.pointer (some ⟨gb,0,none⟩),.int .i64 i] w fun e w'=>e=.returned (.tuple #[.slice none 0 0,.int .i64 9])∧w=w':=by
 have HK:=hide (hasWorker_any h i)
 rw [decide_eq_false hi] at HK
 clear h hi
 go_enter Tryz.func72,Tryz.ntmps72
 go_wp2_with (go_at_call 76;refine (uh HK).mono ?_;rintro e w1 ⟨rfl,rfl⟩)
 go_ret2
 exact ⟨rfl,rfl⟩
set_option maxHeartbeats 1000000 in
theorem gSteal_none {w:World} {ρ:Nat→Nat} {gb:Nat} {C:Cfg} {now:Rest} {sv:Value} {m:List Cs} {g cap:Nat} {ls:List Le} {P:List Pl} (h:GS w ρ gb C now sv m g cap ls P) (i k:Int) (hi:¬(0≤i∧i<now.n)) :
 Calls Tryz.prog 63 #[.pointer (some ⟨gb,0,none⟩),.int .i64 i,.int .i64 k] w fun e w'=>e=.returned (.int .i64 9)∧w=w':=by
 have HK:=hide (hasWorker_any h i)
 rw [decide_eq_false hi] at HK
 clear h hi
 go_enter Tryz.func63,Tryz.ntmps63
 go_wp2_with (go_at_call 76;refine (uh HK).mono ?_;rintro e w1 ⟨rfl,rfl⟩)
 go_ret
 exact ⟨rfl,rfl⟩
theorem gHas_any {w:World} {ρ:Nat→Nat} {gb:Nat} {C:Cfg} {now:Rest} {sv:Value} {m:List Cs} {g cap:Nat} {ls:List Le} {P:List Pl} (h:GS w ρ gb C now sv m g cap ls P) (h0:0<m.length) (k:Int) :
 Calls Tryz.prog 47 #[.pointer (some ⟨gb,7,none⟩),.int .i64 k] w fun e w'=>e=.returned (.bool (decide (0≤k∧k<m.length)))∧w=w':=by
 have hG:GrpL w ρ gb C (now.up ls P) sv m g cap P:=h
 obtain ⟨bs,cp,rfl,_⟩:=hG.G.log.shape h0
 exact has_any gb 7 m.length cp (some ⟨bs,0,none⟩) k w hG.tcell.2.1
set_option maxHeartbeats 1000000 in
theorem gSteal_noShard {w:World} {ρ:Nat→Nat} {gb:Nat} {C:Cfg} {now:Rest} {sv:Value} {m:List Cs} {g cap:Nat} {ls:List Le} {P:List Pl} (h:GS w ρ gb C now sv m g cap ls P) (h0:0<m.length) (i:Nat) (hi:i<now.n) (k:Int) (hk:¬(0≤k∧k<m.length)) :
 Calls Tryz.prog 63 #[.pointer (some ⟨gb,0,none⟩),.int .i64 i,.int .i64 k] w fun e w'=>e=.returned (.int .i64 5)∧w=w':=by
 have HK:=hide (hasWorker_any h i)
 rw [show decide (0≤(i:Int)∧(i:Int)<now.n)=true by simp;omega] at HK
 have HL:=hide (gHas_any h h0 k)
 rw [decide_eq_false hk] at HL
 clear h hi
 go_enter Tryz.func63,Tryz.ntmps63
 go_wp2_with (first | (go_at_call 76;refine (uh HK).mono ?_;rintro e w1 ⟨rfl,rfl⟩) | (go_at_call 47;refine (uh HL).mono ?_;rintro e w1 ⟨rfl,rfl⟩))
 go_ret
 exact ⟨rfl,rfl⟩
set_option maxHeartbeats 1000000 in
theorem gCrash_any {w:World} {ρ:Nat→Nat} {gb:Nat} {C:Cfg} {now:Rest} {sv:Value} {m:List Cs} {g cap:Nat} {ls:List Le} {P:List Pl} (h:GS w ρ gb C now sv m g cap ls P) (i:Nat) (hi:i<now.n) :
 Calls Tryz.prog 65 #[.pointer (some ⟨gb,0,none⟩),.int .i64 i] w fun e w'=>e=.returned (.int .i64 0)∧GSP w ρ gb C now sv m g cap ls (forgetP P i 16) w':=by
 have HK:=hide (hasWorker_any h i)
 rw [show decide (0≤(i:Int)∧(i:Int)<now.n)=true by simp;omega] at HK
 have c88:w.cell? ⟨gb,88,none⟩=some (.slice (some ⟨g,0,none⟩) now.n cap):=h.wcell
 have HF:Hid (Calls Tryz.prog 96 #[.pointer (some ⟨g,i*128,none⟩)] w fun e w'=>e=.returned (.tuple #[])∧GSP w ρ gb C now sv m g cap ls (forgetP P i 16) w'):=gForget_any (now:=now.up ls P) h i hi
 clear h
 go_enter Tryz.func65,Tryz.ntmps65
 go_wp2_with (first | (go_at_call 76;refine (uh HK).mono ?_;rintro e w1 ⟨rfl,rfl⟩) | (go_at_call 96;refine (uh HF).mono ?_;rintro e w1 ⟨rfl,q1⟩;have Q1:=hide q1;clear q1))
 go_ret
 exact ⟨rfl,uh Q1⟩
set_option maxRecDepth 100000 in
set_option maxHeartbeats 2000000 in
theorem gHolds_any {w:World} {ρ:Nat→Nat} {gb:Nat} {C:Cfg} {now:Rest} {sv:Value} {m:List Cs} {g cap:Nat} {ls:List Le} {P:List Pl} (h:GS w ρ gb C now sv m g cap ls P) (i:Nat) (hi:i<now.n) :
 Calls Tryz.prog 72 #[.pointer (some ⟨gb,0,none⟩),.int .i64 i] w fun e w'=>∃v,e=.returned (.tuple #[v,.int .i64 0])∧w'.ownsRow w.heap.size 102 4 v (heldOf P i 16).length (rowHd (heldOf P i 16))∧Below w.heap.size w w':=by
 have HK:=hide (hasWorker_any h i)
 rw [show decide (0≤(i:Int)∧(i:Int)<now.n)=true by simp;omega] at HK
 have c88:w.cell? ⟨gb,88,none⟩=some (.slice (some ⟨g,0,none⟩) now.n cap):=h.wcell
 have HF:=hide (plHolds_any w g cap now.n P i hi (GrpL.pls (now:=now.up ls P) h))
 clear h
 go_enter Tryz.func72,Tryz.ntmps72
 go_wp2_with (first | (go_at_call 76;refine (uh HK).mono ?_;rintro e w1 ⟨rfl,rfl⟩) | (go_at_call 107;refine (uh HF).mono ?_;intro e w1 hq;obtain ⟨v,rfl,q1,q2⟩:=hq;have Q1:=hide q1;have Q2:=hide q2;clear q1 q2))
 go_ret2
 exact ⟨v,rfl,uh Q1,uh Q2⟩
set_option maxHeartbeats 1000000 in
theorem gLease_none {w:World} {ρ:Nat→Nat} {gb:Nat} {C:Cfg} {now:Rest} {sv:Value} {m:List Cs} {g cap:Nat} {ls:List Le} {P:List Pl} (h:GS w ρ gb C now sv m g cap ls P) (h0:0<m.length) (k:Int) (hk:¬(0≤k∧k<m.length)) :
 Calls Tryz.prog 67 #[.pointer (some ⟨gb,0,none⟩),.int .i64 k] w fun e w'=>e=.returned (.tuple #[.agg #[.int .i64 0,.int .i64 0,.int .i64 0],.int .i64 5])∧Below w.heap.size w w':=by
 have HL:=hide (gHas_any (h.alloc (.cells #[.int .i64 0,.int .i64 0,.int .i64 0] 59)).1 h0 k)
 rw [decide_eq_false hk] at HL
 clear h
 go_enter Tryz.func67,Tryz.ntmps67
 go_wp2_with (go_at_call 47;refine (uh HL).mono ?_;rintro e w1 ⟨rfl,rfl⟩)
 refine bodyPost_ret (v:=.tuple #[.agg #[.int .i64 0,.int .i64 0,.int .i64 0],.int .i64 5]) ?_ rfl ⟨rfl,(Below.refl _ w).alloc (Nat.le_refl _) _⟩
 simp [results,Tryz.results67,go_sem]
set_option maxRecDepth 100000 in
set_option maxHeartbeats 1000000 in
theorem gLease_any {w:World} {ρ:Nat→Nat} {gb:Nat} {C:Cfg} {now:Rest} {sv:Value} {m:List Cs} {g cap:Nat} {ls:List Le} {P:List Pl} (h:GS w ρ gb C now sv m g cap ls P) (h0:0<m.length) (k:Nat) (hk:k<m.length) (x:Le) (hx:ls[k]?=some x) :
 Calls Tryz.prog 67 #[.pointer (some ⟨gb,0,none⟩),.int .i64 k] w fun e w'=>e=.returned (.tuple #[.agg #[.int .i64 x.o,.int .i64 x.c,.int .i64 x.e],.int .i64 0])∧Below w.heap.size w w':=by
 have hA:=(h.alloc (.cells #[.int .i64 0,.int .i64 0,.int .i64 0] 59)).1
 have hG:GrpL (w.alloc (.cells #[.int .i64 0,.int .i64 0,.int .i64 0] 59)) ρ gb C (now.up ls P) sv m g cap P:=hA
 have HL:=hide (gHas_any hA h0 k)
 rw [show decide (0≤(k:Int)∧(k:Int)<m.length)=true by simp;omega] at HL
 have HO:=hide (rowOf_any _ gb _ _ _ _ k x hG.row hx)
 rw [grpA_len _ _ _ hG.G.dnL] at HO
 clear h hA hG
 go_enter Tryz.func67,Tryz.ntmps67
 go_wp2_with fail
 refine (uh HL).mono ?_
 rintro e w1 ⟨rfl,rfl⟩
 go_wp2_with fail
 have N0:=heap_alloc_new w (.cells #[.int .i64 0,.int .i64 0,.int .i64 0] 59)
 have B0:=(Below.refl w.heap.size w).alloc (Nat.le_refl _) (.cells #[.int .i64 0,.int .i64 0,.int .i64 0] 59)
 generalize w.alloc (.cells #[.int .i64 0,.int .i64 0,.int .i64 0] 59)=W at *
 refine (uh HO).mono ?_
 rintro e w1 ⟨rfl,hb⟩
 have N1:=(hb.block _ (lt_of_heap N0)).trans N0
 have BB:=hide (B0.trans (hb.mono B0.size))
 have k0:=cell_of N1 0
 have k1:=cell_of N1 1
 have k2:=cell_of N1 2
 simp at k0 k1 k2
 have f0:=frozen_of N1 0
 have f1:=frozen_of N1 1
 have f2:=frozen_of N1 2
 have NN:=hide N1
 clear N1 N0 B0 hb
 go_wp2
 have M1:=heap_setCell_same (i:=0) (uh NN) (.int .i64 x.o)
 have M2:=heap_setCell_same (i:=1) M1 (.int .i64 x.c)
 have M3:=heap_setCell_same (i:=2) M2 (.int .i64 x.e)
 have B3:Hid (Below w.heap.size w (((w1.setCell ⟨w.heap.size,0,none⟩ (.int .i64 x.o)).setCell ⟨w.heap.size,1,none⟩ (.int .i64 x.c)).setCell ⟨w.heap.size,2,none⟩ (.int .i64 x.e))):=(((uh BB).setCell (p:=⟨w.heap.size,0,none⟩) (Nat.le_refl _) _).setCell (p:=⟨w.heap.size,1,none⟩) (Nat.le_refl _) _).setCell (p:=⟨w.heap.size,2,none⟩) (Nat.le_refl _) _
 generalize ((w1.setCell ⟨w.heap.size,0,none⟩ (.int .i64 x.o)).setCell ⟨w.heap.size,1,none⟩ (.int .i64 x.c)).setCell ⟨w.heap.size,2,none⟩ (.int .i64 x.e)=V at *
 have r0:=cell_of M3 0
 have r1:=cell_of M3 1
 have r2:=cell_of M3 2
 simp at r0 r1 r2
 refine bodyPost_ret (v:=.tuple #[.agg #[.int .i64 x.o,.int .i64 x.c,.int .i64 x.e],.int .i64 0]) ?_ rfl ⟨rfl,uh B3⟩
 simp [results,Tryz.results67,go_sem,r0,r1,r2]
def TakeIs (f:Nat→Bool) (r:Option Nat):Prop:=match r with
 | some n=>n<16∧f n=true∧∀k,k<n→f k=false
 | none=>∀k,k<16→f k=false
def takeLs (i:Nat) (ls:List Le) (r:Option Nat):List Le:=match r with
 | some n=>giveLs i n ls
 | none=>ls
def takeP (dn:Nat→Int) (i:Nat) (ls:List Le) (P:List Pl) (r:Option Nat):List Pl:=match r with
 | some n=>giveP (dn n) i n ls P
 | none=>P
def takeV (r:Option Nat):Value:=match r with
 | some n=>.tuple #[.int .i64 n,.int .i64 0]
 | none=>.tuple #[.int .i64 0,.int .i64 10]
def TakeP (w:World) (ρ:Nat→Nat) (gb:Nat) (C:Cfg) (now:Rest) (sv:Value) (m:List Cs) (g cap:Nat) (ls:List Le) (P:List Pl) (i:Nat) (f:Nat→Bool) (e:Ending) (w':World):Prop :=
 ∃r,TakeIs f r∧e=.returned (takeV r)∧GSP w ρ gb C now sv m g cap (takeLs i ls r) (takeP (dnP now.dn) i ls P r) w'
set_option maxRecDepth 100000 in
set_option maxHeartbeats 2000000 in
theorem gTake_any {w:World} {ρ:Nat→Nat} {gb:Nat} {C:Cfg} {now:Rest} {sv:Value} {m:List Cs} {g cap:Nat} {ls:List Le} {P:List Pl} (h:GS w ρ gb C now sv m g cap ls P) (hI:Inv (m.map (·.s))) (i:Nat) (hi:i<now.n) :
 Calls Tryz.prog 61 #[.pointer (some ⟨gb,0,none⟩),.int .i64 i] w (TakeP w ρ gb C now sv m g cap ls (notesP ls now.t i m.length P) i (mayP (stgUp (m.map (·.s)) (dnP now.dn) m.length) ls (notesP ls now.t i m.length P) now.t C.l i)):=by
 have h0:0<m.length:=by have:=hI.pos;simpa using this
 have HK:=hide (hasWorker_any h i)
 rw [show decide (0≤(i:Int)∧(i:Int)<now.n)=true by simp;omega] at HK
 have c88:w.cell? ⟨gb,88,none⟩=some (.slice (some ⟨g,0,none⟩) now.n cap):=h.wcell
 have H1:=hide (makeNotes_any h h0 i hi)
 generalize hN:notesP ls now.t i m.length P=N at H1 ⊢
 have H2:Hid (∀W,GS W ρ gb C now sv m g cap ls N→Calls Tryz.prog 90 #[.pointer (some ⟨gb,0,none⟩),.pointer (some ⟨g,i*128,none⟩)] W fun e w'=>FreePost (mayP (stgUp (m.map (·.s)) (dnP now.dn) m.length) ls N now.t C.l i) e∧GSP W ρ gb C now sv m g cap ls N w'):=fun W hW=>findFree_any hW hI i hi
 have H3:Hid (∀W (n:Nat),n<16→GS W ρ gb C now sv m g cap ls N→Calls Tryz.prog 91 #[.pointer (some ⟨gb,0,none⟩),.int .i64 i,.pointer (some ⟨g,i*128,none⟩),.int .i64 n] W fun e w'=>e=.returned (.tuple #[])∧GSP W ρ gb C now sv m g cap (giveLs i n ls) (giveP (dnP now.dn n) i n ls N) w'):=fun W n hn hW=>give_any hW i n hi hn
 generalize mayP (stgUp (m.map (·.s)) (dnP now.dn) m.length) ls N now.t C.l i=F at H2 ⊢
 clear h hI hN
 go_enter Tryz.func61,Tryz.ntmps61
 go_wp2_with (go_at_call 76;refine (uh HK).mono ?_;rintro e w1 ⟨rfl,rfl⟩)
 refine (uh H1).mono ?_
 rintro e w1 ⟨rfl,q1⟩
 have Q1:=hide q1
 clear q1
 go_wp2_with fail
 refine (uh H2 _ (uh Q1).1).mono ?_
 rintro e w2 ⟨hfp,q2⟩
 have Q2:=hide ((uh Q1).trans q2)
 clear q2
 rcases hfp with ⟨n,hn,hf,hno,rfl⟩ | ⟨hno,rfl⟩
 ·have HF:=hide hf
  have HN:=hide hno
  clear hf hno
  go_wp2_with fail
  refine (uh H3 _ n hn (uh Q2).1).mono ?_
  rintro e w3 ⟨rfl,q3⟩
  have Q3:=hide ((uh Q2).trans q3)
  clear q3
  go_wp2
  go_ret2
  exact ⟨some n,⟨hn,uh HF,uh HN⟩,rfl,uh Q3⟩
 ·have HN:=hide hno
  clear hno
  go_wp2
  go_ret2
  exact ⟨none,uh HN,rfl,uh Q2⟩
set_option maxRecDepth 100000 in
set_option maxHeartbeats 2000000 in
theorem gStage_any {w:World} {ρ:Nat→Nat} {gb:Nat} {C:Cfg} {now:Rest} {sv:Value} {m:List Cs} {g cap:Nat} {ls:List Le} {P:List Pl} (h:GS w ρ gb C now sv m g cap ls P) (hI:Inv (m.map (·.s))) (k:Nat) (hk:k<16) :
 Calls Tryz.prog 95 #[.pointer (some ⟨gb,8,none⟩),.pointer (some ⟨gb,7,none⟩),.int .i64 k] w fun e w'=>(∃v,(stgUp (m.map (·.s)) (dnP now.dn) m.length)[k]?=some v∧e=.returned (.int .i64 v))∧Below w.heap.size w w':=by
 have HS:=hide (gStages_any h hI)
 have HLn:=stgUp_len (m.map (·.s)) (dnP now.dn) m.length
 generalize stgUp (m.map (·.s)) (dnP now.dn) m.length=st at HS HLn ⊢
 have HH':=hide (sinkHas_any k w)
 rw [hasS16 hk] at HH'
 clear h hI
 go_enter Tryz.func95,Tryz.ntmps95
 go_wp2_with (go_at_call 81;refine (uh HH').mono ?_;rintro e w1 ⟨rfl,rfl⟩)
 refine (uh HS).mono ?_
 rintro e w1 ⟨rfl,hb⟩
 have hsk:k<st.length:=by omega
 have hstk:Hid (st[k]?=some st[k]):=List.getElem?_eq_getElem hsk
 have cst:(w1.alloc (.cells (stA st) 175)).cell? ⟨w1.heap.size,k,none⟩=some (.int .i64 st[k]):=by
  rw [cell_of (heap_alloc_new w1 _)]
  unfold stA
  simp [hsk]
 have BB:=hide (hb.alloc hb.size (.cells (stA st) 175))
 have hsz:=stA_size HLn
 have z0:=st0_len
 generalize st[k]=v at *
 clear hb
 go_wp2
 go_ret
 exact ⟨⟨v,uh hstk,rfl⟩,uh BB⟩
def stealV (held:Bool) (v:Int):Int:=if held=true then 11 else if v=1 then 0 else 12
def stealLs (held:Bool) (v:Int) (i k:Nat) (ls:List Le):List Le:=if held=false∧v=1 then giveLs i k ls else ls
def stealP (held:Bool) (v:Int) (d:Int) (i k:Nat) (ls:List Le) (P:List Pl):List Pl:=if held=false∧v=1 then giveP d i k ls P else P
set_option maxRecDepth 100000 in
set_option maxHeartbeats 2000000 in
theorem gSteal_any {w:World} {ρ:Nat→Nat} {gb:Nat} {C:Cfg} {now:Rest} {sv:Value} {m:List Cs} {g cap:Nat} {ls:List Le} {P:List Pl} (h:GS w ρ gb C now sv m g cap ls P) (hI:Inv (m.map (·.s))) (i:Nat) (hi:i<now.n) (k:Nat) (hk:k<m.length) (p:Pl) (hp:P[i*16+k]?=some p) (v:Int) (hv:(stgUp (m.map (·.s)) (dnP now.dn) m.length)[k]?=some v) :
 Calls Tryz.prog 63 #[.pointer (some ⟨gb,0,none⟩),.int .i64 i,.int .i64 k] w fun e w'=>e=.returned (.int .i64 (stealV p.held v))∧GSP w ρ gb C now sv m g cap (stealLs p.held v i k ls) (stealP p.held v (dnP now.dn k) i k ls P) w':=by
 have h0:0<m.length:=by omega
 have h16:m.length≤16:=GrpL.le h
 have k16:k<16:=by omega
 have HK:=hide (hasWorker_any h i)
 rw [show decide (0≤(i:Int)∧(i:Int)<now.n)=true by simp;omega] at HK
 have HL:=hide (gHas_any h h0 k)
 rw [show decide (0≤(k:Int)∧(k:Int)<m.length)=true by simp;omega] at HL
 have c88:w.cell? ⟨gb,88,none⟩=some (.slice (some ⟨g,0,none⟩) now.n cap):=h.wcell
 have H1:Hid (Calls Tryz.prog 77 #[.pointer (some ⟨g,i*128,none⟩),.int .i64 k] w fun e w'=>e=.returned (.tuple #[if p.held=true then .agg #[.int .i64 p.h.sh,.int .i64 p.h.ep,.int .i64 p.h.at_,.int .i64 p.h.bf] else .agg #[.int .i64 0,.int .i64 0,.int .i64 0,.int .i64 0],.bool p.held])∧GSP w ρ gb C now sv m g cap ls P w'):=gHold_any (now:=now.up ls P) h i k k16 p hp
 have H2:Hid (∀W,GS W ρ gb C now sv m g cap ls P→Calls Tryz.prog 95 #[.pointer (some ⟨gb,8,none⟩),.pointer (some ⟨gb,7,none⟩),.int .i64 k] W fun e w'=>e=.returned (.int .i64 v)∧GSP W ρ gb C now sv m g cap ls P w'):=fun W hW=>(gStage_any hW hI k k16).mono fun e w' q=>by
  obtain ⟨⟨v',hv',rfl⟩,q2⟩:=q
  rw [hv] at hv'
  injection hv' with hv'
  subst hv'
  exact ⟨rfl,hW.below q2⟩
 have H3:Hid (∀W,GS W ρ gb C now sv m g cap ls P→Calls Tryz.prog 91 #[.pointer (some ⟨gb,0,none⟩),.int .i64 i,.pointer (some ⟨g,i*128,none⟩),.int .i64 k] W fun e w'=>e=.returned (.tuple #[])∧GSP W ρ gb C now sv m g cap (giveLs i k ls) (giveP (dnP now.dn k) i k ls P) w'):=fun W hW=>give_any hW i k hi k16
 obtain ⟨ha,hb,hc,hd,hhv⟩:∃a b c d:Int,(if p.held=true then Value.agg #[.int .i64 p.h.sh,.int .i64 p.h.ep,.int .i64 p.h.at_,.int .i64 p.h.bf] else .agg #[.int .i64 0,.int .i64 0,.int .i64 0,.int .i64 0])=.agg #[.int .i64 a,.int .i64 b,.int .i64 c,.int .i64 d]:=by
  cases p.held
  ·exact ⟨_,_,_,_,rfl⟩
  ·exact ⟨_,_,_,_,rfl⟩
 rw [hhv] at H1
 generalize dnP now.dn k=dk at *
 generalize p.held=held at *
 have HG:=hide h
 clear h hI hv hp hhv
 go_enter Tryz.func63,Tryz.ntmps63
 go_wp2_with (first | (go_at_call 76;refine (uh HK).mono ?_;rintro e w1 ⟨rfl,rfl⟩) | (go_at_call 47;refine (uh HL).mono ?_;rintro e w1 ⟨rfl,rfl⟩))
 refine (uh H1).mono ?_
 rintro e w1 ⟨rfl,q1⟩
 have Q1:=hide (q1.alloc (w1:=w1) (.cells #[.int .i64 ha,.int .i64 hb,.int .i64 hc,.int .i64 hd] 102))
 clear q1
 cases held
 ·go_wp2_with fail
  generalize w1.alloc (.cells #[.int .i64 ha,.int .i64 hb,.int .i64 hc,.int .i64 hd] 102)=W at *
  have QD:=hide ((uh Q1).trans ((uh Q1).1.below (Below.refl _ _).drew))
  have HSd:=hide (uh H2 _ (uh QD).1)
  go_region_held3 (fun _=>True) (trivial) ((go_at_call 95;refine (uh HSd).mono ?_;rintro e w2 ⟨rfl,q2⟩))
  have Q2:=hide ((uh QD).trans q2)
  clear q2
  by_cases hv1:v=1
  ·subst hv1
   go_wp2_with fail
   refine (uh H3 _ (uh Q2).1).mono ?_
   rintro e w3 ⟨rfl,q3⟩
   have Q3:=hide ((uh Q2).trans q3)
   clear q3
   go_wp2
   go_ret
   exact ⟨rfl,uh Q3⟩
  ·go_wp2
   go_ret
   refine ⟨by simp [stealV,hv1],?_⟩
   rw [stealLs,stealP,if_neg (fun e=>hv1 e.2),if_neg (fun e=>hv1 e.2)]
   exact uh Q2
 ·go_wp2
  go_ret
  refine ⟨by simp [stealV],?_⟩
  rw [stealLs,stealP,if_neg (by simp),if_neg (by simp)]
  exact uh Q1
end Go.Proofs.YtpnkmnmchdabkaaGreat
