import Derived.Test.YtpnkmnmchdabkaaGreatM19
namespace Go.Proofs.YtpnkmnmchdabkaaGreat
open Go.RowKit
attribute [local go_sem ↓] Go.wp_at_zero Go.wp_at_succ
def Rest.up (now:Rest) (ls:List Le) (P:List Pl):Rest:={ now with ls:=ls,mem:=plsCells P }
def GS (w:World) (ρ:Nat→Nat) (gb:Nat) (C:Cfg) (now:Rest) (sv:Value) (m:List Cs) (g cap:Nat) (ls:List Le) (P:List Pl):Prop:=GrpL w ρ gb C (now.up ls P) sv m g cap P
def GSP (w:World) (ρ:Nat→Nat) (gb:Nat) (C:Cfg) (now:Rest) (sv:Value) (m:List Cs) (g cap:Nat) (ls:List Le) (P:List Pl) (w':World):Prop:=GS w' ρ gb C now sv m g cap ls P∧Keeps (mine ρ) w w'
theorem GrpL.gs {w:World} {ρ:Nat→Nat} {gb:Nat} {C:Cfg} {now:Rest} {sv:Value} {m:List Cs} {g cap:Nat} {P:List Pl} (h:GrpL w ρ gb C now sv m g cap P):GS w ρ gb C now sv m g cap now.ls P:=by
 have e:now.up now.ls P=now:=by
  have:=h.hm
  cases now
  simp only [Rest.up] at this ⊢
  rw [this]
 unfold GS
 rw [e]
 exact h
theorem GSP.refl {w:World} {ρ:Nat→Nat} {gb:Nat} {C:Cfg} {now:Rest} {sv:Value} {m:List Cs} {g cap:Nat} {ls:List Le} {P:List Pl} (h:GS w ρ gb C now sv m g cap ls P):GSP w ρ gb C now sv m g cap ls P w:=⟨h,Keeps.refl _ w⟩
theorem GSP.trans {w w1 w2:World} {ρ:Nat→Nat} {gb:Nat} {C:Cfg} {now:Rest} {sv:Value} {m:List Cs} {g cap:Nat} {ls ls':List Le} {P P':List Pl} (h:GSP w ρ gb C now sv m g cap ls P w1) (h':GSP w1 ρ gb C now sv m g cap ls' P' w2):GSP w ρ gb C now sv m g cap ls' P' w2:=⟨h'.1,h.2.trans h'.2⟩
theorem GS.below {w:World} {ρ:Nat→Nat} {gb:Nat} {C:Cfg} {now:Rest} {sv:Value} {m:List Cs} {g cap:Nat} {ls:List Le} {P:List Pl} (h:GS w ρ gb C now sv m g cap ls P) {w':World} (hb:Below w.heap.size w w'):GSP w ρ gb C now sv m g cap ls P w':=GrpL.below h hb
theorem GSP.alloc {w w1:World} {ρ:Nat→Nat} {gb:Nat} {C:Cfg} {now:Rest} {sv:Value} {m:List Cs} {g cap:Nat} {ls:List Le} {P:List Pl} (h:GSP w ρ gb C now sv m g cap ls P w1) (o:Obj):GSP w ρ gb C now sv m g cap ls P (w1.alloc o):=h.trans (h.1.below ((Below.refl _ w1).alloc (Nat.le_refl _) o))
theorem GS.alloc {w:World} {ρ:Nat→Nat} {gb:Nat} {C:Cfg} {now:Rest} {sv:Value} {m:List Cs} {g cap:Nat} {ls:List Le} {P:List Pl} (h:GS w ρ gb C now sv m g cap ls P) (o:Obj):GSP w ρ gb C now sv m g cap ls P (w.alloc o):=h.below ((Below.refl _ w).alloc (Nat.le_refl _) o)
theorem new_stands {w1 w2:World} {ρ:Nat→Nat} {cs:Array Value} {t:TypeId} (hf:Fits w1 ρ) (hk:Keeps (mine ρ) (w1.alloc (.cells cs t)) w2):w2.heap[w1.heap.size]?=some (.cells cs t (0,0)) :=
 (hk.block _ (by simp) (by unfold mine;rw [hf _ (Nat.le_refl _)];omega)).trans (heap_alloc_new w1 _)
theorem GS.fits {w:World} {ρ:Nat→Nat} {gb:Nat} {C:Cfg} {now:Rest} {sv:Value} {m:List Cs} {g cap:Nat} {ls:List Le} {P:List Pl} (h:GS w ρ gb C now sv m g cap ls P):Fits w ρ:=GrpL.fits h
theorem cell_alloc {w:World} {b i:Nat} {v:Value} {cs:Array Value} {t:TypeId} {f:Nat × Nat} (h:w.heap[b]?=some (.cells cs t f)) (hv:cs[i]?=some v) (o:Obj):(w.alloc o).cell? ⟨b,i,none⟩=some v:=by
 rw [World.cell?_of_block (w:=w) (Below.heap_alloc _ _ _ (lt_of_heap h)),cell_of h,hv]
theorem GS.lsL {w:World} {ρ:Nat→Nat} {gb:Nat} {C:Cfg} {now:Rest} {sv:Value} {m:List Cs} {g cap:Nat} {ls:List Le} {P:List Pl} (h:GS w ρ gb C now sv m g cap ls P):ls.length=16:=GrpAt.lsL (GrpL.G h)
theorem GS.plL {w:World} {ρ:Nat→Nat} {gb:Nat} {C:Cfg} {now:Rest} {sv:Value} {m:List Cs} {g cap:Nat} {ls:List Le} {P:List Pl} (h:GS w ρ gb C now sv m g cap ls P):P.length=now.n*16:=(GrpL.hl (show GrpL w ρ gb C (now.up ls P) sv m g cap P from h) :)
theorem GS.lease {w:World} {ρ:Nat→Nat} {gb:Nat} {C:Cfg} {now:Rest} {sv:Value} {m:List Cs} {g cap:Nat} {ls:List Le} {P:List Pl} (h:GS w ρ gb C now sv m g cap ls P) {n:Nat} (hn:n<16):∃x,ls[n]?=some x:=⟨ls[n]'(by rw [h.lsL];exact hn),List.getElem?_eq_getElem _⟩
theorem GS.pl {w:World} {ρ:Nat→Nat} {gb:Nat} {C:Cfg} {now:Rest} {sv:Value} {m:List Cs} {g cap:Nat} {ls:List Le} {P:List Pl} (h:GS w ρ gb C now sv m g cap ls P) {i n:Nat} (hi:i<now.n) (hn:n<16):∃p,P[i*16+n]?=some p:=⟨P[i*16+n]'(by rw [h.plL];omega),List.getElem?_eq_getElem _⟩
set_option maxHeartbeats 400000 in
theorem hasWorker_any {w:World} {ρ:Nat→Nat} {gb:Nat} {C:Cfg} {now:Rest} {sv:Value} {m:List Cs} {g cap:Nat} {ls:List Le} {P:List Pl} (h:GS w ρ gb C now sv m g cap ls P) (i:Int) :
 Calls Tryz.prog 76 #[.pointer (some ⟨gb,0,none⟩),.int .i64 i] w fun e w'=>e=.returned (.bool (decide (0≤i∧i<now.n)))∧w=w':=by
 have c:=GrpL.wcell h
 have c0:w.cell? ⟨gb,88,none⟩=some (.slice (some ⟨g,0,none⟩) now.n cap):=c
 clear h c
 by_cases h1:0≤i
 ·by_cases h2:i<now.n
  all_goals
   go_enter Tryz.func76,Tryz.ntmps76
   go_wp2
   go_ret
   exact ⟨by simp [h1,h2],rfl⟩
 ·go_enter Tryz.func76,Tryz.ntmps76
  go_wp2
  go_ret
  exact ⟨by simp;omega,rfl⟩
def dropped (p:Pl):Pl:={ p with held:=false,h:=⟨0,0,0,0⟩ }
def rhLs (i n:Nat) (f:Bool) (ls:List Le) (P:List Pl):List Le:=match ls[n]?,P[i*16+n]? with
 | some x,some p=>if p.held=true∧x.o=i∧x.e=p.h.ep then (if f=true then ls.set n ⟨-1,inc x.c,x.e⟩ else ls.set n { x with c:=inc x.c }) else ls
 | _,_=>ls
def rhP (i n:Nat) (f:Bool) (ls:List Le) (P:List Pl):List Pl:=match ls[n]?,P[i*16+n]? with
 | some x,some p=>if p.held=true∧¬(x.o=i∧x.e=p.h.ep∧f=false) then P.set (i*16+n) (dropped p) else P
 | _,_=>P
def rhKeep (i n:Nat) (f:Bool) (ls:List Le) (P:List Pl):Bool:=match ls[n]?,P[i*16+n]? with
 | some x,some p=>decide (p.held=true∧x.o=i∧x.e=p.h.ep∧f=false)
 | _,_=>false
set_option maxRecDepth 100000 in
set_option maxHeartbeats 2000000 in
theorem renewHold_any {w:World} {ρ:Nat→Nat} {gb:Nat} {C:Cfg} {now:Rest} {sv:Value} {m:List Cs} {g cap:Nat} {ls:List Le} {P:List Pl} (h:GS w ρ gb C now sv m g cap ls P) (i n:Nat) (hi:i<now.n) (hn:n<16) (f:Bool) :
 Calls Tryz.prog 87 #[.pointer (some ⟨gb,0,none⟩),.int .i64 i,.pointer (some ⟨g,i*128,none⟩),.int .i64 n,.bool f] w fun e w'=>e=.returned (.bool (rhKeep i n f ls P))∧GSP w ρ gb C now sv m g cap (rhLs i n f ls P) (rhP i n f ls P) w':=by
 obtain ⟨x,hx⟩:=h.lease hn
 obtain ⟨p,hp⟩:=h.pl hi hn
 have E1:Hid (rhKeep i n f ls P=decide (p.held=true∧x.o=i∧x.e=p.h.ep∧f=false)):=by unfold Hid rhKeep;rw [hx,hp]
 have E2:Hid (rhLs i n f ls P=if p.held=true∧x.o=i∧x.e=p.h.ep then (if f=true then ls.set n ⟨-1,inc x.c,x.e⟩ else ls.set n { x with c:=inc x.c }) else ls):=by unfold Hid rhLs;rw [hx,hp]
 have E3:Hid (rhP i n f ls P=if p.held=true∧¬(x.o=i∧x.e=p.h.ep∧f=false) then P.set (i*16+n) (dropped p) else P):=by unfold Hid rhP;rw [hx,hp]
 have H1:=hide (gHold_any h i n hn p hp)
 have H2:Hid (∀W,GS W ρ gb C now sv m g cap ls P→Calls Tryz.prog 97 #[.pointer (some ⟨gb,40,none⟩),.int .i64 n] W fun e w'=>e=.returned (.agg #[.int .i64 x.o,.int .i64 x.c,.int .i64 x.e])∧GSP W ρ gb C now sv m g cap ls P w'):=fun W hW=>gOf_any hW n x hx
 have H3:Hid (∀W ls',GS W ρ gb C now sv m g cap ls' P→Calls Tryz.prog 82 #[.pointer (some ⟨g,i*128,none⟩),.int .i64 n] W fun e w'=>e=.returned (.tuple #[])∧GSP W ρ gb C now sv m g cap ls' (P.set (i*16+n) (dropped p)) w'):=fun W ls' hW=>gDrop_any hW i n hn p hp
 have H4:Hid (∀W,GS W ρ gb C now sv m g cap ls P→Calls Tryz.prog 117 #[.pointer (some ⟨gb,40,none⟩),.int .i64 n] W fun e w'=>e=.returned (.tuple #[])∧GSP W ρ gb C now sv m g cap (ls.set n ⟨-1,inc x.c,x.e⟩) P w'):=fun W hW=>gFree_any hW n x hx
 have H5:Hid (∀W,GS W ρ gb C now sv m g cap ls P→Calls Tryz.prog 118 #[.pointer (some ⟨gb,40,none⟩),.int .i64 n] W fun e w'=>e=.returned (.tuple #[])∧GSP W ρ gb C now sv m g cap (ls.set n { x with c:=inc x.c }) P w'):=fun W hW=>gLRenew_any hW n x hx
 have H0:=hide h
 clear h hx hp
 cases hh:p.held
 ·rw [hh] at H1 E1 E2 E3
  simp only [Bool.false_eq_true,if_false] at H1
  go_enter Tryz.func87,Tryz.ntmps87
  go_wp2_with fail
  refine (uh H1).mono ?_
  rintro e w1 ⟨rfl,q1⟩
  have Q1:Hid (GSP w ρ gb C now sv m g cap ls P w1):=q1
  clear q1
  go_wp2
  go_ret
  refine ⟨by rw [uh E1];simp,?_⟩
  rw [uh E2,uh E3,if_neg (by simp),if_neg (by simp)]
  exact (uh Q1).alloc _
 ·rw [hh] at H1 E1 E2 E3
  simp only [if_true] at H1
  by_cases ho:x.o=i∧x.e=p.h.ep
  ·obtain ⟨ho,he⟩:=ho
   rw [ho,he] at H2
   cases f
   ·go_enter Tryz.func87,Tryz.ntmps87
    go_wp2_with fail
    refine (uh H1).mono ?_
    rintro e w1 ⟨rfl,q1⟩
    have Q1:Hid (GSP w ρ gb C now sv m g cap ls P w1):=q1
    clear q1
    go_wp2_with fail
    have A1:=hide ((uh Q1).alloc (w1:=w1) (.cells #[.int .i64 p.h.sh,.int .i64 p.h.ep,.int .i64 p.h.at_,.int .i64 p.h.bf] 102))
    refine (uh H2 _ (uh A1).1).mono ?_
    rintro e w2 ⟨rfl,q2⟩
    have S2:=new_stands (uh Q1).1.fits q2.2
    have ce:(w2.alloc (.cells #[.int .i64 i,.int .i64 x.c,.int .i64 p.h.ep] 59)).cell? ⟨w1.heap.size,1,none⟩=some (.int .i64 p.h.ep):=cell_alloc S2 rfl _
    have Q2:=hide (q2.alloc (w1:=w2) (.cells #[.int .i64 i,.int .i64 x.c,.int .i64 p.h.ep] 59))
    clear q2 S2
    go_wp2_with fail
    refine (uh H5 _ (uh Q2).1).mono ?_
    rintro e w3 ⟨rfl,q3⟩
    have Q3:=hide q3
    clear q3
    go_wp2
    go_ret
    refine ⟨by rw [uh E1];simp [ho,he],?_⟩
    rw [show rhLs i n false ls P=ls.set n { x with c:=inc x.c } from by rw [uh E2];simp [ho,he],show rhP i n false ls P=P from by rw [uh E3];simp [ho,he]]
    exact (uh A1).trans ((uh Q2).trans (uh Q3))
   ·go_enter Tryz.func87,Tryz.ntmps87
    go_wp2_with fail
    refine (uh H1).mono ?_
    rintro e w1 ⟨rfl,q1⟩
    have Q1:Hid (GSP w ρ gb C now sv m g cap ls P w1):=q1
    clear q1
    go_wp2_with fail
    have A1:=hide ((uh Q1).alloc (w1:=w1) (.cells #[.int .i64 p.h.sh,.int .i64 p.h.ep,.int .i64 p.h.at_,.int .i64 p.h.bf] 102))
    refine (uh H2 _ (uh A1).1).mono ?_
    rintro e w2 ⟨rfl,q2⟩
    have S2:=new_stands (uh Q1).1.fits q2.2
    have ce:(w2.alloc (.cells #[.int .i64 i,.int .i64 x.c,.int .i64 p.h.ep] 59)).cell? ⟨w1.heap.size,1,none⟩=some (.int .i64 p.h.ep):=cell_alloc S2 rfl _
    have Q2:=hide (q2.alloc (w1:=w2) (.cells #[.int .i64 i,.int .i64 x.c,.int .i64 p.h.ep] 59))
    clear q2 S2
    go_wp2_with fail
    refine (uh H4 _ (uh Q2).1).mono ?_
    rintro e w3 ⟨rfl,q3⟩
    have Q3:=hide q3
    clear q3
    go_wp2_with fail
    refine (uh H3 _ _ (uh Q3).1).mono ?_
    rintro e w4 ⟨rfl,q4⟩
    have Q4:=hide q4
    clear q4
    go_wp2
    go_ret
    refine ⟨by rw [uh E1];simp,?_⟩
    rw [show rhLs i n true ls P=ls.set n ⟨-1,inc x.c,x.e⟩ from by rw [uh E2];simp [ho,he],show rhP i n true ls P=P.set (i*16+n) (dropped p) from by rw [uh E3];simp]
    exact (uh A1).trans ((uh Q2).trans ((uh Q3).trans (uh Q4)))
  ·have hb:(x.o=i∧¬x.e=p.h.ep)∨¬x.o=i:=by
    by_cases h1:x.o=i
    ·exact Or.inl ⟨h1,fun e=>ho ⟨h1,e⟩⟩
    ·exact Or.inr h1
   have e2:Hid (rhLs i n f ls P=ls):=by unfold Hid;rw [uh E2,if_neg (fun hc=>ho hc.2)]
   have e3:Hid (rhP i n f ls P=P.set (i*16+n) (dropped p)):=by unfold Hid;rw [uh E3,if_pos ⟨rfl,fun hc=>ho ⟨hc.1,hc.2.1⟩⟩]
   have e1:Hid (rhKeep i n f ls P=false):=by unfold Hid;rw [uh E1];simp only [decide_eq_false_iff_not];exact fun hc=>ho ⟨hc.2.1,hc.2.2.1⟩
   clear E1 E2 E3 ho
   rcases hb with ⟨h1,h2⟩ | h1
   ·rw [h1] at H2
    go_enter Tryz.func87,Tryz.ntmps87
    go_wp2_with fail
    refine (uh H1).mono ?_
    rintro e w1 ⟨rfl,q1⟩
    have Q1:Hid (GSP w ρ gb C now sv m g cap ls P w1):=q1
    clear q1
    go_wp2_with fail
    have A1:=hide ((uh Q1).alloc (w1:=w1) (.cells #[.int .i64 p.h.sh,.int .i64 p.h.ep,.int .i64 p.h.at_,.int .i64 p.h.bf] 102))
    refine (uh H2 _ (uh A1).1).mono ?_
    rintro e w2 ⟨rfl,q2⟩
    have S2:=new_stands (uh Q1).1.fits q2.2
    have ce:(w2.alloc (.cells #[.int .i64 i,.int .i64 x.c,.int .i64 x.e] 59)).cell? ⟨w1.heap.size,1,none⟩=some (.int .i64 p.h.ep):=cell_alloc S2 rfl _
    have Q2:=hide (q2.alloc (w1:=w2) (.cells #[.int .i64 i,.int .i64 x.c,.int .i64 x.e] 59))
    clear q2 S2
    go_wp2_with fail
    refine (uh H3 _ _ (uh Q2).1).mono ?_
    rintro e w4 ⟨rfl,q4⟩
    have Q4:=hide q4
    clear q4
    go_wp2
    go_ret
    refine ⟨by rw [uh e1];rfl,?_⟩
    rw [uh e2,uh e3]
    exact (uh A1).trans ((uh Q2).trans (uh Q4))
   ·go_enter Tryz.func87,Tryz.ntmps87
    go_wp2_with fail
    refine (uh H1).mono ?_
    rintro e w1 ⟨rfl,q1⟩
    have Q1:Hid (GSP w ρ gb C now sv m g cap ls P w1):=q1
    clear q1
    go_wp2_with fail
    have A1:=hide ((uh Q1).alloc (w1:=w1) (.cells #[.int .i64 p.h.sh,.int .i64 p.h.ep,.int .i64 p.h.at_,.int .i64 p.h.bf] 102))
    refine (uh H2 _ (uh A1).1).mono ?_
    rintro e w2 ⟨rfl,q2⟩
    have S2:=new_stands (uh Q1).1.fits q2.2
    have ce:(w2.alloc (.cells #[.int .i64 x.o,.int .i64 x.c,.int .i64 x.e] 59)).cell? ⟨w1.heap.size,1,none⟩=some (.int .i64 p.h.ep):=cell_alloc S2 rfl _
    have Q2:=hide (q2.alloc (w1:=w2) (.cells #[.int .i64 x.o,.int .i64 x.c,.int .i64 x.e] 59))
    clear q2 S2
    go_wp2_with fail
    refine (uh H3 _ _ (uh Q2).1).mono ?_
    rintro e w4 ⟨rfl,q4⟩
    have Q4:=hide q4
    clear q4
    go_wp2
    go_ret
    refine ⟨by rw [uh e1];rfl,?_⟩
    rw [uh e2,uh e3]
    exact (uh A1).trans ((uh Q2).trans (uh Q4))
def giveLs (i n:Nat) (ls:List Le):List Le:=match ls[n]? with
 | some x=>ls.set n ⟨i,inc x.c,inc x.e⟩
 | none=>ls
def giveP (d:Int) (i n:Nat) (ls:List Le) (P:List Pl):List Pl:=match ls[n]?,P[i*16+n]? with
 | some x,some p=>P.set (i*16+n) { p with held:=true,h:=⟨n,inc x.e,d,0⟩ }
 | _,_=>P
set_option maxRecDepth 100000 in
set_option maxHeartbeats 2000000 in
theorem give_any {w:World} {ρ:Nat→Nat} {gb:Nat} {C:Cfg} {now:Rest} {sv:Value} {m:List Cs} {g cap:Nat} {ls:List Le} {P:List Pl} (h:GS w ρ gb C now sv m g cap ls P) (i n:Nat) (hi:i<now.n) (hn:n<16) :
 Calls Tryz.prog 91 #[.pointer (some ⟨gb,0,none⟩),.int .i64 i,.pointer (some ⟨g,i*128,none⟩),.int .i64 n] w fun e w'=>e=.returned (.tuple #[])∧GSP w ρ gb C now sv m g cap (giveLs i n ls) (giveP (dnP now.dn n) i n ls P) w':=by
 obtain ⟨x,hx⟩:=h.lease hn
 obtain ⟨p,hp⟩:=h.pl hi hn
 have E2:Hid (giveLs i n ls=ls.set n ⟨i,inc x.c,inc x.e⟩):=by unfold Hid giveLs;rw [hx]
 have E3:Hid (giveP (dnP now.dn n) i n ls P=P.set (i*16+n) { p with held:=true,h:=⟨n,inc x.e,dnP now.dn n,0⟩ }):=by unfold Hid giveP;rw [hx,hp]
 have H1:Hid (Calls Tryz.prog 121 #[.pointer (some ⟨gb,40,none⟩),.int .i64 n,.int .i64 i] w fun e w'=>e=.returned (.int .i64 (inc x.e))∧GSP w ρ gb C now sv m g cap (ls.set n ⟨i,inc x.c,inc x.e⟩) P w'):=gGive_any h n x hx i
 have H2:Hid (∀W ls',GS W ρ gb C now sv m g cap ls' P→Calls Tryz.prog 111 #[.pointer (some ⟨gb,8,none⟩),.int .i64 n] W fun e w'=>e=.returned (.int .i64 (dnP now.dn n))∧W=w'):=fun W ls' hW=>gDone_any hW n hn
 have H3:Hid (∀W ls' ep at_,GS W ρ gb C now sv m g cap ls' P→Calls Tryz.prog 41 #[.pointer (some ⟨g,i*128,none⟩),.agg #[.int .i64 n,.int .i64 ep,.int .i64 at_,.int .i64 0]] W fun e w'=>e=.returned (.tuple #[])∧GSP W ρ gb C now sv m g cap ls' (P.set (i*16+n) { p with held:=true,h:=⟨n,ep,at_,0⟩ }) w'):=fun W ls' ep at_ hW=>gKeep_any hW i n hn p hp ep at_ 0
 clear h hx hp
 generalize inc x.c=xc at *
 generalize inc x.e=xe at *
 generalize dnP now.dn n=d at *
 go_enter Tryz.func91,Tryz.ntmps91
 go_wp2_with fail
 refine (uh H1).mono ?_
 rintro e w1 ⟨rfl,q1⟩
 have Q1:=hide q1
 clear q1
 go_wp2_with fail
 refine (uh H2 _ _ (uh Q1).1).mono ?_
 rintro e w2 ⟨rfl,rfl⟩
 go_wp2_with fail
 refine (uh H3 _ _ _ _ (uh Q1).1).mono ?_
 rintro e w3 ⟨rfl,q3⟩
 have Q3:=hide q3
 clear q3
 go_wp2
 go_end0
 refine ⟨rfl,?_⟩
 rw [uh E2,uh E3]
 exact (uh Q1).trans (uh Q3)
end Go.Proofs.YtpnkmnmchdabkaaGreat
namespace Go.Proofs.YtpnkmnmchdabkaaGreat
open Go.RowKit
attribute [local go_sem ↓] Go.wp_at_zero Go.wp_at_succ
attribute [local go_sem ↓] zvStg ldS_shut stS_shut
attribute [local go_sem] stS_new
theorem there_of {w:World} {b:Nat} {K:List Int} {t:TypeId} (h:w.heap[b]?=some (.cells (stA K) t (0,0))) (hK:K.length=16) (n:Nat) (hn:n≤16):w.there b 0 n:=by
 intro j hj
 refine ⟨?_,frozen_of h _⟩
 rw [cell_of h]
 unfold stA
 simp
 omega
theorem stSet {w:World} {b:Nat} {K L:List Int} {t:TypeId} (h:w.heap[b]?=some (.cells (stA K) t (0,0))) (hK:K.length=16) (hL:L.length=16):w.setCells b 0 (List.map (Value.int .i64) L)=w.setRow b (stA L):=by
 have h1:=stStg h hK hL
 have h2:=run_storeVar_mid (P:=Tryz.prog) w b 0 175 (stA L) (there_of h hK _ (by rw [stA_size hL];exact Nat.le_refl _)) (by rw [stA_size hL];exact infoStgSize) (all_oneCell_toArray (stCells_one L))
 have h3:=h1.symm.trans h2
 simp only [Result.ok.injEq,true_and] at h3
 rw [h3]
 unfold stA
 rw [List.toList_toArray]
theorem stLaid {w W V:World} {ρ:Nat→Nat} {gb:Nat} {C:Cfg} {now:Rest} {sv:Value} {m:List Cs} {g cap:Nat} {ls:List Le} {P:List Pl} (hW:GSP w ρ gb C now sv m g cap ls P W) {b:Nat} {K L:List Int} (h:W.heap[b]?=some (.cells (stA K) 175 (0,0))) (hK:K.length=16) (hL:L.length=16) (hb:w.heap.size≤b) (hf:Fits w ρ) (hV:V=W.setCells b 0 (List.map (Value.int .i64) L)) :
 V.heap[b]?=some (.cells (stA L) 175 (0,0))∧GSP w ρ gb C now sv m g cap ls P V∧¬mine ρ b:=by
 have hz:ρ b=0:=hf b hb
 rw [stSet h hK hL] at hV
 subst hV
 have hk:Keeps (fun k=>k=b) W (W.setRow b (stA L)):=⟨rfl,rfl,rfl,by simp [World.setRow],fun k _ hne=>setRow_other hne⟩
 refine ⟨setRow_same h,⟨?_,hW.2.os,hW.2.tape,hW.2.output,by have:=hW.2.size;simpa [World.setRow] using this,fun k hk' hn=>(setRow_other (by omega)).trans (hW.2.block k hk' hn)⟩,by unfold mine;omega⟩
 have hG:GrpL W ρ gb C (now.up ls P) sv m g cap P:=hW.1
 exact ⟨hG.G.keeps hk (fun k e=>Or.inl (by subst e;unfold mine;omega)) (fun _ _=>rfl) hG.le,hG.hw,hG.hm,hG.hl,hG.le,fun k hk'=>hG.fits k (by simpa [World.setRow] using hk')⟩
theorem gStages_any {w:World} {ρ:Nat→Nat} {gb:Nat} {C:Cfg} {now:Rest} {sv:Value} {m:List Cs} {g cap:Nat} {ls:List Le} {P:List Pl} (h:GS w ρ gb C now sv m g cap ls P) (hI:Inv (m.map (·.s))) :
 Calls Tryz.prog 86 #[.pointer (some ⟨gb,8,none⟩),.pointer (some ⟨gb,7,none⟩)] w fun e w'=>e=.returned (.agg (stA (stgUp (m.map (·.s)) (dnP now.dn) m.length)))∧Below w.heap.size w w' :=
 stages_any (now:=now.up ls P) h hI
def freeP (ls:List Le) (P:List Pl) (t L:Int) (i n:Nat):Bool:=match ls[n]?,P[i*16+n]? with
 | some x,some p=>decide (x.o=-1) || (p.made && decide (p.c=x.c) && decide (L≤dif t p.s))
 | _,_=>false
set_option maxRecDepth 100000 in
set_option maxHeartbeats 2000000 in
theorem isFree_any {w:World} {ρ:Nat→Nat} {gb:Nat} {C:Cfg} {now:Rest} {sv:Value} {m:List Cs} {g cap:Nat} {ls:List Le} {P:List Pl} (h:GS w ρ gb C now sv m g cap ls P) (i n:Nat) (hi:i<now.n) (hn:n<16) :
 Calls Tryz.prog 120 #[.pointer (some ⟨gb,0,none⟩),.pointer (some ⟨g,i*128,none⟩),.int .i64 n] w fun e w'=>e=.returned (.bool (freeP ls P now.t C.l i n))∧GSP w ρ gb C now sv m g cap ls P w':=by
 obtain ⟨x,hx⟩:=h.lease hn
 obtain ⟨p,hp⟩:=h.pl hi hn
 have E1:Hid (freeP ls P now.t C.l i n=(decide (x.o=-1) || (p.made && decide (p.c=x.c) && decide (C.l≤dif now.t p.s)))):=by unfold Hid freeP;rw [hx,hp]
 have H1:Hid (Calls Tryz.prog 97 #[.pointer (some ⟨gb,40,none⟩),.int .i64 n] w fun e w'=>e=.returned (.agg #[.int .i64 x.o,.int .i64 x.c,.int .i64 x.e])∧GSP w ρ gb C now sv m g cap ls P w'):=gOf_any h n x hx
 have H2:Hid (∀W,GS W ρ gb C now sv m g cap ls P→∀c s u:Int,Calls Tryz.prog 131 #[.pointer (some ⟨g,i*128,none⟩),.int .i64 n,.int .i64 c,.int .i64 s,.int .i64 u] W fun e w'=>e=.returned (.bool (p.made && decide (p.c=c) && decide (u≤dif s p.s)))∧GSP W ρ gb C now sv m g cap ls P w'):=fun W hW c s u=>gNoted_any hW i n hn p hp c s u
 have H3:Hid (∀W,GS W ρ gb C now sv m g cap ls P→W.cell? ⟨gb,6,none⟩=some (.int .i64 now.t)∧W.cell? ⟨gb,1,none⟩=some (.int .i64 C.l)):=fun W hW=>⟨(GrpL.tcell hW).1,(GrpL.tcell hW).2.2.1⟩
 clear h hx hp
 by_cases ho:x.o=-1
 ·go_enter Tryz.func120,Tryz.ntmps120
  go_wp2_with fail
  refine (uh H1).mono ?_
  rintro e w1 ⟨rfl,q1⟩
  have Q1:=hide q1
  clear q1
  go_wp2
  go_ret
  exact ⟨by rw [uh E1];simp [ho],(uh Q1).alloc _⟩
 ·go_enter Tryz.func120,Tryz.ntmps120
  go_wp2_with fail
  refine (uh H1).mono ?_
  rintro e w1 ⟨rfl,q1⟩
  have Q1:=hide q1
  have A1:=hide (q1.alloc (w1:=w1) (.cells #[.int .i64 x.o,.int .i64 x.c,.int .i64 x.e] 59))
  obtain ⟨c6,c1⟩:=uh H3 _ (uh A1).1
  clear q1
  go_wp2_with fail
  have cl:(w1.alloc (.cells #[.int .i64 x.o,.int .i64 x.c,.int .i64 x.e] 59)).cell? ⟨w1.heap.size,1,none⟩=some (.int .i64 x.c):=cell_of (heap_alloc_new w1 _) 1
  have hlt:w1.heap.size<(w1.alloc (.cells #[.int .i64 x.o,.int .i64 x.c,.int .i64 x.e] 59)).heap.size:=by simp
  have AD:=hide ((uh A1).1.below ((Below.refl _ _).drew))
  have hz:Hid (¬mine ρ w1.heap.size):=fun hm=>by have:=(uh Q1).1.fits _ (Nat.le_refl _);unfold mine at hm;omega
  generalize w1.alloc (.cells #[.int .i64 x.o,.int .i64 x.c,.int .i64 x.e] 59)=W at *
  have HC:=hide (uh H2 _ (uh AD).1 x.c now.t C.l)
  go_region_held3 (fun w'=>w'.cell? ⟨w1.heap.size,1,none⟩=some (.int .i64 x.c)∧w'.cell? ⟨gb,6,none⟩=some (.int .i64 now.t)∧w'.cell? ⟨gb,1,none⟩=some (.int .i64 C.l)) (first | go_keep | trivial) ((go_at_call 131;refine (uh HC).mono ?_;rintro e w2 ⟨rfl,q2⟩;have d1:=(q2.2.cell (p:=⟨w1.heap.size,1,none⟩) hlt (uh hz)).trans cl;obtain ⟨d6,d2⟩:=uh H3 _ q2.1;have Q2:=hide q2;clear q2))
  go_wp2
  go_ret
  exact ⟨by rw [uh E1];simp [ho],(uh A1).trans ((uh AD).trans (uh Q2))⟩
def notesP (ls:List Le) (t:Int) (i:Nat):Nat→List Pl→List Pl
 | 0,P=>P
 | n+1,P=>match ls[n]?,(notesP ls t i n P)[i*16+n]? with
   | some x,some p=>(notesP ls t i n P).set (i*16+n) (noted p x.c t)
   | _,_=>notesP ls t i n P
set_option maxRecDepth 100000 in
set_option maxHeartbeats 2000000 in
theorem makeNotes_any {w:World} {ρ:Nat→Nat} {gb:Nat} {C:Cfg} {now:Rest} {sv:Value} {m:List Cs} {g cap:Nat} {ls:List Le} {P:List Pl} (h:GS w ρ gb C now sv m g cap ls P) (h0:0<m.length) (i:Nat) (hi:i<now.n) :
 Calls Tryz.prog 89 #[.pointer (some ⟨gb,0,none⟩),.pointer (some ⟨g,i*128,none⟩)] w fun e w'=>e=.returned (.tuple #[])∧GSP w ρ gb C now sv m g cap ls (notesP ls now.t i m.length P) w':=by
 have h16:=GrpL.le h
 have HN:Hid (Calls Tryz.prog 108 #[.pointer (some ⟨gb,7,none⟩)] w fun e w'=>e=.returned (.int .i64 m.length)∧w=w'):=gLen_any h h0
 have H1:Hid (∀W P' n x,ls[n]?=some x→GS W ρ gb C now sv m g cap ls P'→Calls Tryz.prog 97 #[.pointer (some ⟨gb,40,none⟩),.int .i64 (n:Nat)] W fun e w'=>e=.returned (.agg #[.int .i64 x.o,.int .i64 x.c,.int .i64 x.e])∧GSP W ρ gb C now sv m g cap ls P' w'):=fun W P' n x hx hW=>gOf_any hW n x hx
 have H2:Hid (∀W P' n p,n<16→P'[i*16+n]?=some p→GS W ρ gb C now sv m g cap ls P'→∀c s:Int,Calls Tryz.prog 119 #[.pointer (some ⟨g,i*128,none⟩),.int .i64 (n:Nat),.int .i64 c,.int .i64 s] W fun e w'=>e=.returned (.tuple #[])∧GSP W ρ gb C now sv m g cap ls (P'.set (i*16+n) (noted p c s)) w'):=fun W P' n p hn hp hW c s=>gNote_any hW i n hn p hp c s
 have H3:Hid (∀W P',GS W ρ gb C now sv m g cap ls P'→W.cell? ⟨gb,6,none⟩=some (.int .i64 now.t)):=fun W P' hW=>(GrpL.tcell hW).1
 have HX:=hide h.lsL
 have HG:=hide h
 clear h
 go_enter Tryz.func89,Tryz.ntmps89
 go_wp2_with fail
 refine (uh HN).mono ?_
 rintro e w1 ⟨rfl,rfl⟩
 go_wp2
 go_loopw [5] (fun q wr=>∃k:Nat,k≤m.length∧q=.int .i64 k∧GSP w ρ gb C now sv m g cap ls (notesP ls now.t i k P) wr) (fun q _=>m.length - (intOf q).toNat)
 case atStart=>exact ⟨0,by omega,rfl,GSP.refl (uh HG)⟩
 case round =>
  obtain ⟨k,hk,rfl,q0⟩:=hrel
  by_cases hlt:k<m.length
  ·obtain ⟨x,hx⟩:∃x,ls[k]?=some x:=⟨ls[k]'(by rw [uh HX];omega),List.getElem?_eq_getElem _⟩
   obtain ⟨p,hp⟩:∃p,(notesP ls now.t i k P)[i*16+k]?=some p:=⟨(notesP ls now.t i k P)[i*16+k]'(by rw [q0.1.plL];omega),List.getElem?_eq_getElem _⟩
   have HU:Hid (notesP ls now.t i (k+1) P=(notesP ls now.t i k P).set (i*16+k) (noted p x.c now.t)):=by unfold Hid;rw [notesP,hx,hp]
   have Q0:=hide q0
   have HXk:=hide hx
   have HPk:=hide hp
   clear q0 hx hp
   go_wp2_with fail
   refine (uh H1 _ _ k x (uh HXk) (uh Q0).1).mono ?_
   rintro e w1 ⟨rfl,q1⟩
   have hz:Hid (¬mine ρ w1.heap.size):=fun hm=>by have:=q1.1.fits _ (Nat.le_refl _);unfold mine at hm;omega
   have A1:=hide (q1.alloc (w1:=w1) (.cells #[.int .i64 x.o,.int .i64 x.c,.int .i64 x.e] 59))
   have c6:=uh H3 _ _ (uh A1).1
   clear q1
   go_wp2_with fail
   have cl:(w1.alloc (.cells #[.int .i64 x.o,.int .i64 x.c,.int .i64 x.e] 59)).cell? ⟨w1.heap.size,1,none⟩=some (.int .i64 x.c):=cell_of (heap_alloc_new w1 _) 1
   have hlt':w1.heap.size<(w1.alloc (.cells #[.int .i64 x.o,.int .i64 x.c,.int .i64 x.e] 59)).heap.size:=by simp
   have AD:=hide ((uh A1).1.below ((Below.refl _ _).drew))
   generalize w1.alloc (.cells #[.int .i64 x.o,.int .i64 x.c,.int .i64 x.e] 59)=W at *
   have HC:=hide (uh H2 _ _ k p (by omega) (uh HPk) (uh AD).1 x.c now.t)
   go_region_held3 (fun w'=>w'.cell? ⟨w1.heap.size,1,none⟩=some (.int .i64 x.c)∧w'.cell? ⟨gb,6,none⟩=some (.int .i64 now.t)) (first | go_keep | trivial) ((go_at_call 119;refine (uh HC).mono ?_;rintro e w2 ⟨rfl,q2⟩;have d1:=(q2.2.cell (p:=⟨w1.heap.size,1,none⟩) hlt' (uh hz)).trans cl;have d6:=uh H3 _ _ q2.1;have Q2:=hide q2;clear q2))
   go_wp2
   go_roundw
   case rel=>exact ⟨k+1,by omega,by go_num,by rw [uh HU];exact (uh Q0).trans ((uh A1).trans ((uh AD).trans (uh Q2)))⟩
   case measure=>simp [intOf];omega
  ·have e:k=m.length:=by omega
   subst e
   have Q0:=hide q0
   clear q0
   go_wp2
   go_end0
   exact ⟨rfl,uh Q0⟩
def mayP (st:List Int) (ls:List Le) (P:List Pl) (t L:Int) (i n:Nat):Bool:=match P[i*16+n]? with
 | some p=>decide (st[n]?=some 1) && !p.held && freeP ls P t L i n
 | none=>false
def FreePost (f:Nat→Bool) (e:Ending):Prop :=
 (∃n:Nat,n<16∧f n=true∧(∀k,k<n→f k=false)∧e=.returned (.tuple #[.int .i64 n,.bool true]))∨((∀k,k<16→f k=false)∧e=.returned (.tuple #[.int .i64 0,.bool false]))
set_option maxRecDepth 100000 in
set_option maxHeartbeats 4000000 in
theorem findFree_any {w:World} {ρ:Nat→Nat} {gb:Nat} {C:Cfg} {now:Rest} {sv:Value} {m:List Cs} {g cap:Nat} {ls:List Le} {P:List Pl} (h:GS w ρ gb C now sv m g cap ls P) (hI:Inv (m.map (·.s))) (i:Nat) (hi:i<now.n) :
 Calls Tryz.prog 90 #[.pointer (some ⟨gb,0,none⟩),.pointer (some ⟨g,i*128,none⟩)] w fun e w'=>FreePost (mayP (stgUp (m.map (·.s)) (dnP now.dn) m.length) ls P now.t C.l i) e∧GSP w ρ gb C now sv m g cap ls P w':=by
 have HS:Hid (∀W,GS W ρ gb C now sv m g cap ls P→Calls Tryz.prog 86 #[.pointer (some ⟨gb,8,none⟩),.pointer (some ⟨gb,7,none⟩)] W fun e w'=>e=.returned (.agg (stA (stgUp (m.map (·.s)) (dnP now.dn) m.length)))∧Below W.heap.size W w'):=fun W hW=>gStages_any hW hI
 have HLn:=stgUp_len (m.map (·.s)) (dnP now.dn) m.length
 generalize stgUp (m.map (·.s)) (dnP now.dn) m.length=st at HS HLn ⊢
 have H1:Hid (∀W n p,n<16→P[i*16+n]?=some p→GS W ρ gb C now sv m g cap ls P→Calls Tryz.prog 77 #[.pointer (some ⟨g,i*128,none⟩),.int .i64 (n:Nat)] W fun e w'=>e=.returned (.tuple #[if p.held=true then .agg #[.int .i64 p.h.sh,.int .i64 p.h.ep,.int .i64 p.h.at_,.int .i64 p.h.bf] else .agg #[.int .i64 0,.int .i64 0,.int .i64 0,.int .i64 0],.bool p.held])∧GSP W ρ gb C now sv m g cap ls P w'):=fun W n p hn hp hW=>gHold_any hW i n hn p hp
 have H2:Hid (∀W (n:Nat),n<16→GS W ρ gb C now sv m g cap ls P→Calls Tryz.prog 120 #[.pointer (some ⟨gb,0,none⟩),.pointer (some ⟨g,i*128,none⟩),.int .i64 n] W fun e w'=>e=.returned (.bool (freeP ls P now.t C.l i n))∧GSP W ρ gb C now sv m g cap ls P w'):=fun W n hn hW=>isFree_any hW i n hi hn
 have HP:Hid (∀n,n<16→∃p,P[i*16+n]?=some p):=fun n hn=>h.pl hi hn
 have HG:=hide h
 clear h hI
 go_enter Tryz.func90,Tryz.ntmps90
 go_wp2_with fail
 have hN:(w.alloc (.cells (stA st0) 175)).heap[w.heap.size]?=some (.cells (stA st0) 175 (0,0)):=heap_alloc_new w _
 have hA:=(uh HG).alloc (.cells (stA st0) 175)
 have hone:∀v,v ∈ List.map (Value.int IntKind.i64) st→v.oneCell'=true:=stCells_one st
 have hinf:Option.map (fun x=>x.size) (Tryz.prog.info? 175)=some (List.map (Value.int IntKind.i64) st).length:=by rw [infoStgSize];simp [HLn]
 have HSd:=hide (uh HS _ (hA.1.below (Below.refl _ _).drew).1)
 have HSe:=hide (uh HS _ ((uh HG).below (Below.refl _ _).drew).1)
 have HD:=hide (hA.1.below (Below.refl _ _).drew)
 have HA:=hide hA
 have HN:=hide hN
 clear hA hN
 go_region_held3 (fun _=>True) (trivial) (first | (go_at_call 86;refine (uh HSd).mono ?_;rintro e w1 ⟨rfl,hbA⟩;have hNA:=(hbA.block _ (lt_of_heap (uh HN))).trans (uh HN);have htA:=there_of hNA st0_len (List.map (Value.int IntKind.i64) st).length (by simp [HLn])) | (go_at_call 86;refine (uh HSe).mono ?_;rintro e w1 ⟨rfl,hbB⟩;have htB:=there_of (heap_alloc_new w1 (.cells (stA st0) 175)) st0_len (List.map (Value.int IntKind.i64) st).length (by simp [HLn])))
 all_goals
  first
  | (have hX:=stLaid ((uh HA).trans ((uh HD).trans ((uh HD).1.below hbA))) hNA st0_len HLn (Nat.le_refl _) (uh HG).fits rfl
     clear hbA hNA htA
     generalize hB:w.heap.size=B at *
     generalize w1.setCells B 0 (List.map (Value.int IntKind.i64) st)=V at *)
  | (have hX:=stLaid ((((uh HG).below (Below.refl _ _).drew).trans (((uh HG).below (Below.refl _ _).drew).1.below hbB)).alloc (w1:=w1) (.cells (stA st0) 175)) (heap_alloc_new w1 _) st0_len HLn hbB.size (uh HG).fits rfl
     clear hbB htB
     generalize (w1.alloc (.cells (stA st0) 175)).setCells w1.heap.size 0 (List.map (Value.int IntKind.i64) st)=V at *
     generalize hB:w1.heap.size=B at *)
  obtain ⟨hX1,hX2,hX3⟩:=hX
  have V1:=hide hX1
  have V2:=hide hX2
  have V3:=hide hX3
  clear hX1 hX2 hX3 hB HSd HSe HD HA HN
  go_wp2
  go_loopw [7] (fun q wr=>∃k:Nat,k≤16∧q=.int .i64 k∧(∀j,j<k→mayP st ls P now.t C.l i j=false)∧wr.heap[B]?=some (.cells (stA st) 175 (0,0))∧GSP w ρ gb C now sv m g cap ls P wr) (fun q _=>16 - (intOf q).toNat)
  case atStart=>exact ⟨0,by omega,rfl,fun j hj=>by omega,uh V1,uh V2⟩
  case round =>
   obtain ⟨k,hk,rfl,hno,hrow,hgs⟩:=hrel
   by_cases hlt:k<16
   ·obtain ⟨p,hp⟩:=uh HP k hlt
    have HM:Hid (mayP st ls P now.t C.l i k=(decide (st[k]?=some 1) && !p.held && freeP ls P now.t C.l i k)):=by unfold Hid mayP;rw [hp]
    have C1:=hide (uh H1 wr k p hlt hp hgs.1)
    have HNo:=hide hno
    have ROW:=hide hrow
    have HGS:=hide hgs
    have hB:=lt_of_heap hrow
    have hsk:k<st.length:=by omega
    have hstk:Hid (st[k]?=some st[k]):=List.getElem?_eq_getElem hsk
    generalize st[k]=v at hstk
    clear hno hrow hgs hp
    obtain ⟨ha,hb,hc,hd,hhv⟩:∃a b c d:Int,(if p.held=true then Value.agg #[.int .i64 p.h.sh,.int .i64 p.h.ep,.int .i64 p.h.at_,.int .i64 p.h.bf] else .agg #[.int .i64 0,.int .i64 0,.int .i64 0,.int .i64 0])=.agg #[.int .i64 a,.int .i64 b,.int .i64 c,.int .i64 d]:=by
     cases p.held
     ·exact ⟨_,_,_,_,rfl⟩
     ·exact ⟨_,_,_,_,rfl⟩
    rw [hhv] at C1
    clear hhv
    generalize p.held=held at *
    go_wp2_with fail
    refine (uh C1).mono ?_
    rintro e w1 ⟨rfl,q1⟩
    have hr1:=(q1.2.block _ hB (uh V3)).trans (uh ROW)
    have ROW1:=hide ((Below.heap_alloc w1 (.cells #[.int .i64 ha,.int .i64 hb,.int .i64 hc,.int .i64 hd] 102) _ (lt_of_heap hr1)).trans hr1)
    have Q1:=hide (((uh HGS).trans q1).alloc (w1:=w1) (.cells #[.int .i64 ha,.int .i64 hb,.int .i64 hc,.int .i64 hd] 102))
    clear q1 hr1
    go_wp2_with fail
    refine (uh H2 _ k hlt (uh Q1).1).mono ?_
    rintro e w2 ⟨rfl,q2⟩
    have hr2:=(q2.2.block _ (lt_of_heap (uh ROW1)) (uh V3)).trans (uh ROW1)
    have cst:w2.cell? ⟨B,k,none⟩=some (.int .i64 v):=by
     rw [cell_of hr2]
     unfold stA
     have:=uh hstk
     simp [this]
    have ROW2:=hide hr2
    have Q2:=hide ((uh Q1).trans q2)
    clear q2 hr2
    generalize freeP ls P now.t C.l i k=fr at *
    have nxt:Hid (mayP st ls P now.t C.l i k=false→∀j,j<k+1→mayP st ls P now.t C.l i j=false):=fun hf j hj=>by
     by_cases e:j=k
     ·rw [e];exact hf
     ·exact uh HNo j (by omega)
    by_cases hv1:v=1
    ·subst hv1
     cases held
     ·cases fr
      ·go_wp2
       go_roundw
       case rel=>exact ⟨k+1,by omega,by go_num,uh nxt (by rw [uh HM];simp),uh ROW2,uh Q2⟩
       case measure=>simp [intOf];omega
      ·go_wp2
       go_ret2
       exact ⟨Or.inl ⟨k,hlt,by rw [uh HM,uh hstk];simp,uh HNo,rfl⟩,uh Q2⟩
     ·go_wp2
      go_roundw
      case rel=>exact ⟨k+1,by omega,by go_num,uh nxt (by rw [uh HM];simp),uh ROW2,uh Q2⟩
      case measure=>simp [intOf];omega
    ·go_wp2
     go_roundw
     case rel=>exact ⟨k+1,by omega,by go_num,uh nxt (by rw [uh HM,uh hstk];simp [hv1]),uh ROW2,uh Q2⟩
     case measure=>simp [intOf];omega
   ·have e:k=16:=by omega
    subst e
    have HNo:=hide hno
    have HGS:=hide hgs
    clear hno hrow hgs
    go_wp2
    go_ret2
    exact ⟨Or.inr ⟨uh HNo,rfl⟩,uh HGS⟩
end Go.Proofs.YtpnkmnmchdabkaaGreat
