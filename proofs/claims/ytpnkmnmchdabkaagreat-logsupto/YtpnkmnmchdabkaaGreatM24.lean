import Derived.Test.YtpnkmnmchdabkaaGreatM23
import Derived.Test.YtpnkmnmchdabkaaGreatM04
import Derived.Test.YtpnkmnmchdabkaaGreatM00
namespace Go.Proofs.YtpnkmnmchdabkaaGreat
open Go.RowKit
attribute [local go_sem ↓] Go.wp_at_zero Go.wp_at_succ
def ahUp (a:Int) (rl:List Rc):Nat→Int
 | 0=>a
 | p+1=>match rl[p]? with
   | some r=>lat (ahUp a rl p) r.t
   | none=>ahUp a rl p
def fdOf (a:Int) (rl:List Rc):Nat→List (Rc × Int)
 | 0=>[]
 | p+1=>match rl[p]? with
   | some r=>fdOf a rl p ++ [(r,ahUp a rl p)]
   | none=>fdOf a rl p
def wmUp (l:List Sh) (d:Nat→Nat):Nat→List Int
 | 0=>st0
 | n+1=>match l[n]? with
   | some s=>(wmUp l d n).set n (ahUp (topOf (wmUp l d n) s.par) s.rl (d n))
   | none=>wmUp l d n
def fdUp (l:List Sh) (d:Nat→Nat):Nat→List (Rc × Int)
 | 0=>[]
 | n+1=>match l[n]? with
   | some s=>fdUp l d n ++ fdOf (topOf (wmUp l d n) s.par) s.rl (d n)
   | none=>fdUp l d n
theorem wmUp_len (l:List Sh) (d:Nat→Nat) (n:Nat):(wmUp l d n).length=16:=by
 induction n with
 | zero=>exact st0_len
 | succ n ih=>unfold wmUp;cases l[n]? <;> simp [ih]
theorem fdOf_le (a:Int) (rl:List Rc) (p:Nat):(fdOf a rl p).length≤p:=by
 induction p with
 | zero=>simp [fdOf]
 | succ p ih=>unfold fdOf;cases rl[p]? <;> simp <;> omega
theorem fdUp_le {l:List Sh} {d:Nat→Nat} (hd:∀k,d k≤32) (n:Nat):(fdUp l d n).length≤32*n:=by
 induction n with
 | zero=>simp [fdUp]
 | succ n ih =>
   unfold fdUp
   cases l[n]? with
   | none=>simp only;omega
   | some s =>
     have:=fdOf_le (topOf (wmUp l d n) s.par) s.rl (d n)
     have:=hd n
     simp only [List.length_append]
     omega
def fdCells (x:Rc × Int):List Value:=rcCells x.1 ++ [.int .i64 x.2]
def fdRow:List (Rc × Int)→List Value
 | []=>[]
 | x :: r=>fdCells x ++ fdRow r
theorem fdRow_append (l k:List (Rc × Int)):fdRow (l ++ k)=fdRow l ++ fdRow k:=by
 induction l with
 | nil=>rfl
 | cons s r ih=>simp [fdRow,ih]
theorem infoFd:(Tryz.prog.info? 139).map (fun i=>(i.zero,i.size,i.bytes))=some (some (.agg #[.int .u8 0,.int .u8 0,.int .u8 0,.int .u8 0,.int .u8 0,.int .u8 0,.int .u8 0,.int .u8 0,.int .i64 0,.int .i64 0,.int .i64 0]),11,32):=by kernel_rfl
theorem infoWm:(Tryz.prog.info? 168).map (fun i=>(i.zero,i.size))=some (some (.agg (stA st0)),16):=by kernel_rfl
theorem infoWmSize:(Tryz.prog.info? 168).map (·.size)=some 16:=by kernel_rfl
theorem zvWm (w:World):(zeroValue 168).run Tryz.prog w=.ok (.agg (stA st0)) w:=(zero_of_info infoWm).1 w
def ldW (a:Addr):Sem Value:=loadVar 168 a
def stW (a:Addr) (v:Value):Sem Unit:=storeVar 168 a v
theorem ldW_shut (a:Addr):loadVar 168 a=ldW a:=rfl
theorem stW_shut (a:Addr) (v:Value):storeVar 168 a v=stW a v:=rfl
theorem ldW_is {w:World} {b:Nat} {L:List Int} {t:TypeId} {f:Nat × Nat} (h:w.heap[b]?=some (.cells (stA L) t f)) (hL:L.length=16):(ldW ⟨b,0,none⟩).run Tryz.prog w=.ok (.agg (stA L)) w :=
 run_loadVar_row w b t _ (stA L) f _ h Tryz.underlying168 rfl (by rw [stA_size hL];exact infoWmSize)
theorem stW_is {w:World} {b:Nat} {K L:List Int} {t:TypeId} (h:w.heap[b]?=some (.cells (stA K) t (0,0))) (hK:K.length=16) (hL:L.length=16):(stW ⟨b,0,none⟩ (.agg (stA L))).run Tryz.prog w=.ok () (w.setRow b (stA L)) :=
 run_storeVar_row w b t _ (stA K) (stA L) h (by rw [stA_size hL];exact infoWmSize) (by rw [stA_size hK,stA_size hL]) (all_oneCell_toArray (stCells_one L))
theorem stW_new (w:World) (n:Nat) (K L:List Int) (hn:n=w.heap.size) (hK:K.length=16) (hL:L.length=16):(stW ⟨n,0,none⟩ (.agg (stA L))).run Tryz.prog (w.alloc (.cells (stA K) 168))=.ok () (w.alloc (.cells (stA L) 168)):=by
 subst hn
 rw [stW_is (heap_alloc_new w _) hK hL,World.setRow_alloc_new]
attribute [local go_sem ↓] zvWm ldW_shut stW_shut
attribute [local go_sem] stW_new
def WaInv (w:World) (ans loc:Nat) (wm:List Int) (F:List (Rc × Int)) (p:Value) (wr:World):Prop :=
 wr.heap[ans]?=some (.cells (stA st0) 168 (0,0))∧wr.heap[loc]?=some (.cells (stA wm) 168 (0,0))∧Below w.heap.size w wr∧wr.ownsRow w.heap.size 139 11 p F.length (fdRow F)∧(∀q,p.ownBlock=some q→q≠ans∧q≠loc)∧ans<wr.heap.size∧loc<wr.heap.size
theorem WaInv.below {w:World} {ans loc:Nat} {wm:List Int} {F:List (Rc × Int)} {p:Value} {wr w1:World} (h:WaInv w ans loc wm F p wr) (hb:Below wr.heap.size wr w1):WaInv w ans loc wm F p w1:=by
 obtain ⟨a,b,c,d,e,f,g⟩:=h
 have:=hb.size
 exact ⟨(hb.block _ f).trans a,(hb.block _ g).trans b,c.trans (hb.mono c.size),ownsRow_of_block d fun q hq=>hb.block q (d.lt q hq).2,e,by omega,by omega⟩
theorem results_tmp_row {P:Program} {fn:Func} {p u:Tmp} {ty:TypeId} (h:fn.results=#[.tmp u,.cell p ty]) (tmps:Array Value) (w:World) (g:Nat) (t:TypeId) (cs:Array Value) (fr:Nat × Nat) (d:TypeDesc)
 (hp:tmps.getD p undef=.pointer (some ⟨g,0,none⟩)) (hg:w.heap[g]?=some (.cells cs t fr))
 (hu:P.underlying ty=some d) (hd:(match d with | .struct _ | .array _ _=>true | _=>false)=true) (hi:(P.info? ty).map (·.size)=some cs.size) :
 (results fn tmps).run P w=.ok (.tuple #[tmps.getD u undef,.agg cs]) w:=by
 have hp':tmps[p]?.getD undef=.pointer (some ⟨g,0,none⟩):=by simpa using hp
 simp [results,h,hp',asAddr,run_loadVar_row w g t ty cs fr d hg hu hd hi]
set_option maxRecDepth 100000 in
set_option maxHeartbeats 8000000 in
theorem walk_any {w:World} {ρ:Nat→Nat} {gb:Nat} {C:Cfg} {now:Rest} {sv:Value} {m:List Cs} {g cap:Nat} {ls:List Le} {P:List Pl} (h:GS w ρ gb C now sv m g cap ls P) (hI:Inv (m.map (·.s))) (d:Nat→Nat) (hd:∀k,d k≤32) (hdn:∀k,k<16→dnP now.dn k=(d k:Int)) (hdc:∀(k:Nat) (s:Cs),m[k]?=some s→d k≤s.s.rl.length) :
 Calls Tryz.prog 83 #[.pointer (some ⟨gb,8,none⟩),.pointer (some ⟨gb,7,none⟩)] w fun e w'=>∃v,e=.returned (.tuple #[v,.agg (stA (wmUp (m.map (·.s)) d m.length))])∧w'.ownsRow w.heap.size 139 11 v (fdUp (m.map (·.s)) d m.length).length (fdRow (fdUp (m.map (·.s)) d m.length))∧Below w.heap.size w w':=by
 have h0:0<m.length:=by have:=hI.pos;simpa using this
 have h16:m.length≤16:=GrpL.le h
 have z0:=st0_len
 have s0:=stA_size z0
 obtain ⟨i0,hi0,hz0,hz1,hz2⟩:=info_parts infoFd
 have HN:Hid (∀W,Below w.heap.size w W→Calls Tryz.prog 108 #[.pointer (some ⟨gb,7,none⟩)] W fun e w'=>e=.returned (.int .i64 m.length)∧W=w'):=fun W hb=>gLen_any (GrpL.below h hb).1 h0
 have HP:Hid (∀W,Below w.heap.size w W→∀(k:Nat) (s:Cs),m[k]?=some s→Calls Tryz.prog 109 #[.pointer (some ⟨gb,7,none⟩),.int .i64 k] W (CopyPost W s.s.par)):=fun W hb k s hk=>gParents_any (GrpL.below h hb).1 hk (hI.parL k s.s (by simp [hk])).1
 have HD:Hid (∀W,Below w.heap.size w W→∀k:Nat,k<16→Calls Tryz.prog 111 #[.pointer (some ⟨gb,8,none⟩),.int .i64 k] W fun e w'=>e=.returned (.int .i64 (d k))∧W=w'):=fun W hb k hk=>by rw [←hdn k hk];exact gDone_any (now:=now.up ls P) (GrpL.below h hb).1 k hk
 have HRd:Hid (∀W,Below w.heap.size w W→∀(k:Nat) (s:Cs),m[k]?=some s→∀(p:Nat) (r:Rc),s.s.rl[p]?=some r→Calls Tryz.prog 112 #[.pointer (some ⟨gb,7,none⟩),.int .i64 k,.int .i64 p] W fun e w'=>e=.returned (.agg (recArr r.kb r.v r.t))∧Below W.heap.size W w'):=fun W hb k s hk p r hp=>gRecord_any (h.below hb).1 k s hk p r hp
 have HLt:=fun a b w=>hide (later_any a b w)
 have HA:Hid (∀(k:Nat) (s:Cs),m[k]?=some s→(∀p ∈ s.s.par,0≤p∧p<16)∧s.s.par.length≤2):=fun k s hk=>⟨fun p hp=>by
  obtain ⟨q,t,rfl,hq,_⟩:=hI.parR k s.s (by simp [hk]) p hp
  have:=(List.getElem?_eq_some_iff.1 hk).1
  omega,(hI.parL k s.s (by simp [hk])).1⟩
 have HW1:Hid (∀(k:Nat) (s:Cs),m[k]?=some s→wmUp (m.map (·.s)) d (k+1)=(wmUp (m.map (·.s)) d k).set k (ahUp (topOf (wmUp (m.map (·.s)) d k) s.s.par) s.s.rl (d k))):=fun k s hk=>by rw [wmUp,show (m.map (·.s))[k]?=some s.s by simp [hk]]
 have HF1:Hid (∀(k:Nat) (s:Cs),m[k]?=some s→fdUp (m.map (·.s)) d (k+1)=fdUp (m.map (·.s)) d k ++ fdOf (topOf (wmUp (m.map (·.s)) d k) s.s.par) s.s.rl (d k)):=fun k s hk=>by rw [fdUp,show (m.map (·.s))[k]?=some s.s by simp [hk]]
 have HL:Hid (∀k,(wmUp (m.map (·.s)) d k).length=16):=fun k=>wmUp_len _ _ k
 have HFl:Hid (∀k,(fdUp (m.map (·.s)) d k).length≤32*k):=fun k=>fdUp_le hd k
 have HW0:Hid (wmUp (m.map (·.s)) d 0=st0):=rfl
 have HF0:Hid (fdUp (m.map (·.s)) d 0=[]):=rfl
 generalize wmUp (m.map (·.s)) d=U at HW1 HF1 HL HW0 ⊢
 generalize fdUp (m.map (·.s)) d=F at HF1 HFl HF0 ⊢
 have HDc:=hide hdc
 have HDd:=hide hd
 clear h hI hdn hdc hd
 go_enter Tryz.func83,Tryz.ntmps83
 go_wp2_with fail
 have hI0:Hid (WaInv w w.heap.size (w.heap.size+1+1) st0 [] (.slice (some ⟨w.heap.size+1,0,none⟩) 0 0) (((w.alloc (.cells (stA st0) 168)).alloc (.cells #[] 139)).alloc (.cells (stA st0) 168))):=by
  have e1:=heap_alloc_new w (.cells (stA st0) 168)
  have e2:=heap_alloc_new (w.alloc (.cells (stA st0) 168)) (.cells #[] 139)
  have e3:=heap_alloc_new ((w.alloc (.cells (stA st0) 168)).alloc (.cells #[] 139)) (.cells (stA st0) 168)
  have q1:(w.alloc (.cells (stA st0) 168)).heap.size=w.heap.size+1:=by simp
  have q2:((w.alloc (.cells (stA st0) 168)).alloc (.cells #[] 139)).heap.size=w.heap.size+1+1:=by simp
  rw [q1] at e2
  rw [q2] at e3
  refine ⟨?_,e3,(((Below.refl _ w).alloc (Nat.le_refl _) _).alloc (by simp) _).alloc (by simp;omega) _,⟨rfl,.inr ⟨w.heap.size+1,0,#[],rfl,by omega,?_,Nat.le_refl _,by unfold maxLen;omega,rfl,rfl⟩⟩,fun q hq=>?_,by simp;omega,by simp⟩
  ·rw [Below.heap_alloc _ _ _ (by simp;omega),Below.heap_alloc _ _ _ (by simp)];exact e1
  ·rw [Below.heap_alloc _ _ _ (by simp)];exact e2
  ·have e:w.heap.size+1=q:=by simpa [Value.ownBlock] using hq
   omega
 generalize hans:w.heap.size+1+1=loc at *
 generalize (((w.alloc (.cells (stA st0) 168)).alloc (.cells #[] 139)).alloc (.cells (stA st0) 168))=W at *
 refine (uh HN _ (uh hI0).2.2.1).mono ?_
 rintro e w1 ⟨rfl,rfl⟩
 go_wp2
 go_loopw [6,9] (fun p i wr=>∃k:Nat,k≤m.length∧i=.int .i64 k∧WaInv w w.heap.size loc (U k) (F k) p wr) (fun _ i _=>m.length - (intOf i).toNat)
 case atStart=>exact ⟨0,by omega,rfl,by rw [uh HW0,uh HF0];exact uh hI0⟩
 case round =>
  obtain ⟨k,hk,rfl,hinv⟩:=hrel
  have hlk:=uh HL k
  by_cases hlt:k<m.length
  ·obtain ⟨s,hs⟩:∃s,m[k]?=some s:=⟨m[k],List.getElem?_eq_getElem hlt⟩
   have k16:k<16:=by omega
   have HS:=hide hs
   have HIv:=hide hinv
   clear hinv hs
   go_wp2_with fail
   refine (uh HP _ (uh HIv).2.2.1 k s (uh HS)).mono ?_
   intro e w1 hcp
   obtain ⟨q,qc,rfl,hrow,hcb⟩:=hcp
   have ROW:=hide (ownsRow_base hrow (Nat.zero_le _))
   have J1:=hide ((uh HIv).below hcb)
   have hld:=ldW_is (uh J1).2.1 hlk
   clear hrow hcb HIv
   go_wp2_with fail
   refine (amongst_any (U k) hlk s.s.par q qc w1 (uh HA k s (uh HS)).1 (uh HA k s (uh HS)).2 (uh ROW)).mono ?_
   rintro e w2 ⟨rfl,hb2⟩
   have J2:=hide ((uh J1).below hb2)
   clear hb2 hld J1 ROW
   have HWk:=hide (uh HW1 k s (uh HS))
   have HFk:=hide (uh HF1 k s (uh HS))
   generalize topOf (U k) s.s.par=a0 at *
   go_wp2_with fail
   refine (uh HD _ (uh J2).2.2.1 k k16).mono ?_
   rintro e w3 ⟨rfl,rfl⟩
   have hdl:=uh HDc k s (uh HS)
   have hd32:=uh HDd k
   have hFle:=uh HFl k
   go_wp2
   go_loopw [6,11,13] (fun p a i wr=>∃j:Nat,j≤d k∧i=.int .i64 j∧a=.int .i64 (ahUp a0 s.s.rl j)∧WaInv w w.heap.size loc (U k) (F k ++ fdOf a0 s.s.rl j) p wr) (fun _ _ i _=>d k - (intOf i).toNat)
   case atStart=>exact ⟨0,by omega,rfl,rfl,by simpa [fdOf] using uh J2⟩
   case round =>
    obtain ⟨j,hj,rfl,rfl,hinv⟩:=hrel
    by_cases hlt2:j<d k
    ·obtain ⟨r,hr⟩:∃r,s.s.rl[j]?=some r:=⟨s.s.rl[j]'(by omega),List.getElem?_eq_getElem _⟩
     have HF2:Hid (fdOf a0 s.s.rl (j+1)=fdOf a0 s.s.rl j ++ [(r,ahUp a0 s.s.rl j)]):=by unfold Hid;rw [fdOf,hr]
     have HA2:Hid (ahUp a0 s.s.rl (j+1)=lat (ahUp a0 s.s.rl j) r.t):=by unfold Hid;rw [ahUp,hr]
     have HRr:=hide hr
     obtain ⟨pa,pc,hpv⟩:=ownsRow_len hinv.2.2.2.1
     subst hpv
     have hFl:(F k ++ fdOf a0 s.s.rl j).length≤1000:=by have:=fdOf_le a0 s.s.rl j;rw [List.length_append];omega
     have HIv:=hide hinv
     clear hinv hr
     generalize hG1:F k ++ fdOf a0 s.s.rl j=G1 at *
     have HG1:=hide hG1
     generalize ahUp a0 s.s.rl j=aj at *
     clear hG1
     go_wp2_with fail
     refine (uh HRd _ (uh HIv).2.2.1 k s (uh HS) j r (uh HRr)).mono ?_
     unfold recArr
     rintro e w4 ⟨rfl,hb4⟩
     have J4:=hide ((uh HIv).below hb4)
     have J5:=hide ((uh J4).below ((Below.refl _ w4).alloc (Nat.le_refl _) (.cells #[.int .u8 (byteAt r.kb 0),.int .u8 (byteAt r.kb 1),.int .u8 (byteAt r.kb 2),.int .u8 (byteAt r.kb 3),.int .u8 (byteAt r.kb 4),.int .u8 (byteAt r.kb 5),.int .u8 (byteAt r.kb 6),.int .u8 (byteAt r.kb 7),.int .i64 r.v,.int .i64 r.t] 137)))
     obtain ⟨x0,x1,x2,x3,x4,x5,x6,x7,x8,x9⟩:=load10 (heap_alloc_new w4 (.cells #[.int .u8 (byteAt r.kb 0),.int .u8 (byteAt r.kb 1),.int .u8 (byteAt r.kb 2),.int .u8 (byteAt r.kb 3),.int .u8 (byteAt r.kb 4),.int .u8 (byteAt r.kb 5),.int .u8 (byteAt r.kb 6),.int .u8 (byteAt r.kb 7),.int .i64 r.v,.int .i64 r.t] 137))
     clear hb4
     have J6:=hide ((uh J5).below ((Below.refl _ _).alloc (Nat.le_refl _) (.cells #[.int .u8 (byteAt r.kb 0),.int .u8 (byteAt r.kb 1),.int .u8 (byteAt r.kb 2),.int .u8 (byteAt r.kb 3),.int .u8 (byteAt r.kb 4),.int .u8 (byteAt r.kb 5),.int .u8 (byteAt r.kb 6),.int .u8 (byteAt r.kb 7),.int .i64 r.v,.int .i64 r.t,.int .i64 aj] 139)))
     have hw4:Hid ((w4.alloc (.cells #[.int .u8 (byteAt r.kb 0),.int .u8 (byteAt r.kb 1),.int .u8 (byteAt r.kb 2),.int .u8 (byteAt r.kb 3),.int .u8 (byteAt r.kb 4),.int .u8 (byteAt r.kb 5),.int .u8 (byteAt r.kb 6),.int .u8 (byteAt r.kb 7),.int .i64 r.v,.int .i64 r.t] 137)).heap.size=w4.heap.size+1):=by unfold Hid;simp
     have hr4:Hid (((w4.alloc (.cells #[.int .u8 (byteAt r.kb 0),.int .u8 (byteAt r.kb 1),.int .u8 (byteAt r.kb 2),.int .u8 (byteAt r.kb 3),.int .u8 (byteAt r.kb 4),.int .u8 (byteAt r.kb 5),.int .u8 (byteAt r.kb 6),.int .u8 (byteAt r.kb 7),.int .i64 r.v,.int .i64 r.t] 137)).alloc (.cells #[.int .u8 (byteAt r.kb 0),.int .u8 (byteAt r.kb 1),.int .u8 (byteAt r.kb 2),.int .u8 (byteAt r.kb 3),.int .u8 (byteAt r.kb 4),.int .u8 (byteAt r.kb 5),.int .u8 (byteAt r.kb 6),.int .u8 (byteAt r.kb 7),.int .i64 r.v,.int .i64 r.t,.int .i64 aj] 139)).heap[w4.heap.size]?=some (.cells #[.int .u8 (byteAt r.kb 0),.int .u8 (byteAt r.kb 1),.int .u8 (byteAt r.kb 2),.int .u8 (byteAt r.kb 3),.int .u8 (byteAt r.kb 4),.int .u8 (byteAt r.kb 5),.int .u8 (byteAt r.kb 6),.int .u8 (byteAt r.kb 7),.int .i64 r.v,.int .i64 r.t] 137 (0,0))):=by
      unfold Hid
      rw [Below.heap_alloc _ _ _ (by simp)]
      exact heap_alloc_new w4 _
     have hp4:Hid (∀q,(Value.slice pa G1.length pc).ownBlock=some q→q<w4.heap.size):=fun q hq=>((uh J4).2.2.2.1.lt q hq).2
     go_wp2_with (at_builtin;go_must (refine wpList_append_lies _ rfl _ _ _ rfl w.heap.size 139 i0 _ 11 32 Tryz.underlying134 hi0 hz0 hz1 hz2 rfl (by omega) _ G1.length (fdRow G1) rfl ?own ⟨w4.heap.size+1,0,none⟩ 1 1 (fdCells (r,aj)) rfl rfl ?news ?one (by omega) ?h63 ?bytes ?base (w4.heap.size+2) ?hH ?next))
     case own=>exact (uh J6).2.2.2.1
     case news =>
      have h1:=heap_alloc_new (w4.alloc (.cells #[.int .u8 (byteAt r.kb 0),.int .u8 (byteAt r.kb 1),.int .u8 (byteAt r.kb 2),.int .u8 (byteAt r.kb 3),.int .u8 (byteAt r.kb 4),.int .u8 (byteAt r.kb 5),.int .u8 (byteAt r.kb 6),.int .u8 (byteAt r.kb 7),.int .i64 r.v,.int .i64 r.t] 137)) (.cells #[.int .u8 (byteAt r.kb 0),.int .u8 (byteAt r.kb 1),.int .u8 (byteAt r.kb 2),.int .u8 (byteAt r.kb 3),.int .u8 (byteAt r.kb 4),.int .u8 (byteAt r.kb 5),.int .u8 (byteAt r.kb 6),.int .u8 (byteAt r.kb 7),.int .i64 r.v,.int .i64 r.t,.int .i64 aj] 139)
      rw [uh hw4] at h1
      exact World.news_of_block h1
     case one =>
      intro u hu
      simp [fdCells,rcCells,recArr] at hu
      rcases hu with rfl | rfl | rfl | rfl | rfl | rfl | rfl | rfl | rfl | rfl | rfl <;> rfl
     case h63=>unfold maxLen;omega
     case bytes=>omega
     case base=>have:=(uh J4).2.2.1.size;simp;omega
     case hH=>simp
     case next =>
      intro g5 cap5 w5 hown5 hgrow5 hat5 hlt5
      have sz6:((w4.alloc (.cells #[.int .u8 (byteAt r.kb 0),.int .u8 (byteAt r.kb 1),.int .u8 (byteAt r.kb 2),.int .u8 (byteAt r.kb 3),.int .u8 (byteAt r.kb 4),.int .u8 (byteAt r.kb 5),.int .u8 (byteAt r.kb 6),.int .u8 (byteAt r.kb 7),.int .i64 r.v,.int .i64 r.t] 137)).alloc (.cells #[.int .u8 (byteAt r.kb 0),.int .u8 (byteAt r.kb 1),.int .u8 (byteAt r.kb 2),.int .u8 (byteAt r.kb 3),.int .u8 (byteAt r.kb 4),.int .u8 (byteAt r.kb 5),.int .u8 (byteAt r.kb 6),.int .u8 (byteAt r.kb 7),.int .i64 r.v,.int .i64 r.t,.int .i64 aj] 139)).heap.size=w4.heap.size+2:=by simp
      have j6:=uh J6
      have J7:Hid (WaInv w w.heap.size loc (U k) (G1 ++ [(r,aj)]) (.slice (some ⟨g5,0,none⟩) (G1.length+1) cap5) w5):=by
       obtain ⟨b1,b2,b3,b4,b5,b6,b7⟩:=j6
       have hs5:=hgrow5.size
       have ne:∀q,q=w.heap.size∨q=loc→(Value.slice pa G1.length pc).ownBlock≠some q:=fun q hq h9=>by have:=b5 q h9;omega
       refine ⟨(hgrow5.block _ b6 (fun e=>ne _ (Or.inl rfl) e.symm)).trans b1,(hgrow5.block _ b7 (fun e=>ne _ (Or.inr rfl) e.symm)).trans b2,b3.grown hgrow5 b3.size (fun q hq=>(b4.lt q hq).1),?_,fun q hq=>?_,by omega,by omega⟩
       ·rw [fdRow_append,List.length_append]
        simpa [fdRow] using hown5
       ·have eq:g5=q:=by simpa [Value.ownBlock] using hq
        subst eq
        rcases hat5 with h9 | h9
        ·exact b5 g5 h9
        ·rw [h9];omega
      have c9:w5.cell? ⟨w4.heap.size,9,none⟩=some (.int .i64 r.t):=by
       have hb:w5.heap[w4.heap.size]?=some (.cells #[.int .u8 (byteAt r.kb 0),.int .u8 (byteAt r.kb 1),.int .u8 (byteAt r.kb 2),.int .u8 (byteAt r.kb 3),.int .u8 (byteAt r.kb 4),.int .u8 (byteAt r.kb 5),.int .u8 (byteAt r.kb 6),.int .u8 (byteAt r.kb 7),.int .i64 r.v,.int .i64 r.t] 137 (0,0)):=(hgrow5.block _ (by rw [sz6];omega) (fun e=>by have:=uh hp4 _ e.symm;omega)).trans (uh hr4)
       exact cell_of hb 9
      clear hown5 hgrow5 hat5 hlt5 j6 x0 x1 x2 x3 x4 x5 x6 x7 x8 x9 sz6
      go_wp2_with fail
      refine (uh (HLt aj r.t w5)).mono ?_
      rintro e w6 ⟨rfl,rfl⟩
      go_wp2
      go_roundw
      case rel=>exact ⟨j+1,by omega,by go_num,by rw [uh HA2];rfl,by rw [uh HF2,←List.append_assoc,uh HG1];simpa using uh J7⟩
      case measure=>simp [intOf];omega
    ·have ej:j=d k:=by omega
     rw [ej,←uh HFk] at hinv
     rw [ej]
     generalize ahUp a0 s.s.rl (d k)=ak at *
     obtain ⟨b1,b2,b3,b4,b5,b6,b7⟩:=hinv
     have hck:k<(U k).length:=by omega
     have ck:wr.cell? ⟨loc,k,none⟩=some (.int .i64 (U k)[k]):=by
      rw [cell_of b2]
      unfold stA
      simp [hck]
     have fk:=frozen_of b2 k
     have J8:Hid (WaInv w w.heap.size loc (U (k+1)) (F (k+1)) u6 (wr.setCell ⟨loc,k,none⟩ (.int .i64 ak))):=by
      have hne:w.heap.size≠loc:=by omega
      refine ⟨?_,?_,b3.setCell (p:=⟨loc,k,none⟩) (by simp;omega) _,ownsRow_of_block b4 fun q hq=>Below.heap_setCell _ _ _ _ (fun e9=>(b5 q hq).2 e9),b5,by simpa [World.setCell] using b6,by simpa [World.setCell] using b7⟩
      ·rw [Below.heap_setCell _ _ _ _ (by simp;omega)];exact b1
      ·rw [heap_setCell_same b2,stA_set,uh HWk]
     clear b1 b2 b3 b4 b5 b6 b7
     go_wp2
     go_roundw
     case rel=>exact ⟨k+1,by omega,by go_num,uh J8⟩
     case measure=>simp [intOf];omega
  ·have e:k=m.length:=by omega
   subst e
   obtain ⟨b1,b2,b3,b4,b5,b6,b7⟩:=hinv
   have hs16:=stA_size hlk
   have hrg:wr.rangeAt loc 0 (List.map (Value.int IntKind.i64) (U m.length)):=fun j v hv=>by
    rw [cell_of b2,Nat.zero_add]
    unfold stA
    rw [List.getElem?_toArray]
    exact hv
   have hth:wr.there w.heap.size 0 (List.map (Value.int IntKind.i64) (U m.length)).length:=there_of b1 st0_len _ (by simp [hlk])
   have hone:∀v,v ∈ List.map (Value.int IntKind.i64) (U m.length)→v.oneCell'=true:=stCells_one _
   have hinf:Option.map (fun x=>x.size) (Tryz.prog.info? 168)=some (List.map (Value.int IntKind.i64) (U m.length)).length:=by rw [infoWmSize];simp [hlk]
   have hne:loc≠w.heap.size:=by omega
   have hund:=Tryz.underlying168
   have HI9:Hid (WaInv w w.heap.size loc (U m.length) (F m.length) u6 wr):=⟨b1,b2,b3,b4,b5,b6,b7⟩
   clear b1 b2 b3 b4 b5 b6 b7
   go_wp2_with fail
   go_region_held3 (fun w'=>w'.rangeAt loc 0 (List.map (Value.int IntKind.i64) (U m.length))∧w'.there w.heap.size 0 (List.map (Value.int IntKind.i64) (U m.length)).length) (go_keep_ranges) (fail)
   obtain ⟨b1,b2,b3,b4,b5,b6,b7⟩:=(uh HI9).below (Below.refl _ _).drew
   rw [stSet b1 st0_len hlk]
   have R1:=hide (setRow_same (cs':=stA (U m.length)) b1)
   have R2:=hide (setRow_below b3 (Nat.le_refl _) (stA (U m.length)))
   have R3:Hid ((wr.drew.setRow w.heap.size (stA (U m.length))).ownsRow w.heap.size 139 11 u6 (F m.length).length (fdRow (F m.length))):=ownsRow_of_block b4 fun q hq=>setRow_other (fun e=>(b5 q hq).1 e)
   clear b1 b2 b3 b4 b5 b6 b7 hrg hth hone HI9
   go_wp2
   refine bodyPost_ret (v:=.tuple #[u6,.agg (stA (U m.length))]) ?_ rfl ⟨u6,rfl,uh R3,uh R2⟩
   refine (results_tmp_row (p:=5) (u:=4) (ty:=168) ?_ _ _ w.heap.size _ _ _ _ ?_ (uh R1) Tryz.underlying168 rfl (by rw [hs16];exact infoWmSize)).trans ?_
   ·rfl
   ·rfl
   ·rfl
end Go.Proofs.YtpnkmnmchdabkaaGreat
namespace Go.Proofs.YtpnkmnmchdabkaaGreat
open Go.RowKit
attribute [local go_sem ↓] Go.wp_at_zero Go.wp_at_succ
attribute [local go_sem ↓] zvWm ldW_shut stW_shut
attribute [local go_sem] stW_new
set_option maxRecDepth 100000 in
set_option maxHeartbeats 2000000 in
theorem sinkMark_any {w:World} {ρ:Nat→Nat} {gb:Nat} {C:Cfg} {now:Rest} {sv:Value} {m:List Cs} {g cap:Nat} {ls:List Le} {P:List Pl} (h:GS w ρ gb C now sv m g cap ls P) (hI:Inv (m.map (·.s))) (d:Nat→Nat) (hd:∀k,d k≤32) (hdn:∀k,k<16→dnP now.dn k=(d k:Int)) (hdc:∀(k:Nat) (s:Cs),m[k]?=some s→d k≤s.s.rl.length) (k:Nat) (hk:k<16) (ep:Int) (hep:now.dn[k*2+1]?=some ep) :
 Calls Tryz.prog 48 #[.pointer (some ⟨gb,8,none⟩),.pointer (some ⟨gb,7,none⟩),.int .i64 k] w fun e w'=>e=.returned (.agg #[.int .i64 (d k),.int .i64 ep,.int .i64 (((wmUp (m.map (·.s)) d m.length)[k]?).getD 0)])∧Below w.heap.size w w':=by
 have HW:Hid (∀W,Below w.heap.size w W→Calls Tryz.prog 83 #[.pointer (some ⟨gb,8,none⟩),.pointer (some ⟨gb,7,none⟩)] W fun e w'=>∃v,e=.returned (.tuple #[v,.agg (stA (wmUp (m.map (·.s)) d m.length))])∧w'.ownsRow W.heap.size 139 11 v (fdUp (m.map (·.s)) d m.length).length (fdRow (fdUp (m.map (·.s)) d m.length))∧Below W.heap.size W w'):=fun W hb=>walk_any (h.below hb).1 hI d hd hdn hdc
 have HZ:=fun w=>hide (sinkHas_any k w)
 rw [hasS16 hk] at HZ
 have hL:=wmUp_len (m.map (·.s)) d m.length
 generalize wmUp (m.map (·.s)) d m.length=U at HW hL ⊢
 have hG:GrpL w ρ gb C (now.up ls P) sv m g cap P:=h
 have d0:w.cell? ⟨gb,8+k*2,none⟩=some (.int .i64 (d k)):=by rw [←hdn k hk];exact hG.dcell (k*2) _ (dnP_get hG.G.dnL hk)
 have d1:w.cell? ⟨gb,8+k*2+1,none⟩=some (.int .i64 ep):=hG.dcell (k*2+1) _ hep
 have hgb:=lt_of_heap hG.G.blk
 have hkU:k<U.length:=by omega
 obtain ⟨u,hU⟩:∃u,U[k]?=some u:=⟨U[k],List.getElem?_eq_getElem hkU⟩
 have hUk:(U[k]?).getD 0=u:=by rw [hU];rfl
 rw [hUk]
 have q1:¬((k:Int)<0):=by omega
 have q2:(k:Int)<16:=by omega
 clear h hI hd hdn hdc hG hep
 go_enter Tryz.func48,Tryz.ntmps48
 go_wp2_with (first | (go_at_call 81;refine (uh (HZ _)).mono ?_;rintro e w1 ⟨rfl,rfl⟩))
 have N0:=heap_alloc_new w (.cells #[.int .i64 0,.int .i64 0,.int .i64 0] 89)
 have B0:=(Below.refl w.heap.size w).alloc (Nat.le_refl _) (.cells #[.int .i64 0,.int .i64 0,.int .i64 0] 89)
 have sz0:(w.alloc (.cells #[.int .i64 0,.int .i64 0,.int .i64 0] 89)).heap.size=w.heap.size+1:=by simp
 generalize w.alloc (.cells #[.int .i64 0,.int .i64 0,.int .i64 0] 89)=W0 at *
 refine (uh HW _ B0).mono ?_
 rintro e w1 ⟨v,rfl,_,hb1⟩
 have N1:=(hb1.block _ (lt_of_heap N0)).trans N0
 have B1:=B0.trans (hb1.mono B0.size)
 have z0:=st0_len
 have s1:=lt_of_heap N1
 have N2:(w1.alloc (.cells (stA U) 168)).heap[w.heap.size]?=_:=(Below.heap_alloc _ _ _ s1).trans N1
 have N3:=heap_alloc_new w1 (.cells (stA U) 168)
 have B2:=B1.alloc B1.size (.cells (stA U) 168)
 clear hb1 N0 B0 HW N1 B1
 have c0:=(B2.cell (p:=⟨gb,8+k*2,none⟩) hgb).trans d0
 have c1:=(B2.cell (p:=⟨gb,8+k*2+1,none⟩) hgb).trans d1
 have c2:(w1.alloc (.cells (stA U) 168)).cell? ⟨w1.heap.size,k,none⟩=some (.int .i64 u):=by
  rw [cell_of N3]
  unfold stA
  simp [hU]
 go_wp2_with fail
 have HB2:=hide B2
 have HN2:=hide N2
 clear B2 N3 d0 d1
 have f0:=frozen_of (uh HN2) 0
 have f1:=frozen_of (uh HN2) 1
 have f2:=frozen_of (uh HN2) 2
 generalize w1.alloc (.cells (stA U) 168)=W at *
 have g0:=cell_of (uh HN2) 0
 have g1:=cell_of (uh HN2) 1
 have g2:=cell_of (uh HN2) 2
 simp at g0 g1 g2
 generalize hb1:w1.heap.size=b1 at *
 have hn1:w.heap.size≠gb:=by omega
 have hn2:w.heap.size≠b1:=by omega
 go_region_held3 (fun w'=>w'.cell? ⟨gb,8+k*2,none⟩=some (.int .i64 (d k))∧w'.cell? ⟨gb,8+k*2+1,none⟩=some (.int .i64 ep)∧w'.cell? ⟨b1,k,none⟩=some (.int .i64 u)) (first | go_keep | trivial) (fail)
 have M1:=heap_setCell_same (i:=0) (uh HN2) (.int .i64 (d k))
 have M2:=heap_setCell_same (i:=1) M1 (.int .i64 ep)
 have M3:=heap_setCell_same (i:=2) M2 (.int .i64 u)
 have B3:Hid (Below w.heap.size w (((W.setCell ⟨w.heap.size,0,none⟩ (.int .i64 (d k))).setCell ⟨w.heap.size,1,none⟩ (.int .i64 ep)).setCell ⟨w.heap.size,2,none⟩ (.int .i64 u)).drew):=((((uh HB2).setCell (p:=⟨w.heap.size,0,none⟩) (Nat.le_refl _) _).setCell (p:=⟨w.heap.size,1,none⟩) (Nat.le_refl _) _).setCell (p:=⟨w.heap.size,2,none⟩) (Nat.le_refl _) _).drew
 have r0:=cell_of M3 0
 have r1:=cell_of M3 1
 have r2:=cell_of M3 2
 simp at r0 r1 r2
 clear M1 M2 M3
 generalize hV:((W.setCell ⟨w.heap.size,0,none⟩ (.int .i64 (d k))).setCell ⟨w.heap.size,1,none⟩ (.int .i64 ep)).setCell ⟨w.heap.size,2,none⟩ (.int .i64 u)=V at *
 clear hV
 have x0:V.drew.cell? ⟨w.heap.size,0,none⟩=some (.int .i64 (d k)):=r0
 have x1:V.drew.cell? ⟨w.heap.size,1,none⟩=some (.int .i64 ep):=r1
 have x2:V.drew.cell? ⟨w.heap.size,2,none⟩=some (.int .i64 u):=r2
 generalize V.drew=V1 at *
 go_wp2
 refine bodyPost_ret (v:=.agg #[.int .i64 (d k),.int .i64 ep,.int .i64 u]) ?_ rfl ⟨rfl,uh B3⟩
 simp [results,Tryz.results48,go_sem,x0,x1,x2]
def dnN (dn:List Int) (k:Nat):Nat:=(dnP dn k).toNat
set_option maxRecDepth 100000 in
set_option maxHeartbeats 2000000 in
theorem gMark_any {w:World} {ρ:Nat→Nat} {gb:Nat} {C:Cfg} {now:Rest} {sv:Value} {m:List Cs} {g cap:Nat} {ls:List Le} {P:List Pl} (h:GS w ρ gb C now sv m g cap ls P) (hI:Inv (m.map (·.s))) (d:Nat→Nat) (hd:∀k,d k≤32) (hdn:∀k,k<16→dnP now.dn k=(d k:Int)) (hdc:∀(k:Nat) (s:Cs),m[k]?=some s→d k≤s.s.rl.length) (k:Nat) (hk:k<m.length) :
 Calls Tryz.prog 24 #[.pointer (some ⟨gb,0,none⟩),.int .i64 k] w fun e w'=>e=.returned (.tuple #[.agg #[.int .i64 (d k),.int .i64 (epP now.dn k),.int .i64 (((wmUp (m.map (·.s)) d m.length)[k]?).getD 0)],.int .i64 0])∧Below w.heap.size w w':=by
 have h16:m.length≤16:=GrpL.le h
 have hG:GrpL w ρ gb C (now.up ls P) sv m g cap P:=h
 have HL:Hid (Calls Tryz.prog 47 #[.pointer (some ⟨gb,7,none⟩),.int .i64 k] (w.alloc (.cells #[.int .i64 0,.int .i64 0,.int .i64 0] 89)) fun e w'=>e=.returned (.bool true)∧(w.alloc (.cells #[.int .i64 0,.int .i64 0,.int .i64 0] 89))=w'):=by
  have:=gHas_any (h.alloc (.cells #[.int .i64 0,.int .i64 0,.int .i64 0] 89)).1 (by omega) k
  rw [show decide (0≤(k:Int)∧(k:Int)<m.length)=true by simp;omega] at this
  exact this
 have HO:Hid (Calls Tryz.prog 48 #[.pointer (some ⟨gb,8,none⟩),.pointer (some ⟨gb,7,none⟩),.int .i64 k] (w.alloc (.cells #[.int .i64 0,.int .i64 0,.int .i64 0] 89)).drew fun e w'=>e=.returned (.agg #[.int .i64 (d k),.int .i64 (epP now.dn k),.int .i64 (((wmUp (m.map (·.s)) d m.length)[k]?).getD 0)])∧Below (w.alloc (.cells #[.int .i64 0,.int .i64 0,.int .i64 0] 89)).drew.heap.size (w.alloc (.cells #[.int .i64 0,.int .i64 0,.int .i64 0] 89)).drew w') :=
  sinkMark_any (((h.alloc _).1.below (Below.refl _ _).drew)).1 hI d hd hdn hdc k (by omega) _ (epP_get hG.G.dnL (by omega))
 generalize ((wmUp (m.map (·.s)) d m.length)[k]?).getD 0=u at *
 generalize epP now.dn k=ep at *
 clear h hI hd hdn hdc hG
 go_enter Tryz.func24,Tryz.ntmps24
 go_wp2_with fail
 refine (uh HL).mono ?_
 rintro e w1 ⟨rfl,rfl⟩
 go_wp2_with fail
 have N0:=heap_alloc_new w (.cells #[.int .i64 0,.int .i64 0,.int .i64 0] 89)
 have B0:=(Below.refl w.heap.size w).alloc (Nat.le_refl _) (.cells #[.int .i64 0,.int .i64 0,.int .i64 0] 89)
 generalize w.alloc (.cells #[.int .i64 0,.int .i64 0,.int .i64 0] 89)=W at *
 have ND:W.drew.heap[w.heap.size]?=some (.cells #[.int .i64 0,.int .i64 0,.int .i64 0] 89 (0,0)):=N0
 have BD:=hide B0.drew
 have HND:=hide ND
 clear N0 B0 ND
 go_region_held3 (fun _=>True) (trivial) ((go_at_call 48;refine (uh HO).mono ?_;rintro e w1 ⟨rfl,hb⟩;have N1:=(hb.block _ (lt_of_heap (uh HND))).trans (uh HND);have k0:=cell_of N1 0;have k1:=cell_of N1 1;have k2:=cell_of N1 2;simp at k0 k1 k2;have f0:=frozen_of N1 0;have f1:=frozen_of N1 1;have f2:=frozen_of N1 2))
 have M1:=heap_setCell_same (i:=0) N1 (.int .i64 (d k))
 have M2:=heap_setCell_same (i:=1) M1 (.int .i64 ep)
 have M3:=heap_setCell_same (i:=2) M2 (.int .i64 u)
 have B3:Hid (Below w.heap.size w (((w1.setCell ⟨w.heap.size,0,none⟩ (.int .i64 (d k))).setCell ⟨w.heap.size,1,none⟩ (.int .i64 ep)).setCell ⟨w.heap.size,2,none⟩ (.int .i64 u))):=((((uh BD).trans (hb.mono (uh BD).size)).setCell (p:=⟨w.heap.size,0,none⟩) (Nat.le_refl _) _).setCell (p:=⟨w.heap.size,1,none⟩) (Nat.le_refl _) _).setCell (p:=⟨w.heap.size,2,none⟩) (Nat.le_refl _) _
 have r0:=cell_of M3 0
 have r1:=cell_of M3 1
 have r2:=cell_of M3 2
 simp at r0 r1 r2
 clear M1 M2 M3 N1 k0 k1 k2 f0 f1 f2 hb
 generalize ((w1.setCell ⟨w.heap.size,0,none⟩ (.int .i64 (d k))).setCell ⟨w.heap.size,1,none⟩ (.int .i64 ep)).setCell ⟨w.heap.size,2,none⟩ (.int .i64 u)=V at *
 go_wp2
 refine bodyPost_ret (v:=.tuple #[.agg #[.int .i64 (d k),.int .i64 ep,.int .i64 u],.int .i64 0]) ?_ rfl ⟨rfl,uh B3⟩
 simp [results,Tryz.results24,go_sem,r0,r1,r2]
end Go.Proofs.YtpnkmnmchdabkaaGreat
namespace Go.Proofs.YtpnkmnmchdabkaaGreat
open Go.RowKit
theorem wmUp_stay (l:List Sh) (d:Nat→Nat) {k n:Nat} (h:k<n):∀m,(wmUp l d (n+m))[k]?=(wmUp l d n)[k]?
 | 0=>rfl
 | m+1=>by
   rw [←wmUp_stay l d h m]
   show (wmUp l d (n+m+1))[k]?=_
   rw [wmUp]
   cases l[n+m]? with
   | none=>rfl
   | some s=>exact List.getElem?_set_ne (by omega)
theorem wmUp_at {l:List Sh} {d:Nat→Nat} {k n:Nat} {s:Sh} (hk:l[k]?=some s) (h16:k<16) (h:k<n):(wmUp l d n)[k]?=some (ahUp (topOf (wmUp l d k) s.par) s.rl (d k)):=by
 obtain ⟨m,rfl⟩:=Nat.exists_eq_add_of_le (show k+1≤n by omega)
 rw [wmUp_stay l d (Nat.lt_succ_self k) m,wmUp,hk]
 exact List.getElem?_set_self (by rw [wmUp_len];exact h16)
structure En where
 shard:Nat
 place:Nat
 key:ByteArray
 value:Int
 time:Int
def held (E:List En) (k:Nat):Nat:=(E.filter (fun e=>e.shard == k)).length
def enRc (e:En):Rc:=⟨e.key.data.toList,e.value,e.time⟩
def upF (l:List Sh):Nat→Nat→Nat→Prop
 | 0,a,b=>a=b
 | f+1,a,b=>∃(c:Nat) (s:Sh),l[b]?=some s∧(c:Int) ∈ s.par∧upF l f a c
def Up (l:List Sh) (a b:Nat):Prop:=∃f,upF l f a b
theorem Up.refl (l:List Sh) (a:Nat):Up l a a:=⟨0,rfl⟩
theorem Up.step {l:List Sh} {a b c:Nat} {s:Sh} (h:Up l a b) (hc:l[c]?=some s) (hp:(b:Int) ∈ s.par):Up l a c:=by
 obtain ⟨f,h⟩:=h
 exact ⟨f+1,b,s,hc,hp,h⟩
theorem upF_adv {l l':List Sh} (ha:Adv l l'):∀(f a b:Nat),upF l f a b→upF l' f a b
 | 0,_,_,h=>h
 | f+1,a,b,⟨c,s,h1,h2,h3⟩=>by
   obtain ⟨s',g1,g2,_⟩:=ha b s h1
   exact ⟨c,s',g1,by rw [g2];exact h2,upF_adv ha f a c h3⟩
theorem Up.adv {l l':List Sh} (ha:Adv l l') {a b:Nat} (h:Up l a b):Up l' a b:=by
 obtain ⟨f,h⟩:=h
 exact ⟨f,upF_adv ha f a b h⟩
theorem upF_le {l:List Sh} (hI:Inv l):∀(f a b:Nat),upF l f a b→a≤b
 | 0,_,_,h=>by unfold upF at h;omega
 | f+1,a,b,⟨c,s,h1,h2,h3⟩=>by
   have:=upF_le hI f a c h3
   obtain ⟨q,_,e,hq,_⟩:=hI.parR b s h1 _ h2
   omega
theorem Up.le {l:List Sh} (hI:Inv l) {a b:Nat} (h:Up l a b):a≤b:=by
 obtain ⟨f,h⟩:=h
 exact upF_le hI f a b h
theorem upF_fin {l:List Sh} (hI:Inv l) (dn:Nat→Int):∀(f a b:Nat),upF l f a b→a≠b→rdy l dn b=true→fin l dn a=true
 | 0,_,_,h,hn,_=>absurd h hn
 | f+1,a,b,⟨c,s,h1,h2,h3⟩,_,hr=>by
   rw [rdy_is dn h1,List.all_eq_true] at hr
   have hf:fin l dn c=true:=by simpa using hr _ h2
   by_cases e:a=c
   ·subst e;exact hf
   ·obtain ⟨q,t,e1,hq,ht,_⟩:=hI.parR b s h1 _ h2
    have e2:q=c:=by omega
    subst e2
    rw [fin_is hI dn ht,Bool.and_eq_true] at hf
    exact upF_fin hI dn f a q h3 e hf.1
theorem Up.fin {l:List Sh} (hI:Inv l) (dn:Nat→Int) {a b:Nat} (h:Up l a b) (hn:a≠b) (hr:rdy l dn b=true):Go.Proofs.YtpnkmnmchdabkaaGreat.fin l dn a=true:=by
 obtain ⟨f,h⟩:=h
 exact upF_fin hI dn f a b h hn hr
theorem held_take (E:List En) (k i:Nat) (e:En) (h:E[i]?=some e):held (E.take (i+1)) k=held (E.take i) k+if e.shard=k then 1 else 0:=by
 have hi:=(List.getElem?_eq_some_iff.1 h).1
 have he:E[i]=e:=(List.getElem?_eq_some_iff.1 h).2
 unfold held
 rw [List.take_succ_eq_append_getElem hi,List.filter_append,List.length_append,he]
 by_cases hk:e.shard=k <;> simp [hk]
structure EntOk (l:List Sh) (E:List En):Prop where
 lt:∀e ∈ E,e.shard<l.length∧e.key.size≤maxLen
 rl:∀(k:Nat) (s:Sh),l[k]?=some s→(E.filter (fun e=>e.shard == k)).map enRc=s.rl
 pl:∀(i:Nat) (e:En),E[i]?=some e→e.place=held (E.take i) e.shard
 key:∀e ∈ E,keyB e.key=true∧-1000000≤e.value∧e.value≤1000000∧0≤e.time∧e.time≤1000000
 hom:∀e ∈ E,∀(q:Nat) (s:Sh),Home l (hashL e.key.data.toList) q s→Up l e.shard q
 ord:∀(i j:Nat) (e f:En),i<j→E[i]?=some e→E[j]?=some f→e.key=f.key→Up l e.shard f.shard
theorem entOk_nil:EntOk [⟨0,256,true,[],[]⟩] []:=by
 refine ⟨by simp,fun k s hs=>?_,by simp,by simp,by simp,by simp⟩
 match k,hs with
 | 0,hs=>simp at hs;subst hs;rfl
 | k+1,hs=>simp at hs
theorem home_put {l:List Sh} {k:Nat} {x:Sh} (hx:l[k]?=some x) (r:List Rc) {h:Int} {q:Nat} {s:Sh} (hh:Home (l.set k { x with rl:=r }) h q s):∃s',Home l h q s':=by
 have hkl:=(List.getElem?_eq_some_iff.1 hx).1
 obtain ⟨h1,h2,h3⟩:=hh
 have to_:∀{i:Nat} {t:Sh},l[i]?=some t→acc t h=true→i=q:=by
  intro i t ht ha
  by_cases e:k=i
  ·subst e
   rw [hx] at ht
   cases ht
   exact h3 k _ (List.getElem?_set_self hkl) (by rw [acc_iff] at ha ⊢;exact ha)
  ·exact h3 i t (by rw [List.getElem?_set_ne e];exact ht) ha
 by_cases e:k=q
 ·subst e
  rw [List.getElem?_set_self hkl] at h1
  injection h1 with h1
  subst h1
  exact ⟨x,hx,by rw [acc_iff] at h2 ⊢;exact h2,fun j t ht ha=>to_ ht ha⟩
 ·rw [List.getElem?_set_ne e] at h1
  exact ⟨s,h1,h2,fun j t ht ha=>to_ ht ha⟩
theorem EntOk.put {l:List Sh} {E:List En} (h:EntOk l E) {k:Nat} {x:Sh} {key:ByteArray} {v t:Int} (hx:Home l (hashL key.data.toList) k x) (hadv:Adv l (l.set k { x with rl:=x.rl ++ [⟨key.data.toList,v,t⟩] })) (hc:held E k=x.cnt) (hs:key.size≤maxLen) (hk:keyB key=true∧-1000000≤v∧v≤1000000∧0≤t∧t≤1000000) :
 EntOk (l.set k { x with rl:=x.rl ++ [⟨key.data.toList,v,t⟩] }) (E ++ [⟨k,x.cnt,key,v,t⟩]):=by
 have hkl:=(List.getElem?_eq_some_iff.1 hx.1).1
 have hmem:∀{e:En},e ∈ E ++ [⟨k,x.cnt,key,v,t⟩]→e ∈ E∨e=⟨k,x.cnt,key,v,t⟩:=fun he=>by simpa using he
 have hat:∀{i:Nat} {e:En},(E ++ [⟨k,x.cnt,key,v,t⟩])[i]?=some e→(i<E.length∧E[i]?=some e)∨(i=E.length∧e=⟨k,x.cnt,key,v,t⟩):=by
  intro i e he
  by_cases hi:i<E.length
  ·rw [List.getElem?_append_left hi] at he
   exact Or.inl ⟨hi,he⟩
  ·rw [List.getElem?_append_right (by omega)] at he
   have h0:=(List.getElem?_eq_some_iff.1 he).1
   simp at h0
   have e0:i=E.length:=by omega
   subst e0
   simp at he
   exact Or.inr ⟨rfl,he.symm⟩
 refine ⟨fun e he=>?_,fun j s hj=>?_,fun i e he=>?_,fun e he=>?_,fun e he q s hq=>?_,fun i j e f hij hi hj hef=>?_⟩
 ·rw [List.length_set]
  rcases hmem he with he | rfl
  ·exact h.lt e he
  ·exact ⟨hkl,hs⟩
 ·rw [List.filter_append,List.map_append]
  by_cases e:k=j
  ·subst e
   rw [List.getElem?_set_self hkl] at hj
   injection hj with hj
   subst hj
   rw [h.rl k x hx.1]
   simp [enRc]
  ·rw [List.getElem?_set_ne e] at hj
   rw [h.rl j s hj]
   simp [e]
 ·rcases hat he with ⟨hi,he⟩ | ⟨rfl,rfl⟩
  ·rw [List.take_append_of_le_length (by omega)]
   exact h.pl i e he
  ·rw [List.take_append_of_le_length (by omega),List.take_length]
   exact hc.symm
 ·rcases hmem he with he | rfl
  ·exact h.key e he
  ·exact hk
 ·obtain ⟨s',hs'⟩:=home_put hx.1 _ hq
  rcases hmem he with he | rfl
  ·exact (h.hom e he q s' hs').adv hadv
  ·have e0:k=q:=hs'.2.2 k x hx.1 hx.2.1
   subst e0
   exact Up.refl _ _
 ·rcases hat hj with ⟨hj1,hj⟩ | ⟨rfl,rfl⟩
  ·rcases hat hi with ⟨hi1,hi⟩ | ⟨rfl,rfl⟩
   ·exact (h.ord i j e f hij hi hj hef).adv hadv
   ·omega
  ·rcases hat hi with ⟨hi1,hi⟩ | ⟨rfl,rfl⟩
   ·have:=h.hom e (List.mem_of_getElem? hi) k x (by rw [hef];exact hx)
    exact this.adv hadv
   ·omega
def Moved (l l':List Sh):Prop:=∀(h:Int) (q:Nat) (s:Sh),0≤h→h<256→Home l' h q s→∃q' s',Home l h q' s'∧(q'=q∨(q':Int) ∈ s.par)
theorem EntOk.more {l:List Sh} {E:List En} (h:EntOk l E) (c m:List Sh) (hcl:c.length=l.length) (hat:∀(j:Nat) (t:Sh),c[j]?=some t→∃t',l[j]?=some t'∧t.cnt=t'.cnt) (hm:∀(j:Nat) (t:Sh),m[j]?=some t→t.cnt=0) (ha:Adv l c) (ha2:Adv c (c ++ m)) (hmv:Moved l (c ++ m)):EntOk (c ++ m) E:=by
 have hadv:=ha.trans ha2
 refine ⟨fun e he=>?_,fun j t ht=>?_,h.pl,h.key,fun e he q s hq=>?_,fun i j e f hij hi hj hef=>(h.ord i j e f hij hi hj hef).adv hadv⟩
 ·have:=h.lt e he
  refine ⟨?_,this.2⟩
  rw [List.length_append];omega
 ·by_cases hlt:j<c.length
  ·rw [List.getElem?_append_left hlt] at ht
   obtain ⟨t',h1,h2⟩:=hat j t ht
   obtain ⟨t2,g1,_,g3,_⟩:=ha j t' h1
   rw [ht] at g1
   injection g1 with g1
   subst g1
   rw [h.rl j t' h1]
   exact g3.eq_of_length h2.symm
  ·rw [List.getElem?_append_right (by omega)] at ht
   have h0:=hm _ t ht
   have e1:t.rl=[]:=List.length_eq_zero_iff.1 h0
   rw [e1,List.map_eq_nil_iff,List.filter_eq_nil_iff]
   intro e he
   have:=(h.lt e he).1
   simp;omega
 ·have hb:=hashL_bd e.key.data.toList
  obtain ⟨q',s',hq',e1⟩:=hmv _ q s hb.1 hb.2 hq
  have hu:=(h.hom e he q' s' hq').adv hadv
  rcases e1 with rfl | e1
  ·exact hu
  ·exact hu.step hq.1 e1
def sameK (a b:List UInt8):Bool:=decide (byteAt a 0=byteAt b 0) && (decide (byteAt a 1=byteAt b 1) && (decide (byteAt a 2=byteAt b 2) && (decide (byteAt a 3=byteAt b 3) && (decide (byteAt a 4=byteAt b 4) && (decide (byteAt a 5=byteAt b 5) && (decide (byteAt a 6=byteAt b 6) && decide (byteAt a 7=byteAt b 7)))))))
def fdKey (kb:List UInt8) (F:List (Rc × Int)) (n:Nat):List (Rc × Int):=(F.take n).filter (fun x=>sameK x.1.kb kb)
theorem fdKey_succ (kb:List UInt8) (F:List (Rc × Int)) (n:Nat) (x:Rc × Int) (h:F[n]?=some x):fdKey kb F (n+1)=fdKey kb F n ++ (if sameK x.1.kb kb=true then [x] else []):=by
 have hi:=(List.getElem?_eq_some_iff.1 h).1
 have he:F[n]=x:=(List.getElem?_eq_some_iff.1 h).2
 unfold fdKey
 rw [List.take_succ_eq_append_getElem hi,List.filter_append,he]
 by_cases hk:sameK x.1.kb kb=true <;> simp [hk]
theorem fdKey_le (kb:List UInt8) (F:List (Rc × Int)) (n:Nat):(fdKey kb F n).length≤F.length:=by
 unfold fdKey
 have h1:=List.length_filter_le (fun x=>sameK x.1.kb kb) (F.take n)
 rw [List.length_take] at h1
 omega
theorem fdRow_get (l:List (Rc × Int)) (i j:Nat) (hj:j<11) (s:Rc × Int) (h:l[i]?=some s):(fdRow l)[i*11+j]?=(fdCells s)[j]?:=by
 induction l generalizing i with
 | nil=>simp at h
 | cons x r ih =>
   cases i with
   | zero =>
     simp at h;subst h
     simp only [fdRow,Nat.zero_mul,Nat.zero_add]
     rw [List.getElem?_append_left (by simpa [fdCells,rcCells,recArr] using hj)]
   | succ i =>
     simp at h
     simp only [fdRow]
     rw [List.getElem?_append_right (by simp only [fdCells,rcCells,recArr,List.length_append,List.length_cons,List.length_nil];omega),←ih i h]
     congr 1
     simp only [fdCells,rcCells,recArr,List.length_append,List.length_cons,List.length_nil];omega
end Go.Proofs.YtpnkmnmchdabkaaGreat
