import Derived.Test.YtpnkmnmchdabkaaGreatLawU
import Derived.Test.YtpnkmnmchdabkaaGreatM18
import Derived.Test.YtpnkmnmchdabkaaGreatM26
import Derived.Test.YtpnkmnmchdabkaaGreatM23
import Derived.Test.YtpnkmnmchdabkaaGreatM25
namespace Go.Proofs.YtpnkmnmchdabkaaGreat
open Go.RowKit
attribute [local go_sem ↓] Go.wp_at_zero Go.wp_at_succ
def StX (w0:World) (K:Nat→Prop) (wb sb gb yb:Nat) (C:Cfg) (sdv:Value) (N:Nat) (now:Rest) (time:Int) (l:List Sh) (rs:List Rf) (P:List Pt) (wv:Wks) (fv:Value) (w:World):Prop :=
 ∃ρ last sv iv hv m1 m2 m3 Ls Li Lh,LawAt w ρ wb sdv last sv iv hv m1 m2 m3 Ls Li Lh∧Side w ρ sb gb yb C now time l rs P wv fv∧Fits w ρ∧(∀k,K k→ρ k=0)∧Keeps (fun k=>¬K k) w0 w∧(∀k,K k→k<w0.heap.size)∧P.length≤N∧Li.length≤64*N∧Ls.length≤4*N∧-(17*(N:Int))≤last∧last≤0∧Rel C now time l P rs wv (N:Int)∧Lh.length≤4*N
theorem St.x {w0 w:World} {K:Nat→Prop} {wb sb gb yb:Nat} {C:Cfg} {sdv:Value} {N:Nat} (h:St w0 K wb sb gb yb C sdv N w):∃now time l rs P wv fv,StX w0 K wb sb gb yb C sdv N now time l rs P wv fv w:=by
 obtain ⟨ρ,now,time,l,rs,P,wv,fv,last,sv,iv,hv,m1,m2,m3,Ls,Li,Lh,r⟩:=h
 exact ⟨now,time,l,rs,P,wv,fv,ρ,last,sv,iv,hv,m1,m2,m3,Ls,Li,Lh,r⟩
theorem StX.st {w0 w:World} {K:Nat→Prop} {wb sb gb yb:Nat} {C:Cfg} {sdv:Value} {N:Nat} {now:Rest} {time:Int} {l:List Sh} {rs:List Rf} {P:List Pt} {wv:Wks} {fv:Value} (h:StX w0 K wb sb gb yb C sdv N now time l rs P wv fv w):St w0 K wb sb gb yb C sdv N w:=by
 obtain ⟨ρ,last,sv,iv,hv,m1,m2,m3,Ls,Li,Lh,r⟩:=h
 exact ⟨ρ,now,time,l,rs,P,wv,fv,last,sv,iv,hv,m1,m2,m3,Ls,Li,Lh,r⟩
theorem StX.below {w0 w w':World} {K:Nat→Prop} {wb sb gb yb:Nat} {C:Cfg} {sdv:Value} {N:Nat} {now:Rest} {time:Int} {l:List Sh} {rs:List Rf} {P:List Pt} {wv:Wks} {fv:Value} (h:StX w0 K wb sb gb yb C sdv N now time l rs P wv fv w) (hb:Below w.heap.size w w'):StX w0 K wb sb gb yb C sdv N now time l rs P wv fv w':=by
 obtain ⟨ρ,last,sv,iv,hv,m1,m2,m3,Ls,Li,Lh,hL,hS,hf,hB0,hBb,hBs,hn1,hn2,hn3,hn4,hn5,hn6,hn7⟩:=h
 exact ⟨ρ,last,sv,iv,hv,m1,m2,m3,Ls,Li,Lh,hL.below hb,hS.keeps (Keeps.of_below hb) (fun k hk=>Or.inr (Or.inr hk)) (fun _ _=>rfl),hf.below hb.size,hB0,keepsK hBb hb,hBs,hn1,hn2,hn3,hn4,hn5,hn6,hn7⟩
theorem StX.cells {w0 w:World} {K:Nat→Prop} {wb sb gb yb:Nat} {C:Cfg} {sdv:Value} {N:Nat} {now:Rest} {time:Int} {l:List Sh} {rs:List Rf} {P:List Pt} {wv:Wks} {fv:Value} (h:StX w0 K wb sb gb yb C sdv N now time l rs P wv fv w) :
 w.cell? ⟨sb,0,none⟩=some (.pointer (some ⟨gb,0,none⟩))∧w.cell? ⟨sb,1,none⟩=some (.pointer (some ⟨yb,0,none⟩))∧sb<w.heap.size∧yb<w.heap.size∧(∃a c,w.cell? ⟨yb,7,none⟩=some (.slice a rs.length c))∧(∃a c,w.cell? ⟨yb,8,none⟩=some (.slice a wv.l.length c)):=by
 obtain ⟨ρ,last,sv,iv,hv,m1,m2,m3,Ls,Li,Lh,hL,hS,hf,hB0,hBb,hBs,hn1,hn2,hn3,hn4,hn5,hn6,hn7⟩:=h
 obtain ⟨sv2,lv,R⟩:=hS.ref
 have hrl:rs.length=l.length:=by rw [←hS.same,absR_len]
 obtain ⟨sb2,cap,rfl,_⟩:=R.shards (by rw [hrl];exact hS.inv.pos)
 obtain ⟨vb,vc,hv'⟩:=R.wk.slice (by rw [←hn6.nl];exact hn6.n1)
 refine ⟨cell_of hS.blk 0,cell_of hS.blk 1,lt_of_heap hS.blk,lt_of_heap R.blk,⟨_,_,cell_of R.blk 7⟩,⟨some ⟨vb,0,none⟩,vc,?_⟩⟩
 rw [←hv']
 exact cell_of R.blk 8
theorem ask_any {w0 w:World} {K:Nat→Prop} {wb sb gb yb:Nat} {C:Cfg} {sdv:Value} {N:Nat} (h:St w0 K wb sb gb yb C sdv N w) (o:Opn) (ho:o.k=10) :
 Calls Tryz.prog 30 #[.pointer (some ⟨wb,0,none⟩),.pointer (some ⟨sb,0,none⟩),.agg o.arr] w fun e w'=>e=.returned (.bool true)∧Below w.heap.size w w':=by
 obtain ⟨now,time,l,rs,P,wv,fv,hX⟩:=h.x
 obtain ⟨s0,s1,hsl,_⟩:=hX.cells
 obtain ⟨ρ,last,sv,iv,hv,m1,m2,m3,Ls,Li,Lh,hL,hS,hf,hB0,hBb,hBs,hn1,hn2,hn3,hn4,hn5,hn6,hn7⟩:=hX
 obtain ⟨gv,m,g,cap,Q,he,hGS,hw,hlen,hW,hmQ,hO⟩:=hn6.gs hS.grp hf hS.inv
 have hI:=hS.inv
 have hml:m.length=l.length:=by rw [←he];simp
 have hrl:rs.length=l.length:=by rw [←hS.same,absR_len]
 have h0:0<m.length:=by have:=hI.pos;omega
 have hr16:=hI.len
 have href:∀W,Below w.heap.size w W→∃sv lv,RefAt W ρ yb C time rs P wv fv sv lv:=fun W hb=>(hS.keeps (Keeps.of_below hb) (fun k hk=>Or.inr (Or.inr hk)) (fun _ _=>rfl)).ref
 by_cases hk:0≤o.a∧o.a<m.length
 ·obtain ⟨k,hka⟩:∃k:Nat,o.a=(k:Int):=⟨o.a.toNat,by omega⟩
  have hkm:k<m.length:=by omega
  have hx:rs[k]?=some (rs[k]'(by omega)):=List.getElem?_eq_getElem _
  generalize rs[k]'(by omega)=x at hx
  have hls:=hn6.ls.2 k (by omega)
  have hle:leOf rs k=⟨x.own,x.ctr,x.lep⟩:=by unfold leOf;rw [hx]
  rw [hle] at hls
  refine lease_ask o ho x.own x.ctr x.lep 0 s0 s1 hsl (fun W hb=>?_) (fun W hb=>?_)
  ·rw [hka]
   exact gLease_any (hGS.below hb).1 h0 k hkm _ hls
  ·obtain ⟨sv2,lv2,R⟩:=href W hb
   exact (refLease_any R (by omega) o.a).1 k x hka hx
 ·refine lease_ask o ho 0 0 0 5 s0 s1 hsl (fun W hb=>?_) (fun W hb=>?_)
  ·exact gLease_none (hGS.below hb).1 h0 o.a hk
  ·obtain ⟨sv2,lv2,R⟩:=href W hb
   exact (refLease_any R (by omega) o.a).2 (by rw [hrl,←hml];exact hk)
theorem holds_x {w0 w:World} {K:Nat→Prop} {wb sb gb yb:Nat} {C:Cfg} {sdv:Value} {N:Nat} {now:Rest} {time:Int} {l:List Sh} {rs:List Rf} {P:List Pt} {wv:Wks} {fv:Value} (h:StX w0 K wb sb gb yb C sdv N now time l rs P wv fv w) (hN:N≤600000) (n:Int) :
 Calls Tryz.prog 35 #[.pointer (some ⟨wb,0,none⟩),.pointer (some ⟨sb,0,none⟩),.int .i64 n] w fun e w'=>e=.returned (.bool true)∧StX w0 K wb sb gb yb C sdv (N+1) now time l rs P wv fv w':=by
 obtain ⟨ρ,last,sv,iv,hv,m1,m2,m3,Ls,Li,Lh,hL,hS,hf,hB0,hBb,hBs,hn1,hn2,hn3,hn4,hn5,hn6,hn7⟩:=h
 obtain ⟨gv,m,g,cap,Q,he,hGS,hw,hlen,hW,hmQ,hO⟩:=hn6.gs hS.grp hf hS.inv
 have hI:=hS.inv
 have hrl:rs.length=l.length:=by rw [←hS.same,absR_len]
 have hr16:=hI.len
 have hpos:=hI.pos
 have href:∀W,Below w.heap.size w W→∃sv lv,RefAt W ρ yb C time rs P wv fv sv lv:=fun W hb=>(hS.keeps (Keeps.of_below hb) (fun k hk=>Or.inr (Or.inr hk)) (fun _ _=>rfl)).ref
 have fin:∀e w',AskPostH w ρ wb sdv last sv iv m1 m2 Ls Li Lh e w'→e=.returned (.bool true)∧StX w0 K wb sb gb yb C sdv (N+1) now time l rs P wv fv w':=by
  rintro e w' ⟨rfl,ρ',hv',m3',Lh',a1,a2,a3,a4,a5⟩
  have hF:Frame w ρ w' ρ':=⟨a5.mono (fun q hq hs=>by rcases hs with hs | hs;unfold laws at hs;omega;omega),fun k hk h0=>by rw [a4 k hk];exact h0⟩
  obtain ⟨b1,b2,b3⟩:=below_frame hBb hB0 hBs hF
  exact ⟨rfl,ρ',_,sv,iv,hv',m1,m2,m3',Ls,Li,Lh',a1,hS.keeps a5 (fun q hq=>by rcases hq with hq | hq;exact Or.inr (Or.inl hq);exact Or.inr (Or.inr hq)) a4,a2,b2,b1,b3,by omega,by omega,by omega,by omega,by omega,hn6.mono (by omega),by omega⟩
 by_cases hi:0≤n∧n<now.n
 ·obtain ⟨i,hia⟩:∃i:Nat,n=(i:Int):=⟨n.toNat,by omega⟩
  have hin:i<now.n:=by omega
  have hnl:=hn6.nl
  have hy:wv.l[i]?=some (wv.l[i]'(by omega)):=List.getElem?_eq_getElem _
  generalize wv.l[i]'(by omega)=y at hy
  have hWi:=hW i y hy
  have hbs:heldOf Q i 16=byShard y.hs rs.length:=by rw [hWi.rel.held 16 (Nat.le_refl _),byShard_more hWi.hs 16 (by omega)]
  refine (holdsAre_any hL hf hS.blk (by omega) hn5 (by omega) n (byShard y.hs rs.length) 0 (by have:=byShard_le y.hs rs.length;omega) (fun W hb=>?_) (fun W hb=>?_)).mono fin
  ·rw [hia,←hbs]
   exact gHolds_any (hGS.below hb).1 i hin
  ·obtain ⟨sv2,lv2,R⟩:=href W hb
   rw [hia]
   exact refHolds_any R (by omega) (by omega) i y hy (by have:=hWi.hs.le;omega)
 ·refine (holdsAre_any hL hf hS.blk (by omega) hn5 (by omega) n [] 9 (by simp) (fun W hb=>?_) (fun W hb=>?_)).mono fin
  ·exact (gHolds_none (hGS.below hb).1 n hi).mono fun e w' q=>⟨.slice none 0 0,q.1,World.ownsRow_nil _ _ _ _,by rw [←q.2];exact Below.refl _ _⟩
  ·obtain ⟨sv2,lv2,R⟩:=href W hb
   exact (refHolds_none R (by rw [←hn6.nl];exact hn6.n1) n (by rw [←hn6.nl];exact hi)).mono fun e w' q=>⟨.slice none 0 0,q.1,World.ownsRow_nil _ _ _ _,by rw [←q.2];exact Below.refl _ _⟩
set_option maxRecDepth 100000 in
set_option maxHeartbeats 4000000 in
theorem lease_11 {w0 w:World} {K:Nat→Prop} {wb sb gb yb:Nat} {C:Cfg} {sdv:Value} {N:Nat} (h:St w0 K wb sb gb yb C sdv N w) (hN:N≤600000) (o:Opn) (ho:o.k=11) :
 Calls Tryz.prog 30 #[.pointer (some ⟨wb,0,none⟩),.pointer (some ⟨sb,0,none⟩),.agg o.arr] w fun e w'=>e=.returned (.bool true)∧St w0 K wb sb gb yb C sdv (N+1) w':=by
 have HA:Hid (∀W,Below w.heap.size w W→Calls Tryz.prog 35 #[.pointer (some ⟨wb,0,none⟩),.pointer (some ⟨sb,0,none⟩),.int .i64 o.a] W fun e w'=>e=.returned (.bool true)∧St w0 K wb sb gb yb C sdv (N+1) w'):=fun W hb=>by
  obtain ⟨now,time,l,rs,P,wv,fv,hX⟩:=(h.below hb).x
  exact (holds_x hX hN o.a).mono fun e w' q=>⟨q.1,q.2.st⟩
 clear h
 obtain ⟨kk,oa,ob,os,olost,owh⟩:=o
 simp only at ho
 subst ho
 unfold Opn.arr
 simp only at HA ⊢
 go_enter Tryz.func30,Tryz.ntmps30
 go_wp2_with (go_at_call 35;refine (uh HA _ ((Below.refl _ w).alloc (Nat.le_refl _) _)).mono ?_;rintro e w' ⟨rfl,hp⟩;have HP:=hide hp;clear hp)
 go_ret
 exact ⟨rfl,uh HP⟩
theorem lease_any {w0 w:World} {K:Nat→Prop} {wb sb gb yb:Nat} {C:Cfg} {sdv:Value} {N:Nat} (h:St w0 K wb sb gb yb C sdv N w) (hN:N≤600000) (o:Opn) (hs:o.s.size≤maxLen) (hk:o.k≤11) :
 Calls Tryz.prog 30 #[.pointer (some ⟨wb,0,none⟩),.pointer (some ⟨sb,0,none⟩),.agg o.arr] w fun e w'=>e=.returned (.bool true)∧St w0 K wb sb gb yb C sdv (N+1) w':=by
 by_cases h6:o.k=6
 ·exact lease_6 h hN o h6
 by_cases h7:o.k=7
 ·exact lease_7 h hN o h7
 by_cases h8:o.k=8
 ·exact lease_8 h hN o h8
 by_cases h9:o.k=9
 ·exact lease_9 h o h9
 by_cases h10:o.k=10
 ·exact (ask_any h o h10).mono fun e w' q=>⟨q.1,(h.below q.2).mono (by omega)⟩
 by_cases h11:o.k=11
 ·exact lease_11 h hN o h11
 exact lease_log h hN o hs (by omega)
theorem refHeld_noW {w:World} (yb n cap:Nat) (sa:Option Addr) (a b:Int) (c8:w.cell? ⟨yb,8,none⟩=some (.slice sa n cap)) (ha:¬(0≤a∧a<n)) :
 Calls Tryz.prog 42 #[.pointer (some ⟨yb,0,none⟩),.int .i64 a,.int .i64 b] w fun e w'=>e=.returned (.tuple #[.int .i64 (-1),.int .i64 9])∧w=w':=by
 have HW:=hide (refWorks_any yb n cap sa a w c8)
 have hd:decide (0≤a∧a<(n:Int))=false:=by simpa using ha
 rw [hd] at HW
 clear hd ha
 go_enter Tryz.func42,Tryz.ntmps42
 go_wp2_with (go_at_call 79;refine (uh HW).mono ?_;rintro e w1 ⟨rfl,rfl⟩)
 refine bodyPost_ret (v:=.tuple #[.int .i64 (-1),.int .i64 9]) ?_ rfl ⟨rfl,rfl⟩
 simp [results,Tryz.results42,go_sem]
theorem refHeld_noS {w:World} (yb n cap m mcap:Nat) (sa ma:Option Addr) (a b:Int) (c8:w.cell? ⟨yb,8,none⟩=some (.slice sa n cap)) (c7:w.cell? ⟨yb,7,none⟩=some (.slice ma m mcap)) (ha:0≤a∧a<n) (hb:¬(0≤b∧b<m)) :
 Calls Tryz.prog 42 #[.pointer (some ⟨yb,0,none⟩),.int .i64 a,.int .i64 b] w fun e w'=>e=.returned (.tuple #[.int .i64 (-1),.int .i64 5])∧w=w':=by
 have HW:=hide (refWorks_any yb n cap sa a w c8)
 have HT:=hide (refThere_any yb m mcap ma b w c7)
 have hd:decide (0≤a∧a<(n:Int))=true:=by simpa using ha
 have hd2:decide (0≤b∧b<(m:Int))=false:=by simpa using hb
 rw [hd] at HW
 rw [hd2] at HT
 clear hd ha hd2 hb
 go_enter Tryz.func42,Tryz.ntmps42
 go_wp2_with (first | (go_at_call 79;refine (uh HW).mono ?_;rintro e w1 ⟨rfl,rfl⟩) | (go_at_call 49;refine (uh HT).mono ?_;rintro e w1 ⟨rfl,rfl⟩))
 refine bodyPost_ret (v:=.tuple #[.int .i64 (-1),.int .i64 5]) ?_ rfl ⟨rfl,rfl⟩
 simp [results,Tryz.results42,go_sem]
def heldV (hs:List Hd) (k:Int):Value:=if ixOf hs k 0<0 then .tuple #[.int .i64 (-1),.int .i64 13] else .tuple #[.int .i64 (ixOf hs k 0),.int .i64 0]
set_option maxHeartbeats 1000000 in
theorem refHeld_any {w:World} {ρ:Nat→Nat} {yb:Nat} {C:Cfg} {time:Int} {rs:List Rf} {P:List Pt} {wv:Wks} {fv sv lv:Value} (h:RefAt w ρ yb C time rs P wv fv sv lv) (i:Nat) (y:Wk) (hy:wv.l[i]?=some y) (hl:y.hs.length≤1000) (k:Nat) (hk:k<rs.length) :
 Calls Tryz.prog 42 #[.pointer (some ⟨yb,0,none⟩),.int .i64 i,.int .i64 k] w fun e w'=>e=.returned (heldV y.hs k)∧w=w':=by
 have hi:=(List.getElem?_eq_some_iff.1 hy).1
 obtain ⟨vb,vc,hv,_⟩:=h.wk.shape hy
 have c8:w.cell? ⟨yb,8,none⟩=some wv.v:=cell_of h.blk 8
 rw [hv] at c8
 obtain ⟨sb,cap,rfl,_⟩:=h.shards (by omega)
 have c7:w.cell? ⟨yb,7,none⟩=some (.slice (some ⟨sb,0,none⟩) rs.length cap):=cell_of h.blk 7
 have HW:=hide (refWorks_any yb wv.l.length vc (some ⟨vb,0,none⟩) i w c8)
 have HT:=hide (refThere_any yb rs.length cap (some ⟨sb,0,none⟩) k w c7)
 have HH:=hide (refHold_any h i y hy hl k)
 have hd:decide (0≤(i:Int)∧(i:Int)<(wv.l.length:Int))=true:=by simp;omega
 have hd2:decide (0≤(k:Int)∧(k:Int)<(rs.length:Int))=true:=by simp;omega
 rw [hd] at HW
 rw [hd2] at HT
 unfold heldV
 generalize ixOf y.hs (k:Int) 0=ix at *
 clear h hd hd2 hv hl
 by_cases hx:ix<0
 ·rw [if_pos hx]
  go_enter Tryz.func42,Tryz.ntmps42
  go_wp2_with (first | (go_at_call 79;refine (uh HW).mono ?_;rintro e w1 ⟨rfl,rfl⟩) | (go_at_call 49;refine (uh HT).mono ?_;rintro e w1 ⟨rfl,rfl⟩) | (go_at_call 80;refine (uh HH).mono ?_;rintro e w1 ⟨rfl,rfl⟩))
  refine bodyPost_ret (v:=.tuple #[.int .i64 (-1),.int .i64 13]) ?_ rfl ⟨rfl,rfl⟩
  simp [results,Tryz.results42,go_sem]
 ·rw [if_neg hx]
  go_enter Tryz.func42,Tryz.ntmps42
  go_wp2_with (first | (go_at_call 79;refine (uh HW).mono ?_;rintro e w1 ⟨rfl,rfl⟩) | (go_at_call 49;refine (uh HT).mono ?_;rintro e w1 ⟨rfl,rfl⟩) | (go_at_call 80;refine (uh HH).mono ?_;rintro e w1 ⟨rfl,rfl⟩))
  refine bodyPost_ret (v:=.tuple #[.int .i64 ix,.int .i64 0]) ?_ rfl ⟨rfl,rfl⟩
  simp [results,Tryz.results42,go_sem]
theorem rowHd_set2 (l:List Hd) (j:Nat) (x:Hd) (h:l[j]?=some x) (v:Int):(rowHd l).set (j*4+2) (.int .i64 v)=rowHd (l.set j { x with at_:=v }):=by
 induction l generalizing j with
 | nil=>simp at h
 | cons a r ih =>
   cases j with
   | zero=>simp at h;subst h;rfl
   | succ j =>
     simp at h
     simp only [rowHd,List.set_cons_succ]
     rw [List.set_append_right _ _ (by simp only [hdCells,List.length_cons,List.length_nil];omega),←ih j h]
     congr 2
     simp only [hdCells,List.length_cons,List.length_nil];omega
theorem rowHd_set3 (l:List Hd) (j:Nat) (x:Hd) (h:l[j]?=some x) (v:Int):(rowHd l).set (j*4+3) (.int .i64 v)=rowHd (l.set j { x with bf:=v }):=by
 induction l generalizing j with
 | nil=>simp at h
 | cons a r ih =>
   cases j with
   | zero=>simp at h;subst h;rfl
   | succ j =>
     simp at h
     simp only [rowHd,List.set_cons_succ]
     rw [List.set_append_right _ _ (by simp only [hdCells,List.length_cons,List.length_nil];omega),←ih j h]
     congr 2
     simp only [hdCells,List.length_cons,List.length_nil];omega
theorem RefAt.holdSet {w:World} {ρ:Nat→Nat} {yb:Nat} {C:Cfg} {time:Int} {rs:List Rf} {P:List Pt} {wv:Wks} {fv sv lv:Value} (h:RefAt w ρ yb C time rs P wv fv sv lv) {i:Nat} {y:Wk} (hy:wv.l[i]?=some y) {nb nc:Nat} (hnv:y.hv=.slice (some ⟨nb,0,none⟩) y.hs.length nc) (q:Nat) (v:Value) (hs':List Hd) (hs:(rowHd y.hs).set q v=rowHd hs') (hl:hs'.length=y.hs.length) :
 RefAt (w.setCell ⟨nb,q,none⟩ v) ρ yb C time rs P (wv.setH i y hs' y.hv) fv sv lv:=by
 have hnT:ρ nb=205+2*i:=h.wk.hdT i y hy nb (by rw [hnv];rfl)
 have hi4:i<4:=by have:=(List.getElem?_eq_some_iff.1 hy).1;have:=h.wk.four;omega
 have ok:∀{e:TypeId} {size:Nat} {v':Value} {n:Nat} {xs:List Value} {t:Nat},w.ownsRow 0 e size v' n xs→(∀k,v'.ownBlock=some k→ρ k=t)→t≠205+2*i→(w.setCell ⟨nb,q,none⟩ v).ownsRow 0 e size v' n xs:=by
  intro e size v' n xs t ho ht h1
  refine ownsRow_of_block ho fun k hkk=>Below.heap_setCell _ _ _ _ ?_
  rintro rfl
  have:=ht _ hkk;omega
 refine ⟨?_,h.tag,ok h.row h.rowT (by omega),h.rowT,ok h.log h.logT (by omega),h.logT,fun j r hj=>ok (h.par j r hj) (h.parT j r hj) (by omega),h.parT,?_⟩
 ·rw [Below.heap_setCell _ _ _ _ (by rintro rfl;have:=h.tag;omega)];exact h.blk
 ·refine ⟨?_,h.wk.rowT,?_,?_,?_,?_,ok h.wk.fold h.wk.foldT (by omega),h.wk.foldT,by simpa [Wks.setH] using h.wk.four⟩
  ·have e:rowWks (wv.setH i y hs' y.hv).l=rowWks wv.l:=by
    show rowWks (wv.l.set i _)=_
    rw [←rowWks_setH wv.l i y { y with hs:=hs',hv:=y.hv } hy rfl]
    obtain ⟨hlt,_⟩:=List.getElem?_eq_some_iff.1 (rowWks_get wv.l i y hy).1
    have hg:=(rowWks_get wv.l i y hy).1
    apply List.ext_getElem?
    intro m
    rw [List.getElem?_set]
    split
    ·rename_i e;subst e;exact hg.symm
    ·rfl
   rw [e]
   show World.ownsRow _ 0 _ 2 wv.v (wv.l.set i _).length _
   rw [List.length_set]
   exact ok h.wk.row h.wk.rowT (by omega)
  ·intro j z hj
   rcases set_cases hj with ⟨rfl,rfl⟩ | ⟨hne,hj⟩
   ·have hr:=h.wk.hd j y hy
    rw [hnv] at hr
    have:=(World.ownsRow.stored hr q v).1
    rw [hs] at this
    show World.ownsRow _ 0 _ 4 y.hv hs'.length (rowHd hs')
    rw [hnv,hl]
    exact this
   ·exact ok (h.wk.hd j z hj) (h.wk.hdT j z hj) (by omega)
  ·intro j z hj k hk
   rcases set_cases hj with ⟨rfl,rfl⟩ | ⟨hne,hj⟩
   ·exact h.wk.hdT j y hy k hk
   ·exact h.wk.hdT j z hj k hk
  ·intro j z hj
   rcases set_cases hj with ⟨rfl,rfl⟩ | ⟨hne,hj⟩
   ·exact ok (h.wk.nt j y hy) (h.wk.ntT j y hy) (by omega)
   ·exact ok (h.wk.nt j z hj) (h.wk.ntT j z hj) (by omega)
  ·intro j z hj k hk
   rcases set_cases hj with ⟨rfl,rfl⟩ | ⟨hne,hj⟩
   ·exact h.wk.ntT j y hy k hk
   ·exact h.wk.ntT j z hj k hk
end Go.Proofs.YtpnkmnmchdabkaaGreat
namespace Go.Proofs.YtpnkmnmchdabkaaGreat
open Go.RowKit
theorem rowFo_append (l k:List Fo):rowFo (l ++ k)=rowFo l ++ rowFo k:=by
 induction l with
 | nil=>rfl
 | cons s r ih=>simp [rowFo,ih]
theorem rowFo_get (l:List Fo) (i:Nat) (s:Fo) (h:l[i]?=some s):(rowFo l)[i*2]?=some (.int .i64 s.sh)∧(rowFo l)[i*2+1]?=some (.int .i64 s.pl):=by
 induction l generalizing i with
 | nil=>simp at h
 | cons x r ih =>
   cases i with
   | zero=>simp at h;subst h;exact ⟨rfl,rfl⟩
   | succ i =>
     simp at h
     rw [show (i+1)*2=i*2+2 by omega]
     exact ih i h
theorem refArr_set10 (C:Cfg) (time:Int) (sv wv lv fv v:Value):(refArr C time sv wv lv fv).setIfInBounds 10 v=refArr C time sv wv lv v:=rfl
def nfo (k:Nat) (a:Int) (m:Nat):List Fo:=(List.range m).map (fun q:Nat=>(⟨(k:Int),a+(q:Int)⟩:Fo))
theorem nfo_succ (k:Nat) (a:Int) (m:Nat):nfo k a (m+1)=nfo k a m ++ [⟨(k:Int),a+(m:Int)⟩]:=by
 unfold nfo
 rw [List.range_succ,List.map_append]
 rfl
theorem nfo_len (k:Nat) (a:Int) (m:Nat):(nfo k a m).length=m:=by unfold nfo;simp
theorem RefAt.addFold {w w2 W:World} {ρ:Nat→Nat} {yb:Nat} {C:Cfg} {time:Int} {rs:List Rf} {P:List Pt} {wv:Wks} {fv sv lv:Value} (h:RefAt w ρ yb C time rs P wv fv sv lv) (hf:Fits w ρ) (hWk:Keeps (fun _=>False) w W) (e:Fo) (g cap:Nat)
 (hown:w2.ownsRow 0 124 2 (.slice (some ⟨g,0,none⟩) (wv.fo.length+1) cap) (wv.fo.length+1) (rowFo wv.fo ++ [.int .i64 e.sh,.int .i64 e.pl])) (hgrow:W.grownBy w2 fv.ownBlock) (hat:fv.ownBlock=some g∨g=W.heap.size) :
 RefPost w ρ yb C time rs P { wv with fo:=wv.fo ++ [e] } (.slice (some ⟨g,0,none⟩) (wv.fo.length+1) cap) (w2.setCell ⟨yb,10,none⟩ (.slice (some ⟨g,0,none⟩) (wv.fo.length+1) cap)):=by
 have hyb:=lt_of_heap h.blk
 have hWs:=hWk.size
 have hgs:=hgrow.size
 have hg2:g<w2.heap.size:=(hown.lt g rfl).2
 have hgT:g<w.heap.size→ρ g=220:=fun hlt=>by
  rcases hat with e | e
  ·exact h.wk.foldT g e
  ·omega
 have hgy:g≠yb:=by rintro rfl;have:=hgT hyb;have:=h.tag;omega
 have hkeep:Keeps (fun k=>k=yb∨fv.ownBlock=some k) w (w2.setCell ⟨yb,10,none⟩ (.slice (some ⟨g,0,none⟩) (wv.fo.length+1) cap)):=by
  refine ⟨?_,?_,?_,?_,?_⟩
  ·show w2.os=w.os;rw [hgrow.os,hWk.os]
  ·show w2.tape=w.tape;rw [hgrow.tape,hWk.tape]
  ·show w2.output=w.output;rw [hgrow.output,hWk.output]
  ·simp [World.setCell];omega
  ·intro k hk hs
   rw [Below.heap_setCell _ _ _ _ (fun e=>hs (Or.inl e)),hgrow.block k (by omega) (fun e=>hs (Or.inr e.symm)),hWk.block k hk (fun h=>h)]
 have tagOf:∀k,k<w.heap.size→(if k=g then 220 else ρ k)=ρ k:=by
  intro k hk
  split
  ·rename_i e;subst e;exact (hgT hk).symm
  ·rfl
 have ok:∀{e:TypeId} {size:Nat} {v:Value} {n:Nat} {xs:List Value} {t:Nat},w.ownsRow 0 e size v n xs→(∀k,v.ownBlock=some k→ρ k=t)→t≠200→t≠220→(w2.setCell ⟨yb,10,none⟩ (.slice (some ⟨g,0,none⟩) (wv.fo.length+1) cap)).ownsRow 0 e size v n xs∧∀k,v.ownBlock=some k→(if k=g then 220 else ρ k)=t:=by
  intro e size v n xs t ho ht h1 h2
  refine ⟨ownsRow_keeps ho hkeep fun k hkk hs=>?_,fun k hk=>by rw [tagOf k (ho.lt k hk).2];exact ht k hk⟩
  have h3:=ht k hkk
  rcases hs with rfl | hs
  ·have:=h.tag;omega
  ·have:=h.wk.foldT k hs;omega
 have four:=h.wk.four
 have lt:∀{i:Nat} {y:Wk},wv.l[i]?=some y→i<4:=fun hi=>by have:=(List.getElem?_eq_some_iff.1 hi).1;omega
 refine ⟨fun k=>if k=g then 220 else ρ k,sv,lv,⟨?_,?_,(ok h.row h.rowT (by omega) (by omega)).1,(ok h.row h.rowT (by omega) (by omega)).2,(ok h.log h.logT (by omega) (by omega)).1,(ok h.log h.logT (by omega) (by omega)).2,fun i r hi=>(ok (h.par i r hi) (h.parT i r hi) (by omega) (by omega)).1,fun i r hi=>(ok (h.par i r hi) (h.parT i r hi) (by omega) (by omega)).2,?_⟩,?_,?_,?_⟩
 ·have hb:w2.heap[yb]?=some (.cells (refArr C time sv wv.v lv fv) 80 (0,0)):=by
   rw [hgrow.block yb (by omega) (fun e=>by have:=h.wk.foldT yb e.symm;have:=h.tag;omega),hWk.block yb hyb (fun h=>h),h.blk]
  rw [heap_setCell_same hb,refArr_set10]
 ·show (if yb=g then 220 else ρ yb)=200
  rw [tagOf yb hyb];exact h.tag
 ·refine ⟨(ok h.wk.row h.wk.rowT (by omega) (by omega)).1,(ok h.wk.row h.wk.rowT (by omega) (by omega)).2,fun i y hi=>(ok (h.wk.hd i y hi) (h.wk.hdT i y hi) (by omega) (by have:=lt hi;omega)).1,fun i y hi=>(ok (h.wk.hd i y hi) (h.wk.hdT i y hi) (by omega) (by have:=lt hi;omega)).2,fun i y hi=>(ok (h.wk.nt i y hi) (h.wk.ntT i y hi) (by omega) (by have:=lt hi;omega)).1,fun i y hi=>(ok (h.wk.nt i y hi) (h.wk.ntT i y hi) (by omega) (by have:=lt hi;omega)).2,?_,?_,four⟩
  ·show World.ownsRow _ 0 _ 2 _ (wv.fo ++ [e]).length (rowFo (wv.fo ++ [e]))
   rw [rowFo_append,List.length_append]
   simp only [rowFo,List.length_cons,List.length_nil]
   refine ownsRow_of_block hown fun k hk=>Below.heap_setCell _ _ _ _ ?_
   simp [Value.ownBlock] at hk
   subst hk
   exact hgy
  ·intro k hk
   simp [Value.ownBlock] at hk
   subst hk
   show (if g=g then 220 else _)=220
   rw [if_pos rfl]
 ·refine hkeep.mono fun k _ hs=>?_
  unfold theirs
  rcases hs with rfl | hs
  ·rw [h.tag];omega
  ·rw [h.wk.foldT k hs];omega
 ·refine ⟨tagOf,fun k hk=>?_⟩
  show (if k=g then 220 else ρ k)=0∨(200≤(if k=g then 220 else ρ k)∧(if k=g then 220 else ρ k)<300)
  split
  ·right;omega
  ·left;exact hf k hk
 ·intro k hk
  show (if k=g then 220 else ρ k)=0
  have:(w2.setCell ⟨yb,10,none⟩ (.slice (some ⟨g,0,none⟩) (wv.fo.length+1) cap)).heap.size=w2.heap.size:=by simp [World.setCell]
  rw [if_neg (by omega)]
  exact hf k (by omega)
theorem ixOf_ge (hs:List Hd) (k:Int) (n:Nat):ixOf hs k n=-1∨(n:Int)≤ixOf hs k n:=by
 induction hs generalizing n with
 | nil=>left;rfl
 | cons a r ih =>
   unfold ixOf
   by_cases e:a.sh=k
   ·rw [if_pos e];right;omega
   ·rw [if_neg e]
    rcases ih (n+1) with h | h
    ·left;exact h
    ·right;omega
theorem firstOf_set {hs:List Hd} {k:Int} {x x':Hd} (n j:Nat) (hj:hs[j]?=some x) (hi:ixOf hs k n=((n+j:Nat):Int)) (hx:x'.sh=x.sh):firstOf (hs.set j x') k=some x'∧∀m:Int,m≠k→firstOf (hs.set j x') m=firstOf hs m:=by
 induction hs generalizing n j with
 | nil=>simp at hj
 | cons a r ih =>
   unfold ixOf at hi
   by_cases e:a.sh=k
   ·rw [if_pos e] at hi
    have h0:j=0:=by omega
    subst h0
    simp at hj
    subst hj
    simp only [List.set_cons_zero]
    refine ⟨?_,fun m hm=>?_⟩
    ·unfold firstOf;rw [if_pos (by rw [hx];exact e)]
    ·unfold firstOf
     rw [if_neg (by rw [hx,e];exact fun q=>hm q.symm),if_neg (by rw [e];exact fun q=>hm q.symm)]
   ·rw [if_neg e] at hi
    cases j with
    | zero=>rcases ixOf_ge r k (n+1) with h | h <;> omega
    | succ j =>
      simp at hj
      obtain ⟨h1,h2⟩:=ih (n+1) j hj (by rw [hi];omega)
      simp only [List.set_cons_succ]
      refine ⟨?_,fun m hm=>?_⟩
      ·unfold firstOf;rw [if_neg e];exact h1
      ·unfold firstOf
       split
       ·rfl
       ·exact h2 m hm
theorem HsOk.set {hs:List Hd} {n j:Nat} {x x':Hd} (h:HsOk hs n) (hj:hs[j]?=some x) (hx:x'.sh=x.sh):HsOk (hs.set j x') n:=by
 have e:(hs.set j x').map (·.sh)=hs.map (·.sh):=by
  apply List.ext_getElem?
  intro m
  rw [List.getElem?_map,List.getElem?_map,List.getElem?_set]
  split
  ·rename_i e
   subst e
   split
   ·rw [hj];simp [hx]
   ·rename_i hlt
    rw [List.getElem?_eq_none (by omega)]
  ·rfl
 refine ⟨by rw [e];exact h.nd,fun y hy=>?_⟩
 rcases List.mem_or_eq_of_mem_set hy with hy | rfl
 ·exact h.rg y hy
 ·obtain ⟨k,a,b⟩:=h.rg x (List.mem_of_getElem? hj)
  exact ⟨k,a,hx.trans b⟩
theorem WOk.hold {P:List Pl} {i:Nat} {y:Wk} {n:Nat} {B:Int} (h:WOk P i y n B) {k j:Nat} (hk:k<16) {p:Pl} (hp:P[i*16+k]?=some p) (hj:y.hs[j]?=some p.h) (hix:ixOf y.hs k 0=(j:Int)) (hsh:p.h.sh=k) (h':Hd) (e:h'.sh=k) (hv:Value):WOk (P.set (i*16+k) { p with held:=true,h:=h' }) i { y with hs:=y.hs.set j h',hv:=hv } n B:=by
 obtain ⟨a,b⟩:=firstOf_set (x':=h') 0 j hj (by rw [hix];simp) (e.trans hsh.symm)
 obtain ⟨p',hp',h1,h2⟩:=h.rel k hk
 rw [hp] at hp'
 injection hp' with hp'
 subst hp'
 exact ⟨h.rel.set k hk _ ⟨by simpa using a,h2⟩ (fun m _ hm=>⟨b m (by omega),rfl⟩),h.hs.set hj (e.trans hsh.symm),h.ns⟩
theorem WOk.drop {P:List Pl} {i:Nat} {y:Wk} {n:Nat} {B:Int} (h:WOk P i y n B) {k:Nat} (hk:k<16) {p:Pl} (hp:P[i*16+k]?=some p) (hv:Value):WOk (P.set (i*16+k) (dropped p)) i { y with hs:=lost y.hs k,hv:=hv } n B:=by
 obtain ⟨p',hp',h1,h2⟩:=h.rel k hk
 rw [hp] at hp'
 injection hp' with hp'
 subst hp'
 exact ⟨h.rel.set k hk _ ⟨by rw [firstOf_lost,if_pos rfl];rfl,by rw [h2];rfl⟩ (fun m _ hm=>⟨by rw [firstOf_lost,if_neg (by omega)],rfl⟩),h.hs.lost _,h.ns⟩
theorem Rel.hold {C:Cfg} {now:Rest} {time:Int} {l:List Sh} {Q:List Pt} {rs:List Rf} {wv:Wks} {B:Int} (h:Rel C now time l Q rs wv B) (hl:absR rs Q=l) (hI:Inv l) {P:List Pl} (hW:∀(i:Nat) y,wv.l[i]?=some y→WOk P i y rs.length B) (hO:Od B now.n C.b l now.dn now.ls P) {i:Nat} {y:Wk} (hy:wv.l[i]?=some y) {k:Nat} (hk:k<rs.length) {p:Pl} (hp:P[i*16+k]?=some p) :
 (p.held=false→ixOf y.hs k 0=-1)∧(p.held=true→∃j:Nat,y.hs[j]?=some p.h∧ixOf y.hs k 0=(j:Int)∧p.h.sh=k∧0≤p.h.at_∧p.h.at_≤dnP now.dn k∧0≤p.h.bf∧p.h.bf≤C.b∧p.h.at_+p.h.bf≤cn l k∧cn l k≤32):=by
 have hn:l.length=rs.length:=by rw [←hl,absR_len]
 have h16:rs.length≤16:=by have:=hI.len;omega
 have hin:i<now.n:=by have:=(List.getElem?_eq_some_iff.1 hy).1;have:=h.nl;omega
 obtain ⟨p',hp',hpr⟩:=(hW i y hy).rel k (by omega)
 rw [hp] at hp'
 injection hp' with hp'
 subst hp'
 refine ⟨fun hh=>(ixOf_first y.hs k 0).1 (by rw [hpr.1,hh];rfl),fun hh=>?_⟩
 have h1:=hpr.1
 rw [hh,if_pos rfl] at h1
 obtain ⟨j,h2,h3⟩:=(ixOf_first y.hs k 0).2 _ h1
 obtain ⟨x0,hx⟩:∃x,now.ls[k]?=some x:=⟨now.ls[k]'(by rw [hO.1.lsL];omega),List.getElem?_eq_getElem _⟩
 have H:=hO.1.hd i k p x0 hin (by omega) hp hh hx
 exact ⟨j,h2,by rw [h3];simp,(firstOf_in h1).2,H.a0,H.a1,H.b0,H.b1,H.ab,cn_le hI k⟩
theorem Rel.fetch {C:Cfg} {now:Rest} {time:Int} {l:List Sh} {Q:List Pt} {rs:List Rf} {wv:Wks} {B:Int} (h:Rel C now time l Q rs wv B) (hl:absR rs Q=l) (hI:Inv l) {g cap:Nat} {P:List Pl} (hw:now.wv=.slice (some ⟨g,0,none⟩) now.n cap) (hlen:P.length=now.n*16) (hW:∀(i:Nat) y,wv.l[i]?=some y→WOk P i y rs.length B) (hO:Od B now.n C.b l now.dn now.ls P) {i:Nat} {y:Wk} (hy:wv.l[i]?=some y) {k j:Nat} (hk:k<rs.length) {p:Pl} (hp:P[i*16+k]?=some p) (hh:p.held=true) (hj:y.hs[j]?=some p.h) (hix:ixOf y.hs k 0=(j:Int)) (hsh:p.h.sh=k) :
 Rel C (now.up now.ls (P.set (i*16+k) { p with held:=true,h:=⟨k,p.h.ep,p.h.at_,bufV (cn l k) p.h.at_ C.b⟩ })) time l Q rs (wv.setH i y (y.hs.set j { p.h with bf:=bufV (cn l k) p.h.at_ C.b }) y.hv) (B+1):=by
 have hn:l.length=rs.length:=by rw [←hl,absR_len]
 have h16:rs.length≤16:=by have:=hI.len;omega
 have hin:i<now.n:=by have:=(List.getElem?_eq_some_iff.1 hy).1;have:=h.nl;omega
 have hB0:0≤B:=by have:=h.t0;omega
 have e3:({ p.h with bf:=bufV (cn l k) p.h.at_ C.b }:Hd)=⟨k,p.h.ep,p.h.at_,bufV (cn l k) p.h.at_ C.b⟩:=by rw [←hsh]
 rw [e3]
 refine h.up hw (by rw [List.length_set];exact hlen) h.ls (fun _=>⟨rfl,rfl⟩) (fun q r hr=>by have:=h.bd q r hr;omega) (by unfold Wks.setH;simp) (by omega) (fun q z hz=>?_) (Od.next hB0 (hO.1.fetch hI (by have:=h.conf;omega) i k hin (by omega) p hp hh)) rfl
 unfold Wks.setH at hz
 rcases wk_set hz with ⟨rfl,rfl⟩ | ⟨hq,hz⟩
 ·exact ((hW q y hy).hold (by omega) hp hj hix hsh _ rfl _).mono (Nat.le_refl _) (by omega)
 ·have:=hW q z hz
  exact ⟨((Oth.refl i P).set k (by omega) _).wk hq this.rel,this.hs,this.ns.mono (Nat.le_refl _) (by omega)⟩
theorem Rel.fenced {C:Cfg} {now:Rest} {time:Int} {l:List Sh} {Q:List Pt} {rs:List Rf} {wv:Wks} {B:Int} (h:Rel C now time l Q rs wv B) (hl:absR rs Q=l) (hI:Inv l) {g cap:Nat} {P:List Pl} (hw:now.wv=.slice (some ⟨g,0,none⟩) now.n cap) (hlen:P.length=now.n*16) (hW:∀(i:Nat) y,wv.l[i]?=some y→WOk P i y rs.length B) (hO:Od B now.n C.b l now.dn now.ls P) {i:Nat} {y:Wk} (hy:wv.l[i]?=some y) {k:Nat} (hk:k<rs.length) {p:Pl} (hp:P[i*16+k]?=some p) (hv:Value) :
 Rel C (now.up now.ls (P.set (i*16+k) (dropped p))) time l Q rs (wv.setH i y (lost y.hs k) hv) (B+1):=by
 have hn:l.length=rs.length:=by rw [←hl,absR_len]
 have h16:rs.length≤16:=by have:=hI.len;omega
 have hin:i<now.n:=by have:=(List.getElem?_eq_some_iff.1 hy).1;have:=h.nl;omega
 have hB0:0≤B:=by have:=h.t0;omega
 refine h.up hw (by rw [List.length_set];exact hlen) h.ls (fun _=>⟨rfl,rfl⟩) (fun q r hr=>by have:=h.bd q r hr;omega) (by unfold Wks.setH;simp) (by omega) (fun q z hz=>?_) (Od.next hB0 (hO.1.drop i k (by omega) _ rfl)) rfl
 unfold Wks.setH at hz
 rcases wk_set hz with ⟨rfl,rfl⟩ | ⟨hq,hz⟩
 ·exact ((hW q y hy).drop (by omega) hp _).mono (Nat.le_refl _) (by omega)
 ·have:=hW q z hz
  exact ⟨((Oth.refl i P).set k (by omega) _).wk hq this.rel,this.hs,this.ns.mono (Nat.le_refl _) (by omega)⟩
theorem marks_fold {rs:List Rf} {k:Nat} {x:Rf} (hx:rs[k]?=some x) (d e:Int) (j:Nat):dnR (rs.set k { x with done:=d,ep:=e }) j=(if j=k then d else dnR rs j)∧epR (rs.set k { x with done:=d,ep:=e }) j=(if j=k then e else epR rs j):=by
 have hk:=(List.getElem?_eq_some_iff.1 hx).1
 unfold dnR epR
 by_cases q:j=k
 ·subst q
  rw [List.getElem?_set_self hk,if_pos rfl,if_pos rfl]
  exact ⟨rfl,rfl⟩
 ·rw [List.getElem?_set_ne (fun z=>q z.symm),if_neg q,if_neg q]
  exact ⟨rfl,rfl⟩
theorem part_fo {l:List Sh} {E:List En} (h:EntOk l E) {k a n:Nat} {s:Sh} (hs:l[k]?=some s) (hn:a+n≤s.cnt):(part E k a n).map enFo=nfo k (a:Int) n:=by
 unfold nfo
 have hlen:=part_len h hs hn
 apply List.ext_getElem?
 intro m
 rw [List.getElem?_map,List.getElem?_map]
 by_cases hm:m<n
 ·have e1:(part E k a n)[m]?=some ((part E k a n)[m]'(by omega)):=List.getElem?_eq_getElem _
  obtain ⟨_,_,h2,h3⟩:=part_at h e1
  rw [e1,List.getElem?_range hm]
  simp only [Option.map_some,Option.some.injEq]
  unfold enFo
  rw [h2,h3]
  simp
 ·rw [List.getElem?_eq_none (by omega),List.getElem?_eq_none (by simp;omega)]
  rfl
theorem Rel.folded {C:Cfg} {now:Rest} {time:Int} {l:List Sh} {Q:List Pt} {rs:List Rf} {wv:Wks} {B:Int} (h:Rel C now time l Q rs wv B) (hl:absR rs Q=l) (hI:Inv l) {g cap:Nat} {P:List Pl} (hw:now.wv=.slice (some ⟨g,0,none⟩) now.n cap) (hlen:P.length=now.n*16) (hW:∀(i:Nat) y,wv.l[i]?=some y→WOk P i y rs.length B) (hO:Od B now.n C.b l now.dn now.ls P) {i:Nat} {y:Wk} (hy:wv.l[i]?=some y) {k j:Nat} {x:Rf} (hx:rs[k]?=some x) {p:Pl} (hp:P[i*16+k]?=some p) (hh:p.held=true) (hj:y.hs[j]?=some p.h) (hix:ixOf y.hs k 0=(j:Int)) (hsh:p.h.sh=k) (hbf:¬p.h.bf=0) (n:Nat) (hn:p.h.bf=(n:Int)) (hf:folds now.dn k p.h.ep p.h.at_=true) (b:Bool) :
 Rel C ((now.fold k p.h.ep p.h.at_ p.h.bf).up now.ls (if b=true then P else heardP true i k p P)) time l Q (rs.set k { x with done:=p.h.at_+p.h.bf,ep:=p.h.ep })
  { (if b=true then wv else wv.setH i y (y.hs.set j { p.h with at_:=p.h.at_+p.h.bf,bf:=0 }) y.hv) with fo:=wv.fo ++ nfo k p.h.at_ n } (B+1):=by
 have hlr:l.length=rs.length:=by rw [←hl,absR_len]
 have h16:rs.length≤16:=by have:=hI.len;omega
 have hk:=(List.getElem?_eq_some_iff.1 hx).1
 have hin:i<now.n:=by have:=(List.getElem?_eq_some_iff.1 hy).1;have:=h.nl;omega
 have hB0:0≤B:=by have:=h.t0;omega
 obtain ⟨j',_,_,_,a0,a1,b0,b1,ab,c32⟩:=(h.hold hl hI hW hO hy hk hp).2 hh
 have hf':=hf
 unfold folds at hf'
 simp only [decide_eq_true_eq] at hf'
 obtain ⟨f1,f2⟩:=hf'
 obtain ⟨q1,q2⟩:=hO.1.fold hI i k hin (by omega) p hp hh hbf f2 f1
 have hO':=Od.next hB0 (hO.1.commit (now:=now) hI (by have:=h.conf;omega) i k hin (by omega) p hp hh hbf b)
 rw [hf] at hO'
 have edn:(now.fold k p.h.ep p.h.at_ p.h.bf).dn=dnSet now.dn k (p.h.at_+p.h.bf) p.h.ep:=by
  unfold Rest.fold
  rw [if_pos hf,q2,←f2]
 have e0:(now.fold k p.h.ep p.h.at_ p.h.bf).t=now.t∧(now.fold k p.h.ep p.h.at_ p.h.bf).n=now.n∧(now.fold k p.h.ep p.h.at_ p.h.bf).wv=now.wv:=by
  unfold Rest.fold
  rw [if_pos hf]
  exact ⟨rfl,rfl,rfl⟩
 have mf:=marks_fold hx (p.h.at_+p.h.bf) p.h.ep
 have ep:plus p.h.at_ p.h.bf=p.h.at_+p.h.bf:=plus_small (by omega) (by omega)
 obtain ⟨s,hs⟩:∃s,l[k]?=some s:=⟨l[k]'(by omega),List.getElem?_eq_getElem _⟩
 have hcs:=cn_is hs
 have hd:=dR_le h k
 have hat:p.h.at_=(dR rs k:Int):=by rw [f2,(h.dn k).1];exact hd.2.1
 have hls:LsRel now.ls (rs.set k { x with done:=p.h.at_+p.h.bf,ep:=p.h.ep }):=by
  refine ⟨h.ls.1,fun m hm=>?_⟩
  rw [leOf_set hk]
  split
  ·rename_i e
   subst e
   have:=h.ls.2 m hm
   unfold leOf at this
   rw [hx] at this
   exact this
  ·exact h.ls.2 m hm
 have hwl:(if b=true then wv else wv.setH i y (y.hs.set j { p.h with at_:=p.h.at_+p.h.bf,bf:=0 }) y.hv).l.length=wv.l.length:=by
  cases b
  ·unfold Wks.setH;simp
  ·rfl
 refine ⟨e0.1.trans h.t,by have:=h.t0;omega,by show ((now.fold k p.h.ep p.h.at_ p.h.bf).n:Int)=C.a;rw [e0.2.1];exact h.n,by show (now.fold k p.h.ep p.h.at_ p.h.bf).n=_;rw [e0.2.1];exact h.nl.trans hwl.symm,by show 1≤(now.fold k p.h.ep p.h.at_ p.h.bf).n;rw [e0.2.1];exact h.n1,fun m=>?_,hls,fun m r hr=>?_,h.val,⟨g,cap,_,by show (now.fold k p.h.ep p.h.at_ p.h.bf).wv=.slice _ (now.fold k p.h.ep p.h.at_ p.h.bf).n _;rw [e0.2.1,e0.2.2];exact hw,rfl,?_,fun q z hz=>?_,by show Od (B+1) (now.fold k p.h.ep p.h.at_ p.h.bf).n C.b l (now.fold k p.h.ep p.h.at_ p.h.bf).dn now.ls _;rw [e0.2.1];exact hO'⟩,?_⟩
 ·show dnP (now.fold k p.h.ep p.h.at_ p.h.bf).dn m=_∧epP (now.fold k p.h.ep p.h.at_ p.h.bf).dn m=_
  rw [edn,dnP_set hO.1.dnL (by omega),epP_set hO.1.dnL (by omega),(mf m).1,(mf m).2]
  split
  ·exact ⟨rfl,rfl⟩
  ·exact h.dn m
 ·by_cases e:m=k
  ·subst e
   rw [List.getElem?_set_self hk] at hr
   injection hr with hr
   subst hr
   have:=h.bd m x hx
   simp only
   omega
  ·rw [List.getElem?_set_ne (fun q=>e q.symm)] at hr
   have:=h.bd m r hr
   omega
 ·show (if b=true then P else heardP true i k p P).length=(now.fold k p.h.ep p.h.at_ p.h.bf).n*16
  rw [e0.2.1]
  cases b
  ·unfold heardP;simp [hlen]
  ·simpa using hlen
 ·rw [List.length_set]
  cases b
  ·simp only [Bool.false_eq_true,if_false] at hz ⊢
   unfold heardP
   rw [if_pos rfl,ep]
   unfold Wks.setH at hz
   rcases wk_set hz with ⟨rfl,rfl⟩ | ⟨hq,hz⟩
   ·have e3:({ p.h with at_:=p.h.at_+p.h.bf,bf:=0 }:Hd)=⟨k,p.h.ep,p.h.at_+p.h.bf,0⟩:=by rw [←hsh]
    rw [e3]
    exact ((hW q y hy).hold (by omega) hp hj hix hsh _ rfl _).mono (Nat.le_refl _) (by omega)
   ·have:=hW q z hz
    exact ⟨((Oth.refl i P).set k (by omega) _).wk hq this.rel,this.hs,this.ns.mono (Nat.le_refl _) (by omega)⟩
  ·simp only [if_true] at hz ⊢
   exact (hW q z hz).mono (Nat.le_refl _) (by omega)
 ·obtain ⟨E,F,e1,e2,e3,e4⟩:=h.ent
  refine ⟨E,F ++ part E k (dR rs k) n,e1,e2,?_,?_⟩
  ·have:=e3.fold hI e1 (h.mkOk hI) hs (n:=n) (by omega) (by omega)
   have eq:dR (rs.set k { x with done:=p.h.at_+p.h.bf,ep:=p.h.ep })=(fun q=>if q=k then dR rs k+n else dR rs q):=by
    funext q
    unfold dR
    rw [(mf q).1]
    split
    ·have:dR rs k=(dnR rs k).toNat:=rfl
     omega
    ·rfl
   rw [eq]
   exact this
  ·rw [List.map_append,e4,part_fo e1 hs (by omega),hat]
end Go.Proofs.YtpnkmnmchdabkaaGreat
namespace Go.Proofs.YtpnkmnmchdabkaaGreat
theorem take_next {L:List Int} {j:Nat} {y:Int} (h:L[j]?=some y):L.take (j+1)=L.take j ++ [y]:=by
 obtain ⟨h1,rfl⟩:=List.getElem?_eq_some_iff.1 h
 exact List.take_succ_eq_append_getElem h1
theorem ins_two {x y:Int} (h:x<y):∀(L:List Int),(∀z ∈ L,z<x)→ins x (L ++ [y])=L ++ [x] ++ [y]
 | [],_=>by simp [ins,h]
 | a :: r,h0=>by
   have h1:=h0 a (by simp)
   rw [List.cons_append,ins,if_neg (by omega),if_neg (by omega),ins_two h r (fun z hz=>h0 z (by simp [hz]))]
   rfl
end Go.Proofs.YtpnkmnmchdabkaaGreat
