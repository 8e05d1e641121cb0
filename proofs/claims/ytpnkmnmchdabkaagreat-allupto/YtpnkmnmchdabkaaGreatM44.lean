import Derived.Test.YtpnkmnmchdabkaaGreatM35
import Derived.Test.YtpnkmnmchdabkaaGreatRefRead
import Derived.Test.YtpnkmnmchdabkaaGreatM22
import Derived.Test.YtpnkmnmchdabkaaGreatRefApp
import Derived.Test.YtpnkmnmchdabkaaGreatM08
import Derived.BigQuiet
namespace Go.Proofs.YtpnkmnmchdabkaaGreat
open Go.RowKit
theorem Rel.marks {C:Cfg} {now:Rest} {time:Int} {l:List Sh} {Q:List Pt} {rs:List Rf} {wv:Wks} {B:Int} (h:Rel C now time l Q rs wv B) (hI:Inv l) :
 (∀k,dR rs k≤32)∧(∀k,dnP now.dn k=(dR rs k:Int))∧(∀(k:Nat) (s:Sh),l[k]?=some s→dR rs k≤s.rl.length)∧∀(k:Nat) (r:Rf),rs[k]?=some r→r.done=(dR rs k:Int)∧epP now.dn k=r.ep:=by
 refine ⟨fun k=>Nat.le_trans (dR_le h k).2.2 (cn_le hI k),fun k=>by rw [(h.dn k).1];exact (dR_le h k).2.1,fun k s hs=>?_,fun k r hr=>⟨?_,?_⟩⟩
 ·have:=(dR_le h k).2.2
  rw [cn_is hs] at this
  exact this
 ·rw [←(dR_le h k).2.1]
  unfold dnR
  rw [hr]
  rfl
 ·rw [(h.dn k).2]
  unfold epR
  rw [hr]
  rfl
theorem ent_at {l:List Sh} {E:List En} (h:EntOk l E) {e:En} (he:e ∈ E):(E.filter (fun x=>x.shard == e.shard))[e.place]?=some e:=by
 obtain ⟨j,hj⟩:=List.getElem?_of_mem he
 have hf:=filter_at E (fun x=>x.shard == e.shard) j e hj (by simp)
 have hp:=h.pl j e hj
 unfold held at hp
 rw [←hp] at hf
 exact hf
theorem ent_uniq {l:List Sh} {E:List En} (h:EntOk l E) {e f:En} (he:e ∈ E) (hf:f ∈ E) (h1:e.shard=f.shard) (h2:e.place=f.place):e=f:=by
 have a:=ent_at h he
 have b:=ent_at h hf
 rw [h1,h2,b] at a
 injection a with a
 exact a.symm
theorem ofShard_map (E:List En) (k:Nat):ofShard (E.map enPt) k=(E.filter (fun e=>e.shard == k)).map enPt:=by
 unfold ofShard
 rw [List.filter_map]
 rfl
theorem ent_cnt {l:List Sh} {E:List En} (h:EntOk l E) (hI:Inv l) {e:En} (he:e ∈ E):e.shard<16∧e.place<32:=by
 have h1:=(h.lt e he).1
 have hs:l[e.shard]?=some l[e.shard]:=List.getElem?_eq_getElem h1
 have h2:=h.rl e.shard _ hs
 have h3:=(List.getElem?_eq_some_iff.1 (ent_at h he)).1
 have h4:=congrArg List.length h2
 rw [List.length_map] at h4
 have h5:=hI.cnt e.shard _ hs
 have h6:=hI.len
 have h7:(l[e.shard]'h1).cnt=(l[e.shard]'h1).rl.length:=rfl
 omega
theorem pair_mem {α:Type} {R S:α→α→Prop} {T:α→Prop}:∀{l:List α},(∀a ∈ l,T a)→(∀a b,T a→T b→R a b→S a b)→l.Pairwise R→l.Pairwise S
 | [],_,_,_=>List.Pairwise.nil
 | x :: r,hT,h,hp=>by
   rw [List.pairwise_cons] at hp ⊢
   exact ⟨fun b hb=>h x b (hT x (List.mem_cons_self ..)) (hT b (List.mem_cons_of_mem _ hb)) (hp.1 b hb),pair_mem (fun a ha=>hT a (List.mem_cons_of_mem _ ha)) h hp.2⟩
theorem Rel.folds {C:Cfg} {now:Rest} {time:Int} {l:List Sh} {Q:List Pt} {rs:List Rf} {wv:Wks} {B:Int} (h:Rel C now time l Q rs wv B) (hl:absR rs Q=l) (hI:Inv l) :
 ∃E F,EntOk l E∧FoOk E (dR rs) F∧F.map enFo=wv.fo∧F.length≤512∧∀e ∈ F,(ofShard Q e.shard)[e.place]?=some (enPt e)∧(0≤e.time∧e.time≤1000000)∧(-1000000≤e.value∧e.value≤1000000)∧e.shard<rs.length∧e.place≤1000:=by
 obtain ⟨E,F,e1,e2,e3,e4⟩:=h.ent
 have hrl:l.length=rs.length:=by rw [←hl,absR_len]
 refine ⟨E,F,e1,e3,e4,?_,fun e he=>?_⟩
 ·have hn:(F.map (fun e=>((e.shard*32+e.place:Nat):Int))).Nodup:=by
   unfold List.Nodup
   rw [List.pairwise_map]
   refine pair_mem (T:=fun e=>e ∈ E) (fun a ha=>((e3.mem a).1 ha).1) (fun a b ha hb hR=>?_) e3.ord
   intro hc
   have c1:=ent_cnt e1 hI ha
   have c2:=ent_cnt e1 hI hb
   have:a=b:=ent_uniq e1 ha hb (by omega) (by omega)
   subst this
   exact lx_asym _ _ (hR rfl) (hR rfl)
  have:=nodup_le 512 _ hn (fun x hx=>by
   obtain ⟨e,he,rfl⟩:=List.mem_map.1 hx
   have:=ent_cnt e1 hI ((e3.mem e).1 he).1
   omega)
  simpa using this
 ·have hE:=((e3.mem e).1 he).1
  have hk:=e1.key e hE
  have hc:=ent_cnt e1 hI hE
  have hs:=(e1.lt e hE).1
  refine ⟨?_,⟨hk.2.2.2.1,hk.2.2.2.2⟩,⟨hk.2.1,hk.2.2.1⟩,by omega,by omega⟩
  rw [←e2,ofShard_map,List.getElem?_map,ent_at e1 hE]
  rfl
end Go.Proofs.YtpnkmnmchdabkaaGreat
namespace Go.Proofs.YtpnkmnmchdabkaaGreat
open Go.RowKit
attribute [local go_sem ↓] Go.wp_at_zero Go.wp_at_succ
theorem refFetch_err {w:World} (yb:Nat) (a b c:Int) (hc:(c != 0)=true) (H:Calls Tryz.prog 42 #[.pointer (some ⟨yb,0,none⟩),.int .i64 a,.int .i64 b] w fun e w'=>e=.returned (.tuple #[.int .i64 (-1),.int .i64 c])∧w=w') :
 Calls Tryz.prog 21 #[.pointer (some ⟨yb,0,none⟩),.int .i64 a,.int .i64 b] w fun e w'=>e=.returned (.tuple #[.int .i64 0,.int .i64 c])∧w=w':=by
 have H:=hide H
 go_enter Tryz.func21,Tryz.ntmps21
 go_wp2_with (go_at_call 42;refine (uh H).mono ?_;rintro e w1 ⟨rfl,rfl⟩)
 refine bodyPost_ret (v:=.tuple #[.int .i64 0,.int .i64 c]) ?_ rfl ⟨rfl,rfl⟩
 simp [results,Tryz.results21,go_sem]
theorem refCommit_err {w:World} (yb:Nat) (a b c:Int) (l:Bool) (hc:(c != 0)=true) (H:Calls Tryz.prog 42 #[.pointer (some ⟨yb,0,none⟩),.int .i64 a,.int .i64 b] w fun e w'=>e=.returned (.tuple #[.int .i64 (-1),.int .i64 c])∧w=w') :
 Calls Tryz.prog 23 #[.pointer (some ⟨yb,0,none⟩),.int .i64 a,.int .i64 b,.bool l] w fun e w'=>e=.returned (.int .i64 c)∧w=w':=by
 have H:=hide H
 go_enter Tryz.func23,Tryz.ntmps23
 go_wp2_with (go_at_call 42;refine (uh H).mono ?_;rintro e w1 ⟨rfl,rfl⟩)
 go_ret
 exact ⟨rfl,rfl⟩
set_option maxRecDepth 100000 in
set_option maxHeartbeats 2000000 in
theorem refFetch_any {w:World} {ρ:Nat→Nat} {yb:Nat} {C:Cfg} {time:Int} {rs:List Rf} {P:List Pt} {wv:Wks} {fv sv lv:Value} (h:RefAt w ρ yb C time rs P wv fv sv lv) (hf:Fits w ρ) (hP:P.length≤1000000) (i:Nat) (y:Wk) (hy:wv.l[i]?=some y) (hl:y.hs.length≤1000) (k:Nat) (hk:k<rs.length) (j:Nat) (x:Hd) (hj:y.hs[j]?=some x) (hix:ixOf y.hs k 0=(j:Int)) (n:Nat) (hn:(n:Int)=if C.b<(ofShard P k).length - x.at_ then C.b else (ofShard P k).length - x.at_) (hat:0≤x.at_∧x.at_≤(ofShard P k).length) (hb:1≤C.b∧C.b≤8) :
 Calls Tryz.prog 21 #[.pointer (some ⟨yb,0,none⟩),.int .i64 i,.int .i64 k] w fun e w'=>e=.returned (.tuple #[.int .i64 n,.int .i64 0])∧RefPost w ρ yb C time rs P (wv.setH i y (y.hs.set j { x with bf:=n }) y.hv) fv w':=by
 have hi:=(List.getElem?_eq_some_iff.1 hy).1
 have hjl:=(List.getElem?_eq_some_iff.1 hj).1
 have hyb:=lt_of_heap h.blk
 obtain ⟨vb,vc,hv,hvT,hvb,_,ch,_⟩:=h.wk.shape hy
 have c8:w.cell? ⟨yb,8,none⟩=some wv.v:=cell_of h.blk 8
 have c2:w.cell? ⟨yb,2,none⟩=some (.int .i64 C.b):=cell_of h.blk 2
 rw [hv] at c8
 obtain ⟨ha,hc,hhv,hcc⟩:=h.holdsAt hy
 obtain ⟨hb',rfl,hbl,hbT,hfz,hcell⟩:=hcc j x hj
 rw [hhv] at ch
 have z2:w.cell? ⟨hb',j*4+2,none⟩=some (.int .i64 x.at_):=hcell 2 (by omega)
 have z3:w.cell? ⟨hb',j*4+3,none⟩=some (.int .i64 x.bf):=hcell 3 (by omega)
 have HH:Hid (Calls Tryz.prog 42 #[.pointer (some ⟨yb,0,none⟩),.int .i64 i,.int .i64 k] w fun e w'=>e=.returned (.tuple #[.int .i64 j,.int .i64 0])∧w=w'):=by
  have:=refHeld_any h i y hy hl k hk
  unfold heldV at this
  rw [hix,if_neg (by omega)] at this
  exact this
 have HRec:=hide (records_any h hP k)
 have hle:(ofShard P k).length≤1000000:=by have:=ofShard_le P k;omega
 have HEnd:Hid (∀W,Below w.heap.size w W→RefPost w ρ yb C time rs P (wv.setH i y (y.hs.set j { x with bf:=n }) y.hv) fv (W.setCell ⟨hb',j*4+3,none⟩ (.int .i64 n))):=fun W hW=>by
  have R:=h.keeps (Keeps.of_below hW) (fun _ hk=>Or.inr hk) (ρ':=ρ) (fun _ _=>rfl)
  have R2:=R.holdSet hy hhv (j*4+3) (.int .i64 n) (y.hs.set j { x with bf:=n }) (rowHd_set3 y.hs j x hj n) (by simp)
  refine ⟨ρ,sv,lv,R2,?_,ExtR.refl hf,fun q hq=>hf q (by have:=hW.size;simp [World.setCell] at hq;omega)⟩
  refine ⟨hW.os,hW.tape,hW.output,by have:=hW.size;simp [World.setCell];omega,fun q hq hs=>?_⟩
  rw [Below.heap_setCell _ _ _ _ (by rintro rfl;exact hs (by unfold theirs;have:=(List.getElem?_eq_some_iff.1 hy).1;have:=h.wk.four;omega))]
  exact hW.block q hq
 have HN:=hide hn
 clear h hf hv hhv hcc hcell hy hj hix hl hn
 generalize (ofShard P k).length=cnt at *
 go_enter Tryz.func21,Tryz.ntmps21
 go_wp2_with fail
 refine (uh HH).mono ?_
 rintro e w1 ⟨rfl,rfl⟩
 go_wp2_with fail
 refine (uh HRec).mono ?_
 rintro e w1 ⟨a,cp,rfl,_,hb1⟩
 have c8:=(hb1.cell (p:=⟨yb,8,none⟩) hyb).trans c8
 have c2:=(hb1.cell (p:=⟨yb,2,none⟩) hyb).trans c2
 have ch:=(hb1.cell (p:=⟨vb,i*2,none⟩) hvb).trans ch
 have z2:=(hb1.cell (p:=⟨hb',j*4+2,none⟩) hbl).trans z2
 have z3:=(hb1.cell (p:=⟨hb',j*4+3,none⟩) hbl).trans z3
 have hfz:=(hb1.frozen (p:=⟨hb',j*4+3,none⟩) hbl).trans (hfz (j*4+3))
 have HP1:=hide (uh HEnd w1 hb1)
 clear hb1 HRec HH HEnd
 go_wp2
 go_loop [11] (fun q=>∃m:Nat,m≤n∧q=.int .i64 m) (fun q=>n - (intOf q).toNat)
 case atStart=>exact ⟨0,Nat.zero_le _,rfl⟩
 case round =>
  obtain ⟨m,hm,rfl⟩:=hrel
  have hnb:n≤8:=by have:=uh HN;split at this <;> omega
  by_cases hlt:m<n
  ·have l1:(m:Int)<C.b:=by have:=uh HN;split at this <;> omega
   have l2:x.at_+(m:Int)<(cnt:Int):=by have:=uh HN;split at this <;> omega
   go_wp2
   go_round
   case rel=>exact ⟨m+1,by omega,by go_num⟩
   case measure=>simp [intOf];omega
  ·have e:m=n:=by omega
   subst e
   by_cases l1:(m:Int)<C.b
   all_goals
    first
     | have l2:¬x.at_+(m:Int)<(cnt:Int):=by have:=uh HN;split at this <;> omega
     | skip
    go_wp2
    refine bodyPost_ret (v:=.tuple #[.int .i64 m,.int .i64 0]) ?_ rfl ⟨rfl,uh HP1⟩
    simp [results,Tryz.results21,go_sem]
structure ComAt (w:World) (ρ:Nat→Nat) (yb vb sb hb:Nat) (wv:Wks) (rs:List Rf) (i k j:Nat) (y:Wk) (r:Rf) (x:Hd) (vc sc hc:Nat):Prop where
 c7:w.cell? ⟨yb,7,none⟩=some (.slice (some ⟨sb,0,none⟩) rs.length sc)
 c8:w.cell? ⟨yb,8,none⟩=some (.slice (some ⟨vb,0,none⟩) wv.l.length vc)
 ch:w.cell? ⟨vb,i*2,none⟩=some (.slice (some ⟨hb,0,none⟩) y.hs.length hc)
 z0:w.cell? ⟨hb,j*4,none⟩=some (.int .i64 x.sh)
 z1:w.cell? ⟨hb,j*4+1,none⟩=some (.int .i64 x.ep)
 z2:w.cell? ⟨hb,j*4+2,none⟩=some (.int .i64 x.at_)
 z3:w.cell? ⟨hb,j*4+3,none⟩=some (.int .i64 x.bf)
 e7:w.cell? ⟨sb,k*9+7,none⟩=some (.int .i64 r.done)
 e8:w.cell? ⟨sb,k*9+8,none⟩=some (.int .i64 r.ep)
 hyb:yb<w.heap.size
 hvb:vb<w.heap.size
 hsb:sb<w.heap.size
 hhb:hb<w.heap.size
 f7:∀q,w.frozen? ⟨sb,q,none⟩=false
 fh:∀q,w.frozen? ⟨hb,q,none⟩=false
 fy:∀q,w.frozen? ⟨yb,q,none⟩=false
 tv:ρ vb=204
 ts:ρ sb=201
 th:ρ hb=205+2*i
 ty:ρ yb=200
theorem RefAt.comAt {w:World} {ρ:Nat→Nat} {yb:Nat} {C:Cfg} {time:Int} {rs:List Rf} {P:List Pt} {wv:Wks} {fv sv lv:Value} (h:RefAt w ρ yb C time rs P wv fv sv lv) {i:Nat} {y:Wk} (hy:wv.l[i]?=some y) {k:Nat} {r:Rf} (hr:rs[k]?=some r) {j:Nat} {x:Hd} (hj:y.hs[j]?=some x) :
 ∃vb sb hb vc sc hc,ComAt w ρ yb vb sb hb wv rs i k j y r x vc sc hc∧sv=.slice (some ⟨sb,0,none⟩) rs.length sc∧y.hv=.slice (some ⟨hb,0,none⟩) y.hs.length hc∧wv.v=.slice (some ⟨vb,0,none⟩) wv.l.length vc:=by
 have hk:=(List.getElem?_eq_some_iff.1 hr).1
 have hyb:=lt_of_heap h.blk
 obtain ⟨vb,vc,hv,hvT,hvb,_,ch,_⟩:=h.wk.shape hy
 have c8:w.cell? ⟨yb,8,none⟩=some wv.v:=cell_of h.blk 8
 rw [hv] at c8
 obtain ⟨ha,hc,hhv,hcc⟩:=h.holdsAt hy
 obtain ⟨hb,rfl,hbl,hbT,hfz,hcell⟩:=hcc j x hj
 rw [hhv] at ch
 obtain ⟨sb,cap,rfl,hsb,hsbT,hsf,hsc⟩:=h.shards (by omega)
 have c7:w.cell? ⟨yb,7,none⟩=some (.slice (some ⟨sb,0,none⟩) rs.length cap):=cell_of h.blk 7
 exact ⟨vb,sb,hb,vc,cap,hc,⟨c7,c8,ch,hcell 0 (by omega),hcell 1 (by omega),hcell 2 (by omega),hcell 3 (by omega),hsc k r hr 7 (by omega),hsc k r hr 8 (by omega),hyb,hvb,hsb,hbl,hsf,hfz,fun q=>frozen_of h.blk q,hvT,hsbT,hbT,h.tag⟩,rfl,hhv,hv⟩
theorem ComAt.below {w W:World} {ρ:Nat→Nat} {yb vb sb hb:Nat} {wv:Wks} {rs:List Rf} {i k j:Nat} {y:Wk} {r:Rf} {x:Hd} {vc sc hc:Nat} (h:ComAt w ρ yb vb sb hb wv rs i k j y r x vc sc hc) (hb':Below w.heap.size w W):ComAt W ρ yb vb sb hb wv rs i k j y r x vc sc hc :=
 ⟨(hb'.cell (p:=⟨yb,7,none⟩) h.hyb).trans h.c7,(hb'.cell (p:=⟨yb,8,none⟩) h.hyb).trans h.c8,(hb'.cell (p:=⟨vb,i*2,none⟩) h.hvb).trans h.ch,(hb'.cell (p:=⟨hb,j*4,none⟩) h.hhb).trans h.z0,(hb'.cell (p:=⟨hb,j*4+1,none⟩) h.hhb).trans h.z1,(hb'.cell (p:=⟨hb,j*4+2,none⟩) h.hhb).trans h.z2,(hb'.cell (p:=⟨hb,j*4+3,none⟩) h.hhb).trans h.z3,(hb'.cell (p:=⟨sb,k*9+7,none⟩) h.hsb).trans h.e7,(hb'.cell (p:=⟨sb,k*9+8,none⟩) h.hsb).trans h.e8,Nat.lt_of_lt_of_le h.hyb hb'.size,Nat.lt_of_lt_of_le h.hvb hb'.size,Nat.lt_of_lt_of_le h.hsb hb'.size,Nat.lt_of_lt_of_le h.hhb hb'.size,fun q=>(hb'.frozen (p:=⟨sb,q,none⟩) h.hsb).trans (h.f7 q),fun q=>(hb'.frozen (p:=⟨hb,q,none⟩) h.hhb).trans (h.fh q),fun q=>(hb'.frozen (p:=⟨yb,q,none⟩) h.hyb).trans (h.fy q),h.tv,h.ts,h.th,h.ty⟩
theorem refHeld_at {w:World} {ρ:Nat→Nat} {yb:Nat} {C:Cfg} {time:Int} {rs:List Rf} {P:List Pt} {wv:Wks} {fv sv lv:Value} (h:RefAt w ρ yb C time rs P wv fv sv lv) (i:Nat) (y:Wk) (hy:wv.l[i]?=some y) (hl:y.hs.length≤1000) (k:Nat) (hk:k<rs.length) (j:Nat) (hix:ixOf y.hs k 0=(j:Int)) :
 Calls Tryz.prog 42 #[.pointer (some ⟨yb,0,none⟩),.int .i64 i,.int .i64 k] w fun e w'=>e=.returned (.tuple #[.int .i64 j,.int .i64 0])∧w=w':=by
 have:=refHeld_any h i y hy hl k hk
 unfold heldV at this
 rw [hix,if_neg (by omega)] at this
 exact this
set_option maxRecDepth 100000 in
set_option maxHeartbeats 2000000 in
theorem refCommit_empty {w:World} {ρ:Nat→Nat} {yb:Nat} {C:Cfg} {time:Int} {rs:List Rf} {P:List Pt} {wv:Wks} {fv sv lv:Value} (h:RefAt w ρ yb C time rs P wv fv sv lv) (hf:Fits w ρ) (i:Nat) (y:Wk) (hy:wv.l[i]?=some y) (hl:y.hs.length≤1000) (k:Nat) (r:Rf) (hr:rs[k]?=some r) (j:Nat) (x:Hd) (hj:y.hs[j]?=some x) (hix:ixOf y.hs k 0=(j:Int)) (hbf:x.bf=0) (b:Bool) :
 Calls Tryz.prog 23 #[.pointer (some ⟨yb,0,none⟩),.int .i64 i,.int .i64 k,.bool b] w fun e w'=>e=.returned (.int .i64 14)∧RefPost w ρ yb C time rs P wv fv w':=by
 have HH:=hide (refHeld_at h i y hy hl k (List.getElem?_eq_some_iff.1 hr).1 j hix)
 obtain ⟨vb,sb,hb,vc,sc,hc,K,_⟩:=h.comAt hy hr hj
 obtain ⟨c7,c8,ch,z0,z1,z2,z3,e7,e8,hyb,hvb,hsb,hhb,_⟩:=K
 have hil:=(List.getElem?_eq_some_iff.1 hy).1
 have hkl:=(List.getElem?_eq_some_iff.1 hr).1
 have hjl:=(List.getElem?_eq_some_iff.1 hj).1
 have HE:Hid (∀o,RefPost w ρ yb C time rs P wv fv (w.alloc o)):=fun o=>RefPost.below h hf ((Below.refl _ _).alloc (Nat.le_refl _) _)
 rw [hbf] at z3
 clear h hf hy hr hj hix hbf
 go_enter Tryz.func23,Tryz.ntmps23
 go_wp2_with fail
 refine (uh HH).mono ?_
 rintro e w1 ⟨rfl,rfl⟩
 go_wp2
 go_ret
 exact ⟨rfl,uh HE _⟩
set_option maxRecDepth 100000 in
set_option maxHeartbeats 4000000 in
theorem refCommit_fenced {w:World} {ρ:Nat→Nat} {yb:Nat} {C:Cfg} {time:Int} {rs:List Rf} {P:List Pt} {wv:Wks} {fv sv lv:Value} (h:RefAt w ρ yb C time rs P wv fv sv lv) (hf:Fits w ρ) (i:Nat) (y:Wk) (hy:wv.l[i]?=some y) (hl:y.hs.length≤1000) (k:Nat) (r:Rf) (hr:rs[k]?=some r) (j:Nat) (x:Hd) (hj:y.hs[j]?=some x) (hix:ixOf y.hs k 0=(j:Int)) (hbf:¬x.bf=0) (hfe:x.ep<r.ep∨x.at_≠r.done) (b:Bool) :
 Calls Tryz.prog 23 #[.pointer (some ⟨yb,0,none⟩),.int .i64 i,.int .i64 k,.bool b] w fun e w'=>e=.returned (.int .i64 15)∧∃hv',RefPost w ρ yb C time rs P (if b=true then wv else wv.setH i y (lost y.hs k) hv') fv w':=by
 have HH:=hide (refHeld_at h i y hy hl k (List.getElem?_eq_some_iff.1 hr).1 j hix)
 obtain ⟨vb,sb,hb,vc,sc,hc,K,_⟩:=h.comAt hy hr hj
 obtain ⟨c7,c8,ch,z0,z1,z2,z3,e7,e8,hyb,hvb,hsb,hhb,_⟩:=K
 have hil:=(List.getElem?_eq_some_iff.1 hy).1
 have hkl:=(List.getElem?_eq_some_iff.1 hr).1
 have hjl:=(List.getElem?_eq_some_iff.1 hj).1
 have HE:Hid (∀W,Below w.heap.size w W→RefPost w ρ yb C time rs P wv fv W):=fun W hW=>RefPost.below h hf hW
 have HLo:Hid (∀W,Below w.heap.size w W→Calls Tryz.prog 46 #[.pointer (some ⟨yb,0,none⟩),.int .i64 i,.int .i64 k] W fun e w'=>e=.returned (.tuple #[])∧∃hv',RefPost w ρ yb C time rs P (wv.setH i y (lost y.hs k) hv') fv w'):=fun W hW=>by
  have R:=h.keeps (Keeps.of_below hW) (fun _ hk=>Or.inr hk) (ρ':=ρ) (fun _ _=>rfl)
  refine (refLoses_any R (fun q hq=>hf q (by have:=hW.size;omega)) i y hy hl k).mono ?_
  rintro e w' ⟨rfl,hv',hp⟩
  exact ⟨rfl,hv',RefPost.trans ((Keeps.of_below hW).mono (fun q hq hs=>by omega)) (ExtR.refl hf) hp⟩
 clear h hf hy hr hj hix
 go_enter Tryz.func23,Tryz.ntmps23
 go_wp2_with fail
 refine (uh HH).mono ?_
 rintro e w1 ⟨rfl,rfl⟩
 go_wp2
 have hN:=heap_alloc_new w (.cells #[.int .i64 x.sh,.int .i64 x.ep,.int .i64 x.at_,.int .i64 x.bf] 102)
 have HBV:Hid (Below w.heap.size w (w.alloc (.cells #[.int .i64 x.sh,.int .i64 x.ep,.int .i64 x.at_,.int .i64 x.bf] 102))):=(Below.refl _ w).alloc (Nat.le_refl _) _
 generalize w.alloc (.cells #[.int .i64 x.sh,.int .i64 x.ep,.int .i64 x.at_,.int .i64 x.bf] 102)=V at *
 have l1:V.cell? ⟨w.heap.size,1,none⟩=some (.int .i64 x.ep):=cell_of hN 1
 have l2:V.cell? ⟨w.heap.size,2,none⟩=some (.int .i64 x.at_):=cell_of hN 2
 have c7:=((uh HBV).cell (p:=⟨yb,7,none⟩) hyb).trans c7
 have e7:=((uh HBV).cell (p:=⟨sb,k*9+7,none⟩) hsb).trans e7
 have e8:=((uh HBV).cell (p:=⟨sb,k*9+8,none⟩) hsb).trans e8
 have HB1:Hid (∀q,Below w.heap.size w (V.drewN q)):=fun q=>⟨(uh HBV).os,(uh HBV).tape,(uh HBV).output,(uh HBV).size,(uh HBV).block⟩
 clear hN z0 z1 z2 z3 c8 ch
 by_cases hep:x.ep<r.ep
 all_goals
  first
   | have hne:(x.at_ != r.done)=true:=by rw [bne_iff_ne];omega
   | skip
  go_quiet (fail)
  cases b
  ·go_wp2_with (go_at_call 46;refine (uh HLo _ (uh HB1 _)).mono ?_;rintro e w3 ⟨rfl,hv',hp⟩;have HP:=hide hp;clear hp)
   go_ret
   exact ⟨rfl,hv',by simpa using uh HP⟩
  ·go_wp2
   go_ret
   refine ⟨rfl,?_⟩
   first
    | exact uh HE _ (uh HB1 _)
    | exact ⟨Value.slice none 0 0,uh HE _ (uh HB1 _)⟩
end Go.Proofs.YtpnkmnmchdabkaaGreat
