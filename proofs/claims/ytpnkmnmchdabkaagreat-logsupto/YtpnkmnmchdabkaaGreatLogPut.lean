import Derived.Test.YtpnkmnmchdabkaaGreatM04
import Derived.Test.YtpnkmnmchdabkaaGreatM01
import Derived.Deep.DeepMust
import Derived.Deep.DrawnRows
import Derived.Deep.RegionLaw
namespace Go.Proofs.YtpnkmnmchdabkaaGreat
open Go.RowKit
attribute [local go_sem ↓] Go.wp_at_zero Go.wp_at_succ
theorem info154:(Tryz.prog.info? 137).map (fun i=>(i.zero,i.size,i.bytes))=some (some (.agg #[.int .u8 0,.int .u8 0,.int .u8 0,.int .u8 0,.int .u8 0,.int .u8 0,.int .u8 0,.int .u8 0,.int .i64 0,.int .i64 0]),10,24):=by kernel_rfl
def putV (k c:Nat):Value:=if 32≤c then .tuple #[.int .i64 0,.int .i64 0,.int .i64 8] else .tuple #[.int .i64 k,.int .i64 c,.int .i64 0]
def putL (l:List Sh) (k:Nat) (s:Sh) (r:Rc):List Sh:=if 32≤s.cnt then l else l.set k { s with rl:=s.rl ++ [r] }
theorem home_at {n k j:Nat} (hk:k<n) (hj:j<n) {acc:Nat→Bool} (ha:acc k=true) (hu:∀i,i<n→acc i=true→i=k) (h0:j=0∨acc j=true) (hb:∀i,j<i→i<n→acc i=false):j=k:=by
 rcases h0 with h0 | h0
 ·subst h0
  by_cases e:k=0
  ·exact e.symm
  ·have:=hb k (by omega) hk
   rw [ha] at this;cases this
 ·exact hu j hj h0
set_option maxRecDepth 100000 in
set_option maxHeartbeats 2000000 in
theorem logPut_any (w:World) (ρ:Nat→Nat) (gb:Nat) (C:Cfg) (now:Rest) (sv:Value) (m:List Cs) (l:List UInt8) (v t:Int) (h:GrpAt w ρ gb C now sv m) (hf:Fits w ρ) (hm:m.length≤16) (hl:l.length≤8) (hz:∀b ∈ l,b.toNat≠0)
 (k:Nat) (s:Cs) (hk:m[k]?=some s) (hacc:accB s.s.op s.s.lo s.s.hi (hashL l)=true) (hu:∀(j:Nat) (t:Cs),m[j]?=some t→accB t.s.op t.s.lo t.s.hi (hashL l)=true→j=k) (hcnt:s.s.cnt≤32) :
 Calls Tryz.prog 124 #[.pointer (some ⟨gb,7,none⟩),.agg (recArr l v t)] w fun e w'=>e=.returned (putV k s.s.cnt)∧GrpPost w ρ gb C now (putL (m.map (·.s)) k s.s ⟨l,v,t⟩) w':=by
 have hkl:=(List.getElem?_eq_some_iff.1 hk).1
 have HH:=fun w=>hide (hash_any l w hl hz)
 have HX:Hid (∀w1,Below w.heap.size w w1→GrpAt w1 ρ gb C now sv m):=fun w1 hb=>h.keeps (Keeps.of_below hb) (fun j hj=>Or.inr hj) (fun _ _=>rfl) hm
 unfold keyArr at HH
 unfold recArr
 have HG:=hide h
 have HF:=hide hf
 have HK:=hide hk
 have HA:=hide hacc
 have HU:=hide hu
 clear h hf hk hacc hu hz hl
 go_enter Tryz.func124,Tryz.ntmps124
 go_wp2_with fail
 refine (uh (HH _)).mono ?_
 rintro e w1 ⟨rfl,hb⟩
 obtain ⟨h1,hB1,hsz⟩:=below_new hb
 clear hb HH
 have G1:=uh HX w1 hB1
 obtain ⟨c6,f6,_,_,hgb⟩:=G1.cells
 obtain ⟨bs,cap,rfl,hbs,hbsl,hcap,hcm,ff,cc⟩:=G1.log.shape (by omega)
 have HM:=hide (home_any gb 7 bs m.length cap (fun i=>(m[i]?.map (·.s.lo)).getD 0) (fun i=>(m[i]?.map (·.s.hi)).getD 0) (fun i=>(m[i]?.map (·.s.op)).getD false) (hashL l) w1 (by omega) (by omega) c6
  (fun i hi=>by obtain ⟨t,ht⟩:∃t,m[i]?=some t:=⟨m[i],List.getElem?_eq_getElem hi⟩
                rw [(cc i t ht).1];simp [ht])
  (fun i hi=>by obtain ⟨t,ht⟩:∃t,m[i]?=some t:=⟨m[i],List.getElem?_eq_getElem hi⟩
                rw [(cc i t ht).2.1];simp [ht])
  (fun i hi=>by obtain ⟨t,ht⟩:∃t,m[i]?=some t:=⟨m[i],List.getElem?_eq_getElem hi⟩
                rw [(cc i t ht).2.2.1];simp [ht]))
 obtain ⟨_,_,_,_,c4⟩:=cc k s (uh HK)
 have hown:=G1.log.rcv k s (uh HK)
 generalize hxs:rcRow s.s.rl=xs at hown
 have HXS:=hide hxs
 clear hxs
 have HT:=hide (G1.log.rcT k s (uh HK))
 obtain ⟨ra,rcap,hrv⟩:=ownsRow_len hown
 have HO:=hide hown
 have HG1:=hide G1
 have HR:=hide hrv
 rw [hrv] at c4
 clear cc hown G1 hrv
 go_wp2_with fail
 refine (uh HM).mono ?_
 rintro e w2 ⟨j,rfl,rfl,hj,h0,hb⟩
 have hjk:j=k:=home_at (acc:=fun i=>accB ((m[i]?.map (·.s.op)).getD false) ((m[i]?.map (·.s.lo)).getD 0) ((m[i]?.map (·.s.hi)).getD 0) (hashL l)) hkl hj (by simp only [uh HK,Option.map_some,Option.getD_some];exact uh HA)
  (fun i hi ha=>by
   obtain ⟨t,ht⟩:∃t,m[i]?=some t:=⟨m[i],List.getElem?_eq_getElem hi⟩
   simp only [ht,Option.map_some,Option.getD_some] at ha
   exact uh HU i t ht ha) h0 hb
 subst hjk
 clear h0 hb HM HU HA
 by_cases hc:32≤s.s.cnt
 ·have HV:Hid (putV j s.s.cnt=.tuple #[.int .i64 0,.int .i64 0,.int .i64 8]):=by unfold putV;rw [if_pos hc];trivial
  have HL:Hid (putL (m.map (·.s)) j s.s ⟨l,v,t⟩=m.map (·.s)):=by unfold putL;rw [if_pos hc];trivial
  go_wp2
  go_ret3
  rw [uh HV,uh HL]
  exact ⟨rfl,ρ,_,m,rfl,uh HG1,(Keeps.of_below hB1).mono (fun q h1 h2=>by omega),Ext.refl (uh HF),fun q hq=>uh HF q (by omega)⟩
 ·have HV:Hid (putV j s.s.cnt=.tuple #[.int .i64 j,.int .i64 s.s.cnt,.int .i64 0]):=by unfold putV;rw [if_neg hc];trivial
  have HL:Hid (putL (m.map (·.s)) j s.s ⟨l,v,t⟩=(m.map (·.s)).set j { s.s with rl:=s.s.rl ++ [⟨l,v,t⟩] }):=by unfold putL;rw [if_neg hc];trivial
  have nb:Hid (∀q,(Value.slice ra s.s.cnt rcap).ownBlock=some q→ρ q=4+2*j∧q<w.heap.size):=fun q hq=>by
   have e1:=uh HT q (by rw [uh HR];exact hq)
   refine ⟨e1,?_⟩
   rcases Nat.lt_or_ge q w.heap.size with hlt | hge
   ·exact hlt
   ·have:=uh HF q hge;omega
  have hgt:=(uh HG1).tag
  have n1:some gb≠(Value.slice ra s.s.cnt rcap).ownBlock:=fun e=>by have:=(uh nb gb e.symm).1;omega
  have n2:some bs≠(Value.slice ra s.s.cnt rcap).ownBlock:=fun e=>by have:=(uh nb bs e.symm).1;omega
  have n3:some w.heap.size≠(Value.slice ra s.s.cnt rcap).ownBlock:=fun e=>by have:=(uh nb _ e.symm).2;omega
  have HO2:Hid (w1.ownsRow 0 137 10 (.slice ra s.s.cnt rcap) s.s.cnt xs):=by have:=uh HO;rw [uh HR] at this;exact this
  have N1:=hide n1
  have N2:=hide n2
  have N3:=hide n3
  have hj0:(0:Int)≤(j:Int):=Int.natCast_nonneg _
  have hj1:(j:Int)<(m.length:Int):=by omega
  have ff4:=ff (j*5+4)
  obtain ⟨k0,k1,k2,k3,k4,k5,k6,k7,k8,k9⟩:=load10 h1
  obtain ⟨i0,hi0,hz0,hz1,hz2⟩:=info_parts info154
  have HS:=hide hsz
  have HB:=hide hB1
  have HR2:=HR
  clear n1 n2 n3 HO HR HT hgt h1 ff f6 hB1 hsz
  go_wp2
  go_region_law ((refine step_append_lies _ (by rfl) _ _ _ (by rfl) 0 137 i0 _ 10 24 Tryz.underlying111 hi0 hz0 hz1 hz2 rfl (by omega) (.slice ra s.s.cnt rcap) s.s.cnt xs (by rfl) (((uh HO2).alloc _).drew) ⟨w1.heap.size,0,none⟩ 1 1 [.int .u8 (byteAt l 0),.int .u8 (byteAt l 1),.int .u8 (byteAt l 2),.int .u8 (byteAt l 3),.int .u8 (byteAt l 4),.int .u8 (byteAt l 5),.int .u8 (byteAt l 6),.int .u8 (byteAt l 7),.int .i64 v,.int .i64 t] (by rfl) (by rfl) (World.news_of_block (cs:=#[.int .u8 (byteAt l 0),.int .u8 (byteAt l 1),.int .u8 (byteAt l 2),.int .u8 (byteAt l 3),.int .u8 (byteAt l 4),.int .u8 (byteAt l 5),.int .u8 (byteAt l 6),.int .u8 (byteAt l 7),.int .i64 v,.int .i64 t]) (t:=137) (fr:=(0,0)) (heap_alloc_new w1 _)) (by simp [Value.oneCell']) (by omega) (by unfold maxLen;omega) (by omega) (Nat.zero_le _) (w1.heap.size+1) (by simp) ?_;intro g cap2 w2 hown hgrow hat hlt;have fz2:w2.frozen? ⟨bs,j*5+4,none⟩=false:=(hgrow.frozen_far _ (by simp;omega) (uh N2)).trans ((World.frozen?_of_block (w:=w1) (Below.heap_alloc _ _ _ hbsl)).trans ff4);have cz2:w2.cell? ⟨bs,j*5+4,none⟩=some (.slice ra s.s.cnt rcap):=(hgrow.cell_far _ (by simp;omega) (uh N2)).trans ((World.cell?_of_block (w:=w1) (Below.heap_alloc _ _ _ hbsl)).trans c4);have cg2:w2.cell? ⟨gb,7,none⟩=some (.slice (some ⟨bs,0,none⟩) m.length cap):=(hgrow.cell_far _ (by simp;omega) (uh N1)).trans ((World.cell?_of_block (w:=w1) (Below.heap_alloc _ _ _ hgb)).trans c6)))
  all_goals
   go_wp2
   go_ret3
   rw [uh HV,uh HL]
   refine ⟨rfl,GrpPost.trans ((Keeps.of_below (uh HB)).mono (fun q h1 h2=>by omega)) (Ext.refl (uh HF)) ?_⟩
   exact (uh HG1).addRec (fun q hq=>uh HF q (by have:=(uh HB).size;omega)) hm j s (uh HK) _ ((Keeps.refl _ w1).alloc _).drew (by rw [uh HR2];exact hgrow) g cap2 ⟨l,v,t⟩ (by rw [rcRow_append,uh HXS];simpa [rcRow,rcCells,recArr] using hown) (by rw [uh HR2];simpa using hat)
end Go.Proofs.YtpnkmnmchdabkaaGreat
