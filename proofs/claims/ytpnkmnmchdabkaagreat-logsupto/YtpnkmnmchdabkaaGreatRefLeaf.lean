import Derived.Test.YtpnkmnmchdabkaaGreatM00
import Derived.Test.YtpnkmnmchdabkaaGreatM01
import Derived.Deep.DeepMust
import Derived.Deep.RegionLaw
import Derived.Deep.DrawnRows
namespace Go.Proofs.YtpnkmnmchdabkaaGreat
open Go.RowKit
attribute [local go_sem ↓] Go.wp_at_zero Go.wp_at_succ
set_option maxHeartbeats 400000 in
theorem refHash_any (s:ByteArray) (w:World) (hs:s.size≤maxLen) :
 Calls Tryz.prog 125 #[.string s] w fun e w'=>e=.returned (.int .i64 (hashL s.data.toList))∧w=w':=by
 unfold maxLen at hs
 go_enter Tryz.func125,Tryz.ntmps125
 go_wp2
 go_loop [3,4] (fun n i=>∃k:Nat,k≤s.size∧i=.int .i64 k∧n=.int .i64 (hashL (s.data.toList.take k))) (fun _ i=>s.size - (intOf i).toNat)
 case atStart=>exact ⟨0,Nat.zero_le _,rfl,rfl⟩
 case round =>
  obtain ⟨k,hk,rfl,rfl⟩:=hrel
  obtain ⟨hd1,hd2⟩:=hashL_bd (s.data.toList.take k)
  by_cases hlt:k<s.size
  ·have HS:=hide ((congrArg hashL (take_snoc s k hlt)).trans (hashL_snoc _ _))
   have hb:(s[k].toNat:Int)<256:=by have:=s[k].toNat_lt;omega
   go_wp2
   go_round
   case rel=>exact ⟨k+1,by omega,by go_num,by rw [uh HS]⟩
   case measure=>simp [intOf];omega
  ·go_wp2
   go_ret
   exact ⟨ret_int (by rw [List.take_of_length_le (by simp;omega)]),rfl⟩
set_option maxRecDepth 100000 in
set_option maxHeartbeats 1000000 in
theorem refProper_any (C:Cfg) (w:World) :
 Calls Tryz.prog 18 #[.agg C.arr] w fun e w'=>e=.returned (.bool (validB C.a C.l C.b C.n C.s C.t))∧Below w.heap.size w w':=by
 unfold Cfg.arr
 have hbB:=fun o=>(Below.refl w.heap.size w).alloc (Nat.le_refl _) o
 go_enter Tryz.func18,Tryz.ntmps18
 go_wp2
 all_goals
  go_ret
  refine ⟨ret_bool ?_,hbB _⟩
  rw [Bool.eq_iff_iff,validB_iff]
  simp only [decide_eq_true_eq,Bool.false_eq_true,false_iff]
  omega
set_option maxHeartbeats 400000 in
theorem refThere_any (b n cap:Nat) (sa:Option Addr) (k:Int) (w:World)
 (c0:w.cell? ⟨b,7,none⟩=some (.slice sa n cap)) :
 Calls Tryz.prog 49 #[.pointer (some ⟨b,0,none⟩),.int .i64 k] w fun e w'=>e=.returned (.bool (decide (0≤k∧k<n)))∧w=w':=by
 by_cases h1:0≤k
 ·by_cases h2:k<n
  all_goals
   go_enter Tryz.func49,Tryz.ntmps49
   go_wp2
   go_ret
   exact ⟨by simp [h1,h2],rfl⟩
 ·go_enter Tryz.func49,Tryz.ntmps49
  go_wp2
  go_ret
  exact ⟨by simp;omega,rfl⟩
set_option maxHeartbeats 400000 in
theorem refFresh_any (lo hi:Int) (a:Option Addr) (n c:Nat) (w:World) :
 Calls Tryz.prog 19 #[.int .i64 lo,.int .i64 hi,.slice a n c] w fun e w'=>e=.returned (.agg #[.int .i64 lo,.int .i64 hi,.bool true,.slice a n c,.int .i64 (-1),.int .i64 0,.int .i64 0,.int .i64 0,.int .i64 0])∧Below w.heap.size w w':=by
 go_enter Tryz.func19,Tryz.ntmps19
 go_wp2
 refine bodyPost_ret (v:=.agg #[.int .i64 lo,.int .i64 hi,.bool true,.slice a n c,.int .i64 (-1),.int .i64 0,.int .i64 0,.int .i64 0,.int .i64 0]) (by simp [results,Tryz.results19,go_sem]) rfl ⟨rfl,(Below.refl _ _).alloc (Nat.le_refl _) _⟩
theorem keyB_long {s:ByteArray} (h:8<s.size):keyB s=false:=by simp [keyB];omega
set_option maxHeartbeats 800000 in
theorem refIsKey_any (s:ByteArray) (w:World) (hs:s.size≤maxLen) :
 Calls Tryz.prog 56 #[.string s] w fun e w'=>e=.returned (.bool (keyB s))∧w=w':=by
 unfold maxLen at hs
 go_enter Tryz.func56,Tryz.ntmps56
 go_wp2
 go_loop [3] (fun i=>∃k:Nat,k≤s.size∧k≤8∧i=.int .i64 k∧(s.data.toList.take k).all letter=true) (fun i=>s.size - (intOf i).toNat)
 case atStart=>exact ⟨0,Nat.zero_le _,by omega,rfl,by simp⟩
 case round =>
  obtain ⟨k,hk,hk8,rfl,ha⟩:=hrel
  have HA:=hide ha
  clear ha
  by_cases hlt:k<s.size
  ·by_cases he8:k=8
   ·have d8:((k:Int) == 8)=true:=by rw [beq_iff_eq];omega
    have HL:=hide (keyB_long (s:=s) (by omega))
    clear he8
    go_wp2
    go_ret
    exact ⟨ret_bool (by rw [uh HL]),rfl⟩
   ·have d8:((k:Int) == 8)=false:=by rw [beq_eq_false_iff_ne];omega
    have HS:=hide (all_take_succ s k hlt)
    have HF:=hide (all_false s k hlt)
    by_cases h1:s[k].toNat<97
    ·have hb:(s[k].toNat:Int)<97:=by omega
     go_wp2
     go_ret
     exact ⟨ret_bool (by have:=uh HF (by simp [letter];omega);simp [keyB,this]),rfl⟩
    ·by_cases h2:s[k].toNat≤122
     ·have hb:¬(s[k].toNat:Int)<97:=by omega
      have hb2:¬(122<(s[k].toNat:Int)):=by omega
      go_wp2
      go_round
      case rel=>exact ⟨k+1,by omega,by omega,by go_num,by rw [uh HS,uh HA];simp [letter];omega⟩
      case measure=>simp [intOf];omega
     ·have hb:¬(s[k].toNat:Int)<97:=by omega
      have hb2:(122<(s[k].toNat:Int)):=by omega
      go_wp2
      go_ret
      exact ⟨ret_bool (by have:=uh HF (by simp [letter];omega);simp [keyB,this]),rfl⟩
  ·have HE:Hid (s.data.toList.all letter=true):=by
    have:=uh HA
    rw [List.take_of_length_le (by simp;omega)] at this
    exact this
   have HZ:Hid ((!s.toList.isEmpty)=keyB s):=by
    refine hide ?_
    rw [ByteArray.toList_eq]
    have hl:s.data.toList.length=s.size:=by simp
    simp only [keyB,uh HE,Bool.and_true]
    rw [Bool.eq_iff_iff]
    simp only [Bool.not_eq_true',List.isEmpty_eq_false_iff,decide_eq_true_eq]
    constructor
    ·intro hne
     have:=List.length_pos_iff.2 hne
     omega
    ·intro hh e
     rw [e] at hl
     simp at hl
     omega
   go_wp2
   go_ret
   exact ⟨ret_bool (uh HZ),rfl⟩
end Go.Proofs.YtpnkmnmchdabkaaGreat
