import Derived.Test.YtpnkmnmchdabkaaGreatM03
namespace Go.Proofs.YtpnkmnmchdabkaaGreat
open Go.RowKit
set_option maxHeartbeats 400000 in
theorem home_any (b off bs n cap:Nat) (lo hi:Nat→Int) (op:Nat→Bool) (h:Int) (w:World) (hn0:0<n) (hn:n≤100)
 (c:w.cell? ⟨b,off,none⟩=some (.slice (some ⟨bs,0,none⟩) n cap))
 (c0:∀i,i<n→w.cell? ⟨bs,i*5,none⟩=some (.int .i64 (lo i))) (c1:∀i,i<n→w.cell? ⟨bs,i*5+1,none⟩=some (.int .i64 (hi i))) (c2:∀i,i<n→w.cell? ⟨bs,i*5+2,none⟩=some (.bool (op i))) :
 Calls Tryz.prog 133 #[.pointer (some ⟨b,off,none⟩),.int .i64 h] w fun e w'=>∃k:Nat,e=.returned (.int .i64 k)∧w=w'∧k<n∧(k=0∨accB (op k) (lo k) (hi k) h=true)∧∀j,k<j→j<n→accB (op j) (lo j) (hi j) h=false:=by
 go_enter Tryz.func133,Tryz.ntmps133
 go_wp2_with fail
 go_loop [5] (fun t=>∃k:Nat,t=.int .i64 k∧k<n∧∀j,k<j→j<n→accB (op j) (lo j) (hi j) h=false) (fun t=>(intOf t).toNat)
 case atStart=>exact ⟨n - 1,by go_num,by omega,fun j h1 h2=>by omega⟩
 case round =>
  obtain ⟨k,rfl,hk,hj⟩:=hrel
  have Hj:=hj
  clear hj
  by_cases hk0:0<k
  ·have hh:=accepts_any bs (k*5) (lo k) (hi k) h (op k) w (c0 k hk) (c1 k hk) (c2 k hk)
   cases hB:accB (op k) (lo k) (hi k) h
   ·rw [hB] at hh
    have HB:=hide hB
    have HH:=hide hh
    have HJ:=hide Hj
    clear hB hh Hj
    go_wp2_with (go_at_call 135;refine (uh HH).mono ?_;rintro e w' ⟨rfl,rfl⟩)
    go_round
    case rel =>
     refine ⟨k - 1,by go_num,by omega,fun j h1 h2=>?_⟩
     by_cases e:j=k
     ·subst e;exact uh HB
     ·exact uh HJ j (by omega) h2
    case measure=>simp [intOf];omega
   ·rw [hB] at hh
    have HB:=hide hB
    have HH:=hide hh
    have HJ:=hide Hj
    clear hB hh Hj
    go_wp2_with (go_at_call 135;refine (uh HH).mono ?_;rintro e w' ⟨rfl,rfl⟩)
    go_ret
    exact ⟨k,rfl,rfl,hk,Or.inr (uh HB),uh HJ⟩
  ·have HJ:=hide Hj
   clear Hj
   go_wp2
   go_ret
   exact ⟨k,rfl,rfl,hk,Or.inl (by omega),uh HJ⟩
end Go.Proofs.YtpnkmnmchdabkaaGreat
