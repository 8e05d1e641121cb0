import Derived.Test.YtpnkmnmchdabkaaGreatGRead
namespace Go.Proofs.YtpnkmnmchdabkaaGreat
open Go.RowKit
structure SumI (j:Nat) (x:Su) (T:Int):Prop where
 s0:x.o=false→x.s=T
 s1:x.o=true→x.s=0
 z:x.c=0→x=su0∧T=0
 c:0≤x.c∧x.c≤j
 lt:0≤x.lt∧x.lt≤j
 t:-(1000000*(j:Int))≤T∧T≤1000000*(j:Int)
theorem SumI.zero:SumI 0 su0 0:=⟨fun _=>rfl,fun h=>(by cases h),fun _=>⟨rfl,rfl⟩,by simp [su0],by simp [su0],by simp⟩
theorem SumI.same {j:Nat} {x:Su} {T:Int} (h:SumI j x T):SumI (j+1) x T:=by
 obtain ⟨a,b,c,d,e,f⟩:=h
 exact ⟨a,b,c,by omega,by omega,by omega⟩
theorem pls_is {a b:Int} (h:-1000000000000≤a∧a≤1000000000000) (h':-1000000000000≤b∧b≤1000000000000):pls a b=a+b:=by unfold pls;rw [IntKind.wrap_i64];omega
def ovr (x:Su) (T:Int):Bool:=x.o || decide (1000000<T) || decide (T < -1000000)
theorem SumI.add {j:Nat} {x:Su} {T:Int} (h:SumI j x T) (hj:j≤1000) (v:Int) (late:Bool) (hv:-1000000≤v∧v≤1000000) :
 ∃s,addS x v late=⟨x.c+1,s,if x.c=0∨v<x.mn then v else x.mn,if x.c=0∨x.mx<v then v else x.mx,if x.c=0 then v else x.f,v,if late=true then x.lt+1 else x.lt,ovr x (T+v)⟩∧SumI (j+1) (addS x v late) (T+v):=by
 obtain ⟨a,b,c,d,e,f⟩:=h
 have hc:pls x.c 1=x.c+1:=pls_is (by omega) (by omega)
 have hl:pls x.lt 1=x.lt+1:=pls_is (by omega) (by omega)
 unfold addS addV
 rw [hc,hl]
 cases ho:x.o
 ·have hT:=a ho
  have hs:pls x.s v=T+v:=by rw [hT];exact pls_is (by omega) (by omega)
  simp only [Bool.false_eq_true,if_false]
  rw [hs]
  by_cases h1:1000000<T+v
  ·rw [if_pos (by simp [h1])]
   have hov:ovr x (T+v)=true:=by unfold ovr;simp [h1]
   refine ⟨0,by rw [hov],⟨fun h=>(by cases h),fun _=>rfl,fun h=>?_,?_,?_,?_⟩⟩
   ·exact absurd h (by show x.c+1≠0;omega)
   ·show 0≤x.c+1∧x.c+1≤((j+1:Nat):Int);omega
   ·show 0≤(if late=true then x.lt+1 else x.lt)∧(if late=true then x.lt+1 else x.lt)≤((j+1:Nat):Int);split <;> omega
   ·omega
  ·by_cases h2:T+v < -1000000
   ·rw [if_pos (by simp [h2])]
    have hov:ovr x (T+v)=true:=by unfold ovr;simp [h2]
    refine ⟨0,by rw [hov],⟨fun h=>(by cases h),fun _=>rfl,fun h=>?_,?_,?_,?_⟩⟩
    ·exact absurd h (by show x.c+1≠0;omega)
    ·show 0≤x.c+1∧x.c+1≤((j+1:Nat):Int);omega
    ·show 0≤(if late=true then x.lt+1 else x.lt)∧(if late=true then x.lt+1 else x.lt)≤((j+1:Nat):Int);split <;> omega
    ·omega
   ·rw [if_neg (by simp [h1,h2])]
    have hov:ovr x (T+v)=false:=by unfold ovr;simp [h1,h2,ho]
    refine ⟨T+v,by rw [hov],⟨fun _=>rfl,fun h=>(by cases h),fun h=>?_,?_,?_,?_⟩⟩
    ·exact absurd h (by show x.c+1≠0;omega)
    ·show 0≤x.c+1∧x.c+1≤((j+1:Nat):Int);omega
    ·show 0≤(if late=true then x.lt+1 else x.lt)∧(if late=true then x.lt+1 else x.lt)≤((j+1:Nat):Int);split <;> omega
    ·omega
 ·have hs:=b ho
  have hov:ovr x (T+v)=true:=by unfold ovr;simp [ho]
  simp only [if_true]
  refine ⟨x.s,by rw [hov],⟨fun h=>(by cases h),fun _=>hs,fun h=>?_,?_,?_,?_⟩⟩
  ·exact absurd h (by show x.c+1≠0;omega)
  ·show 0≤x.c+1∧x.c+1≤((j+1:Nat):Int);omega
  ·show 0≤(if late=true then x.lt+1 else x.lt)∧(if late=true then x.lt+1 else x.lt)≤((j+1:Nat):Int);split <;> omega
  ·omega
theorem SumI.end {j:Nat} {x:Su} {T:Int} (h:SumI j x T):x.s=if x.o=true then 0 else T:=by
 cases ho:x.o
 ·rw [h.s0 ho];simp
 ·rw [h.s1 ho];simp
end Go.Proofs.YtpnkmnmchdabkaaGreat
