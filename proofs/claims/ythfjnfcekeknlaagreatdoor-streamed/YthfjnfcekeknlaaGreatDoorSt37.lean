import Derived.Test.YthfjnfcekeknlaaGreatDoorSt02
import Derived.Test.YthfjnfcekeknlaaGreatDoorSt07
import Derived.Test.YthfjnfcekeknlaaGreatDoorSt36
set_option maxHeartbeats 8000000
set_option maxRecDepth 100000
namespace Za
open Go
theorem Mg (n:Nat):lC (Lib.decDigits n)=n:=by
 induction n using Nat.strongRecOn with
 | ind n ih=>
  have one:∀d,d<10→((UInt8.ofNat (48+d)).toNat+208) % 256=d:=fun d h=>by
   have e:(UInt8.ofNat (48+d)).toNat=48+d:=by rw[UInt8.toNat_ofNat'];omega
   rw[e]
   omega
  by_cases h:n<10
  ·rw[Lib.decDigits,dif_pos h]
   show lC ([]++[UInt8.ofNat (48+n)])=n
   rw[rU,one n h]
   simp[lC]
  ·rw[Lib.decDigits,dif_neg h,rU,ih (n / 10) (by omega),one (n % 10) (by omega)]
   omega
def idS:gX:=⟨id,id⟩
theorem Mh (n:Nat):∀d∈Lib.decDigits n,ik d.toNat=true:=by
 induction n using Nat.strongRecOn with
 | ind n ih=>
  have one:∀d,d<10→ik (UInt8.ofNat (48+d)).toNat=true:=fun d h=>by
   have e:(UInt8.ofNat (48+d)).toNat=48+d:=by rw[UInt8.toNat_ofNat'];omega
   rw[e]
   unfold ik
   simp
   omega
  by_cases h:n<10
  ·rw[Lib.decDigits,dif_pos h]
   intro d hd
   rw[List.mem_singleton.1 hd]
   exact one n h
  ·rw[Lib.decDigits,dif_neg h]
   intro d hd
   rcases List.mem_append.1 hd with q | q
   ·exact ih (n / 10) (by omega) d q
   ·rw[List.mem_singleton.1 q]
    exact one (n % 10) (by omega)
end Za
