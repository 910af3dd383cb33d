import Derived.Test.YthfjnfcekeknlaaGreatDoorMe02
import Derived.Test.YthfjnfcekeknlaaGreatDoorMe08
import Derived.Test.YthfjnfcekeknlaaGreatDoorMe36
set_option maxHeartbeats 8000000
set_option maxRecDepth 100000
namespace Zc
open Go
theorem MD (n:Nat):lU (Lib.decDigits n)=n:=by
 induction n using Nat.strongRecOn with
 | ind n ih=>
  have one:∀d,d<10→((UInt8.ofNat (48+d)).toNat+208) % 256=d:=fun d h=>by
   have e:(UInt8.ofNat (48+d)).toNat=48+d:=by rw[UInt8.toNat_ofNat'];omega
   rw[e]
   omega
  by_cases h:n<10
  ·rw[Lib.decDigits,dif_pos h]
   show lU ([]++[UInt8.ofNat (48+n)])=n
   rw[sS,one n h]
   simp[lU]
  ·rw[Lib.decDigits,dif_neg h,sS,ih (n / 10) (by omega),one (n % 10) (by omega)]
   omega
def idS:iK:=⟨id,id⟩
theorem ME (n:Nat):∀d∈Lib.decDigits n,iO d.toNat=true:=by
 induction n using Nat.strongRecOn with
 | ind n ih=>
  have one:∀d,d<10→iO (UInt8.ofNat (48+d)).toNat=true:=fun d h=>by
   have e:(UInt8.ofNat (48+d)).toNat=48+d:=by rw[UInt8.toNat_ofNat'];omega
   rw[e]
   unfold iO
   simp
   omega
  by_cases h:n<10
  ·rw[Lib.decDigits,dif_pos h]
   intro d hd
   rw[List.mem_singleton.1 hd]
   exact one n h
  ·rw[Lib.decDigits,dif_neg h]
   intro d hd
   rcases List.mem_append.1 hd with q | q
   ·exact ih (n / 10) (by omega) d q
   ·rw[List.mem_singleton.1 q]
    exact one (n % 10) (by omega)
end Zc
