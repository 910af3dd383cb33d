import Derived.Lib.ItoaNum
set_option maxHeartbeats 8000000
set_option maxRecDepth 100000
namespace Zf
def dY (n:Nat):List UInt8:=Go.Lib.decDigits n
theorem jo {n:Nat} (h:n<10):dY n=[UInt8.ofNat (48+n)]:=by unfold dY;rw[Go.Lib.decDigits,dif_pos h]
theorem rA {n:Nat} (h:¬n<10):dY n=dY (n / 10)++[UInt8.ofNat (48+n % 10)]:=by
 unfold dY
 rw[Go.Lib.decDigits,dif_neg h]
theorem Mc {n:Nat} (h:n<1000000000):(dY n).length≤100:=by
 have key:∀k n,n<10 ^ (k+1)→(dY n).length≤k+1:=fun k=>by
  induction k with
  | zero=>intro n h;rw[jo (by omega)];simp
  | succ k ih=>
   intro n h
   by_cases q:n<10
   ·rw[jo q];simp
   ·rw[rA q,List.length_append]
    have:=ih (n / 10) (by rw[Nat.pow_succ]at h;omega)
    simp
    omega
 have:=key 8 n (by omega)
 omega
end Zf
