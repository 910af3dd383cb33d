import Derived.Lib.ItoaNum
set_option maxHeartbeats 8000000
set_option maxRecDepth 100000
namespace Za
def fM (n:Nat):List UInt8:=Go.Lib.decDigits n
def txL:List Nat→List UInt8
 | []=>[110]
 | d :: l=>[99,40]++fM d++[44]++txL l++[41]
theorem mJ {n:Nat} (h:n<10):fM n=[UInt8.ofNat (48+n)]:=by unfold fM;rw[Go.Lib.decDigits,dif_pos h]
theorem qZ {n:Nat} (h:¬n<10):fM n=fM (n / 10)++[UInt8.ofNat (48+n % 10)]:=by
 unfold fM
 rw[Go.Lib.decDigits,dif_neg h]
theorem txL_len:∀l:List Nat,(∀d∈l,d<10)→(txL l).length=5*l.length+1
 | [],_=>rfl
 | d :: l,h=>by
  rw[txL,mJ (h d (by simp))]
  simp only[List.length_append,List.length_cons,List.length_nil,txL_len l (fun e he=>h e (by simp[he]))]
  omega
theorem vQ {n:Nat} (h:n<1000000000):(fM n).length≤100:=by
 have key:∀k n,n<10 ^ (k+1)→(fM n).length≤k+1:=fun k=>by
  induction k with
  | zero=>intro n h;rw[mJ (by omega)];simp
  | succ k ih=>
   intro n h
   by_cases q:n<10
   ·rw[mJ q];simp
   ·rw[qZ q,List.length_append]
    have:=ih (n / 10) (by rw[Nat.pow_succ]at h;omega)
    simp
    omega
 have:=key 8 n (by omega)
 omega
end Za
