import Derived.Test.YthfjnfcekeknlabGreatDoorGu30
set_option maxHeartbeats 8000000
set_option maxRecDepth 100000
namespace Zf
open Go.Proofs.YthfjnfcekeknlabGreatDoor (dB)
def vn (k:Nat):U:= .v ([],k)
def bA (d:Nat):U:= .n 3 [] (d:Int) []
def nlU:U:= .n 1 [110] 0 []
def YK (h t:U):U:= .n 1 [99] 0 [h,t]
def lsU:List Nat→U
 | []=>nlU
 | d :: l=>YK (bA d) (lsU l)
theorem J2 (σ:Vr→U) (k:Nat):sub σ (vn k)=σ ([],k):=rfl
theorem ya (x:Vr) (b:U):one x b x=b:=by unfold one;rw[if_pos rfl]
theorem J3 {x y:Vr} (b:U) (h:y≠x):one x b y= .v y:=by unfold one;rw[if_neg h]
theorem MJ {k:Nat} {t:U} (hn:¬has ([],k) t) (ht:∀y,t≠ .v y):fF (vn k) t (one ([],k) t):=by
 refine⟨?_,fun θ h x=> ?_,fun x y h=> ?_⟩
 ·rw[J2,ya];exact(PK hn).symm
 ·by_cases q:x=([],k)
  ·rw[q,ya];exact h.symm
  ·rw[J3 _ q];rfl
 ·by_cases q:x=([],k)
  ·rw[q,ya]at h;exact absurd h (ht y)
  ·rw[J3 _ q]at h
   injection h with h
   rw[h];exact⟨rfl,Nat.le_refl _⟩
def MG.rd (a:U) (sg:List UInt8) (b:U) (op:List UInt8) (c:U):MG:=⟨a,sg,b,op,c,false,fun _=>False⟩
theorem MK {gs:List MG} (h:∀g∈gs,g.wt=false):jO gs=List.range gs.length:=by
 unfold jO
 rw[List.filter_eq_self]
 intro i hi
 have hi':=List.mem_range.1 hi
 rw[List.getElem?_eq_getElem hi']
 show (!(gs[i]).wt)=true
 rw[h _ (List.getElem_mem _)]
 rfl
theorem tQ (p:Int) {n:Nat} (h:0<n):dB p n<n:=by
 unfold dB
 rw[if_neg (by omega)]
 have h1:=Int.emod_nonneg p (b:=(n:Int)) (by omega)
 have h2:=Int.emod_lt_of_pos p (b:=(n:Int)) (by omega)
 omega
theorem ug {u:U} (h:size u≤40):big u=false:=by unfold big;exact decide_eq_false (by omega)
theorem size_z:size zU=1:=by unfold zU;simp[size,sizeL]
end Zf
