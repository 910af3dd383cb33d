import Derived.Test.YthfjnfcekeknlaaGreatDoorSt27
import Derived.Test.YthfjnfcekeknlaaGreatDoorSt34
import Derived.Test.YthfjnfcekeknlaaGreatDoorSt38
set_option maxHeartbeats 8000000
set_option maxRecDepth 100000
namespace Za
open Go
def tV (c:UInt8):Tm:=⟨3,⟨#[c]⟩,[]⟩
def tD (n:Nat):Tm:=⟨4,⟨(fM n).toArray⟩,[]⟩
def tNil:Tm:=⟨2,⟨#[110]⟩,[]⟩
def tC (a b:Tm):Tm:=⟨2,⟨#[99]⟩,[a,b]⟩
def tF (x:List UInt8) (a b c:Tm):Tm:=⟨2,⟨x.toArray⟩,[a,b,c]⟩
def tL:List Nat→Tm
 | []=>tNil
 | d :: l=>tC (tD d) (tL l)
theorem qK {n k:Nat} (h:n<10 ^ (k+1)):(fM n).length≤k+1:=by
 induction k generalizing n with
 | zero=>rw[mJ (by omega)];simp
 | succ k ih=>
  by_cases q:n<10
  ·rw[mJ q];simp
  ·rw[qZ q,List.length_append]
   have:=ih (n:=n / 10) (by rw[Nat.pow_succ]at h;omega)
   simp
   omega
theorem Jz (n:Nat):fM n≠[]:=by
 by_cases q:n<10
 ·rw[mJ q];simp
 ·rw[qZ q];simp
theorem Mi (n:Nat):kC 4 (fM n):=by
 have hw:∀d∈fM n,ik d.toNat=true:=Mh n
 cases h:fM n with
 | nil=>exact absurd h (Jz n)
 | cons c r=>
  rw[h]at hw
  exact⟨c,r,rfl,Or.inr (Or.inr ⟨rfl,hw c (by simp)⟩),fun d hd=>by have:=hw d hd;unfold cV;simp[this]⟩
theorem Sw {f n:Nat} (h:n<1000000):gH idS (f+1) (tD n):=by
 refine Or.inr (Or.inl ⟨rfl,?_,?_⟩)
 ·show kC 4 (⟨(fM n).toArray⟩:ByteArray).toList
  rw[fK];exact Mi n
 ·show (fM n).toArray.size≤6
  have:=qK (n:=n) (k:=5) (by omega)
  simpa using this
theorem Sy (f n:Nat):bB idS (f+1) (tD n)=fM n:=by
 show (⟨(fM n).toArray⟩:ByteArray).toList=_
 rw[fK]
theorem Sz (η:List UInt8→U) (f n:Nat):bA η (f+1) (tD n)=iF n:=by
 show U.n 3 [] (numOf (⟨(fM n).toArray⟩:ByteArray):Int) []=_
 unfold numOf
 rw[fK]
 unfold fM
 rw[Mg]
 rfl
theorem iO {f:Nat} {c:UInt8} (h:iH c.toNat=true):gH idS (f+1) (tV c):=by
 refine Or.inl ⟨rfl,?_⟩
 show kC 3 (⟨#[c]⟩:ByteArray).toList
 rw[show (⟨#[c]⟩:ByteArray)=⟨[c].toArray⟩from rfl,fK]
 exact⟨c,[],rfl,Or.inr (Or.inl ⟨rfl,h⟩),fun d hd=>by rw[List.mem_singleton.1 hd];unfold cV;simp[h]⟩
theorem Gh (f:Nat) (c:UInt8):bB idS (f+1) (tV c)=[c]:=by
 show (⟨[c].toArray⟩:ByteArray).toList=_
 rw[fK]
theorem wm (η:List UInt8→U) (f:Nat) (c:UInt8):bA η (f+1) (tV c)=η [c]:=by
 show η (⟨[c].toArray⟩:ByteArray).toList=_
 rw[fK]
theorem Gi {f:Nat} {x:List UInt8} {as':List Tm} (hx:kC 2 x) (h3:as'.length≤3) (h:∀a∈as',gH idS f a):gH idS (f+1) ⟨2,⟨x.toArray⟩,as'⟩:=by
 refine Or.inr (Or.inr ⟨rfl,?_,h3,h⟩)
 show kC 2 (⟨x.toArray⟩:ByteArray).toList
 rw[fK];exact hx
theorem C6 (f:Nat) (x:List UInt8) (as':List Tm):bB idS (f+1) ⟨2,⟨x.toArray⟩,as'⟩=x++arS (as'.map (bB idS f)):=by
 show (⟨x.toArray⟩:ByteArray).toList++_=_
 rw[fK]
theorem Gj (η:List UInt8→U) (f:Nat) (x:List UInt8) (as':List Tm):bA η (f+1) ⟨2,⟨x.toArray⟩,as'⟩= .n 1 x 0 (as'.map (bA η f)):=by
 show U.n 1 (⟨x.toArray⟩:ByteArray).toList 0 _=_
 rw[fK]
theorem rE {x:List UInt8} (h:x≠[]) (hl:∀c∈x,low c.toNat=true):kC 2 x:=by
 cases x with
 | nil=>exact absurd rfl h
 | cons c r=>exact⟨c,r,rfl,Or.inl ⟨rfl,hl c (by simp)⟩,fun d hd=>by have:=hl d hd;unfold cV;simp[this]⟩
theorem ok_L:∀(l:List Nat) (f:Nat),(∀d∈l,d<10)→l.length<f→gH idS f (tL l)
 | [],f+1,_,_=>Gi (x:=[110]) (rE (by simp) (by decide)) (by simp) (fun a ha=>by cases ha)
 | d :: l,f+1,h,hl=>by
  have hl':l.length<f:=by simpa using hl
  refine Gi (x:=[99]) (rE (by simp) (by decide)) (by simp) (fun a ha=> ?_)
  simp only[List.mem_cons,List.not_mem_nil,or_false]at ha
  obtain⟨g,rfl⟩:∃g,f=g+1:=⟨f - 1,by omega⟩
  rcases ha with rfl | rfl
  ·exact Sw (by have:=h d (by simp);omega)
  ·exact ok_L l (g+1) (fun e he=>h e (by simp[he])) hl'
theorem pr_L:∀(l:List Nat) (f:Nat),l.length<f→bB idS f (tL l)=txL l
 | [],f+1,_=>C6 f [110] []
 | d :: l,f+1,hl=>by
  have hl':l.length<f:=by simpa using hl
  obtain⟨g,rfl⟩:∃g,f=g+1:=⟨f - 1,by omega⟩
  refine(C6 (g+1) [99] [tD d,tL l]).trans ?_
  rw[List.map_cons,List.map_cons,List.map_nil,Sy,pr_L l (g+1) hl',txL]
  simp[arS]
theorem Mj (η:List UInt8→U):∀(l:List Nat) (f:Nat),l.length<f→bA η f (tL l)=lsU l
 | [],f+1,_=>Gj η f [110] []
 | d :: l,f+1,hl=>by
  have hl':l.length<f:=by simpa using hl
  obtain⟨g,rfl⟩:∃g,f=g+1:=⟨f - 1,by omega⟩
  refine(Gj η (g+1) [99] [tD d,tL l]).trans ?_
  rw[List.map_cons,List.map_cons,List.map_nil,Sz,Mj η l (g+1) hl']
  rfl
end Za
