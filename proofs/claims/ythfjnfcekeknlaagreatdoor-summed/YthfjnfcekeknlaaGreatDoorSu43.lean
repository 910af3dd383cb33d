import Derived.Test.YthfjnfcekeknlaaGreatDoorSu31
import Derived.Test.YthfjnfcekeknlaaGreatDoorSu38
import Derived.Test.YthfjnfcekeknlaaGreatDoorSu40
set_option maxHeartbeats 8000000
set_option maxRecDepth 100000
namespace Za
open Go
def tV (c:UInt8):Tm:=⟨3,⟨#[c]⟩,[]⟩
def tD (n:Nat):Tm:=⟨4,⟨(ir n).toArray⟩,[]⟩
def tNil:Tm:=⟨2,⟨#[110]⟩,[]⟩
def tC (a b:Tm):Tm:=⟨2,⟨#[99]⟩,[a,b]⟩
def tF (x:List UInt8) (a b c:Tm):Tm:=⟨2,⟨x.toArray⟩,[a,b,c]⟩
def tL:List Nat→Tm
 | []=>tNil
 | d :: l=>tC (tD d) (tL l)
theorem OE {n k:Nat} (h:n<10 ^ (k+1)):(ir n).length≤k+1:=by
 induction k generalizing n with
 | zero=>rw[lL (by omega)];simp
 | succ k ih=>
  by_cases q:n<10
  ·rw[lL q];simp
  ·rw[rF q,List.length_append]
   have:=ih (n:=n / 10) (by rw[Nat.pow_succ]at h;omega)
   simp
   omega
theorem Sk (n:Nat):ir n≠[]:=by
 by_cases q:n<10
 ·rw[lL q];simp
 ·rw[rF q];simp
theorem L8 (n:Nat):jP 4 (ir n):=by
 have hw:∀d∈ir n,iI d.toNat=true:=Kn n
 cases h:ir n with
 | nil=>exact absurd h (Sk n)
 | cons c r=>
  rw[h]at hw
  exact⟨c,r,rfl,Or.inr (Or.inr ⟨rfl,hw c (by simp)⟩),fun d hd=>by have:=hw d hd;unfold cY;simp[this]⟩
theorem Sl {f n:Nat} (h:n<1000000):gu idS (f+1) (tD n):=by
 refine Or.inr (Or.inl ⟨rfl,?_,?_⟩)
 ·show jP 4 (⟨(ir n).toArray⟩:ByteArray).toList
  rw[eX];exact L8 n
 ·show (ir n).toArray.size≤6
  have:=OE (n:=n) (k:=5) (by omega)
  simpa using this
theorem Sm (f n:Nat):bp idS (f+1) (tD n)=ir n:=by
 show (⟨(ir n).toArray⟩:ByteArray).toList=_
 rw[eX]
theorem Sn (η:List UInt8→U) (f n:Nat):bJ η (f+1) (tD n)=cJ n:=by
 show U.n 3 [] (numOf (⟨(ir n).toArray⟩:ByteArray):Int) []=_
 unfold numOf
 rw[eX]
 unfold ir
 rw[Km]
 rfl
theorem nZ {f:Nat} {c:UInt8} (h:ie c.toNat=true):gu idS (f+1) (tV c):=by
 refine Or.inl ⟨rfl,?_⟩
 show jP 3 (⟨#[c]⟩:ByteArray).toList
 rw[show (⟨#[c]⟩:ByteArray)=⟨[c].toArray⟩from rfl,eX]
 exact⟨c,[],rfl,Or.inr (Or.inl ⟨rfl,h⟩),fun d hd=>by rw[List.mem_singleton.1 hd];unfold cY;simp[h]⟩
theorem Gp (f:Nat) (c:UInt8):bp idS (f+1) (tV c)=[c]:=by
 show (⟨[c].toArray⟩:ByteArray).toList=_
 rw[eX]
theorem L9 (η:List UInt8→U) (f:Nat) (c:UInt8):bJ η (f+1) (tV c)=η [c]:=by
 show η (⟨[c].toArray⟩:ByteArray).toList=_
 rw[eX]
theorem Gq {f:Nat} {x:List UInt8} {as':List Tm} (hx:jP 2 x) (h3:as'.length≤3) (h:∀a∈as',gu idS f a):gu idS (f+1) ⟨2,⟨x.toArray⟩,as'⟩:=by
 refine Or.inr (Or.inr ⟨rfl,?_,h3,h⟩)
 show jP 2 (⟨x.toArray⟩:ByteArray).toList
 rw[eX];exact hx
theorem C0 (f:Nat) (x:List UInt8) (as':List Tm):bp idS (f+1) ⟨2,⟨x.toArray⟩,as'⟩=x++arS (as'.map (bp idS f)):=by
 show (⟨x.toArray⟩:ByteArray).toList++_=_
 rw[eX]
theorem Ma (η:List UInt8→U) (f:Nat) (x:List UInt8) (as':List Tm):bJ η (f+1) ⟨2,⟨x.toArray⟩,as'⟩= .n 1 x 0 (as'.map (bJ η f)):=by
 show U.n 1 (⟨x.toArray⟩:ByteArray).toList 0 _=_
 rw[eX]
theorem V9 (f:Nat) (x:List UInt8) (as':List Tm):gq idS (f+1) ⟨2,⟨x.toArray⟩,as'⟩=⟨2,⟨x.toArray⟩,as'.map (gq idS f)⟩:=rfl
theorem rQ {x:List UInt8} (h:x≠[]) (hl:∀c∈x,low c.toNat=true):jP 2 x:=by
 cases x with
 | nil=>exact absurd rfl h
 | cons c r=>exact⟨c,r,rfl,Or.inl ⟨rfl,hl c (by simp)⟩,fun d hd=>by have:=hl d hd;unfold cY;simp[this]⟩
theorem ok_L:∀(l:List Nat) (f:Nat),(∀d∈l,d<10)→l.length<f→gu idS f (tL l)
 | [],f+1,_,_=>Gq (x:=[110]) (rQ (by simp) (by decide)) (by simp) (fun a ha=>by cases ha)
 | d :: l,f+1,h,hl=>by
  have hl':l.length<f:=by simpa using hl
  refine Gq (x:=[99]) (rQ (by simp) (by decide)) (by simp) (fun a ha=> ?_)
  simp only[List.mem_cons,List.not_mem_nil,or_false]at ha
  obtain⟨g,rfl⟩:∃g,f=g+1:=⟨f - 1,by omega⟩
  rcases ha with rfl | rfl
  ·exact Sl (by have:=h d (by simp);omega)
  ·exact ok_L l (g+1) (fun e he=>h e (by simp[he])) hl'
theorem pr_L:∀(l:List Nat) (f:Nat),l.length<f→bp idS f (tL l)=txL l
 | [],f+1,_=>C0 f [110] []
 | d :: l,f+1,hl=>by
  have hl':l.length<f:=by simpa using hl
  obtain⟨g,rfl⟩:∃g,f=g+1:=⟨f - 1,by omega⟩
  refine(C0 (g+1) [99] [tD d,tL l]).trans ?_
  rw[List.map_cons,List.map_cons,List.map_nil,Sm,pr_L l (g+1) hl',txL]
  simp[arS]
theorem mp_L:∀(l:List Nat) (f:Nat),l.length<f→gq idS f (tL l)=tL l
 | [],f+1,_=>rfl
 | d :: l,f+1,hl=>by
  have hl':l.length<f:=by simpa using hl
  obtain⟨g,rfl⟩:∃g,f=g+1:=⟨f - 1,by omega⟩
  show (⟨2,_,[gq idS (g+1) (tD d),gq idS (g+1) (tL l)]⟩:Tm)=_
  rw[mp_L l (g+1) hl']
  rfl
theorem Sp (η:List UInt8→U):∀(l:List Nat) (f:Nat),l.length<f→bJ η f (tL l)=lsU l
 | [],f+1,_=>Ma η f [110] []
 | d :: l,f+1,hl=>by
  have hl':l.length<f:=by simpa using hl
  obtain⟨g,rfl⟩:∃g,f=g+1:=⟨f - 1,by omega⟩
  refine(Ma η (g+1) [99] [tD d,tL l]).trans ?_
  rw[List.map_cons,List.map_cons,List.map_nil,Sn,Sp η l (g+1) hl']
  rfl
end Za
