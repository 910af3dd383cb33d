import Derived.Test.YthfjnfcekeknlabGreatDoorPx07
import Derived.Test.YthfjnfcekeknlabGreatDoorPx21
import Derived.Test.YthfjnfcekeknlabGreatDoorPx22
import Derived.Lib.AppendIntMem
import Derived.Deep.LoopGhost
set_option maxHeartbeats 8000000
set_option maxRecDepth 100000
set_option linter.unusedSimpArgs false
namespace Go.Proofs.YthfjnfcekeknlabGreatDoor
open Go.RowKit
variable {w w':World} {i:Nat} {us:List AV}
def Pow (w:World):Prop:=Lib.TabIs Tryz.prog w "internal/strconv.uint64pow10" .u64 Lib.pow10Tab
theorem Pow.below (h:Pow w) (hb:Below w.heap.size w w'):Pow w':=by
 unfold Pow Lib.TabIs World.var? at*;obtain⟨g,hg,hq⟩:=Option.bind_eq_some_iff.1 h;rw[hg];dsimp only[Option.bind_some];cases hc:w.heap[g]? with
 | none=>rw[hc]at hq;cases hq
 | some o=>rw[hb.block g (bd.1 hc).1];exact hq
theorem Pow.alloc {w:World} (h:Pow w) (o:Obj):Pow (w.alloc o):=h.below (Qx.alloc Qw o)
theorem NM (h:i<us.length) (j:Nat) (hj:j<4):(us.flatMap oq)[i*4+j]?=(oq us[i])[j]?:=by
 induction us generalizing i with
 | nil=>simp at h
 | cons t r ih=>
  cases i with
  | zero=>rw[bM,cg (by simp[oq];omega)];simp
  | succ i=>rw[bM,cZ (by simp[oq];omega)];simp only[show (oq t).length=4 from rfl];rw[show (i+1)*4+j - 4=i*4+j by omega];simpa using ih (by simpa using h)
theorem If {us:List JV} (h:i<us.length) (j:Nat) (hj:j<14):(us.flatMap B8)[i*14+j]?=(B8 us[i])[j]?:=by
 induction us generalizing i with
 | nil=>simp at h
 | cons t r ih=>
  cases i with
  | zero=>rw[bM,cg (by simp[B8];omega)];simp
  | succ i=>rw[bM,cZ (by simp[B8];omega)];simp only[show (B8 t).length=14 from rfl];rw[show (i+1)*14+j - 14=i*14+j by omega];simpa using ih (by simpa using h)
theorem Cn {us:List QV} (h:i<us.length) (j:Nat) (hj:j<6):(us.flatMap B4)[i*6+j]?=(B4 us[i])[j]?:=by
 induction us generalizing i with
 | nil=>simp at h
 | cons t r ih=>
  cases i with
  | zero=>rw[bM,cg (by simp[B4];omega)];simp
  | succ i=>rw[bM,cZ (by simp[B4];omega)];simp only[show (B4 t).length=6 from rfl];rw[show (i+1)*6+j - 6=i*6+j by omega];simpa using ih (by simpa using h)
end Go.Proofs.YthfjnfcekeknlabGreatDoor
namespace af
def lS:List (List UInt8)->List UInt8
 | []=>[40]
 | x :: xs=>40 :: x++xs.flatMap (fun y=>44 :: y)
theorem FK (l:List (List UInt8)) (x:List UInt8) (h:l≠[]):lS (l++[x])=lS l++44 :: x:=by
 cases l with
 | nil=>exact absurd rfl h
 | cons y ys=>simp[lS]
theorem Jv (l:List (List UInt8)) (h:l≠[]):nj l=lS l++[41]:=by
 cases l with
 | nil=>exact absurd rfl h
 | cons y ys=>simp[nj,lS]
theorem Ju {c:Nat} (l:List (List UInt8)) (h:∀x∈l,x.length<=c):(lS l).length<=1+l.length*(c+1):=by
 cases l with
 | nil=>simp[lS]
 | cons y ys=>have:=Jw (c:=c) (y :: ys) h;simp only[L5]at this;simp only[lS];omega
theorem EK {α β:Type} {ts:List α} {j:Nat} (hj:j<ts.length) (F:α->β):(ts.take (j+1)).map F=(ts.take j).map F++[F ts[j]]:=by rw[bR,aj hj,dL];rfl
end af
namespace Go.Proofs.YthfjnfcekeknlabGreatDoor
open Go.RowKit af
theorem GX (b:ByteArray):b++⟨#[40]⟩=(⟨(b.toList++lS []).toArray⟩:ByteArray):=by have:=dt b.toList [40];rw[xu]at this;exact this
theorem KC (X A:List UInt8) (l:List (List UInt8)) (h:l=[]):(⟨(X++lS l).toArray⟩:ByteArray)++⟨A.toArray⟩=⟨(X++lS (l++[A])).toArray⟩:=by subst h;rw[dt];simp[lS]
theorem KB (X A:List UInt8) (l:List (List UInt8)) (h:l≠[]):(⟨(X++lS l).toArray⟩:ByteArray)++⟨#[44]⟩++⟨A.toArray⟩=⟨(X++lS (l++[A])).toArray⟩:=by rw[gK,dt,dt,FK _ _ h];simp
theorem M8 (X:List UInt8) (l:List (List UInt8)) (h:l≠[]):(⟨(X++lS l).toArray⟩:ByteArray)++⟨#[41]⟩=⟨(X++nj l).toArray⟩:=by rw[gK,dt,Jv _ h];simp
theorem O' (A B:List UInt8) (g:List UInt8):(⟨A.toArray⟩:ByteArray)++⟨g.toArray⟩++⟨B.toArray⟩=⟨(A++(g++B)++[]).toArray⟩:=by rw[dt,dt];simp
theorem O9 (A B C:List UInt8) (g h:List UInt8):(⟨A.toArray⟩:ByteArray)++⟨g.toArray⟩++⟨B.toArray⟩++⟨h.toArray⟩++⟨C.toArray⟩=⟨(A++(g++B)++(h++C)).toArray⟩:=by rw[dt,dt,dt,dt];simp
