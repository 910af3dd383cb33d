import Derived.Test.YthfjnfcekeknlaaGreatDoorSt07
import Derived.Test.YthfjnfcekeknlaaGreatDoorSt20
import Derived.Test.YthfjnfcekeknlaaGreatDoorSt21
import Derived.Lib.AppendIntMem
import Derived.Deep.LoopGhost
set_option maxHeartbeats 8000000
set_option maxRecDepth 100000
namespace Go.Proofs.YthfjnfcekeknlaaGreatDoor
open Go.RowKit
def Pow (w:World):Prop:=Lib.TabIs Tryz.prog w "internal/strconv.uint64pow10" .u64 Lib.pow10Tab
theorem Pow.below {w w':World} (h:Pow w) (hb:Below w.heap.size w w'):Pow w':=by
 unfold Pow Lib.TabIs World.var? at*
 obtain⟨g,hg,hq⟩:=Option.bind_eq_some_iff.1 h
 rw[hg]
 dsimp only[Option.bind_some]
 cases hc:w.heap[g]? with
 | none=>rw[hc]at hq;cases hq
 | some o=>
  rw[hb.block g (Array.getElem?_eq_some_iff.1 hc).1]
  exact hq
theorem Pow.alloc {w:World} (h:Pow w) (o:Obj):Pow (w.alloc o):=h.below ((Below.refl _ _).alloc (Nat.le_refl _) o)
theorem Qo {us:List AV} {i:Nat} (h:i<us.length) (j:Nat) (hj:j<4):(us.flatMap gq)[i*4+j]?=(gq us[i])[j]?:=by
 induction us generalizing i with
 | nil=>simp at h
 | cons t r ih=>
  cases i with
  | zero=>rw[List.flatMap_cons,List.getElem?_append_left (by simp[gq];omega)];simp
  | succ i=>
   rw[List.flatMap_cons,List.getElem?_append_right (by simp[gq];omega)]
   simp only[show (gq t).length=4 from rfl]
   rw[show (i+1)*4+j - 4=i*4+j by omega]
   simpa using ih (by simpa using h)
theorem Qp {us:List JV} {i:Nat} (h:i<us.length) (j:Nat) (hj:j<14):(us.flatMap pO)[i*14+j]?=(pO us[i])[j]?:=by
 induction us generalizing i with
 | nil=>simp at h
 | cons t r ih=>
  cases i with
  | zero=>rw[List.flatMap_cons,List.getElem?_append_left (by simp[pO];omega)];simp
  | succ i=>
   rw[List.flatMap_cons,List.getElem?_append_right (by simp[pO];omega)]
   simp only[show (pO t).length=14 from rfl]
   rw[show (i+1)*14+j - 14=i*14+j by omega]
   simpa using ih (by simpa using h)
theorem BO {us:List QV} {i:Nat} (h:i<us.length) (j:Nat) (hj:j<6):(us.flatMap nU)[i*6+j]?=(nU us[i])[j]?:=by
 induction us generalizing i with
 | nil=>simp at h
 | cons t r ih=>
  cases i with
  | zero=>rw[List.flatMap_cons,List.getElem?_append_left (by simp[nU];omega)];simp
  | succ i=>
   rw[List.flatMap_cons,List.getElem?_append_right (by simp[nU];omega)]
   simp only[show (nU t).length=6 from rfl]
   rw[show (i+1)*6+j - 6=i*6+j by omega]
   simpa using ih (by simpa using h)
end Go.Proofs.YthfjnfcekeknlaaGreatDoor
namespace Za
def argQ:List (List UInt8)→List UInt8
 | []=>[40]
 | x :: xs=>40 :: x++xs.flatMap (fun y=>44 :: y)
theorem Iy (l:List (List UInt8)) (x:List UInt8) (h:l≠[]):argQ (l++[x])=argQ l++44 :: x:=by
 cases l with
 | nil=>exact absurd rfl h
 | cons y ys=>simp[argQ]
theorem KW (l:List (List UInt8)) (h:l≠[]):argS l=argQ l++[41]:=by
 cases l with
 | nil=>exact absurd rfl h
 | cons y ys=>simp[argS,argQ]
theorem KX {c:Nat} (l:List (List UInt8)) (h:∀x∈l,x.length≤c):(argQ l).length≤1+l.length*(c+1):=by
 cases l with
 | nil=>simp[argQ]
 | cons y ys=>have:=J0 (c:=c) (y :: ys) h;simp only[argP]at this;simp only[argQ];omega
theorem Iz {α β:Type} {ts:List α} {j:Nat} (hj:j<ts.length) (F:α→β):(ts.take (j+1)).map F=(ts.take j).map F++[F ts[j]]:=by
 rw[List.take_add_one,List.getElem?_eq_getElem hj,List.map_append];rfl
end Za
namespace Go.Proofs.YthfjnfcekeknlaaGreatDoor
open Go.RowKit
theorem KY (b:ByteArray):b++⟨#[40]⟩=(⟨(b.toList++Za.argQ []).toArray⟩:ByteArray):=by
 have:=cJ b.toList [40]
 rw[xY]at this
 exact this
theorem Ox (X A:List UInt8) (l:List (List UInt8)) (h:l=[]):(⟨(X++Za.argQ l).toArray⟩:ByteArray)++⟨A.toArray⟩=⟨(X++Za.argQ (l++[A])).toArray⟩:=by
 subst h
 rw[cJ]
 simp[Za.argQ]
theorem Oy (X A:List UInt8) (l:List (List UInt8)) (h:l≠[]):(⟨(X++Za.argQ l).toArray⟩:ByteArray)++⟨#[44]⟩++⟨A.toArray⟩=⟨(X++Za.argQ (l++[A])).toArray⟩:=by
 rw[Hk,cJ,cJ,Za.Iy _ _ h]
 simp
theorem Qq (X:List UInt8) (l:List (List UInt8)) (h:l≠[]):(⟨(X++Za.argQ l).toArray⟩:ByteArray)++⟨#[41]⟩=⟨(X++Za.argS l).toArray⟩:=by
 rw[Hk,cJ,Za.KW _ h]
 simp
theorem Vi (A B:List UInt8) (g:List UInt8):(⟨A.toArray⟩:ByteArray)++⟨g.toArray⟩++⟨B.toArray⟩=⟨(A++(g++B)++[]).toArray⟩:=by
 rw[cJ,cJ];simp
theorem Vj (A B C:List UInt8) (g h:List UInt8):(⟨A.toArray⟩:ByteArray)++⟨g.toArray⟩++⟨B.toArray⟩++⟨h.toArray⟩++⟨C.toArray⟩=⟨(A++(g++B)++(h++C)).toArray⟩:=by
 rw[cJ,cJ,cJ,cJ];simp
end Go.Proofs.YthfjnfcekeknlaaGreatDoor
