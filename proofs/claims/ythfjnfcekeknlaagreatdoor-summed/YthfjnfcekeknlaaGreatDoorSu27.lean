import Derived.Test.YthfjnfcekeknlaaGreatDoorSu10
import Derived.Test.YthfjnfcekeknlaaGreatDoorSu25
import Derived.Test.YthfjnfcekeknlaaGreatDoorSu26
import Derived.Lib.AppendIntMem
import Derived.Deep.LoopGhost
set_option maxHeartbeats 8000000
set_option maxRecDepth 100000
namespace Go.Proofs.YthfjnfcekeknlaaGreatDoor
open Go.RowKit
def Pow (w:World):Prop:=Lib.TabIs Tryz.prog w "internal/strconv.uint64pow10" .u64 Lib.pow10Tab
theorem Pow.below {w w':World} (h:Pow w) (hb:Below w.heap.size w w'):Pow w':=by
 unfold Pow Lib.TabIs World.var? at*
 obtain⟨g,hg,hq⟩:=Option.bind_eq_some_iff.1 h
 rw[hg]
 dsimp only[Option.bind_some]
 cases hc:w.heap[g]? with
 | none=>rw[hc]at hq;cases hq
 | some o=>
  rw[hb.block g (Array.getElem?_eq_some_iff.1 hc).1]
  exact hq
theorem Pow.alloc {w:World} (h:Pow w) (o:Obj):Pow (w.alloc o):=h.below ((Below.refl _ _).alloc (Nat.le_refl _) o)
theorem P9 {us:List AV} {i:Nat} (h:i<us.length) (j:Nat) (hj:j<4):(us.flatMap gM)[i*4+j]?=(gM us[i])[j]?:=by
 induction us generalizing i with
 | nil=>simp at h
 | cons t r ih=>
  cases i with
  | zero=>rw[List.flatMap_cons,List.getElem?_append_left (by simp[gM];omega)];simp
  | succ i=>
   rw[List.flatMap_cons,List.getElem?_append_right (by simp[gM];omega)]
   simp only[show (gM t).length=4 from rfl]
   rw[show (i+1)*4+j - 4=i*4+j by omega]
   simpa using ih (by simpa using h)
theorem Qa {us:List JV} {i:Nat} (h:i<us.length) (j:Nat) (hj:j<14):(us.flatMap p8)[i*14+j]?=(p8 us[i])[j]?:=by
 induction us generalizing i with
 | nil=>simp at h
 | cons t r ih=>
  cases i with
  | zero=>rw[List.flatMap_cons,List.getElem?_append_left (by simp[p8];omega)];simp
  | succ i=>
   rw[List.flatMap_cons,List.getElem?_append_right (by simp[p8];omega)]
   simp only[show (p8 t).length=14 from rfl]
   rw[show (i+1)*14+j - 14=i*14+j by omega]
   simpa using ih (by simpa using h)
theorem B1 {us:List QV} {i:Nat} (h:i<us.length) (j:Nat) (hj:j<6):(us.flatMap oz)[i*6+j]?=(oz us[i])[j]?:=by
 induction us generalizing i with
 | nil=>simp at h
 | cons t r ih=>
  cases i with
  | zero=>rw[List.flatMap_cons,List.getElem?_append_left (by simp[oz];omega)];simp
  | succ i=>
   rw[List.flatMap_cons,List.getElem?_append_right (by simp[oz];omega)]
   simp only[show (oz t).length=6 from rfl]
   rw[show (i+1)*6+j - 6=i*6+j by omega]
   simpa using ih (by simpa using h)
end Go.Proofs.YthfjnfcekeknlaaGreatDoor
namespace Za
def argQ:List (List UInt8)→List UInt8
 | []=>[40]
 | x :: xs=>40 :: x++xs.flatMap (fun y=>44 :: y)
theorem Ix (l:List (List UInt8)) (x:List UInt8) (h:l≠[]):argQ (l++[x])=argQ l++44 :: x:=by
 cases l with
 | nil=>exact absurd rfl h
 | cons y ys=>simp[argQ]
theorem KR (l:List (List UInt8)) (h:l≠[]):argS l=argQ l++[41]:=by
 cases l with
 | nil=>exact absurd rfl h
 | cons y ys=>simp[argS,argQ]
theorem KS {c:Nat} (l:List (List UInt8)) (h:∀x∈l,x.length≤c):(argQ l).length≤1+l.length*(c+1):=by
 cases l with
 | nil=>simp[argQ]
 | cons y ys=>have:=JS (c:=c) (y :: ys) h;simp only[argP]at this;simp only[argQ];omega
theorem Iy {α β:Type} {ts:List α} {j:Nat} (hj:j<ts.length) (F:α→β):(ts.take (j+1)).map F=(ts.take j).map F++[F ts[j]]:=by
 rw[List.take_add_one,List.getElem?_eq_getElem hj,List.map_append];rfl
end Za
namespace Go.Proofs.YthfjnfcekeknlaaGreatDoor
open Go.RowKit
theorem KU (b:ByteArray):b++⟨#[40]⟩=(⟨(b.toList++Za.argQ []).toArray⟩:ByteArray):=by
 have:=fJ b.toList [40]
 rw[yg]at this
 exact this
theorem N7 (X A:List UInt8) (l:List (List UInt8)) (h:l=[]):(⟨(X++Za.argQ l).toArray⟩:ByteArray)++⟨A.toArray⟩=⟨(X++Za.argQ (l++[A])).toArray⟩:=by
 subst h
 rw[fJ]
 simp[Za.argQ]
theorem N8 (X A:List UInt8) (l:List (List UInt8)) (h:l≠[]):(⟨(X++Za.argQ l).toArray⟩:ByteArray)++⟨#[44]⟩++⟨A.toArray⟩=⟨(X++Za.argQ (l++[A])).toArray⟩:=by
 rw[Hm,fJ,fJ,Za.Ix _ _ h]
 simp
theorem Qb (X:List UInt8) (l:List (List UInt8)) (h:l≠[]):(⟨(X++Za.argQ l).toArray⟩:ByteArray)++⟨#[41]⟩=⟨(X++Za.argS l).toArray⟩:=by
 rw[Hm,fJ,Za.KR _ h]
 simp
theorem Vh (A B:List UInt8) (g:List UInt8):(⟨A.toArray⟩:ByteArray)++⟨g.toArray⟩++⟨B.toArray⟩=⟨(A++(g++B)++[]).toArray⟩:=by
 rw[fJ,fJ];simp
theorem Vi (A B C:List UInt8) (g h:List UInt8):(⟨A.toArray⟩:ByteArray)++⟨g.toArray⟩++⟨B.toArray⟩++⟨h.toArray⟩++⟨C.toArray⟩=⟨(A++(g++B)++(h++C)).toArray⟩:=by
 rw[fJ,fJ,fJ,fJ];simp
end Go.Proofs.YthfjnfcekeknlaaGreatDoor
