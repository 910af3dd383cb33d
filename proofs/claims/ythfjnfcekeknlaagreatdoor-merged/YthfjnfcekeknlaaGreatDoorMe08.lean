import Derived.Test.YthfjnfcekeknlaaGreatDoorMe06
set_option maxHeartbeats 8000000
set_option maxRecDepth 100000
namespace Go.Proofs.YthfjnfcekeknlaaGreatDoor
open Go.RowKit
theorem gU (w:World) (X:Obj):w.heap.size<((w.alloc X).drew).heap.size:=by
 show w.heap.size<(w.alloc X).heap.size
 simp
end Go.Proofs.YthfjnfcekeknlaaGreatDoor
namespace Zc
def NH (c:aJ):List (List UInt8):=namesF 8 [] c.head
def NT (c:aJ):List (List UInt8):=aC (NH c) c.tests
def NG (c:aJ):List (List UInt8):=aC (NT c) c.goals
end Zc
namespace Go.Proofs.YthfjnfcekeknlaaGreatDoor
open Go
theorem dY (l m:List UInt8):(⟨l.toArray⟩:ByteArray)++⟨m.toArray⟩=⟨(l++m).toArray⟩:=by
 show (⟨l.toArray⟩:ByteArray).append ⟨m.toArray⟩=_
 simp[ByteArray.append]
theorem yA (b:ByteArray):(⟨b.toList.toArray⟩:ByteArray)=b:=by
 obtain⟨d⟩:=b
 rw[ByteArray.toList_mk]
theorem bO.at {α β:Type} {R:α→β→Prop}:∀{xs:List α} {ys:List β},bO R xs ys→∀(i:Nat) (h:i<xs.length) (h':i<ys.length),R xs[i] ys[i]
 | _ :: _,_ :: _,q,0,_,_=>q.1
 | _ :: _,_ :: _,q,i+1,h,h'=>bO.at q.2 i (by simpa using h) (by simpa using h')
theorem Il (c:UInt8):(⟨#[c]⟩:ByteArray)=⟨[c].toArray⟩:=rfl
theorem dA {b:ByteArray} {l:List UInt8} (h:b.toList=l):b=⟨l.toArray⟩:=by rw[←h,yA]
end Go.Proofs.YthfjnfcekeknlaaGreatDoor
namespace Go.Proofs.YthfjnfcekeknlaaGreatDoor
open Go.RowKit
theorem infoStrS:(Tryz.prog.info? 9).map (fun i=>(i.zero,i.size,i.bytes))=some (some (.string ⟨#[]⟩),1,16):=by kernel_rfl
end Go.Proofs.YthfjnfcekeknlaaGreatDoor
namespace Zc
end Zc
namespace Go.Proofs.YthfjnfcekeknlaaGreatDoor
open Go.RowKit
theorem wu (w:World):dp (w.alloc (.cells #[.slice none 0 0,.slice none 0 0,.bool false] 189)) w.heap.size [] [] false (fJ w.heap.size none none):=
 ⟨none,0,none,0,⟨heap_alloc_new w _,World.ownsRow_nil _ _ _ _,World.ownsRow_nil _ _ _ _,fun p _ q=>by cases q⟩,rfl⟩
end Go.Proofs.YthfjnfcekeknlaaGreatDoor
