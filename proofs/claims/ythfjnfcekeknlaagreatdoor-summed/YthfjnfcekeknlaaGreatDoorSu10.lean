import Derived.Test.YthfjnfcekeknlaaGreatDoorSu08
set_option maxHeartbeats 8000000
set_option maxRecDepth 100000
namespace Go.Proofs.YthfjnfcekeknlaaGreatDoor
open Go.RowKit
theorem gS (w:World) (X:Obj):w.heap.size<((w.alloc X).drew).heap.size:=by
 show w.heap.size<(w.alloc X).heap.size
 simp
end Go.Proofs.YthfjnfcekeknlaaGreatDoor
namespace Za
end Za
namespace Go.Proofs.YthfjnfcekeknlaaGreatDoor
open Go
theorem fJ (l m:List UInt8):(⟨l.toArray⟩:ByteArray)++⟨m.toArray⟩=⟨(l++m).toArray⟩:=by
 show (⟨l.toArray⟩:ByteArray).append ⟨m.toArray⟩=_
 simp[ByteArray.append]
theorem yg (b:ByteArray):(⟨b.toList.toArray⟩:ByteArray)=b:=by
 obtain⟨d⟩:=b
 rw[ByteArray.toList_mk]
theorem bR.at {α β:Type} {R:α→β→Prop}:∀{xs:List α} {ys:List β},bR R xs ys→∀(i:Nat) (h:i<xs.length) (h':i<ys.length),R xs[i] ys[i]
 | _ :: _,_ :: _,q,0,_,_=>q.1
 | _ :: _,_ :: _,q,i+1,h,h'=>bR.at q.2 i (by simpa using h) (by simpa using h')
theorem Hm (c:UInt8):(⟨#[c]⟩:ByteArray)=⟨[c].toArray⟩:=rfl
theorem eX {b:ByteArray} {l:List UInt8} (h:b.toList=l):b=⟨l.toArray⟩:=by rw[←h,yg]
end Go.Proofs.YthfjnfcekeknlaaGreatDoor
namespace Go.Proofs.YthfjnfcekeknlaaGreatDoor
open Go.RowKit
theorem infoStrS:(Tryz.prog.info? 9).map (fun i=>(i.zero,i.size,i.bytes))=some (some (.string ⟨#[]⟩),1,16):=by kernel_rfl
end Go.Proofs.YthfjnfcekeknlaaGreatDoor
namespace Za
end Za
namespace Go.Proofs.YthfjnfcekeknlaaGreatDoor
open Go.RowKit
theorem vW (w:World):dp (w.alloc (.cells #[.slice none 0 0,.slice none 0 0,.bool false] 189)) w.heap.size [] [] false (fH w.heap.size none none):=
 ⟨none,0,none,0,⟨heap_alloc_new w _,World.ownsRow_nil _ _ _ _,World.ownsRow_nil _ _ _ _,fun p _ q=>by cases q⟩,rfl⟩
end Go.Proofs.YthfjnfcekeknlaaGreatDoor
namespace Za
open Go
theorem Km (n:Nat):lR (Lib.decDigits n)=n:=by
 induction n using Nat.strongRecOn with
 | ind n ih=>
  have one:∀d,d<10→((UInt8.ofNat (48+d)).toNat+208) % 256=d:=fun d h=>by
   have e:(UInt8.ofNat (48+d)).toNat=48+d:=by rw[UInt8.toNat_ofNat'];omega
   rw[e]
   omega
  by_cases h:n<10
  ·rw[Lib.decDigits,dif_pos h]
   show lR ([]++[UInt8.ofNat (48+n)])=n
   rw[sI,one n h]
   simp[lR]
  ·rw[Lib.decDigits,dif_neg h,sI,ih (n / 10) (by omega),one (n % 10) (by omega)]
   omega
def idS:iC:=⟨id,id⟩
theorem Kn (n:Nat):∀d∈Lib.decDigits n,iI d.toNat=true:=by
 induction n using Nat.strongRecOn with
 | ind n ih=>
  have one:∀d,d<10→iI (UInt8.ofNat (48+d)).toNat=true:=fun d h=>by
   have e:(UInt8.ofNat (48+d)).toNat=48+d:=by rw[UInt8.toNat_ofNat'];omega
   rw[e]
   unfold iI
   simp
   omega
  by_cases h:n<10
  ·rw[Lib.decDigits,dif_pos h]
   intro d hd
   rw[List.mem_singleton.1 hd]
   exact one n h
  ·rw[Lib.decDigits,dif_neg h]
   intro d hd
   rcases List.mem_append.1 hd with q | q
   ·exact ih (n / 10) (by omega) d q
   ·rw[List.mem_singleton.1 q]
    exact one (n % 10) (by omega)
end Za
