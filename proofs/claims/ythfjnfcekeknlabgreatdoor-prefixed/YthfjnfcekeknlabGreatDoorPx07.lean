import Derived.Test.YthfjnfcekeknlabGreatDoorPx05
import Derived.Deep.LoopGhost
import Derived.Deep.RegionHeld3
set_option maxHeartbeats 8000000
set_option maxRecDepth 100000
set_option linter.unusedSimpArgs false
namespace Go.Proofs.YthfjnfcekeknlabGreatDoor
open Go.RowKit
variable {T:List Nat} {w' w u w1 W:World} {S:List Int} {R' R:Nat->Prop} {lb g sc wc cap' i:Nat} {no:Bool} {y x:ByteArray} {so wo:Option Addr} {n:Int}
theorem iR.rows {w:World} {lb:Nat} {S:List Int} {T:List Nat} {no:Bool} {R:Nat->Prop} (h:iR w lb S T no R):∀k,R k->lb<=k/\k<w.heap.size:=by obtain⟨so,sc,wo,wc,h,rfl⟩:=h;exact h.rows
theorem iR.under (h:iR w lb S T no R) (hf:bZ R R' w w') (hu:Below u.heap.size u w) (hl:u.heap.size<=lb):Below u.heap.size u w':=
 ⟨hf.os.trans hu.os,hf.tape.trans hu.tape,hf.output.trans hu.output,aW hu.size hf.size,fun k hk=>(hf.block k (by have:=hu.size;omega) (fun q=>by have:=(h.rows k q).1;omega)).trans (hu.block k hk)⟩
theorem Jn (h:x.toList=y.toList):x=y:=by rw[bN,bN]at h;exact ByteArray.ext (Array.ext' h)
theorem tY.MT (h:tY w lb S T no so sc wo wc) (hW:Below w.heap.size w W) (hown:w1.ownsRow (lb+1) 3 1 (.slice (some ⟨g,0,none⟩) (S.length+1) cap') (S.length+1) (S.map jI++[jI n])) (hg:W.grownBy w1 (Value.slice so S.length sc).ownBlock) (hat:(Value.slice so S.length sc).ownBlock=some g\/w.heap.size<=g):
 tY (w1.setCell ⟨lb,0,none⟩ (.slice (some ⟨g,0,none⟩) (S.length+1) cap')) lb (S++[n]) T no (some ⟨g,0,none⟩) cap' wo wc/\bZ (gW lb so wo) (gW lb (some ⟨g,0,none⟩) wo) w (w1.setCell ⟨lb,0,none⟩ (.slice (some ⟨g,0,none⟩) (S.length+1) cap')):=by
 have hz:=hW.size;have s0:=aD h.blk;have keep:∀k,k<w.heap.size->k≠lb->(∀p,so=some p->k≠p.block)->(w1.setCell ⟨lb,0,none⟩ (.slice (some ⟨g,0,none⟩) (S.length+1) cap')).heap[k]?=w.heap[k]?:=fun k h1 h2 h3=>by rw[b6 _ _ _ _ h2,hg.block k (by omega) (i7 h3),hW.block k h1]
 have row:∀k,gW lb (some ⟨g,0,none⟩) wo k->gW lb so wo k\/w.heap.size<=k:=by
  rintro k (e | ⟨p,q,e⟩ | e)
  ·exact ay (ay e)
  ·cases q;dsimp only at e;rcases hat with a | a
   ·left;right;left;cases so with
    | none=>simp[Value.ownBlock]at a
    | some s=>simp[Value.ownBlock]at a;exact⟨s,rfl,by omega⟩
   ·right;omega
  ·exact ay (aw (aw e))
 have keepR:∀k,k<w.heap.size->¬gW lb so wo k->(w1.setCell ⟨lb,0,none⟩ (.slice (some ⟨g,0,none⟩) (S.length+1) cap')).heap[k]?=w.heap[k]?:=fun k hk hr=>keep k hk (fun e=>hr (ay e)) (fun p q e=>hr (aw (ay ⟨p,q,e⟩)));refine⟨⟨?_,?_,?_,?_⟩,⟨hg.os.trans hW.os,hg.tape.trans hW.tape,hg.output.trans hW.output,by rw[fj];have:=hg.size;omega,keepR,row⟩⟩
 ·have q0:w1.heap[lb]?=some (.cells #[.slice so S.length sc,.slice wo T.length wc,.bool no] 102 (0,0)):=by
   rw[hg.block lb (by omega) (i7 (fun p q e=>by have:=h.lH.lt p.block (by rw[q];rfl);omega)),hW.block lb s0];exact h.blk
  have:=bB q0 0 (.slice (some ⟨g,0,none⟩) (S.length+1) cap');simpa using this
 ·have:=aO hown (w':=w1.setCell ⟨lb,0,none⟩ (.slice (some ⟨g,0,none⟩) (S.length+1) cap')) (fun k q=>b6 _ _ _ _ (by have:=(hown.lt k q).1;omega));simpa using this
 ·refine aO h.lh (fun k q=>keep k (h.lh.lt k q).2 (by have:=(h.lh.lt k q).1;omega) (fun p e r=> ?_));cases wo with
  | none=>simp[Value.ownBlock]at q
  | some s=>simp[Value.ownBlock]at q;exact h.apart p s e rfl (by omega)
 ·intro p q hp hq;cases hp;have hsp:=(h.lh.lt q.block (by rw[hq];rfl)).2;rcases hat with a | a
  ·cases so with
   | none=>simp[Value.ownBlock]at a
   | some s=>simp[Value.ownBlock]at a;have:=h.apart s q rfl hq;dsimp only;omega
  ·dsimp only;omega
theorem tY.put (h:tY w lb S T no (some ⟨g,0,none⟩) sc wo wc) (_hi:i<S.length) (n:Int):
 tY (w.setCell ⟨g,i,none⟩ (.int .i64 n)) lb (S.set i n) T no (some ⟨g,0,none⟩) sc wo wc/\bZ (gW lb (some ⟨g,0,none⟩) wo) (gW lb (some ⟨g,0,none⟩) wo) w (w.setCell ⟨g,i,none⟩ (.int .i64 n)):=by
 have hg:=h.lH.lt g rfl;refine⟨⟨?_,?_,aO h.lh (fun k q=>b6 _ _ _ _ (fun e=> ?_)),h.apart⟩,rfl,rfl,rfl,by rw[fj];exact Qw,fun k _ hr=>b6 _ _ _ _ (fun e=>hr (aw (ay ⟨_,rfl,e⟩))),fun _ q=>ay q⟩
 ·rw[b6 _ _ _ _ (by omega),jN];exact h.blk
 ·rcases h.lH.2 with⟨q,_⟩ | ⟨g',cap,cur,q1,q2,q3,q4,q5,q6,q7⟩
  ·cases q
  ·simp only[aS,aM,qK]at q1;obtain⟨⟨rfl,_,_⟩,_,rfl⟩:=q1;refine⟨by simp,aw ⟨g,sc,cur.setIfInBounds i (.int .i64 n),by rw[jN],q2,by exact bB q3 i (.int .i64 n),by rw[jN];exact q4,q5,by simp[q6],?_⟩⟩;rw[jN,mL,<-q7,Array.toList_setIfInBounds,OZ,List.take_set];rfl
 ·cases wo with
  | none=>simp[Value.ownBlock]at q
  | some s=>simp[Value.ownBlock]at q;exact h.apart ⟨g,0,none⟩ s rfl rfl (by dsimp only at e⊢;omega)
theorem iM (w:World) (X:Obj):w.heap.size<((w.alloc X).drew).heap.size:=by show w.heap.size<(w.alloc X).heap.size;simp
end Go.Proofs.YthfjnfcekeknlabGreatDoor
namespace af
def NH (c:dE):List (List UInt8):=aP 8 [] c.head
def NT (c:dE):List (List UInt8):=bE (NH c) c.tests
def NG (c:dE):List (List UInt8):=bE (NT c) c.goals
end af
namespace Go.Proofs.YthfjnfcekeknlabGreatDoor
open Go
theorem dt (l m:List UInt8):(⟨l.toArray⟩:ByteArray)++⟨m.toArray⟩=⟨(l++m).toArray⟩:=by show (⟨l.toArray⟩:ByteArray).append ⟨m.toArray⟩=_;simp[ByteArray.append]
theorem xu (b:ByteArray):(⟨b.toList.toArray⟩:ByteArray)=b:=by obtain⟨d⟩:=b;rw[aV]
theorem eO.at {α β:Type} {R:α->β->Prop}:∀{xs:List α} {ys:List β},eO R xs ys->∀(i:Nat) (h:i<xs.length) (h':i<ys.length),R xs[i] ys[i]
 | _ :: _,_ :: _,q,0,_,_=>q.1
 | _ :: _,_ :: _,q,i+1,h,h'=>eO.at q.2 i (by simpa using h) (by simpa using h')
theorem gK (c:UInt8):(⟨#[c]⟩:ByteArray)=⟨[c].toArray⟩:=rfl
theorem fx {b:ByteArray} {l:List UInt8} (h:b.toList=l):b=⟨l.toArray⟩:=by rw[<-h,xu]
end Go.Proofs.YthfjnfcekeknlabGreatDoor
namespace Go.Proofs.YthfjnfcekeknlabGreatDoor
open Go.RowKit
theorem Ik:(Tryz.prog.info? 9).map (fun i=>(i.zero,i.size,i.bytes))=some (some (.string ⟨#[]⟩),1,16):=by kernel_rfl
end Go.Proofs.YthfjnfcekeknlabGreatDoor
namespace af
open Go
theorem sM (n:Nat):oG (Lib.decDigits n)=n:=by
 induction n using Nat.strongRecOn with
 | ind n ih=>
  have one:∀d,d<10->((UInt8.ofNat (48+d)).toNat+208) % 256=d:=fun d h=>by
   have e:(UInt8.ofNat (48+d)).toNat=48+d:=by rw[UInt8.toNat_ofNat'];omega
   rw[e];omega
  by_cases h:n<10
  ·rw[Lib.decDigits,kX h];show oG ([]++[UInt8.ofNat (48+n)])=n;rw[qn,one n h];simp[oG]
  ·rw[Lib.decDigits,ul h,qn,ih (n / 10) (by omega),one (n % 10) (by omega)];omega
