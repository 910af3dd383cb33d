import Derived.Test.YthfjnfcekeknlaaGreatDoorSu05
import Derived.Deep.LoopGhost
import Derived.Deep.RegionHeld3
set_option maxHeartbeats 8000000
set_option maxRecDepth 100000
namespace Go.Proofs.YthfjnfcekeknlaaGreatDoor
open Go.RowKit
theorem Hl {x y:ByteArray} (h:x.toList=y.toList):x=y:=by
 rw[ByteArray.toList_eq,ByteArray.toList_eq]at h
 exact ByteArray.ext (Array.ext' h)
theorem mB.Po {w W w1:World} {lb:Nat} {S:List Int} {T:List Nat} {no:Bool} {so:Option Addr} {sc:Nat} {wo:Option Addr} {wc:Nat} (h:mB w lb S T no so sc wo wc) (hW:Below w.heap.size w W) {g cap':Nat} {n:Int}
 (hown:w1.ownsRow (lb+1) 3 1 (.slice (some ⟨g,0,none⟩) (S.length+1) cap') (S.length+1) (S.map fU++[fU n])) (hg:W.grownBy w1 (Value.slice so S.length sc).ownBlock) (hat:(Value.slice so S.length sc).ownBlock=some g∨w.heap.size≤g):
 mB (w1.setCell ⟨lb,0,none⟩ (.slice (some ⟨g,0,none⟩) (S.length+1) cap')) lb (S++[n]) T no (some ⟨g,0,none⟩) cap' wo wc∧au (fH lb so wo) (fH lb (some ⟨g,0,none⟩) wo) w (w1.setCell ⟨lb,0,none⟩ (.slice (some ⟨g,0,none⟩) (S.length+1) cap')):=by
 have hz:=hW.size
 have s0:=ag h.blk
 have keep:∀k,k<w.heap.size→k≠lb→(∀p,so=some p→k≠p.block)→(w1.setCell ⟨lb,0,none⟩ (.slice (some ⟨g,0,none⟩) (S.length+1) cap')).heap[k]?=w.heap[k]?:=fun k h1 h2 h3=>by
  rw[aJ _ _ _ _ h2,hg.block k (by omega) (iY h3),hW.block k h1]
 have row:∀k,fH lb (some ⟨g,0,none⟩) wo k→fH lb so wo k∨w.heap.size≤k:=by
  rintro k (e | ⟨p,q,e⟩ | e)
  ·exact Or.inl (Or.inl e)
  ·cases q
   dsimp only at e
   rcases hat with a | a
   ·left
    right
    left
    cases so with
    | none=>simp[Value.ownBlock]at a
    | some s=>simp[Value.ownBlock]at a;exact⟨s,rfl,by omega⟩
   ·right;omega
  ·exact Or.inl (Or.inr (Or.inr e))
 have keepR:∀k,k<w.heap.size→¬fH lb so wo k→(w1.setCell ⟨lb,0,none⟩ (.slice (some ⟨g,0,none⟩) (S.length+1) cap')).heap[k]?=w.heap[k]?:=fun k hk hr=>keep k hk (fun e=>hr (Or.inl e)) (fun p q e=>hr (Or.inr (Or.inl ⟨p,q,e⟩)))
 refine⟨⟨?_,?_,?_,?_⟩,⟨hg.os.trans hW.os,hg.tape.trans hW.tape,hg.output.trans hW.output,by rw[cL];have:=hg.size;omega,keepR,row⟩⟩
 ·have q0:w1.heap[lb]?=some (.cells #[.slice so S.length sc,.slice wo T.length wc,.bool no] 189 (0,0)):=by
   rw[hg.block lb (by omega) (iY (fun p q e=>by have:=h.sown.lt p.block (by rw[q];rfl);omega)),hW.block lb s0]
   exact h.blk
  have:=aA q0 0 (.slice (some ⟨g,0,none⟩) (S.length+1) cap')
  simpa using this
 ·have:=ai hown (w':=w1.setCell ⟨lb,0,none⟩ (.slice (some ⟨g,0,none⟩) (S.length+1) cap')) (fun k q=>aJ _ _ _ _ (by have:=(hown.lt k q).1;omega))
  simpa using this
 ·refine ai h.wown (fun k q=>keep k (h.wown.lt k q).2 (by have:=(h.wown.lt k q).1;omega) (fun p e r=> ?_))
  cases wo with
  | none=>simp[Value.ownBlock]at q
  | some s=>simp[Value.ownBlock]at q;exact h.apart p s e rfl (by omega)
 ·intro p q hp hq
  cases hp
  have hsp:=(h.wown.lt q.block (by rw[hq];rfl)).2
  rcases hat with a | a
  ·cases so with
   | none=>simp[Value.ownBlock]at a
   | some s=>simp[Value.ownBlock]at a;have:=h.apart s q rfl hq;dsimp only;omega
  ·dsimp only;omega
theorem mB.put {w:World} {lb:Nat} {S:List Int} {T:List Nat} {no:Bool} {g sc:Nat} {wo:Option Addr} {wc:Nat} (h:mB w lb S T no (some ⟨g,0,none⟩) sc wo wc) {i:Nat} (_hi:i<S.length) (n:Int):
 mB (w.setCell ⟨g,i,none⟩ (.int .i64 n)) lb (S.set i n) T no (some ⟨g,0,none⟩) sc wo wc∧au (fH lb (some ⟨g,0,none⟩) wo) (fH lb (some ⟨g,0,none⟩) wo) w (w.setCell ⟨g,i,none⟩ (.int .i64 n)):=by
 have hg:=h.sown.lt g rfl
 refine⟨⟨?_,?_,ai h.wown (fun k q=>aJ _ _ _ _ (fun e=> ?_)),h.apart⟩,rfl,rfl,rfl,by rw[cL];exact Nat.le_refl _,fun k _ hr=>aJ _ _ _ _ (fun e=>hr (Or.inr (Or.inl ⟨_,rfl,e⟩))),fun _ q=>Or.inl q⟩
 ·rw[aJ _ _ _ _ (by omega),List.length_set]
  exact h.blk
 ·rcases h.sown.2 with⟨q,_⟩ | ⟨g',cap,cur,q1,q2,q3,q4,q5,q6,q7⟩
  ·cases q
  ·simp only[Value.slice.injEq,Option.some.injEq,Addr.mk.injEq]at q1
   obtain⟨⟨rfl,_,_⟩,_,rfl⟩:=q1
   refine⟨by simp,Or.inr ⟨g,sc,cur.setIfInBounds i (.int .i64 n),by rw[List.length_set],q2,by exact aA q3 i (.int .i64 n),by rw[List.length_set];exact q4,q5,by simp[q6],?_⟩⟩
   rw[List.length_set,List.map_set,←q7,Array.toList_setIfInBounds,Nat.mul_one,List.take_set]
   rfl
 ·cases wo with
  | none=>simp[Value.ownBlock]at q
  | some s=>simp[Value.ownBlock]at q;exact h.apart ⟨g,0,none⟩ s rfl rfl (by dsimp only at e⊢;omega)
end Go.Proofs.YthfjnfcekeknlaaGreatDoor
namespace Za
def NH (c:aL):List (List UInt8):=namesF 8 [] c.head
def NT (c:aL):List (List UInt8):=aD (NH c) c.tests
def NG (c:aL):List (List UInt8):=aD (NT c) c.goals
end Za
