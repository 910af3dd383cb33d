import Derived.Test.YthfjnfcekeknlaaGreatDoorU11
namespace Go.Proofs.YthfjnfcekeknlaaGreatDoor
open Go.RowKit

theorem set_ne (cs : Array Value) (v : Value) {xo i : Nat} (h : i ≠ xo) : (cs.setIfInBounds xo v)[i]? = cs[i]? := by
  rw [Array.getElem?_setIfInBounds, if_neg (fun e => h e.symm)]
/-- A list lies in the block xb, at the cell xo of what is there (cs); its variables are of the side sd. -/
structure XG (w : World) (xb xo : Nat) (sd : Int) (T : TypeId) (cs : Array Value) (us : List BV) (o : Option Addr) (cap : Nat) : Prop where
  blk : w.heap[xb]? = some (.cells cs T (0, 0))
  here : cs[xo]? = some (.slice o us.length cap)
  own : w.ownsRow (xb + 1) 109 4 (.slice o us.length cap) us.length (us.flatMap bvC)
  side : ∀ u ∈ us, u.num = sd
theorem XG.lt {w : World} {xb xo : Nat} {sd : Int} {T : TypeId} {cs : Array Value} {us : List BV} {o : Option Addr} {cap : Nat} (h : XG w xb xo sd T cs us o cap) : xb < w.heap.size := blk_lt' h.blk
theorem XG.cell {w : World} {xb xo : Nat} {sd : Int} {T : TypeId} {cs : Array Value} {us : List BV} {o : Option Addr} {cap : Nat} (h : XG w xb xo sd T cs us o cap) : w.cell? ⟨xb, xo, none⟩ = some (.slice o us.length cap) := (blkA' h.blk xo).trans h.here
theorem XG.froz {w : World} {xb xo : Nat} {sd : Int} {T : TypeId} {cs : Array Value} {us : List BV} {o : Option Addr} {cap : Nat} (h : XG w xb xo sd T cs us o cap) : w.frozen? ⟨xb, xo, none⟩ = false := blkX' h.blk xo
theorem XG.below {w w' : World} {xb xo : Nat} {sd : Int} {T : TypeId} {cs : Array Value} {us : List BV} {o : Option Addr} {cap : Nat} (h : XG w xb xo sd T cs us o cap) (hb : Below w.heap.size w w') : XG w' xb xo sd T cs us o cap :=
  ⟨(hb.block xb h.lt).trans h.blk, h.here, own_below h.own hb, h.side⟩
theorem XG.past {w : World} {xb xo : Nat} {sd : Int} {T : TypeId} {cs : Array Value} {us : List BV} {o : Option Addr} {cap : Nat} (h : XG w xb xo sd T cs us o cap) : ∀ p, o = some p → xb < p.block := fun p q => by
  have := h.own.lt p.block (by rw [q]; rfl)
  omega
end Go.Proofs.YthfjnfcekeknlaaGreatDoor
