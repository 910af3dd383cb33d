import Derived.Test.YthfjnfcekeknlabGreatDoorPx00
import Derived.WalkKit
set_option linter.defProp false
namespace Go
open Go.RowKit
theorem Qx {n:Nat} {w:World}:Below n w w:=Below.refl n w
def al:=@Go.RowKit.Below.refl
def aB:=@Go.heap_alloc_new
def aC:=@Go.World.cell?_alloc_past
def aF:=@Go.World.size_alloc
def aI:=@Go.bodyPost_ret
def aR:=@Go.Obj.cells.injEq
def aS:=@Go.Value.slice.injEq
def aV:=@Go.ByteArray.toList_mk
def aZ:=@Go.RowKit.Below.heap_alloc
def bD:=@Go.World.ownsRow_nil
def bN:=@Go.ByteArray.toList_eq
def bT:=@Go.rounds_succ
def cH:=@Go.World.frozen?_setCell
def dC:=@Go.World.cell?_of_block
def dH:=@Go.info_parts
def dW:=@Go.wp_loop_rounds
def eY:=@Go.RowKit.Below.heap_setCell
def gm:=@Go.World.frozen?_of_block
def ji:=@Go.RowKit.ownsRow_setCell_below
def pY:=@Go.wpList_append_own
def qK:=@Go.Addr.mk.injEq
def xH:=@Go.DataW.trod_int
