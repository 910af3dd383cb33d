import Derived.Test.YthfjnfcekeknlabGreatDoorGu05
set_option maxHeartbeats 8000000
set_option maxRecDepth 100000
namespace Go.Proofs.YthfjnfcekeknlabGreatDoor
open Go.RowKit
theorem gV (w:World) (X:Obj):w.heap.size<((w.alloc X).drew).heap.size:=by
 show w.heap.size<(w.alloc X).heap.size
 simp
end Go.Proofs.YthfjnfcekeknlabGreatDoor
