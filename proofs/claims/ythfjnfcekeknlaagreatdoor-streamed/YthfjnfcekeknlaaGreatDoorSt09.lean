import Derived.Test.YthfjnfcekeknlaaGreatDoorSt02
import Derived.Test.YthfjnfcekeknlaaGreatDoorSt05
import Derived.Test.YthfjnfcekeknlaaGreatDoorSt07
set_option maxHeartbeats 8000000
set_option maxRecDepth 100000
namespace Za
end Za
namespace Go.Proofs.YthfjnfcekeknlaaGreatDoor
open Go.RowKit
theorem vB (w:World):cT (w.alloc (.cells #[.slice none 0 0,.slice none 0 0,.bool false] 189)) w.heap.size [] [] false (fC w.heap.size none none):=
 ⟨none,0,none,0,⟨heap_alloc_new w _,World.ownsRow_nil _ _ _ _,World.ownsRow_nil _ _ _ _,fun p _ q=>by cases q⟩,rfl⟩
end Go.Proofs.YthfjnfcekeknlaaGreatDoor
