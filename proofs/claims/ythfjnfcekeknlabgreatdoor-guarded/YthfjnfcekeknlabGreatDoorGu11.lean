import Derived.Test.YthfjnfcekeknlabGreatDoorGu02
import Derived.Test.YthfjnfcekeknlabGreatDoorGu05
import Derived.Test.YthfjnfcekeknlabGreatDoorGu08
import Derived.Test.YthfjnfcekeknlabGreatDoorGu10
set_option maxHeartbeats 8000000
set_option maxRecDepth 100000
namespace Zf
end Zf
namespace Go.Proofs.YthfjnfcekeknlabGreatDoor
open Go.RowKit
theorem qZ (w:World):cO (w.alloc (.cells #[.slice none 0 0,.slice none 0 0,.bool false] 102)) w.heap.size [] [] false (eY w.heap.size none none):=
 ⟨none,0,none,0,⟨heap_alloc_new w _,World.ownsRow_nil _ _ _ _,World.ownsRow_nil _ _ _ _,fun p _ q=>by cases q⟩,rfl⟩
end Go.Proofs.YthfjnfcekeknlabGreatDoor
