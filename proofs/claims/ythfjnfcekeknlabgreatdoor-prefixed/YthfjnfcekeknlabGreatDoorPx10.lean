import Derived.Test.YthfjnfcekeknlabGreatDoorPx07
import Derived.Test.YthfjnfcekeknlabGreatDoorPx09
set_option maxHeartbeats 8000000
set_option maxRecDepth 100000
set_option linter.unusedSimpArgs false
namespace af
end af
namespace Go.Proofs.YthfjnfcekeknlabGreatDoor
open Go.RowKit
theorem jK (w:World):iR (w.alloc (.cells #[.slice none 0 0,.slice none 0 0,.bool false] 102)) w.heap.size [] [] false (gW w.heap.size none none):=
 ⟨none,0,none,0,⟨aB w _,bD _ _ _ _,bD _ _ _ _,fun p _ q=>by cases q⟩,rfl⟩
