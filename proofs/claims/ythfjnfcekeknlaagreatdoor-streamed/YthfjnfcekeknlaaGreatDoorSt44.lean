import Derived.Test.YthfjnfcekeknlaaGreatDoorSt33
import Derived.Test.YthfjnfcekeknlaaGreatDoorSt40
import Derived.Test.YthfjnfcekeknlaaGreatDoorSt42
set_option maxHeartbeats 8000000
set_option maxRecDepth 100000
namespace Go.Proofs.YthfjnfcekeknlaaGreatDoor
open Go.RowKit
def apB:ByteArray:=⟨#[97,112,112,40,110,44,89,44,90,41,58,45,90,61,89,46,32,97,112,112,40,99,40,72,44,88,41,44,89,44,90,41,58,45,90,61,99,40,72,44,87,41,44,97,112,112,40,88,44,89,44,87,41,46]⟩
end Go.Proofs.YthfjnfcekeknlaaGreatDoor
