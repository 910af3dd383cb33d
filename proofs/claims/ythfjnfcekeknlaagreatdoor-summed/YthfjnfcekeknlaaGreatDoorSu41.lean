import Derived.Test.YthfjnfcekeknlaaGreatDoorSu10
import Derived.Test.YthfjnfcekeknlaaGreatDoorSu26
set_option maxHeartbeats 8000000
set_option maxRecDepth 100000
namespace Go.Proofs.YthfjnfcekeknlaaGreatDoor
open Go.RowKit
theorem L4 (w:World) (s:ByteArray) (hs:240<s.size):
 Calls Tryz.prog 26 #[.string s] w fun e w'=>e= .returned (.agg #[.slice none 0 0,.int .i64 1,.int .i64 0])∧Below w.heap.size w w':=by
 have hsz:decide (240<(s.size:Int))=true:=by simp;omega
 go_enter Tryz.func26,Tryz.ntmps26
 go_wp2_with fail
 refine bodyPost_ret (v:= .agg #[.slice none 0 0,.int .i64 1,.int .i64 0]) (by simp[results,Tryz.results26,go_sem]) rfl ?_
 exact⟨rfl,((Below.refl _ _).alloc (Nat.le_refl _) _)⟩
end Go.Proofs.YthfjnfcekeknlaaGreatDoor
