import Derived.Test.YthfjnfcekeknlaaGreatDoorMe17
import Derived.Test.YthfjnfcekeknlaaGreatDoorMe18
set_option maxHeartbeats 8000000
set_option maxRecDepth 100000
namespace Go.Proofs.YthfjnfcekeknlaaGreatDoor
open Go.RowKit
theorem qZ (w:World) (rb:Nat) (s:ByteArray) (l:List Zc.aj) (ns:List ByteArray) (nv:Value) (e0:Int) (a:TV) (left:Zc.Tm) (fits:Bool) (h:St w rb s l ns nv e0) (h0:(Zc.hd l).kind≠0):
 Calls Tryz.prog 135 #[.pointer (some ⟨rb,0,none⟩),.agg #[.int .i64 a.k,.int .i64 a.val,.string a.tx,.slice a.ao a.n a.cap],.bool fits] w fun e w'=>nA rb s a left ns (Zc.assignment left fits l) w e w':=by
 cases fits
 ·exact I7 w rb s l ns nv e0 a left h h0
 ·rcases hO:Zc.operand l.tail with⟨er,ps⟩ | ⟨t,l2⟩
  ·exact B4 w rb s l ns nv e0 a left er ps h h0 hO
  ·cases hop:Zc.gQ l2
   ·exact B5 w rb s l ns nv e0 a left t l2 h h0 hO hop
   ·rcases hO2:Zc.operand l2.tail with⟨er,ps⟩ | ⟨t2,l3⟩
    ·exact AD w rb s l ns nv e0 a left t l2 h h0 hO hop er ps hO2
    ·exact DL w rb s l ns nv e0 a left t l2 h h0 hO hop t2 l3 hO2
end Go.Proofs.YthfjnfcekeknlaaGreatDoor
