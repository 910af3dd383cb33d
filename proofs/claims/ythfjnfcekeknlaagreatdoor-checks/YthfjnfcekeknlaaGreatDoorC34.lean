import Derived.Test.YthfjnfcekeknlaaGreatDoorC32
import Derived.Test.YthfjnfcekeknlaaGreatDoorC33
namespace Go.Proofs.YthfjnfcekeknlaaGreatDoor
open Go.RowKit

theorem assignment_any (w : World) (rb : Nat) (s : ByteArray) (l : List Parl.Tok) (ns : List ByteArray) (nv : Value) (e0 : Int) (a : TV) (left : Parl.Tm) (fits : Bool) (h : St w rb s l ns nv e0) (h0 : (Parl.hd l).kind ≠ 0) :
    Calls Tryz.prog 135 #[.pointer (some ⟨rb, 0, none⟩), .agg #[.int .i64 a.k, .int .i64 a.val, .string a.tx, .slice a.ao a.n a.cap], .bool fits] w fun e w' => PItem rb s a left ns (Parl.assignment left fits l) w e w' := by
  cases fits
  · exact assign_no w rb s l ns nv e0 a left h h0
  · rcases hO : Parl.operand l.tail with ⟨er, ps⟩ | ⟨t, l2⟩
    · exact assign_first w rb s l ns nv e0 a left er ps h h0 hO
    · cases hop : Parl.operSign l2
      · exact assign_plain w rb s l ns nv e0 a left t l2 h h0 hO hop
      · rcases hO2 : Parl.operand l2.tail with ⟨er, ps⟩ | ⟨t2, l3⟩
        · exact assign_second w rb s l ns nv e0 a left t l2 h h0 hO hop er ps hO2
        · exact assign_full w rb s l ns nv e0 a left t l2 h h0 hO hop t2 l3 hO2
end Go.Proofs.YthfjnfcekeknlaaGreatDoor
