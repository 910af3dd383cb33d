import Derived.Test.YtombbccmeeaimaaGreatDoorP17
import Derived.Test.YtombbccmeeaimaaGreatDoorP18
import Derived.Test.YtombbccmeeaimaaGreatDoorP19
namespace Go.Proofs.YtombbccmeeaimaaGreatDoor
open Go.RowKit

theorem asg_no {left : Parl.Tm} {l : List Parl.Tok} {e : Nat × Nat} (hO : Parl.operand l.tail = .inl e) : Parl.assignment left true l = .inl e := by
  unfold Parl.assignment; rw [if_pos rfl, hO]
theorem asg_plain {left t : Parl.Tm} {l l2 : List Parl.Tok} (hO : Parl.operand l.tail = .inr (t, l2)) (hop : Parl.operSign l2 = false) : Parl.assignment left true l = .inr (⟨left, (Parl.hd l).text.toList, some t, [], none⟩, l2) := by
  unfold Parl.assignment; rw [if_pos rfl, hO]; simp only [hop]; rfl
theorem asg_more {left t : Parl.Tm} {l l2 : List Parl.Tok} (hO : Parl.operand l.tail = .inr (t, l2)) (hop : Parl.operSign l2 = true) : Parl.assignment left true l = asgR (fun z => ⟨left, (Parl.hd l).text.toList, some t, (Parl.hd l2).text.toList, some z⟩) (Parl.operand l2.tail) := by
  unfold Parl.assignment; rw [if_pos rfl, hO]; simp only [hop]
  rcases Parl.operand l2.tail with e | ⟨z, l3⟩ <;> rfl

theorem asB_any (w : World) (rb tb cap : Nat) (s : ByteArray) (L : List Parl.Tok) (i : Nat) (p0 : Int) (a : BV) (left : Parl.Tm) (h : SB w rb tb cap s L i 0 p0) (hk0 : (Parl.hd (L.drop i)).kind ≠ 0) :
    Calls Tryz.prog 115 #[.pointer (some ⟨rb, 0, none⟩), .agg #[.int .i64 a.k, .string a.nm, .int .i64 a.num, .slice a.ao a.n a.cap]] w fun e w' => PUniI rb tb cap s L p0 (Parl.assignment left true (L.drop i)) w e w' := by
  have et : (L.drop i).tail = L.drop (i + 1) := by simp
  rcases hO : Parl.operand (L.drop (i + 1)) with ⟨er, ps⟩ | ⟨t, l2⟩
  · rw [asg_no (by rw [et]; exact hO)]
    refine (asB_first w rb tb cap s L i p0 a left h hk0 er ps hO).mono ?_
    rintro e w' ⟨a1, b1, c1, op, sg, rfl, ⟨j, hs⟩, hk⟩
    have := operand_err _ _ hO
    exact ⟨a1, b1, c1, op, sg, j, _, _, rfl, hs, hk, rfl, rfl, by dsimp only at this; omega⟩
  · have hO' : Parl.operand (L.drop i).tail = .inr (t, l2) := by rw [et]; exact hO
    cases h0 : Parl.sees l2 [43]
    · cases h1 : Parl.sees l2 [45]
      · cases h2 : Parl.sees l2 [42]
        · rw [asg_plain hO' (by simp [Parl.operSign, h0, h1, h2])]
          exact asB_none w rb tb cap s L i p0 a left h hk0 t l2 hO h0 h1 h2
        · rw [asg_more hO' (by simp [Parl.operSign, h2])]
          exact asB_hit2 w rb tb cap s L i p0 a left h hk0 t l2 hO h0 h1 h2 _ rfl _
      · rw [asg_more hO' (by simp [Parl.operSign, h1])]
        exact asB_hit1 w rb tb cap s L i p0 a left h hk0 t l2 hO h0 h1 _ rfl _
    · rw [asg_more hO' (by simp [Parl.operSign, h0])]
      exact asB_hit0 w rb tb cap s L i p0 a left h hk0 t l2 hO h0 _ rfl _
end Go.Proofs.YtombbccmeeaimaaGreatDoor
