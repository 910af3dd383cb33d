import Derived.Test.YthfjnfcekeknlaaGreatDoorU04
import Derived.Test.YthfjnfcekeknlaaGreatDoorU12
import Derived.Test.YthfjnfcekeknlaaGreatDoorU32
import Derived.Deep.LoopGhost
namespace Go.Proofs.YthfjnfcekeknlaaGreatDoor
open Go.RowKit

theorem LkSt.first (w : World) : LkSt (w.alloc (.cells #[.slice none 0 0, .slice none 0 0, .bool false, .bool false] 195)) w.heap.size Parl.Lk.none (rowsL none none) :=
  ⟨none, 0, none, 0, [], [], ⟨heap_alloc_new w _, World.ownsRow_nil _ _ _ _, World.ownsRow_nil _ _ _ _, (fun u hu => by cases hu), rfl, trivial⟩, rfl⟩
theorem XG.first (w : World) : XG (w.alloc (.cells #[.slice none 0 0] 106)) w.heap.size 0 1 106 #[.slice none 0 0] [] none 0 :=
  ⟨heap_alloc_new w _, rfl, World.ownsRow_nil _ _ _ _, (fun u hu => by cases hu)⟩

end Go.Proofs.YthfjnfcekeknlaaGreatDoor
namespace Parl
theorem whole_err {l : List Tok} {er ps : Nat} (h : whole l = .inl (er, ps)) : er ≠ 0 := by
  unfold whole at h
  rcases hq : term 8 l with e | ⟨t, l1⟩
  · rw [hq] at h
    cases h
    have := term_err 8 l _ hq
    dsimp only at this
    omega
  · rw [hq] at h
    dsimp only at h
    split at h
    · cases h
    · cases h; omega
end Parl
namespace Go.Proofs.YthfjnfcekeknlaaGreatDoor
open Go.RowKit
end Go.Proofs.YthfjnfcekeknlaaGreatDoor
