import Derived.Test.YthfjnfcekeknlaaGreatDoorU13
import Derived.Test.YthfjnfcekeknlaaGreatDoorU24
import Derived.Test.YthfjnfcekeknlaaGreatDoorU34
namespace Go.Proofs.YthfjnfcekeknlaaGreatDoor
open Go.RowKit

set_option maxHeartbeats 4000000 in
set_option maxRecDepth 100000 in
theorem plays_unify : PlaysSaid 3 := by
  intro w a b o n c he
  obtain ⟨la, hLa, hha, hla⟩ := Parl.toks_of a
  obtain ⟨lb, hLb, hhb, hlb⟩ := Parl.toks_of b
  have IA := hide (fun W (q : Env W) => unA_any W a b la lb hLa hha (fun h => hla (by omega)) hLb hhb (fun h => hlb (by omega)) q.sg q.pow q.pos)
  have IB := hide (fun W => ub_any W a b la lb hLa hha hLb hhb)
  have HE := hide he
  clear he hLa hha hla hLb hhb hlb
  unfold PUf at IA
  unfold PUb at IB
  generalize (Parl.unA a b la lb).2.2 = ve at *
  generalize (Parl.unA a b la lb).2.1 = vb at *
  generalize (⟨(Parl.unA a b la lb).1.toArray⟩ : ByteArray) = vs at *
  go_enter Tryz.func25, Tryz.ntmps25
  go_wp2_with fail
  refine (unhide IA _ ((unhide HE).alloc _)).mono ?_
  rintro e w1 ⟨rfl, hb1⟩
  have HB1 := hide hb1
  have c1 := (hb1.cell (p := ⟨w.heap.size, 1, none⟩) (by simp)).trans (show (w.alloc (.cells #[.int .i64 3, .string a, .string b, .slice o n c] 48)).cell? ⟨w.heap.size, 1, none⟩ = some (.string a) by rw [blkA (heap_alloc_new w _)]; rfl)
  have c2 := (hb1.cell (p := ⟨w.heap.size, 2, none⟩) (by simp)).trans (show (w.alloc (.cells #[.int .i64 3, .string a, .string b, .slice o n c] 48)).cell? ⟨w.heap.size, 2, none⟩ = some (.string b) by rw [blkA (heap_alloc_new w _)]; rfl)
  have hz1 : w.heap.size < w1.heap.size := by have := hb1.size; simp at this; omega
  clear hb1
  go_wp2_with fail
  refine (unhide IB w1).mono ?_
  rintro e w2 ⟨rfl, hb2⟩
  have HB2 := hide hb2
  clear hb2 c1 c2
  cases vb
  all_goals
    go_wp2_with fail
    go_ret
    exact ⟨rfl, (((Below.refl _ _).alloc (Nat.le_refl _) _).trans ((unhide HB1).mono (by simp))).trans ((unhide HB2).mono (by omega))⟩

set_option maxHeartbeats 1000000 in
theorem unifies_walk (w : World) (v : Value) (h : Calls Tryz.prog 12 #[v, .int .i64 3, .int .i64 3] w fun e w' => e = .returned (.int .i64 (-1)) ∧ Below w.heap.size w w') :
    Calls Tryz.prog 5 #[v] w fun e w' => e = .returned (.bool true) ∧ Below w.heap.size w w' := by
  have H := hide h
  clear h
  go_enter Tryz.func5, Tryz.ntmps5
  go_wp2_with fail
  refine (unhide H).mono ?_
  rintro e w1 ⟨rfl, hb⟩
  have HB := hide hb
  clear hb
  go_wp2_with fail
  go_ret
  exact ⟨rfl, unhide HB⟩
end Go.Proofs.YthfjnfcekeknlaaGreatDoor
