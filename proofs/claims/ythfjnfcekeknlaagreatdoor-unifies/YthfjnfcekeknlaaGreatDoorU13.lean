import Derived.Test.YthfjnfcekeknlaaGreatDoorU01
import Derived.Test.YthfjnfcekeknlaaGreatDoorU04
import Derived.Test.YthfjnfcekeknlaaGreatDoorU07
import Derived.Test.YthfjnfcekeknlaaGreatDoorU10
import Derived.Test.YthfjnfcekeknlaaGreatDoorU12
import Derived.Deep.RegionWith
namespace Go.Proofs.YthfjnfcekeknlaaGreatDoor
open Go.RowKit

/-- A step of the kind K is as the document says. -/
def PlaysSaid (K : Int) : Prop := ∀ (w : World) (a b : ByteArray) (o : Option Addr) (n c : Nat), Env w →
  Calls Tryz.prog 25 #[.agg #[.int .i64 K, .string a, .string b, .slice o n c]] w fun e w' => e = .returned (.bool true) ∧ Below w.heap.size w w'

set_option maxHeartbeats 4000000 in
set_option maxRecDepth 100000 in
theorem upTo_kind (K : Int) (PL : PlaysSaid K) (w : World) (b off len cap : Nat) (hops : Ops w b off len) (hb : b < w.heap.size) (hlen : len ≤ maxLen) (he : Env w) :
    Calls Tryz.prog 12 #[.slice (some ⟨b, off, none⟩) len cap, .int .i64 K, .int .i64 K] w fun e w' => e = .returned (.int .i64 (-1)) ∧ Below w.heap.size w w' := by
  have HOPS := hide hops
  have HE := hide he
  have HPL := hide PL
  clear hops he PL
  unfold maxLen at hlen
  go_enter Tryz.func12, Tryz.ntmps12
  go_wp2_with fail
  go_loopw [7] (fun i wr => ∃ k : Nat, k ≤ len ∧ i = .int .i64 k ∧ Below w.heap.size w wr) (fun i _ => len - (intOf i).toNat)
  case atStart => exact ⟨0, by omega, rfl, Below.refl _ _⟩
  case round =>
    obtain ⟨k, hk, rfl, hB⟩ := hrel
    have HB := hide hB
    have hz := hB.size
    by_cases hlt : k < len
    · obtain ⟨q, x, y, o, n, c, e0, e1, e2, e3⟩ := unhide HOPS k hlt
      have d0 := (hB.cell (p := ⟨b, off + k * 4, none⟩) hb).trans e0
      have d1 := (hB.cell (p := ⟨b, off + k * 4 + 1, none⟩) hb).trans e1
      have d2 := (hB.cell (p := ⟨b, off + k * 4 + 2, none⟩) hb).trans e2
      have d3 := (hB.cell (p := ⟨b, off + k * 4 + 3, none⟩) hb).trans e3
      clear e0 e1 e2 e3
      have HEW := hide ((unhide HE).below hB)
      clear hB
      by_cases hq : q = K
      · subst hq
        have g1 : decide (q ≤ q) = true := by simp
        go_wp2_with fail
        refine (unhide HPL _ x y o n c ((unhide HEW).alloc _)).mono ?_
        rintro e w2 ⟨rfl, hb2⟩
        have HB2 := hide hb2
        clear hb2 d0 d1 d2 d3 g1
        go_wp2_with fail
        go_roundw
        case rel => exact ⟨k + 1, by omega, by go_num, ((unhide HB).alloc hz _).trans ((unhide HB2).mono (by simp; omega))⟩
        case measure => simp [intOf]; omega
      · by_cases hq1 : K ≤ q
        · have g1 : decide (K ≤ q) = true := by simpa using hq1
          have g2 : decide (q ≤ K) = false := by simp; omega
          clear hq hq1
          go_wp2_with fail
          go_roundw
          case rel => exact ⟨k + 1, by omega, by go_num, (unhide HB).alloc hz _⟩
          case measure => simp [intOf]; omega
        · have g1 : decide (K ≤ q) = false := by simpa using hq1
          clear hq hq1
          go_wp2_with fail
          go_roundw
          case rel => exact ⟨k + 1, by omega, by go_num, (unhide HB).alloc hz _⟩
          case measure => simp [intOf]; omega
    · have hkl : k = len := by omega
      subst hkl
      clear hB
      go_wp2_with fail
      go_ret
      exact ⟨rfl, unhide HB⟩

end Go.Proofs.YthfjnfcekeknlaaGreatDoor
