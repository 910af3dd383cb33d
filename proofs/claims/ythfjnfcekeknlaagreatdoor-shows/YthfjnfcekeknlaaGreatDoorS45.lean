import Derived.Test.YthfjnfcekeknlaaGreatDoorS37
import Derived.Test.YthfjnfcekeknlaaGreatDoorS39
import Derived.Test.YthfjnfcekeknlaaGreatDoorS44
namespace Go.Proofs.YthfjnfcekeknlaaGreatDoor
open Go.RowKit

/-- A step of the kind K is as the document says. -/
def PlaysSaid (K : Int) : Prop := ∀ (w : World) (a b : ByteArray) (o : Option Addr) (n c : Nat), Env w →
  Calls Tryz.prog 25 #[.agg #[.int .i64 K, .string a, .string b, .slice o n c]] w fun e w' => e = .returned (.bool true) ∧ Below w.heap.size w w'

set_option maxHeartbeats 4000000 in
set_option maxRecDepth 100000 in
theorem upTo_kind (K : Int) (PL : PlaysSaid K) (w : World) (b off len cap : Nat) (hops : Ops w b off len) (hb : b < w.heap.size) (hlen : len ≤ maxLen) (he : Env w) :
    Calls Tryz.prog 12 #[.slice (some ⟨b, off, none⟩) len cap, .int .i64 K, .int .i64 K] w fun e w' => e = .returned (.int .i64 (-1)) ∧ Below w.heap.size w w' := by
  have HOPS := hide hops
  have HE := hide he
  have HPL := hide PL
  clear hops he PL
  unfold maxLen at hlen
  go_enter Tryz.func12, Tryz.ntmps12
  go_wp2_with fail
  go_loopw [7] (fun i wr => ∃ k : Nat, k ≤ len ∧ i = .int .i64 k ∧ Below w.heap.size w wr) (fun i _ => len - (intOf i).toNat)
  case atStart => exact ⟨0, by omega, rfl, Below.refl _ _⟩
  case round =>
    obtain ⟨k, hk, rfl, hB⟩ := hrel
    have HB := hide hB
    have hz := hB.size
    by_cases hlt : k < len
    · obtain ⟨q, x, y, o, n, c, e0, e1, e2, e3⟩ := unhide HOPS k hlt
      have d0 := (hB.cell (p := ⟨b, off + k * 4, none⟩) hb).trans e0
      have d1 := (hB.cell (p := ⟨b, off + k * 4 + 1, none⟩) hb).trans e1
      have d2 := (hB.cell (p := ⟨b, off + k * 4 + 2, none⟩) hb).trans e2
      have d3 := (hB.cell (p := ⟨b, off + k * 4 + 3, none⟩) hb).trans e3
      clear e0 e1 e2 e3
      have HEW := hide ((unhide HE).below hB)
      clear hB
      by_cases hq : q = K
      · subst hq
        have g1 : decide (q ≤ q) = true := by simp
        go_wp2_with fail
        refine (unhide HPL _ x y o n c ((unhide HEW).alloc _)).mono ?_
        rintro e w2 ⟨rfl, hb2⟩
        have HB2 := hide hb2
        clear hb2 d0 d1 d2 d3 g1
        go_wp2_with fail
        go_roundw
        case rel => exact ⟨k + 1, by omega, by go_num, ((unhide HB).alloc hz _).trans ((unhide HB2).mono (by simp; omega))⟩
        case measure => simp [intOf]; omega
      · by_cases hq1 : K ≤ q
        · have g1 : decide (K ≤ q) = true := by simpa using hq1
          have g2 : decide (q ≤ K) = false := by simp; omega
          clear hq hq1
          go_wp2_with fail
          go_roundw
          case rel => exact ⟨k + 1, by omega, by go_num, (unhide HB).alloc hz _⟩
          case measure => simp [intOf]; omega
        · have g1 : decide (K ≤ q) = false := by simpa using hq1
          clear hq hq1
          go_wp2_with fail
          go_roundw
          case rel => exact ⟨k + 1, by omega, by go_num, (unhide HB).alloc hz _⟩
          case measure => simp [intOf]; omega
    · have hkl : k = len := by omega
      subst hkl
      clear hB
      go_wp2_with fail
      go_ret
      exact ⟨rfl, unhide HB⟩

set_option maxHeartbeats 4000000 in
set_option maxRecDepth 100000 in
theorem plays_show : PlaysSaid 2 := by
  intro w a b o n c he
  obtain ⟨L, hL, hh, hl⟩ := Parl.toks_of a
  have IA := hide (fun W (q : Env W) => shA_any W a L hL hh hl q.sg q.pos q.pow)
  have IB := hide (fun W => shB_any W a L hL hh)
  have HE := hide he
  clear he hL hh hl
  generalize Parl.ckE a L = ve at *
  generalize (⟨(Parl.shS a L).toArray⟩ : ByteArray) = vs at *
  go_enter Tryz.func25, Tryz.ntmps25
  go_wp2_with fail
  refine (unhide IA _ ((unhide HE).alloc _)).mono ?_
  rintro e w1 ⟨rfl, hb1⟩
  have HB1 := hide hb1
  have c1 := (hb1.cell (p := ⟨w.heap.size, 1, none⟩) (by simp)).trans (show (w.alloc (.cells #[.int .i64 2, .string a, .string b, .slice o n c] 48)).cell? ⟨w.heap.size, 1, none⟩ = some (.string a) by rw [blkA (heap_alloc_new w _)]; rfl)
  have hz1 : w.heap.size < w1.heap.size := by have := hb1.size; simp at this; omega
  clear hb1
  go_wp2_with fail
  refine (unhide IB w1).mono ?_
  rintro e w2 ⟨rfl, hb2⟩
  have HB2 := hide hb2
  clear hb2 c1
  go_wp2_with fail
  go_ret
  exact ⟨rfl, (((Below.refl _ _).alloc (Nat.le_refl _) _).trans ((unhide HB1).mono (by simp))).trans ((unhide HB2).mono (by omega))⟩

set_option maxHeartbeats 1000000 in
theorem shows_walk (w : World) (v : Value) (h : Calls Tryz.prog 12 #[v, .int .i64 2, .int .i64 2] w fun e w' => e = .returned (.int .i64 (-1)) ∧ Below w.heap.size w w') :
    Calls Tryz.prog 4 #[v] w fun e w' => e = .returned (.bool true) ∧ Below w.heap.size w w' := by
  have H := hide h
  clear h
  go_enter Tryz.func4, Tryz.ntmps4
  go_wp2_with fail
  refine (unhide H).mono ?_
  rintro e w1 ⟨rfl, hb⟩
  have HB := hide hb
  clear hb
  go_wp2_with fail
  go_ret
  exact ⟨rfl, unhide HB⟩
end Go.Proofs.YthfjnfcekeknlaaGreatDoor
namespace Go.Proofs.YthfjnfcekeknlaaGreatDoor
open Go.ChangeShapes Go.WideShapes Go.ChangeAt Go.RowKit

theorem gPow : Tryz.prog.globalNamed "internal/strconv.uint64pow10" = some 1 := by kernel_rfl
theorem gPowType : (Tryz.prog.globals[1]?).map (·.type) = some 276 := by kernel_rfl
theorem cellsPow : Tryz.prog.cellsOf 276 = 20 := by kernel_rfl
theorem cellsU64 : Tryz.prog.cellsOf 264 = 1 := by kernel_rfl

set_option maxRecDepth 100000 in
/-- What the row's list gives: the powers of ten. -/
theorem pow_of {W : World} (h : laidMetH Tryz.prog Rows.checksRow.laid W) : Pow W := by
  have h' : laidMet Tryz.prog Rows.checksRow.laid W := h
  obtain ⟨ps, ⟨_, _, _, _, _, _, _, _, _, _, ⟨_, _, _, _, _, _, _, _, _, _, ⟨g, t, cs, fuel, p, q, hg, ht, hvar, hd, _, _⟩, _⟩, _⟩, _⟩ := h'
  obtain rfl := Option.some.inj (gPow.symm.trans hg)
  obtain rfl := Option.some.inj (gPowType.symm.trans ht)
  unfold Pow Lib.TabIs
  rw [hvar, ← Lib.cells_of_tab (zs := Lib.pow10Tab) Tryz.underlying276 Tryz.underlying264 cellsU64 cellsPow hd]
theorem env_of {W : World} (h : laidMetH Tryz.prog Rows.checksRow.laid W) : Env W := ⟨(signs_of h).1, (signs_of h).2, pow_of h⟩
end Go.Proofs.YthfjnfcekeknlaaGreatDoor
