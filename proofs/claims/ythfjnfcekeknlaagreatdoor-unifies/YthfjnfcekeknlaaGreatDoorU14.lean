import Derived.Test.YthfjnfcekeknlaaGreatDoorU08
import Derived.Test.YthfjnfcekeknlaaGreatDoorU13
namespace Go.Proofs.YthfjnfcekeknlaaGreatDoor
open Go.ChangeShapes Go.WideShapes Go.ChangeAt Go.RowKit

theorem gPow : Tryz.prog.globalNamed "internal/strconv.uint64pow10" = some 1 := by kernel_rfl
theorem gPowType : (Tryz.prog.globals[1]?).map (·.type) = some 276 := by kernel_rfl
theorem cellsPow : Tryz.prog.cellsOf 276 = 20 := by kernel_rfl
theorem cellsU64 : Tryz.prog.cellsOf 264 = 1 := by kernel_rfl

set_option maxRecDepth 100000 in
/-- What the row's list gives: the powers of ten. -/
theorem pow_of {W : World} (h : laidMetH Tryz.prog Rows.checksRow.laid W) : Pow W := by
  have h' : laidMet Tryz.prog Rows.checksRow.laid W := h
  obtain ⟨ps, ⟨_, _, _, _, _, _, _, _, _, _, ⟨_, _, _, _, _, _, _, _, _, _, ⟨g, t, cs, fuel, p, q, hg, ht, hvar, hd, _, _⟩, _⟩, _⟩, _⟩ := h'
  obtain rfl := Option.some.inj (gPow.symm.trans hg)
  obtain rfl := Option.some.inj (gPowType.symm.trans ht)
  unfold Pow Lib.TabIs
  rw [hvar, ← Lib.cells_of_tab (zs := Lib.pow10Tab) Tryz.underlying276 Tryz.underlying264 cellsU64 cellsPow hd]
theorem env_of {W : World} (h : laidMetH Tryz.prog Rows.checksRow.laid W) : Env W := ⟨(signs_of h).1, (signs_of h).2, pow_of h⟩
end Go.Proofs.YthfjnfcekeknlaaGreatDoor
