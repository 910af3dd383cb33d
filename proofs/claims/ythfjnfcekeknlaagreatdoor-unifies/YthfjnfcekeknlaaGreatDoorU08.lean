import Derived.Test.YthfjnfcekeknlaaGreatDoorU07
import Derived.Test.YthfjnfcekeknlaaGreatDoorCards
import Derived.Test.YthfjnfcekeknlaaGreatDoorTie
import Derived.WalkKit
import Derived.ProofKit
import Derived.OpenShut
import Derived.Carry
import Derived.Deep.DeepHandedRow
import Derived.Deep.Slices
import Derived.Lib.LaidTab
import Derived.Lib.SmallJoins
namespace Go.Proofs.YthfjnfcekeknlaaGreatDoor
open Go.ChangeShapes Go.WideShapes Go.ChangeAt Go.RowKit

theorem lawOwn : ownKnob Tryz.prog.godebug = Option.none := by kernel_rfl
theorem lawLaid : laidOutB Tryz.prog = true := by kernel_rfl
theorem gSigns : Tryz.prog.globalNamed "parley/scan.longSigns" = some 0 := by kernel_rfl
theorem gSignsType : (Tryz.prog.globals[0]?).map (·.type) = some 238 := by kernel_rfl
theorem cellsSigns : Tryz.prog.cellsOf 238 = 5 := by kernel_rfl
theorem cellsStr : Tryz.prog.cellsOf 9 = 1 := by kernel_rfl
theorem cellsInt : Tryz.prog.cellsOf 3 = 1 := by kernel_rfl
theorem cellsPicks : Tryz.prog.cellsOf 26 = 1 := by kernel_rfl
theorem cellsOp : Tryz.prog.cellsOf 48 = 4 := by kernel_rfl

/-- An array of texts that reads so holds them, cell for cell. -/
theorem cells_of_strs {H : Type} {enc : TypeId × Value → H} {P : Program} {w : World} {base : Nat} {sp : Nat → Bool} {held : Bool} {fuel : Nat} {t e : TypeId} {n : Nat} {cs : List Value} {zs : List (List UInt8)} {p : List MemPlace}
    (ht : P.underlying t = some (.array n e)) (he : P.underlying e = some .string) (hce : P.cellsOf e = 1) (hct : P.cellsOf t = n)
    (h : DataW.trod enc P w base sp held fuel t cs = some (.agg (zs.map fun z => .lit (.string z)), p)) : cs = zs.map fun z => Value.string ⟨z.toArray⟩ := by
  cases fuel with
  | zero => simp [DataW.trod] at h
  | succ fuel =>
    simp only [DataW.trod, ht, hce, hct, Nat.mul_one] at h
    split at h
    · rename_i hl
      obtain ⟨xs, hm, hx⟩ := Option.map_eq_some_iff.1 h
      have hxs : xs.map (·.1) = zs.map fun z => (DataW.lit (.string z) : DataW H) := by
        have := congrArg Prod.fst hx
        simpa using this
      have hxl : xs.length = n := by simpa using Lib.mapM_length hm
      have hzl : zs.length = n := by
        have := congrArg List.length hxs
        simp at this
        omega
      apply List.ext_getElem?
      intro i
      by_cases hi : i < n
      · obtain ⟨b, hb, hf⟩ := Lib.mapM_at hm i i (by simp [hi])
        obtain ⟨z, hc, rfl, _⟩ := DataW.trod_string he hf
        have h1 : cs[i]? = some (.string z) := by
          have := congrArg (·[0]?) hc
          simpa [List.getElem?_take, List.getElem?_drop] using this
        have h2 : (xs.map (·.1))[i]? = some (DataW.lit (.string z.data.toList) : DataW H) := by simp [hb]
        rw [hxs] at h2
        simp only [List.getElem?_map, Option.map_eq_some_iff, DataW.lit.injEq, Lit.string.injEq] at h2
        obtain ⟨z', hz', hzz⟩ := h2
        rw [h1, List.getElem?_map, hz', hzz]
        rfl
      · rw [List.getElem?_eq_none (by omega), List.getElem?_eq_none (by simp; omega)]
    · cases h

set_option maxRecDepth 100000 in
/-- What the row's list gives: the signs of two letters. -/
theorem signs_of {W : World} (h : laidMetH Tryz.prog Rows.checksRow.laid W) : Signs W ∧ 0 < W.heap.size := by
  have h' : laidMet Tryz.prog Rows.checksRow.laid W := h
  obtain ⟨ps, ⟨_, _, _, _, _, _, _, _, _, _, ⟨_, _, _, _, _, _, _, _, _, _, ⟨_, _, _, _, _, _, _, _, _, _, ⟨g, t, cs, fuel, p, q, hg, ht, hvar, hd, _, _⟩, _⟩, _⟩, _⟩, _⟩ := h'
  obtain rfl := Option.some.inj (gSigns.symm.trans hg)
  obtain rfl := Option.some.inj (gSignsType.symm.trans ht)
  have e := cells_of_strs (zs := [[58, 45], [58, 61], [61, 61], [92, 61], [61, 60]]) Tryz.underlying238 Tryz.underlying9 cellsStr cellsSigns hd
  have c := World.var?_cell gSigns hvar
  obtain rfl : cs = #[.string ⟨#[58, 45]⟩, .string ⟨#[58, 61]⟩, .string ⟨#[61, 61]⟩, .string ⟨#[92, 61]⟩, .string ⟨#[61, 60]⟩] := by
    apply Array.toList_inj.1
    rw [e]; rfl
  refine ⟨⟨c 0, c 1, c 2, c 3, c 4⟩, ?_⟩
  rcases Nat.eq_zero_or_pos W.heap.size with hz | hz
  · have := c 0
    simp [World.cell?, Array.size_eq_zero_iff.1 hz] at this
  · exact hz

set_option maxRecDepth 100000 in
/-- A step's four cells. -/
theorem op_cells {H : Type} {enc : TypeId × Value → H} {W : World} {base : Nat} {sp : Nat → Bool} {held : Bool} {n : Nat} {cs : List Value} {y : DataW H × List MemPlace} (h : DataW.trod enc Tryz.prog W base sp held n 48 cs = some y) :
    ∃ (k : Int) (a b : ByteArray) (o : Option Addr) (m c : Nat), cs = [.int .i64 k, .string a, .string b, .slice o m c] := by
  obtain ⟨y0, y1, y2, y3, n', _, hl, g0, g1, g2, g3⟩ := Joins.trod_struct4 Tryz.underlying48 h
  rw [cellsOp] at hl
  match cs, hl with
  | [v0, v1, v2, v3], _ =>
    simp only [cellsInt, cellsStr, cellsPicks, List.drop_zero, List.drop_succ_cons, List.take_succ_cons, List.take_zero] at g0 g1 g2 g3
    obtain ⟨k, hk, _⟩ := DataW.trod_int Tryz.underlying3 g0
    obtain ⟨a, ha, _⟩ := DataW.trod_string Tryz.underlying9 g1
    obtain ⟨b, hb, _⟩ := DataW.trod_string Tryz.underlying9 g2
    have h3 : ∃ o m c, v3 = .slice o m c := by
      rcases Deep.open_slice Tryz.underlying26 g3 with ⟨hc, _⟩ | ⟨a', len, cap, _, _, _, _, hc, _⟩
      · exact ⟨_, _, _, by simpa using hc⟩
      · exact ⟨_, _, _, by simpa using hc⟩
    obtain ⟨o, m, c, rfl⟩ := h3
    simp only [List.cons.injEq, and_true] at hk ha hb
    subst hk ha hb
    exact ⟨k, a, b, o, m, c, rfl⟩

/-- A script as it comes in. -/
theorem script_of {H : Type} {enc : TypeId × Value → H} {W : World} {fuel : Nat} {a0 : Option Addr} {len cap : Nat} {x : DataW H × List MemPlace}
    (h : DataW.trod enc Tryz.prog W 0 (fun _ => true) true fuel 22 [.slice a0 len cap] = some x) (hlt : ∀ q ∈ x.2, q.block < W.heap.size) :
    len = 0 ∨ ∃ b off, a0 = some ⟨b, off, Option.none⟩ ∧ b < W.heap.size ∧ len ≤ maxLen ∧ Ops W b off len := by
  rcases Deep.open_slice Tryz.underlying22 h with ⟨hcs, _⟩ | ⟨a, len', cap', m, n, D, Pl, hcs, _, hl, hm, hmm, hx, hel⟩
  · simp at hcs
    exact Or.inl hcs.2.1
  · simp at hcs
    obtain ⟨rfl, rfl, rfl⟩ := hcs
    rcases Nat.eq_zero_or_pos len with h0 | h0
    · exact Or.inl h0
    · right
      simp only [if_true] at hmm
      subst hmm
      rw [cellsOp] at hel hx
      have ce : ∀ i, i < len → ∃ (k : Int) (s1 s2 : ByteArray) (o : Option Addr) (n' c : Nat), W.cell? (a.add (i * 4 + 0)) = some (.int .i64 k) ∧ W.cell? (a.add (i * 4 + 1)) = some (.string s1) ∧ W.cell? (a.add (i * 4 + 2)) = some (.string s2) ∧ W.cell? (a.add (i * 4 + 3)) = some (.slice o n' c) := by
        intro i hi
        obtain ⟨cs', h1, h2⟩ := hel i (by omega)
        obtain ⟨k, s1, s2, o, n', c, rfl⟩ := op_cells h2
        obtain ⟨_, _, hc⟩ := World.cells?_some h1
        have e0 := hc 0 (by omega)
        have e1 := hc 1 (by omega)
        have e2 := hc 2 (by omega)
        have e3 := hc 3 (by omega)
        rw [Deep.add_add] at e0 e1 e2 e3
        exact ⟨k, s1, s2, o, n', c, e0, e1, e2, e3⟩
      obtain ⟨b, off, spot⟩ := a
      have hspot : spot = Option.none := by
        obtain ⟨_, _, _, _, _, _, e0, _⟩ := ce 0 h0
        simpa [Addr.add] using World.cell?_spot e0
      subst hspot
      have hb : b < W.heap.size := by
        refine hlt (.cell b off) ?_
        rw [hx]
        exact List.mem_append_left _ (MemPlace.mem_row.2 ⟨0, by omega, by simp⟩)
      refine ⟨b, off, rfl, hb, by omega, fun i hi => ?_⟩
      obtain ⟨k, s1, s2, o, n', c, e0, e1, e2, e3⟩ := ce i hi
      rw [add_plain] at e0 e1 e2 e3
      exact ⟨k, s1, s2, o, n', c, e0, e1, e2, e3⟩

/-- What a variable's block holds. -/
def putIn (cs : Array Value) : Obj → Obj
  | .cells _ t frozen => .cells cs t frozen
  | o => o
/-- A world for the witness: the settled one, the four tables holding what their initialisers lay. -/
noncomputable def laidWorld (os : Os) : World :=
  { World.holding Tryz.prog os ⟨#[], #[], []⟩ with heap := ((((World.holding Tryz.prog os ⟨#[], #[], []⟩).heap.modify 0 (putIn #[.string ⟨#[58, 45]⟩, .string ⟨#[58, 61]⟩, .string ⟨#[61, 61]⟩, .string ⟨#[92, 61]⟩, .string ⟨#[61, 60]⟩])).modify 1 (putIn #[.int .u64 1, .int .u64 10, .int .u64 100, .int .u64 1000, .int .u64 10000, .int .u64 100000, .int .u64 1000000, .int .u64 10000000, .int .u64 100000000, .int .u64 1000000000, .int .u64 10000000000, .int .u64 100000000000, .int .u64 1000000000000, .int .u64 10000000000000, .int .u64 100000000000000, .int .u64 1000000000000000, .int .u64 10000000000000000, .int .u64 100000000000000000, .int .u64 1000000000000000000, .int .u64 10000000000000000000])).modify 2 (putIn #[.int .u8 0, .int .u8 1, .int .u8 28, .int .u8 2, .int .u8 29, .int .u8 14, .int .u8 24, .int .u8 3, .int .u8 30, .int .u8 22, .int .u8 20, .int .u8 15, .int .u8 25, .int .u8 17, .int .u8 4, .int .u8 8, .int .u8 31, .int .u8 27, .int .u8 13, .int .u8 23, .int .u8 21, .int .u8 19, .int .u8 16, .int .u8 7, .int .u8 26, .int .u8 12, .int .u8 18, .int .u8 6, .int .u8 11, .int .u8 5, .int .u8 10, .int .u8 9])).modify 3 (putIn #[.int .u8 0, .int .u8 1, .int .u8 56, .int .u8 2, .int .u8 57, .int .u8 49, .int .u8 28, .int .u8 3, .int .u8 61, .int .u8 58, .int .u8 42, .int .u8 50, .int .u8 38, .int .u8 29, .int .u8 17, .int .u8 4, .int .u8 62, .int .u8 47, .int .u8 59, .int .u8 36, .int .u8 45, .int .u8 43, .int .u8 51, .int .u8 22, .int .u8 53, .int .u8 39, .int .u8 33, .int .u8 30, .int .u8 24, .int .u8 18, .int .u8 12, .int .u8 5, .int .u8 63, .int .u8 55, .int .u8 48, .int .u8 27, .int .u8 60, .int .u8 41, .int .u8 37, .int .u8 16, .int .u8 46, .int .u8 35, .int .u8 44, .int .u8 21, .int .u8 52, .int .u8 32, .int .u8 23, .int .u8 11, .int .u8 54, .int .u8 26, .int .u8 40, .int .u8 15, .int .u8 34, .int .u8 20, .int .u8 31, .int .u8 10, .int .u8 25, .int .u8 14, .int .u8 19, .int .u8 9, .int .u8 13, .int .u8 8, .int .u8 7, .int .u8 6]) }
theorem laid_met (os : Os) : laidMet Tryz.prog Rows.checksRow.laid ((laidWorld os).forCall (fun _ _ => 0) ⟨#[], #[.slice Option.none 0 0], []⟩).memory :=
  laidMet_of_run' 8 (by kernel_rfl) (by kernel_rfl)

end Go.Proofs.YthfjnfcekeknlaaGreatDoor
