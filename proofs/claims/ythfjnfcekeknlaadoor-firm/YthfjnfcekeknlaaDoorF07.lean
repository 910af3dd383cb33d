import Derived.Test.YthfjnfcekeknlaaDoorF01
import Derived.Test.YthfjnfcekeknlaaDoorF04
import Derived.Test.YthfjnfcekeknlaaDoorF06
import Derived.Lib.AppendIntMem
import Derived.Deep.LoopGhost
import Derived.Deep.RegionWith
import Derived.Test.YthfjnfcekeknlaaDoorCards
import Derived.Test.YthfjnfcekeknlaaDoorTie
import Derived.WalkKit
import Derived.ProofKit
import Derived.OpenShut
import Derived.Carry
import Derived.Deep.DeepHandedRow
import Derived.Deep.Slices
import Derived.Lib.LaidTab
import Derived.Lib.SmallJoins
namespace Go.Proofs.YthfjnfcekeknlaaDoor
open Go.RowKit

/-- The library's powers of ten lie there. -/
def Pow (w : World) : Prop := Lib.TabIs Tryd.prog w "internal/strconv.uint64pow10" .u64 Lib.pow10Tab
theorem Pow.below {w w' : World} (h : Pow w) (hb : Below w.heap.size w w') : Pow w' := by
  unfold Pow Lib.TabIs World.var? at *
  obtain ⟨g, hg, hq⟩ := Option.bind_eq_some_iff.1 h
  rw [hg]
  dsimp only [Option.bind_some]
  cases hc : w.heap[g]? with
  | none => rw [hc] at hq; cases hq
  | some o =>
    rw [hb.block g (Array.getElem?_eq_some_iff.1 hc).1]
    exact hq
theorem Pow.alloc {w : World} (h : Pow w) (o : Obj) : Pow (w.alloc o) := h.below ((Below.refl _ _).alloc (Nat.le_refl _) o)
theorem avC_at {us : List AV} {i : Nat} (h : i < us.length) (j : Nat) (hj : j < 4) : (us.flatMap avC)[i * 4 + j]? = (avC us[i])[j]? := by
  induction us generalizing i with
  | nil => simp at h
  | cons t r ih =>
    cases i with
    | zero => rw [List.flatMap_cons, List.getElem?_append_left (by simp [avC]; omega)]; simp
    | succ i =>
      rw [List.flatMap_cons, List.getElem?_append_right (by simp [avC]; omega)]
      simp only [show (avC t).length = 4 from rfl]
      rw [show (i + 1) * 4 + j - 4 = i * 4 + j by omega]
      simpa using ih (by simpa using h)
end Go.Proofs.YthfjnfcekeknlaaDoor
namespace Parl
def argQ : List (List UInt8) → List UInt8
  | [] => [40]
  | x :: xs => 40 :: x ++ xs.flatMap (fun y => 44 :: y)
theorem argQ_more (l : List (List UInt8)) (x : List UInt8) (h : l ≠ []) : argQ (l ++ [x]) = argQ l ++ 44 :: x := by
  cases l with
  | nil => exact absurd rfl h
  | cons y ys => simp [argQ]
theorem argQ_end (l : List (List UInt8)) (h : l ≠ []) : argS l = argQ l ++ [41] := by
  cases l with
  | nil => exact absurd rfl h
  | cons y ys => simp [argS, argQ]
theorem argQ_len {c : Nat} (l : List (List UInt8)) (h : ∀ x ∈ l, x.length ≤ c) : (argQ l).length ≤ 1 + l.length * (c + 1) := by
  cases l with
  | nil => simp [argQ]
  | cons y ys => have := argP_len (c := c) (y :: ys) h; simp only [argP] at this; simp only [argQ]; omega
theorem take_step {α β : Type} {ts : List α} {j : Nat} (hj : j < ts.length) (F : α → β) : (ts.take (j + 1)).map F = (ts.take j).map F ++ [F ts[j]] := by
  rw [List.take_add_one, List.getElem?_eq_getElem hj, List.map_append]; rfl
end Parl
namespace Go.Proofs.YthfjnfcekeknlaaDoor
open Go.RowKit

theorem qa_start (b : ByteArray) : b ++ ⟨#[40]⟩ = (⟨(b.toList ++ Parl.argQ []).toArray⟩ : ByteArray) := by
  have := ba_app b.toList [40]
  rw [ba_self] at this
  exact this
theorem qa_str0 (X A : List UInt8) (l : List (List UInt8)) (h : l = []) : (⟨(X ++ Parl.argQ l).toArray⟩ : ByteArray) ++ ⟨A.toArray⟩ = ⟨(X ++ Parl.argQ (l ++ [A])).toArray⟩ := by
  subst h
  rw [ba_app]
  simp [Parl.argQ]
theorem qa_str1 (X A : List UInt8) (l : List (List UInt8)) (h : l ≠ []) : (⟨(X ++ Parl.argQ l).toArray⟩ : ByteArray) ++ ⟨#[44]⟩ ++ ⟨A.toArray⟩ = ⟨(X ++ Parl.argQ (l ++ [A])).toArray⟩ := by
  rw [ba_lit, ba_app, ba_app, Parl.argQ_more _ _ h]
  simp
theorem qa_end (X : List UInt8) (l : List (List UInt8)) (h : l ≠ []) : (⟨(X ++ Parl.argQ l).toArray⟩ : ByteArray) ++ ⟨#[41]⟩ = ⟨(X ++ Parl.argS l).toArray⟩ := by
  rw [ba_lit, ba_app, Parl.argQ_end _ h]
  simp
end Go.Proofs.YthfjnfcekeknlaaDoor
namespace Parl
end Parl
namespace Go.Proofs.YthfjnfcekeknlaaDoor
open Go.RowKit

theorem ClauseA.ok {w : World} {a : TV} {o1 : Option Addr} {n1 : Nat} {o2 : Option Addr} {n2 : Nat} {c : Parl.Cls} (h : ClauseA w a o1 n1 o2 n2 c) : Parl.okC c := ⟨h.head.ok3, h.tests.ok, h.goals.ok⟩
/-- A clause lies there; N: its variables. -/
structure ClauseN (N : List (List UInt8)) (w : World) (v : QV) (c : Parl.Cls) : Prop where
  head : RA 8 N anyA w v.a c.head
  tests : ItemsA N w v.o1 v.n1 c.tests
  goals : ItemsA N w v.o2 v.n2 c.goals
theorem ClauseN.keep {N : List (List UInt8)} {w w' : World} {v : QV} {c : Parl.Cls} (h : ClauseN N w v c) (hk : KeepAJ w w') : ClauseN N w' v c := ⟨hk.a.ra h.head, h.tests.keep hk, h.goals.keep hk⟩
theorem ClauseN.ok {N : List (List UInt8)} {w : World} {v : QV} {c : Parl.Cls} (h : ClauseN N w v c) : Parl.okC c := ⟨h.head.ok3, h.tests.ok, h.goals.ok⟩
end Go.Proofs.YthfjnfcekeknlaaDoor
namespace Go.Proofs.YthfjnfcekeknlaaDoor
open Go.RowKit
/-- What every call finds: the tables. -/
structure Env (w : World) : Prop where
  sg : Signs w
  pos : 0 < w.heap.size
  pow : Pow w
theorem Env.below {w w' : World} (h : Env w) (hb : Below w.heap.size w w') : Env w' := ⟨h.sg.below hb h.pos, Nat.lt_of_lt_of_le h.pos hb.size, h.pow.below hb⟩
theorem Env.alloc {w : World} (h : Env w) (o : Obj) : Env (w.alloc o) := h.below ((Below.refl _ _).alloc (Nat.le_refl _) o)
end Go.Proofs.YthfjnfcekeknlaaDoor
namespace Go.Proofs.YthfjnfcekeknlaaDoor
open Go.ChangeShapes Go.WideShapes Go.ChangeAt Go.RowKit

theorem lawOwn : ownKnob Tryd.prog.godebug = Option.none := by kernel_rfl
theorem lawLaid : laidOutB Tryd.prog = true := by kernel_rfl
theorem gSigns : Tryd.prog.globalNamed "parley/scan.longSigns" = some 0 := by kernel_rfl
theorem gSignsType : (Tryd.prog.globals[0]?).map (·.type) = some 126 := by kernel_rfl
theorem cellsSigns : Tryd.prog.cellsOf 126 = 5 := by kernel_rfl
theorem cellsStr : Tryd.prog.cellsOf 9 = 1 := by kernel_rfl
theorem cellsInt : Tryd.prog.cellsOf 3 = 1 := by kernel_rfl
/-- An array of texts that reads so holds them, cell for cell. -/
theorem cells_of_strs {H : Type} {enc : TypeId × Value → H} {P : Program} {w : World} {base : Nat} {sp : Nat → Bool} {held : Bool} {fuel : Nat} {t e : TypeId} {n : Nat} {cs : List Value} {zs : List (List UInt8)} {p : List MemPlace}
    (ht : P.underlying t = some (.array n e)) (he : P.underlying e = some .string) (hce : P.cellsOf e = 1) (hct : P.cellsOf t = n)
    (h : DataW.trod enc P w base sp held fuel t cs = some (.agg (zs.map fun z => .lit (.string z)), p)) : cs = zs.map fun z => Value.string ⟨z.toArray⟩ := by
  cases fuel with
  | zero => simp [DataW.trod] at h
  | succ fuel =>
    simp only [DataW.trod, ht, hce, hct, Nat.mul_one] at h
    split at h
    · rename_i hl
      obtain ⟨xs, hm, hx⟩ := Option.map_eq_some_iff.1 h
      have hxs : xs.map (·.1) = zs.map fun z => (DataW.lit (.string z) : DataW H) := by
        have := congrArg Prod.fst hx
        simpa using this
      have hxl : xs.length = n := by simpa using Lib.mapM_length hm
      have hzl : zs.length = n := by
        have := congrArg List.length hxs
        simp at this
        omega
      apply List.ext_getElem?
      intro i
      by_cases hi : i < n
      · obtain ⟨b, hb, hf⟩ := Lib.mapM_at hm i i (by simp [hi])
        obtain ⟨z, hc, rfl, _⟩ := DataW.trod_string he hf
        have h1 : cs[i]? = some (.string z) := by
          have := congrArg (·[0]?) hc
          simpa [List.getElem?_take, List.getElem?_drop] using this
        have h2 : (xs.map (·.1))[i]? = some (DataW.lit (.string z.data.toList) : DataW H) := by simp [hb]
        rw [hxs] at h2
        simp only [List.getElem?_map, Option.map_eq_some_iff, DataW.lit.injEq, Lit.string.injEq] at h2
        obtain ⟨z', hz', hzz⟩ := h2
        rw [h1, List.getElem?_map, hz', hzz]
        rfl
      · rw [List.getElem?_eq_none (by omega), List.getElem?_eq_none (by simp; omega)]
    · cases h

set_option maxRecDepth 100000 in
/-- What the row's list gives: the signs of two letters. -/
theorem signs_of {W : World} (h : laidMetH Tryd.prog Rows.reshownRow.laid W) : Signs W ∧ 0 < W.heap.size := by
  have h' : laidMet Tryd.prog Rows.reshownRow.laid W := h
  obtain ⟨ps, ⟨_, _, _, _, _, _, _, _, _, _, ⟨_, _, _, _, _, _, _, _, _, _, ⟨_, _, _, _, _, _, _, _, _, _, ⟨g, t, cs, fuel, p, q, hg, ht, hvar, hd, _, _⟩, _⟩, _⟩, _⟩, _⟩ := h'
  obtain rfl := Option.some.inj (gSigns.symm.trans hg)
  obtain rfl := Option.some.inj (gSignsType.symm.trans ht)
  have e := cells_of_strs (zs := [[58, 45], [58, 61], [61, 61], [92, 61], [61, 60]]) Tryd.underlying126 Tryd.underlying9 cellsStr cellsSigns hd
  have c := World.var?_cell gSigns hvar
  obtain rfl : cs = #[.string ⟨#[58, 45]⟩, .string ⟨#[58, 61]⟩, .string ⟨#[61, 61]⟩, .string ⟨#[92, 61]⟩, .string ⟨#[61, 60]⟩] := by
    apply Array.toList_inj.1
    rw [e]; rfl
  refine ⟨⟨c 0, c 1, c 2, c 3, c 4⟩, ?_⟩
  rcases Nat.eq_zero_or_pos W.heap.size with hz | hz
  · have := c 0
    simp [World.cell?, Array.size_eq_zero_iff.1 hz] at this
  · exact hz

theorem gPow : Tryd.prog.globalNamed "internal/strconv.uint64pow10" = some 1 := by kernel_rfl
theorem gPowType : (Tryd.prog.globals[1]?).map (·.type) = some 141 := by kernel_rfl
theorem cellsPow : Tryd.prog.cellsOf 141 = 20 := by kernel_rfl
theorem cellsU64 : Tryd.prog.cellsOf 132 = 1 := by kernel_rfl

set_option maxRecDepth 100000 in
/-- What the row's list gives: the powers of ten. -/
theorem pow_of {W : World} (h : laidMetH Tryd.prog Rows.reshownRow.laid W) : Pow W := by
  have h' : laidMet Tryd.prog Rows.reshownRow.laid W := h
  obtain ⟨ps, ⟨_, _, _, _, _, _, _, _, _, _, ⟨_, _, _, _, _, _, _, _, _, _, ⟨g, t, cs, fuel, p, q, hg, ht, hvar, hd, _, _⟩, _⟩, _⟩, _⟩ := h'
  obtain rfl := Option.some.inj (gPow.symm.trans hg)
  obtain rfl := Option.some.inj (gPowType.symm.trans ht)
  unfold Pow Lib.TabIs
  rw [hvar, ← Lib.cells_of_tab (zs := Lib.pow10Tab) Tryd.underlying141 Tryd.underlying132 cellsU64 cellsPow hd]
theorem env_of {W : World} (h : laidMetH Tryd.prog Rows.reshownRow.laid W) : Env W := ⟨(signs_of h).1, (signs_of h).2, pow_of h⟩

/-- The raw numbers as they come in. -/
theorem raw_of {H : Type} {enc : TypeId × Value → H} {W : World} {fuel : Nat} {a0 : Option Addr} {len cap : Nat} {x : DataW H × List MemPlace}
    (h : DataW.trod enc Tryd.prog W 0 (fun _ => true) true fuel 22 [.slice a0 len cap] = some x) (hlt : ∀ q ∈ x.2, q.block < W.heap.size) : RawA W W.heap.size a0 len := by
  rcases Deep.open_slice Tryd.underlying22 h with ⟨hcs, _⟩ | ⟨a, len', cap', m, n, D, Pl, hcs, _, hl, hm, hmm, hx, hel⟩
  · simp at hcs
    refine ⟨by rw [hcs.2.1]; exact Nat.zero_le _, Or.inl hcs.2.1⟩
  · simp at hcs
    obtain ⟨rfl, rfl, rfl⟩ := hcs
    refine ⟨by omega, ?_⟩
    rcases Nat.eq_zero_or_pos len with h0 | h0
    · exact Or.inl h0
    · right
      simp only [if_true] at hmm
      subst hmm
      rw [cellsInt] at hel hx
      have ce : ∀ i, i < len → ∃ k : Int, W.cell? (a.add (i + 0)) = some (.int .i64 k) ∧ -9223372036854775808 ≤ k ∧ k ≤ 9223372036854775807 := by
        intro i hi
        obtain ⟨cs', h1, h2⟩ := hel i (by omega)
        obtain ⟨k, rfl, _, hw⟩ := DataW.trod_int Tryd.underlying3 h2
        obtain ⟨_, _, hc⟩ := World.cells?_some h1
        have e0 := hc 0 (by omega)
        rw [Deep.add_add, Nat.mul_one] at e0
        simp only [Lit.wf, Bool.and_eq_true, decide_eq_true_eq] at hw
        exact ⟨k, e0, hw.1, hw.2⟩
      obtain ⟨b, off, spot⟩ := a
      have hspot : spot = Option.none := by
        obtain ⟨_, e0, _⟩ := ce 0 h0
        simpa [Addr.add] using World.cell?_spot e0
      subst hspot
      have hb : b < W.heap.size := by
        refine hlt (.cell b off) ?_
        rw [hx]
        exact List.mem_append_left _ (MemPlace.mem_row.2 ⟨0, by omega, by simp⟩)
      refine ⟨b, off, rfl, hb, fun i hi => ?_⟩
      obtain ⟨k, e0, e1⟩ := ce i hi
      rw [add_plain] at e0
      exact ⟨k, e0, e1⟩

/-- What a variable's block holds. -/
def putIn (cs : Array Value) : Obj → Obj
  | .cells _ t frozen => .cells cs t frozen
  | o => o
/-- A world for the witness: the settled one, the four tables holding what their initialisers lay. -/
noncomputable def laidWorld (os : Os) : World :=
  { World.holding Tryd.prog os ⟨#[], #[], []⟩ with heap := ((((World.holding Tryd.prog os ⟨#[], #[], []⟩).heap.modify 0 (putIn #[.string ⟨#[58, 45]⟩, .string ⟨#[58, 61]⟩, .string ⟨#[61, 61]⟩, .string ⟨#[92, 61]⟩, .string ⟨#[61, 60]⟩])).modify 1 (putIn #[.int .u64 1, .int .u64 10, .int .u64 100, .int .u64 1000, .int .u64 10000, .int .u64 100000, .int .u64 1000000, .int .u64 10000000, .int .u64 100000000, .int .u64 1000000000, .int .u64 10000000000, .int .u64 100000000000, .int .u64 1000000000000, .int .u64 10000000000000, .int .u64 100000000000000, .int .u64 1000000000000000, .int .u64 10000000000000000, .int .u64 100000000000000000, .int .u64 1000000000000000000, .int .u64 10000000000000000000])).modify 2 (putIn #[.int .u8 0, .int .u8 1, .int .u8 28, .int .u8 2, .int .u8 29, .int .u8 14, .int .u8 24, .int .u8 3, .int .u8 30, .int .u8 22, .int .u8 20, .int .u8 15, .int .u8 25, .int .u8 17, .int .u8 4, .int .u8 8, .int .u8 31, .int .u8 27, .int .u8 13, .int .u8 23, .int .u8 21, .int .u8 19, .int .u8 16, .int .u8 7, .int .u8 26, .int .u8 12, .int .u8 18, .int .u8 6, .int .u8 11, .int .u8 5, .int .u8 10, .int .u8 9])).modify 3 (putIn #[.int .u8 0, .int .u8 1, .int .u8 56, .int .u8 2, .int .u8 57, .int .u8 49, .int .u8 28, .int .u8 3, .int .u8 61, .int .u8 58, .int .u8 42, .int .u8 50, .int .u8 38, .int .u8 29, .int .u8 17, .int .u8 4, .int .u8 62, .int .u8 47, .int .u8 59, .int .u8 36, .int .u8 45, .int .u8 43, .int .u8 51, .int .u8 22, .int .u8 53, .int .u8 39, .int .u8 33, .int .u8 30, .int .u8 24, .int .u8 18, .int .u8 12, .int .u8 5, .int .u8 63, .int .u8 55, .int .u8 48, .int .u8 27, .int .u8 60, .int .u8 41, .int .u8 37, .int .u8 16, .int .u8 46, .int .u8 35, .int .u8 44, .int .u8 21, .int .u8 52, .int .u8 32, .int .u8 23, .int .u8 11, .int .u8 54, .int .u8 26, .int .u8 40, .int .u8 15, .int .u8 34, .int .u8 20, .int .u8 31, .int .u8 10, .int .u8 25, .int .u8 14, .int .u8 19, .int .u8 9, .int .u8 13, .int .u8 8, .int .u8 7, .int .u8 6]) }
theorem laid_met (os : Os) : laidMet Tryd.prog Rows.reshownRow.laid ((laidWorld os).forCall (fun _ _ => 0) ⟨#[], #[.slice Option.none 0 0], []⟩).memory :=
  laidMet_of_run' 8 (by kernel_rfl) (by kernel_rfl)

end Go.Proofs.YthfjnfcekeknlaaDoor
namespace Parl
open Go
def c0 : Cls := ⟨⟨2, ⟨#[112]⟩, [⟨3, ⟨#[88]⟩, []⟩]⟩, [⟨⟨3, ⟨#[88]⟩, []⟩, [60], some ⟨4, ⟨#[49]⟩, []⟩, [], none⟩], [⟨⟨2, ⟨#[113]⟩, [⟨3, ⟨#[88]⟩, []⟩]⟩, [], none, [], none⟩]⟩
end Parl
namespace Go.Proofs.YthfjnfcekeknlaaDoor
open Go.RowKit

theorem RawA.wide {w : World} {xb yb : Nat} {o : Option Addr} {n : Nat} (h : RawA w xb o n) (hy : xb ≤ yb) : RawA w yb o n := ⟨h.1, h.2.imp id fun ⟨b, off, h1, h2, h3⟩ => ⟨b, off, h1, by omega, h3⟩⟩
theorem src_start {w : World} {o : Option Addr} {n c : Nat} (h : RawA w w.heap.size o n) : SrcA (w.alloc (.cells #[.slice o n c, .int .i64 0] 26)) w.heap.size :=
  ⟨o, n, c, 0, heap_alloc_new w _, h.keep fun _ q => Below.heap_alloc _ _ _ q, Nat.zero_le _⟩

end Go.Proofs.YthfjnfcekeknlaaDoor
