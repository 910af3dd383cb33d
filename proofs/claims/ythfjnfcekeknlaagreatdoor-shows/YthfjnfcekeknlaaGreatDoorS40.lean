import Derived.Test.YthfjnfcekeknlaaGreatDoorS01
import Derived.Test.YthfjnfcekeknlaaGreatDoorS02
namespace Go.Proofs.YthfjnfcekeknlaaGreatDoor
open Go.RowKit
theorem RB.ok3 {P : Nat → Prop} {w : World} : ∀ {f : Nat} {a : BV} {t : Parl.Tm}, RB f P w a t → Parl.ok3 f t
  | f + 1, a, t, ⟨h, q⟩ => by
    obtain ⟨h1, h2, h3, h4, h5, h6⟩ := h
    refine ⟨h5, h6, fun k => (h4 k).2.1, ?_⟩
    intro u hu
    obtain ⟨g, us, cs, _, _, _, _, ha⟩ := q (fun e => by rw [e] at hu; cases hu)
    have : ∀ (us : List BV) (ts : List Parl.Tm), All2 (RB f P w) us ts → ∀ u ∈ ts, Parl.ok3 f u := by
      intro us
      induction us with
      | nil => intro ts ha u hu; cases ts with
        | nil => cases hu
        | cons t ts => exact ha.elim
      | cons v us ih => intro ts ha u hu; cases ts with
        | nil => cases hu
        | cons t ts =>
          rcases List.mem_cons.1 hu with rfl | hu
          · exact RB.ok3 ha.1
          · exact ih ts ha.2 u hu
    exact this us t.args ha u hu
/-- A term of that depth needs no more. -/
theorem RB.cut {P : Nat → Prop} {w : World} : ∀ {k f : Nat} {a : BV} {t : Parl.Tm}, RB f P w a t → Parl.wfD k t → RB k P w a t
  | 0, _, _, _, _, hw => hw.elim
  | k + 1, f + 1, a, t, ⟨h, q⟩, hw => ⟨h, fun n => by
    obtain ⟨g, us, cs, h1, h2, h3, h4, ha⟩ := q n
    refine ⟨g, us, cs, h1, h2, h3, h4, ?_⟩
    have : ∀ (us : List BV) (ts : List Parl.Tm), All2 (RB f P w) us ts → (∀ u ∈ ts, Parl.wfD k u) → All2 (RB k P w) us ts := by
      intro us
      induction us with
      | nil => intro ts ha _; cases ts with
        | nil => exact trivial
        | cons t ts => exact ha.elim
      | cons v us ih => intro ts ha hw; cases ts with
        | nil => exact ha.elim
        | cons t ts => exact ⟨RB.cut ha.1 (hw t (by simp)), ih ts ha.2 (fun u hu => hw u (by simp [hu]))⟩
    exact this us t.args ha hw⟩
end Go.Proofs.YthfjnfcekeknlaaGreatDoor
