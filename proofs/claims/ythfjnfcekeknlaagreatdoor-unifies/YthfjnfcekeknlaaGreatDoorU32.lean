import Derived.Test.YthfjnfcekeknlaaGreatDoorU01
import Derived.Test.YthfjnfcekeknlaaGreatDoorU02
import Derived.Test.YthfjnfcekeknlaaGreatDoorU04
import Derived.Test.YthfjnfcekeknlaaGreatDoorU11
import Derived.Test.YthfjnfcekeknlaaGreatDoorU25
import Derived.Deep.LoopGhost
import Derived.Deep.RegionWith
import Derived.Deep.RegionHeld3
import Derived.Deep.AppendLies
import Derived.Deep.RegionLaw
namespace Go.Proofs.YthfjnfcekeknlaaGreatDoor
open Go.RowKit

/-- A bind's eight cells. -/
def bdC (v : BV × BV) : List Value := bvC v.1 ++ bvC v.2
/-- What a variable of the pattern stands for lies there. -/
def StB (wb : Nat) (w : World) (v : BV × BV) (q : List UInt8 × Parl.Tm) : Prop := v.1.nm.toList = q.1 ∧ v.1.num = 0 ∧ RS 1 8 (fun g => g < wb) w v.2 q.2
/-- The look lies in the block wb. -/
structure LkB (w : World) (wb : Nat) (l : Parl.Lk) (so : Option Addr) (sc : Nat) (wo : Option Addr) (wc : Nat) (vs : List (BV × BV)) (us : List BV) : Prop where
  blk : w.heap[wb]? = some (.cells #[.slice so vs.length sc, .slice wo us.length wc, .bool l.no, .bool (!l.wt.isEmpty)] 195 (0, 0))
  sown : w.ownsRow (wb + 1) 132 8 (.slice so vs.length sc) vs.length (vs.flatMap bdC)
  wown : w.ownsRow (wb + 1) 109 4 (.slice wo us.length wc) us.length (us.flatMap bvC)
  side : ∀ u ∈ us, u.num = 1
  nms : nmsB us = l.wt
  stands : All2 (StB wb w) vs l.st
/-- The rows of the two lists. -/
def rowsL (so wo : Option Addr) (k : Nat) : Prop := (∃ p, so = some p ∧ k = p.block) ∨ (∃ p, wo = some p ∧ k = p.block)
def LkSt (w : World) (wb : Nat) (l : Parl.Lk) (R : Nat → Prop) : Prop := ∃ so sc wo wc vs us, LkB w wb l so sc wo wc vs us ∧ R = rowsL so wo
theorem LkB.past {w : World} {wb : Nat} {l : Parl.Lk} {so : Option Addr} {sc : Nat} {wo : Option Addr} {wc : Nat} {vs : List (BV × BV)} {us : List BV} (h : LkB w wb l so sc wo wc vs us) : ∀ k, rowsL so wo k → wb < k ∧ k < w.heap.size := by
  rintro k (⟨p, rfl, rfl⟩ | ⟨p, rfl, rfl⟩)
  · have := h.sown.lt p.block rfl; omega
  · have := h.wown.lt p.block rfl; omega
theorem LkSt.past {w : World} {wb : Nat} {l : Parl.Lk} {R : Nat → Prop} (h : LkSt w wb l R) : ∀ k, R k → wb < k ∧ k < w.heap.size := by
  obtain ⟨so, sc, wo, wc, vs, us, h, rfl⟩ := h
  exact h.past
theorem LkSt.lt {w : World} {wb : Nat} {l : Parl.Lk} {R : Nat → Prop} (h : LkSt w wb l R) : wb < w.heap.size := by
  obtain ⟨so, sc, wo, wc, vs, us, h, rfl⟩ := h
  exact blk_lt' h.blk
theorem LkB.below {w w' : World} {wb : Nat} {l : Parl.Lk} {so : Option Addr} {sc : Nat} {wo : Option Addr} {wc : Nat} {vs : List (BV × BV)} {us : List BV} (h : LkB w wb l so sc wo wc vs us) (hb : Below w.heap.size w w') : LkB w' wb l so sc wo wc vs us :=
  ⟨(hb.block wb (blk_lt' h.blk)).trans h.blk, own_below h.sown hb, own_below h.wown hb, h.side, h.nms, h.stands.imp fun _ _ q => ⟨q.1, q.2.1, q.2.2.below hb⟩⟩
theorem LkSt.below {w w' : World} {wb : Nat} {l : Parl.Lk} {R : Nat → Prop} (h : LkSt w wb l R) (hb : Below w.heap.size w w') : LkSt w' wb l R := by
  obtain ⟨so, sc, wo, wc, vs, us, h, rfl⟩ := h
  exact ⟨so, sc, wo, wc, vs, us, h.below hb, rfl⟩
/-- What the look's calls leave as it was. -/
structure FrL (wb : Nat) (R R' : Nat → Prop) (w w' : World) : Prop where
  os : w'.os = w.os
  tape : w'.tape = w.tape
  output : w'.output = w.output
  size : w.heap.size ≤ w'.heap.size
  block : ∀ k, k < w.heap.size → k ≠ wb → ¬ R k → w'.heap[k]? = w.heap[k]?
  row : ∀ k, R' k → R k ∨ w.heap.size ≤ k
theorem FrL.of_below {wb : Nat} {R : Nat → Prop} {w w' : World} (h : Below w.heap.size w w') : FrL wb R R w w' := ⟨h.os, h.tape, h.output, h.size, fun k hk _ _ => h.block k hk, fun _ q => Or.inl q⟩
theorem FrL.trans {wb : Nat} {R R1 R2 : Nat → Prop} {u v w : World} (h : FrL wb R R1 u v) (k : FrL wb R1 R2 v w) : FrL wb R R2 u w :=
  ⟨k.os.trans h.os, k.tape.trans h.tape, k.output.trans h.output, Nat.le_trans h.size k.size, fun i hi h1 h2 => (k.block i (Nat.lt_of_lt_of_le hi h.size) h1 (fun q => by
    rcases h.row i q with e | e
    · exact h2 e
    · omega)).trans (h.block i hi h1 h2), fun i q => by
    rcases k.row i q with e | e
    · exact h.row i e
    · exact Or.inr (Nat.le_trans h.size e)⟩
theorem FrL.below {wb : Nat} {R R' : Nat → Prop} {w w' : World} (h : FrL wb R R' w w') (hr : ∀ k, R k → wb < k) (hx : wb ≤ w.heap.size) : Below wb w w' :=
  ⟨h.os, h.tape, h.output, h.size, fun k hk => h.block k (by omega) (by omega) (fun q => by have := hr k q; omega)⟩
/-- The parts of a bind and of a wait lie apart. -/
theorem LkB.apart {w : World} {wb : Nat} {l : Parl.Lk} {so : Option Addr} {sc : Nat} {wo : Option Addr} {wc : Nat} {vs : List (BV × BV)} {us : List BV} (h : LkB w wb l so sc wo wc vs us) : ∀ p q, so = some p → wo = some q → p.block ≠ q.block := by
  rintro p q rfl rfl e
  rcases h.sown.2 with ⟨c, _⟩ | ⟨g, cp, cur, c, _, hc, _⟩
  · cases c
  · rcases h.wown.2 with ⟨d, _⟩ | ⟨g', cp', cur', d, _, hd, _⟩
    · cases d
    · simp only [Value.slice.injEq, Option.some.injEq] at c d
      obtain ⟨rfl, _⟩ := c
      obtain ⟨rfl, _⟩ := d
      dsimp only at e
      subst e
      rw [hc] at hd
      simp at hd
end Go.Proofs.YthfjnfcekeknlaaGreatDoor
namespace Go.Proofs.YthfjnfcekeknlaaGreatDoor
open Go.RowKit

theorem FrL.cell {wb : Nat} {R R' : Nat → Prop} {w w' : World} (h : FrL wb R R' w w') {p : Addr} {v : Value} (hc : w.cell? p = some v) (h1 : p.block ≠ wb) (h2 : ¬ R p.block) : w'.cell? p = some v :=
  (World.cell?_of_block (h.block p.block (World.block_lt_of_cell? w p hc) h1 h2)).trans hc
theorem RS.wf {sd : Int} {P : Nat → Prop} {w : World} : ∀ {f : Nat} {a : BV} {t : Parl.Tm}, RS sd f P w a t → Parl.wfK f t
  | f + 1, a, t, ⟨h, q⟩ => by
    refine ⟨h.ks, h.lf, h.few, ?_⟩
    intro u hu
    obtain ⟨g, us, cs, _, _, _, _, ha⟩ := q (fun e => by rw [e] at hu; cases hu)
    have : ∀ (us : List BV) (ts : List Parl.Tm), All2 (RS sd f P w) us ts → ∀ u ∈ ts, Parl.wfK f u := by
      intro us
      induction us with
      | nil => intro ts ha u hu; cases ts with
        | nil => cases hu
        | cons t ts => exact ha.elim
      | cons v us ih => intro ts ha u hu; cases ts with
        | nil => cases hu
        | cons t ts =>
          rcases List.mem_cons.1 hu with rfl | hu
          · exact RS.wf ha.1
          · exact ih ts ha.2 u hu
    exact this us t.args ha u hu
end Go.Proofs.YthfjnfcekeknlaaGreatDoor
namespace Go.Proofs.YthfjnfcekeknlaaGreatDoor
open Go.RowKit

theorem LkSt.bad {w : World} {wb : Nat} {l : Parl.Lk} {R : Nat → Prop} (h : LkSt w wb l R) : LkSt (w.setCell ⟨wb, 2, none⟩ (.bool true)) wb l.bad R ∧ FrL wb R R w (w.setCell ⟨wb, 2, none⟩ (.bool true)) := by
  obtain ⟨so, sc, wo, wc, vs, us, h, rfl⟩ := h
  refine ⟨⟨so, sc, wo, wc, vs, us, ⟨?_, own_at h.sown (fun k h1 _ => heap_set _ _ _ _ (by omega)), own_at h.wown (fun k h1 _ => heap_set _ _ _ _ (by omega)), h.side, h.nms, h.stands.imp fun v q r => ⟨r.1, r.2.1, r.2.2.keep fun g cs hg hc => ⟨(heap_set _ _ _ _ (by omega)).trans hc, hg⟩⟩⟩, rfl⟩, ⟨rfl, rfl, rfl, by rw [size_set]; exact Nat.le_refl _, fun k _ h2 _ => heap_set _ _ _ _ h2, fun _ q => Or.inl q⟩⟩
  have := blk_set h.blk 2 (.bool true)
  show (w.setCell ⟨wb, 2, none⟩ (.bool true)).heap[wb]? = some (.cells #[.slice so vs.length sc, .slice wo us.length wc, .bool true, .bool (!l.wt.isEmpty)] 195 (0, 0))
  simpa using this
end Go.Proofs.YthfjnfcekeknlaaGreatDoor
namespace Go.Proofs.YthfjnfcekeknlaaGreatDoor
open Go.RowKit

theorem RS.up {sd : Int} {P : Nat → Prop} {w : World} : ∀ {f : Nat} {a : BV} {t : Parl.Tm}, RS sd f P w a t → RS sd (f + 1) P w a t
  | _ + 1, _, _, ⟨h, q⟩ => ⟨h, fun n => by
    obtain ⟨g, us, cs, h1, h2, h3, h4, h5⟩ := q n
    exact ⟨g, us, cs, h1, h2, h3, h4, h5.imp fun _ _ => RS.up⟩⟩
theorem RS.le {sd : Int} {P : Nat → Prop} {w : World} {f k : Nat} {a : BV} {t : Parl.Tm} (h : RS sd f P w a t) (hk : f ≤ k) : RS sd k P w a t := by
  induction hk with
  | refl => exact h
  | step _ ih => exact ih.up

end Go.Proofs.YthfjnfcekeknlaaGreatDoor
namespace Parl
end Parl
namespace Go.Proofs.YthfjnfcekeknlaaGreatDoor
open Go.RowKit

theorem Tryz.info132 : (Tryz.prog.info? 132).map (fun i => (i.zero, i.size, i.bytes)) = some (some (.agg #[.int .i64 0, .string ⟨#[]⟩, .int .i64 0, .slice none 0 0, .int .i64 0, .string ⟨#[]⟩, .int .i64 0, .slice none 0 0]), 8, 112) := by kernel_rfl
end Go.Proofs.YthfjnfcekeknlaaGreatDoor
