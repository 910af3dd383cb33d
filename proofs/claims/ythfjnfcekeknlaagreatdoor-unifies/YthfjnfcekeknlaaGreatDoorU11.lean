import Derived.Test.YthfjnfcekeknlaaGreatDoorU01
import Derived.Test.YthfjnfcekeknlaaGreatDoorU03
import Derived.Deep.RegionHeld3
import Derived.Deep.AppendLies
import Derived.Deep.RegionLaw
namespace Go.Proofs.YthfjnfcekeknlaaGreatDoor
open Go.RowKit

/-- The list's names. -/
def nmsB (us : List BV) : List (List UInt8) := us.map fun u => u.nm.toList
/-- The list x lies in block xb. -/
structure XL (w : World) (xb : Nat) (us : List BV) (o : Option Addr) (cap : Nat) : Prop where
  cell : w.cell? ⟨xb, 0, none⟩ = some (.slice o us.length cap)
  froz : w.frozen? ⟨xb, 0, none⟩ = false
  own : w.ownsRow (xb + 1) 109 4 (.slice o us.length cap) us.length (us.flatMap bvC)
  zero : ∀ u ∈ us, u.num = 0
  lt : xb < w.heap.size
theorem XL.below {w w' : World} {xb : Nat} {us : List BV} {o : Option Addr} {cap : Nat} (h : XL w xb us o cap) (hb : Below w.heap.size w w') : XL w' xb us o cap :=
  ⟨(hb.cell (p := ⟨xb, 0, none⟩) h.lt).trans h.cell, (hb.frozen (p := ⟨xb, 0, none⟩) h.lt).trans h.froz, own_below h.own hb, h.zero, Nat.lt_of_lt_of_le h.lt hb.size⟩
theorem bvC_at {us : List BV} {i : Nat} (h : i < us.length) (j : Nat) (hj : j < 4) : (us.flatMap bvC)[i * 4 + j]? = (bvC us[i])[j]? := by
  induction us generalizing i with
  | nil => simp at h
  | cons t r ih =>
    cases i with
    | zero => rw [List.flatMap_cons, List.getElem?_append_left (by simp [bvC]; omega)]; simp
    | succ i =>
      rw [List.flatMap_cons, List.getElem?_append_right (by simp [bvC]; omega)]
      simp only [show (bvC t).length = 4 from rfl]
      rw [show (i + 1) * 4 + j - 4 = i * 4 + j by omega]
      simpa using ih (by simpa using h)

theorem put_facts {w1 : World} {xb g cap : Nat} {us : List BV} (h : w1.ownsRow (xb + 1) 109 4 (.slice (some ⟨g, 0, none⟩) (us.length + 1) cap) (us.length + 1) (us.flatMap bvC ++ [.int .i64 0, .string ⟨#[]⟩, .int .i64 0, .slice none 0 0])) :
    w1.cell? ⟨g, us.length * 4, none⟩ = some (.int .i64 0) ∧ w1.cell? ⟨g, us.length * 4 + 1, none⟩ = some (.string ⟨#[]⟩) ∧ w1.cell? ⟨g, us.length * 4 + 2, none⟩ = some (.int .i64 0) ∧ w1.cell? ⟨g, us.length * 4 + 3, none⟩ = some (.slice none 0 0) ∧ ∀ i, w1.frozen? ⟨g, i, none⟩ = false := by
  have e : ∀ j, j < 4 → w1.cell? ⟨g, us.length * 4 + j, none⟩ = ([.int .i64 0, .string ⟨#[]⟩, .int .i64 0, .slice none 0 0] : List Value)[j]? := fun j hj => by
    rw [h.cellAt _ (by omega), List.getElem?_append_right (by rw [bvC_length]; omega), bvC_length, Nat.add_sub_cancel_left]
  refine ⟨e 0 (by omega), e 1 (by omega), e 2 (by omega), e 3 (by omega), ?_⟩
  rcases h.2 with ⟨q, _⟩ | ⟨g', cap', cur, q, _, hc, _⟩
  · cases q
  · simp only [Value.slice.injEq, Option.some.injEq, Addr.mk.injEq, and_true, true_and] at q
    obtain ⟨rfl, rfl⟩ := q
    exact blkX' hc
/-- The row behind a store at its end. -/
theorem row_put {w1 : World} {xb g cap : Nat} {us : List BV} (v : BV) (h : w1.ownsRow (xb + 1) 109 4 (.slice (some ⟨g, 0, none⟩) (us.length + 1) cap) (us.length + 1) (us.flatMap bvC ++ [.int .i64 0, .string ⟨#[]⟩, .int .i64 0, .slice none 0 0])) :
    ((((w1.setCell ⟨g, us.length * 4, none⟩ (.int .i64 v.k)).setCell ⟨g, us.length * 4 + 1, none⟩ (.string v.nm)).setCell ⟨g, us.length * 4 + 2, none⟩ (.int .i64 v.num)).setCell ⟨g, us.length * 4 + 3, none⟩ (.slice v.ao v.n v.cap)).ownsRow (xb + 1) 109 4 (.slice (some ⟨g, 0, none⟩) (us ++ [v]).length cap) (us ++ [v]).length ((us ++ [v]).flatMap bvC) := by
  rcases h.2 with ⟨q, _⟩ | ⟨g', cap', cur, q, hb, hc, h1, h2, h3, h4⟩
  · cases q
  · simp only [Value.slice.injEq, Option.some.injEq, Addr.mk.injEq, and_true, true_and] at q
    obtain ⟨rfl, rfl⟩ := q
    refine ⟨by rw [bvC_length], Or.inr ⟨g, cap, _, by simp, hb, blk_set (blk_set (blk_set (blk_set hc (us.length * 4) (.int .i64 v.k)) (us.length * 4 + 1) (.string v.nm)) (us.length * 4 + 2) (.int .i64 v.num)) (us.length * 4 + 3) (.slice v.ao v.n v.cap), by simpa using h1, h2, by simpa using h3, ?_⟩⟩
    simp only [Array.toList_setIfInBounds, List.length_append, List.length_singleton, List.take_set, h4, List.flatMap_append, List.flatMap_cons, List.flatMap_nil, List.append_nil]
    have hl := bvC_length us
    rw [List.set_append_right _ _ (by omega), List.set_append_right _ _ (by omega), List.set_append_right _ _ (by omega), List.set_append_right _ _ (by omega), hl]
    simp [bvC]
theorem set_swap (w : World) {b b' : Nat} (i i' : Nat) (v v' : Value) (h : b ≠ b') : (w.setCell ⟨b, i, none⟩ v).setCell ⟨b', i', none⟩ v' = (w.setCell ⟨b', i', none⟩ v').setCell ⟨b, i, none⟩ v := by
  simp only [World.setCell]
  congr 1
  apply Array.ext_getElem?
  intro k
  simp only [Array.getElem?_modify]
  by_cases h1 : b = k <;> by_cases h2 : b' = k <;> simp_all
/-- What the list's calls leave as it was. -/
structure FrX (xb : Nat) (o o' : Option Addr) (w w' : World) : Prop where
  os : w'.os = w.os
  tape : w'.tape = w.tape
  output : w'.output = w.output
  size : w.heap.size ≤ w'.heap.size
  block : ∀ k, k < w.heap.size → k ≠ xb → (∀ p, o = some p → k ≠ p.block) → w'.heap[k]? = w.heap[k]?
  row : ∀ p, o' = some p → (∃ q, o = some q ∧ q.block = p.block) ∨ w.heap.size ≤ p.block
theorem FrX.of_below {xb : Nat} {o : Option Addr} {w w' : World} (h : Below w.heap.size w w') : FrX xb o o w w' := ⟨h.os, h.tape, h.output, h.size, fun k hk _ _ => h.block k hk, fun p q => Or.inl ⟨p, q, rfl⟩⟩
theorem FrX.trans {xb : Nat} {o o1 o2 : Option Addr} {u v w : World} (h : FrX xb o o1 u v) (k : FrX xb o1 o2 v w) : FrX xb o o2 u w :=
  ⟨k.os.trans h.os, k.tape.trans h.tape, k.output.trans h.output, Nat.le_trans h.size k.size, fun i hi h1 h2 => (k.block i (Nat.lt_of_lt_of_le hi h.size) h1 (fun p q e => by
    rcases h.row p q with ⟨r, hr, hb⟩ | hb
    · exact h2 r hr (e.trans hb.symm)
    · omega)).trans (h.block i hi h1 h2), fun p q => by
    rcases k.row p q with ⟨r, hr, hb⟩ | hb
    · rcases h.row r hr with ⟨t, ht, hc⟩ | hc
      · exact Or.inl ⟨t, ht, hc.trans hb⟩
      · exact Or.inr (by omega)
    · exact Or.inr (Nat.le_trans h.size hb)⟩
theorem FrX.set {xb : Nat} {o o' : Option Addr} {w w' : World} (h : FrX xb o o' w w') {p : Addr} (hp : p.block = xb ∨ ∀ k, k < w.heap.size → (∀ q, o = some q → k ≠ q.block) → k ≠ p.block) (v : Value) : FrX xb o o' w (w'.setCell p v) :=
  ⟨h.os, h.tape, h.output, by rw [size_set]; exact h.size, fun k h1 h2 h3 => (Below.heap_setCell _ _ _ _ (by
    rcases hp with e | e
    · rw [e]; exact h2
    · exact e k h1 h3)).trans (h.block k h1 h2 h3), h.row⟩
theorem own_none {o : Option Addr} {n cap : Nat} {k : Nat} (h : ∀ q, o = some q → k ≠ q.block) : some k ≠ (Value.slice o n cap).ownBlock := by
  cases o with
  | none => simp [Value.ownBlock]
  | some q => have := h q rfl; simpa [Value.ownBlock] using this
theorem FrX.append {xb n cap g : Nat} {o : Option Addr} {w wr w1 : World} {box X : Obj} (hB : Below (w.heap.size + 1) (w.alloc box) wr) (hg : ((wr.alloc X).drew).grownBy w1 (Value.slice o n cap).ownBlock) (hat : (Value.slice o n cap).ownBlock = some g ∨ g = wr.heap.size + 1) : FrX xb o (some ⟨g, 0, none⟩) w w1 := by
  have hz := hB.size
  simp at hz
  refine ⟨hg.os.trans (hB.os), hg.tape.trans hB.tape, hg.output.trans hB.output, ?_, fun k h1 _ h3 => ?_, fun p q => ?_⟩
  · have := hg.size; simp at this; omega
  · rw [hg.block k (by simp; omega) (own_none h3)]
    show (wr.alloc X).heap[k]? = _
    rw [Below.heap_alloc _ _ _ (by omega), hB.block k (by omega), Below.heap_alloc _ _ _ h1]
  · cases q
    rcases hat with e | e
    · cases o with
      | none => simp [Value.ownBlock] at e
      | some r => simp [Value.ownBlock] at e; exact Or.inl ⟨r, rfl, e⟩
    · exact Or.inr (by show w.heap.size ≤ g; omega)
theorem FrX.apart {n cap g : Nat} {o : Option Addr} {w wr : World} {box : Obj} (hB : Below (w.heap.size + 1) (w.alloc box) wr) (hat : (Value.slice o n cap).ownBlock = some g ∨ g = wr.heap.size + 1) : ∀ k, k < w.heap.size → (∀ q, o = some q → k ≠ q.block) → k ≠ g := by
  have hz := hB.size
  simp at hz
  intro k h1 h2 e
  subst e
  rcases hat with e | e
  · exact own_none h2 e.symm
  · omega
theorem FrX.below {xb : Nat} {o o' : Option Addr} {w w' : World} (h : FrX xb o o' w w') (hr : ∀ p, o = some p → xb < p.block) (hx : xb ≤ w.heap.size) : Below xb w w' :=
  ⟨h.os, h.tape, h.output, h.size, fun k hk => h.block k (by omega) (by omega) (fun p q => by have := hr p q; omega)⟩
theorem XL.past {w : World} {xb : Nat} {us : List BV} {o : Option Addr} {cap : Nat} (h : XL w xb us o cap) : ∀ p, o = some p → xb < p.block := fun p q => by
  have := h.own.lt p.block (by rw [q]; rfl)
  omega
theorem cell_drew {w w' : World} {p : Addr} {v : Value} (hb : Below w.drew.heap.size w.drew w') (h : w.cell? p = some v) : w'.cell? p = some v := (hb.cell (World.block_lt_of_cell? w p h)).trans h
end Go.Proofs.YthfjnfcekeknlaaGreatDoor
