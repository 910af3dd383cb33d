import Derived.Test.YthfjnfcekeknlaaGreatDoorS01
import Derived.Test.YthfjnfcekeknlaaGreatDoorS05
import Derived.Deep.RegionHeld3
import Derived.Deep.AppendLies
import Derived.Deep.RegionLaw
namespace Go.Proofs.YthfjnfcekeknlaaGreatDoor
open Go.RowKit

set_option maxHeartbeats 1000000 in
theorem sameVar_any (u v : BV) (w : World) (hu : u.num = 0) (hv : v.num = 0) :
    Calls Tryz.prog 106 #[.agg #[.int .i64 u.k, .string u.nm, .int .i64 u.num, .slice u.ao u.n u.cap], .agg #[.int .i64 v.k, .string v.nm, .int .i64 v.num, .slice v.ao v.n v.cap]] w fun e w' => e = .returned (.bool (u.nm.toList == v.nm.toList)) ∧ Below w.heap.size w w' := by
  rw [hu, hv]
  cases hq : (u.nm.toList == v.nm.toList)
  · go_enter Tryz.func106, Tryz.ntmps106
    go_wp2_with fail
    go_ret
    exact ⟨rfl, ((Below.refl _ _).alloc (Nat.le_refl _) _).alloc (by simp) _⟩
  · go_enter Tryz.func106, Tryz.ntmps106
    go_wp2_with fail
    go_ret
    exact ⟨rfl, ((Below.refl _ _).alloc (Nat.le_refl _) _).alloc (by simp) _⟩

/-- The list's names. -/
def nmsB (us : List BV) : List (List UInt8) := us.map fun u => u.nm.toList
/-- The list x lies in block xb. -/
structure XL (w : World) (xb : Nat) (us : List BV) (o : Option Addr) (cap : Nat) : Prop where
  cell : w.cell? ⟨xb, 0, none⟩ = some (.slice o us.length cap)
  froz : w.frozen? ⟨xb, 0, none⟩ = false
  own : w.ownsRow (xb + 1) 109 4 (.slice o us.length cap) us.length (us.flatMap bvC)
  zero : ∀ u ∈ us, u.num = 0
  lt : xb < w.heap.size
theorem XL.below {w w' : World} {xb : Nat} {us : List BV} {o : Option Addr} {cap : Nat} (h : XL w xb us o cap) (hb : Below w.heap.size w w') : XL w' xb us o cap :=
  ⟨(hb.cell (p := ⟨xb, 0, none⟩) h.lt).trans h.cell, (hb.frozen (p := ⟨xb, 0, none⟩) h.lt).trans h.froz, own_below h.own hb, h.zero, Nat.lt_of_lt_of_le h.lt hb.size⟩
theorem bvC_at {us : List BV} {i : Nat} (h : i < us.length) (j : Nat) (hj : j < 4) : (us.flatMap bvC)[i * 4 + j]? = (bvC us[i])[j]? := by
  induction us generalizing i with
  | nil => simp at h
  | cons t r ih =>
    cases i with
    | zero => rw [List.flatMap_cons, List.getElem?_append_left (by simp [bvC]; omega)]; simp
    | succ i =>
      rw [List.flatMap_cons, List.getElem?_append_right (by simp [bvC]; omega)]
      simp only [show (bvC t).length = 4 from rfl]
      rw [show (i + 1) * 4 + j - 4 = i * 4 + j by omega]
      simpa using ih (by simpa using h)

theorem nms_idx {us : List BV} {k : Nat} {x : List UInt8} (h : k < us.length) (he : us[k].nm.toList = x) (hno : ∀ j (hj : j < us.length), j < k → us[j].nm.toList ≠ x) : (nmsB us).idxOf x = k := by
  unfold nmsB
  induction us generalizing k with
  | nil => simp at h
  | cons u us ih =>
    rw [List.map_cons]
    cases k with
    | zero => rw [List.idxOf_cons]; simp at he; simp [he]
    | succ k =>
      have h0 : u.nm.toList ≠ x := hno 0 (by simp) (by omega)
      rw [List.idxOf_cons]
      simp only [beq_iff_eq, h0, cond_eq_ite, if_false]
      have := ih (k := k) (by simpa using h) (by simpa using he) (fun j hj q => by have := hno (j + 1) (by simpa using hj) (by omega); simpa using this)
      rw [this]
theorem nms_in {us : List BV} {k : Nat} {x : List UInt8} (h : k < us.length) (he : us[k].nm.toList = x) : Parl.addN (nmsB us) x = nmsB us := by
  unfold Parl.addN
  rw [if_pos]
  subst he
  exact List.mem_map.2 ⟨us[k], by simp, rfl⟩
theorem nms_out {us : List BV} {x : List UInt8} (hno : ∀ j (hj : j < us.length), us[j].nm.toList ≠ x) : x ∉ nmsB us := by
  intro q
  obtain ⟨u, hu, rfl⟩ := List.mem_map.1 q
  obtain ⟨j, hj, rfl⟩ := List.getElem_of_mem hu
  exact hno j hj rfl
theorem put_facts {w1 : World} {xb g cap : Nat} {us : List BV} (h : w1.ownsRow (xb + 1) 109 4 (.slice (some ⟨g, 0, none⟩) (us.length + 1) cap) (us.length + 1) (us.flatMap bvC ++ [.int .i64 0, .string ⟨#[]⟩, .int .i64 0, .slice none 0 0])) :
    w1.cell? ⟨g, us.length * 4, none⟩ = some (.int .i64 0) ∧ w1.cell? ⟨g, us.length * 4 + 1, none⟩ = some (.string ⟨#[]⟩) ∧ w1.cell? ⟨g, us.length * 4 + 2, none⟩ = some (.int .i64 0) ∧ w1.cell? ⟨g, us.length * 4 + 3, none⟩ = some (.slice none 0 0) ∧ ∀ i, w1.frozen? ⟨g, i, none⟩ = false := by
  have e : ∀ j, j < 4 → w1.cell? ⟨g, us.length * 4 + j, none⟩ = ([.int .i64 0, .string ⟨#[]⟩, .int .i64 0, .slice none 0 0] : List Value)[j]? := fun j hj => by
    rw [h.cellAt _ (by omega), List.getElem?_append_right (by rw [bvC_length]; omega), bvC_length, Nat.add_sub_cancel_left]
  refine ⟨e 0 (by omega), e 1 (by omega), e 2 (by omega), e 3 (by omega), ?_⟩
  rcases h.2 with ⟨q, _⟩ | ⟨g', cap', cur, q, _, hc, _⟩
  · cases q
  · simp only [Value.slice.injEq, Option.some.injEq, Addr.mk.injEq, and_true, true_and] at q
    obtain ⟨rfl, rfl⟩ := q
    exact blkX' hc
/-- The row behind a store at its end. -/
theorem row_put {w1 : World} {xb g cap : Nat} {us : List BV} (v : BV) (h : w1.ownsRow (xb + 1) 109 4 (.slice (some ⟨g, 0, none⟩) (us.length + 1) cap) (us.length + 1) (us.flatMap bvC ++ [.int .i64 0, .string ⟨#[]⟩, .int .i64 0, .slice none 0 0])) :
    ((((w1.setCell ⟨g, us.length * 4, none⟩ (.int .i64 v.k)).setCell ⟨g, us.length * 4 + 1, none⟩ (.string v.nm)).setCell ⟨g, us.length * 4 + 2, none⟩ (.int .i64 v.num)).setCell ⟨g, us.length * 4 + 3, none⟩ (.slice v.ao v.n v.cap)).ownsRow (xb + 1) 109 4 (.slice (some ⟨g, 0, none⟩) (us ++ [v]).length cap) (us ++ [v]).length ((us ++ [v]).flatMap bvC) := by
  rcases h.2 with ⟨q, _⟩ | ⟨g', cap', cur, q, hb, hc, h1, h2, h3, h4⟩
  · cases q
  · simp only [Value.slice.injEq, Option.some.injEq, Addr.mk.injEq, and_true, true_and] at q
    obtain ⟨rfl, rfl⟩ := q
    refine ⟨by rw [bvC_length], Or.inr ⟨g, cap, _, by simp, hb, blk_set (blk_set (blk_set (blk_set hc (us.length * 4) (.int .i64 v.k)) (us.length * 4 + 1) (.string v.nm)) (us.length * 4 + 2) (.int .i64 v.num)) (us.length * 4 + 3) (.slice v.ao v.n v.cap), by simpa using h1, h2, by simpa using h3, ?_⟩⟩
    simp only [Array.toList_setIfInBounds, List.length_append, List.length_singleton, List.take_set, h4, List.flatMap_append, List.flatMap_cons, List.flatMap_nil, List.append_nil]
    have hl := bvC_length us
    rw [List.set_append_right _ _ (by omega), List.set_append_right _ _ (by omega), List.set_append_right _ _ (by omega), List.set_append_right _ _ (by omega), hl]
    simp [bvC]
theorem xl_put1 {w1 : World} {xb g cap : Nat} {us : List BV} {v : BV} (h : w1.ownsRow (xb + 1) 109 4 (.slice (some ⟨g, 0, none⟩) (us.length + 1) cap) (us.length + 1) (us.flatMap bvC ++ [.int .i64 0, .string ⟨#[]⟩, .int .i64 0, .slice none 0 0])) (hc : ∃ u, w1.cell? ⟨xb, 0, none⟩ = some u) (hf : w1.frozen? ⟨xb, 0, none⟩ = false) (hx : xb < w1.heap.size) (hne : g ≠ xb) (hz : ∀ u ∈ us, u.num = 0) (hv : v.num = 0) :
    XL (((((w1.setCell ⟨g, us.length * 4, none⟩ (.int .i64 v.k)).setCell ⟨g, us.length * 4 + 1, none⟩ (.string v.nm)).setCell ⟨g, us.length * 4 + 2, none⟩ (.int .i64 0)).setCell ⟨g, us.length * 4 + 3, none⟩ (.slice v.ao v.n v.cap)).setCell ⟨xb, 0, none⟩ (.slice (some ⟨g, 0, none⟩) (us.length + 1) cap)) xb (us ++ [v]) (some ⟨g, 0, none⟩) cap := by
  have hr := row_put v h
  rw [hv] at hr
  obtain ⟨u, hc⟩ := hc
  refine ⟨?_, ?_, ownsRow_setCell_below hr (by show xb < xb + 1; omega) _, ?_, by simp; exact hx⟩
  · simp [go_sem, hc]
  · simp [go_sem, hf]
  · intro x hx'
    rcases List.mem_append.1 hx' with q | q
    · exact hz x q
    · obtain rfl : x = v := by simpa using q
      exact hv
theorem set_swap (w : World) {b b' : Nat} (i i' : Nat) (v v' : Value) (h : b ≠ b') : (w.setCell ⟨b, i, none⟩ v).setCell ⟨b', i', none⟩ v' = (w.setCell ⟨b', i', none⟩ v').setCell ⟨b, i, none⟩ v := by
  simp only [World.setCell]
  congr 1
  apply Array.ext_getElem?
  intro k
  simp only [Array.getElem?_modify]
  by_cases h1 : b = k <;> by_cases h2 : b' = k <;> simp_all
theorem xl_put2 {w1 : World} {xb g cap : Nat} {us : List BV} {v : BV} (h : w1.ownsRow (xb + 1) 109 4 (.slice (some ⟨g, 0, none⟩) (us.length + 1) cap) (us.length + 1) (us.flatMap bvC ++ [.int .i64 0, .string ⟨#[]⟩, .int .i64 0, .slice none 0 0])) (hc : ∃ u, w1.cell? ⟨xb, 0, none⟩ = some u) (hf : w1.frozen? ⟨xb, 0, none⟩ = false) (hx : xb < w1.heap.size) (hne : g ≠ xb) (hz : ∀ u ∈ us, u.num = 0) (hv : v.num = 0) :
    XL (((((w1.setCell ⟨xb, 0, none⟩ (.slice (some ⟨g, 0, none⟩) (us.length + 1) cap)).setCell ⟨g, us.length * 4, none⟩ (.int .i64 v.k)).setCell ⟨g, us.length * 4 + 1, none⟩ (.string v.nm)).setCell ⟨g, us.length * 4 + 2, none⟩ (.int .i64 0)).setCell ⟨g, us.length * 4 + 3, none⟩ (.slice v.ao v.n v.cap)) xb (us ++ [v]) (some ⟨g, 0, none⟩) cap := by
  have := xl_put1 h hc hf hx hne hz hv
  rw [set_swap _ _ _ _ _ hne, set_swap _ _ _ _ _ hne, set_swap _ _ _ _ _ hne, set_swap _ _ _ _ _ hne] at this
  exact this
theorem nms_new {us : List BV} {v : BV} (h : v.nm.toList ∉ nmsB us) : nmsB (us ++ [v]) = Parl.addN (nmsB us) v.nm.toList := by
  unfold Parl.addN
  rw [if_neg h]
  simp [nmsB]
theorem place_ret {us : List BV} {x : List UInt8} (h : x ∉ nmsB us) : (Ending.returned (.int .i64 (us.length : Int))) = Ending.returned (.int .i64 ((nmsB us).idxOf x : Int)) := by
  rw [List.idxOf_eq_length h]
  simp [nmsB]
theorem place_below {w wr w1 : World} {xb n : Nat} {v : Value} {xs : List Value} {box X : Obj} (hB : Below (w.heap.size + 1) (w.alloc box) wr) (hx : xb ≤ w.heap.size) (ho : wr.ownsRow (xb + 1) 109 4 v n xs) (hxr : xb < wr.heap.size) (hg : ((wr.alloc X).drew).grownBy w1 v.ownBlock) : Below xb w w1 :=
  (((Below.refl _ _).alloc hx box).trans (hB.mono (by omega))).trans ((((Below.refl _ _).alloc (by omega) X).drew).grown hg (by simp; omega) (fun k q => by have := (ho.lt k q).1; omega))
/-- What the list's calls leave as it was. -/
structure FrX (xb : Nat) (o o' : Option Addr) (w w' : World) : Prop where
  os : w'.os = w.os
  tape : w'.tape = w.tape
  output : w'.output = w.output
  size : w.heap.size ≤ w'.heap.size
  block : ∀ k, k < w.heap.size → k ≠ xb → (∀ p, o = some p → k ≠ p.block) → w'.heap[k]? = w.heap[k]?
  row : ∀ p, o' = some p → (∃ q, o = some q ∧ q.block = p.block) ∨ w.heap.size ≤ p.block
theorem FrX.of_below {xb : Nat} {o : Option Addr} {w w' : World} (h : Below w.heap.size w w') : FrX xb o o w w' := ⟨h.os, h.tape, h.output, h.size, fun k hk _ _ => h.block k hk, fun p q => Or.inl ⟨p, q, rfl⟩⟩
theorem FrX.trans {xb : Nat} {o o1 o2 : Option Addr} {u v w : World} (h : FrX xb o o1 u v) (k : FrX xb o1 o2 v w) : FrX xb o o2 u w :=
  ⟨k.os.trans h.os, k.tape.trans h.tape, k.output.trans h.output, Nat.le_trans h.size k.size, fun i hi h1 h2 => (k.block i (Nat.lt_of_lt_of_le hi h.size) h1 (fun p q e => by
    rcases h.row p q with ⟨r, hr, hb⟩ | hb
    · exact h2 r hr (e.trans hb.symm)
    · omega)).trans (h.block i hi h1 h2), fun p q => by
    rcases k.row p q with ⟨r, hr, hb⟩ | hb
    · rcases h.row r hr with ⟨t, ht, hc⟩ | hc
      · exact Or.inl ⟨t, ht, hc.trans hb⟩
      · exact Or.inr (by omega)
    · exact Or.inr (Nat.le_trans h.size hb)⟩
theorem FrX.set {xb : Nat} {o o' : Option Addr} {w w' : World} (h : FrX xb o o' w w') {p : Addr} (hp : p.block = xb ∨ ∀ k, k < w.heap.size → (∀ q, o = some q → k ≠ q.block) → k ≠ p.block) (v : Value) : FrX xb o o' w (w'.setCell p v) :=
  ⟨h.os, h.tape, h.output, by rw [size_set]; exact h.size, fun k h1 h2 h3 => (Below.heap_setCell _ _ _ _ (by
    rcases hp with e | e
    · rw [e]; exact h2
    · exact e k h1 h3)).trans (h.block k h1 h2 h3), h.row⟩
theorem own_none {o : Option Addr} {n cap : Nat} {k : Nat} (h : ∀ q, o = some q → k ≠ q.block) : some k ≠ (Value.slice o n cap).ownBlock := by
  cases o with
  | none => simp [Value.ownBlock]
  | some q => have := h q rfl; simpa [Value.ownBlock] using this
theorem FrX.append {xb n cap g : Nat} {o : Option Addr} {w wr w1 : World} {box X : Obj} (hB : Below (w.heap.size + 1) (w.alloc box) wr) (hg : ((wr.alloc X).drew).grownBy w1 (Value.slice o n cap).ownBlock) (hat : (Value.slice o n cap).ownBlock = some g ∨ g = wr.heap.size + 1) : FrX xb o (some ⟨g, 0, none⟩) w w1 := by
  have hz := hB.size
  simp at hz
  refine ⟨hg.os.trans (hB.os), hg.tape.trans hB.tape, hg.output.trans hB.output, ?_, fun k h1 _ h3 => ?_, fun p q => ?_⟩
  · have := hg.size; simp at this; omega
  · rw [hg.block k (by simp; omega) (own_none h3)]
    show (wr.alloc X).heap[k]? = _
    rw [Below.heap_alloc _ _ _ (by omega), hB.block k (by omega), Below.heap_alloc _ _ _ h1]
  · cases q
    rcases hat with e | e
    · cases o with
      | none => simp [Value.ownBlock] at e
      | some r => simp [Value.ownBlock] at e; exact Or.inl ⟨r, rfl, e⟩
    · exact Or.inr (by show w.heap.size ≤ g; omega)
theorem FrX.apart {n cap g : Nat} {o : Option Addr} {w wr : World} {box : Obj} (hB : Below (w.heap.size + 1) (w.alloc box) wr) (hat : (Value.slice o n cap).ownBlock = some g ∨ g = wr.heap.size + 1) : ∀ k, k < w.heap.size → (∀ q, o = some q → k ≠ q.block) → k ≠ g := by
  have hz := hB.size
  simp at hz
  intro k h1 h2 e
  subst e
  rcases hat with e | e
  · exact own_none h2 e.symm
  · omega
theorem FrX.below {xb : Nat} {o o' : Option Addr} {w w' : World} (h : FrX xb o o' w w') (hr : ∀ p, o = some p → xb < p.block) (hx : xb ≤ w.heap.size) : Below xb w w' :=
  ⟨h.os, h.tape, h.output, h.size, fun k hk => h.block k (by omega) (by omega) (fun p q => by have := hr p q; omega)⟩
theorem XL.past {w : World} {xb : Nat} {us : List BV} {o : Option Addr} {cap : Nat} (h : XL w xb us o cap) : ∀ p, o = some p → xb < p.block := fun p q => by
  have := h.own.lt p.block (by rw [q]; rfl)
  omega
theorem cell_drew {w w' : World} {p : Addr} {v : Value} (hb : Below w.drew.heap.size w.drew w') (h : w.cell? p = some v) : w'.cell? p = some v := (hb.cell (World.block_lt_of_cell? w p h)).trans h
set_option maxHeartbeats 2000000 in
set_option maxRecDepth 100000 in
theorem place_any (w : World) (xb : Nat) (us : List BV) (o : Option Addr) (cap : Nat) (a : BV) (h : XL w xb us o cap) (h0 : a.num = 0) (hlen : us.length ≤ 1000000) :
    Calls Tryz.prog 91 #[.pointer (some ⟨xb, 0, none⟩), .agg #[.int .i64 a.k, .string a.nm, .int .i64 a.num, .slice a.ao a.n a.cap]] w fun e w' => ∃ us' o' cap', e = .returned (.int .i64 ((nmsB us).idxOf a.nm.toList : Int)) ∧ XL w' xb us' o' cap' ∧ nmsB us' = Parl.addN (nmsB us) a.nm.toList ∧ FrX xb o o' w w' := by
  have H := hide h
  have hlt := h.lt
  have c0 := h.cell
  clear h
  rw [h0]
  go_enter Tryz.func91, Tryz.ntmps91
  go_wp2_with fail
  go_loopw [5] (fun i wr => ∃ k : Nat, k ≤ us.length ∧ i = .int .i64 k ∧ (∀ j (hj : j < us.length), j < k → us[j].nm.toList ≠ a.nm.toList) ∧ Below (w.heap.size + 1) (w.alloc (.cells #[.int .i64 a.k, .string a.nm, .int .i64 0, .slice a.ao a.n a.cap] 109)) wr) (fun i _ => us.length - (intOf i).toNat)
  case atStart => exact ⟨0, by omega, rfl, fun j hj q => by omega, Below.refl _ _⟩
  case round =>
    obtain ⟨k, hk, rfl, hno, hB⟩ := hrel
    have HNO := hide hno
    have HB := hide hB
    have hz := hB.size
    have d0 := (hB.cell (p := ⟨xb, 0, none⟩) (by show xb < w.heap.size + 1; omega)).trans ((World.cell?_alloc_past _ _ _ hlt).trans c0)
    have e0 := fun i => (hB.cell (p := ⟨w.heap.size, i, none⟩) (by show w.heap.size < w.heap.size + 1; omega)).trans (blkA' (heap_alloc_new w (.cells #[.int .i64 a.k, .string a.nm, .int .i64 0, .slice a.ao a.n a.cap] 109)) i)
    have XR := hide (((unhide H).below ((Below.refl _ _).alloc (Nat.le_refl _) (.cells #[.int .i64 a.k, .string a.nm, .int .i64 0, .slice a.ao a.n a.cap] 109))).below (hB.mono (by simp)))
    clear hno hB
    simp at hz
    by_cases hlk : k < us.length
    · obtain ⟨m, hm⟩ : ∃ m, us.length = m + 1 := ⟨us.length - 1, by omega⟩
      have hg : ∃ g, o = some ⟨g, 0, none⟩ := by
        rcases (unhide H).own.2 with ⟨q, q2⟩ | ⟨g, cp, cur, q, _⟩
        · omega
        · simp only [Value.slice.injEq] at q
          exact ⟨g, q.1⟩
      obtain ⟨g, rfl⟩ := hg
      have f0 : wr.cell? ⟨g, k * 4, none⟩ = some (.int .i64 us[k].k) := by have := (unhide XR).own.cellAt (k * 4) (by omega); rw [this]; have := bvC_at hlk 0 (by omega); simpa [bvC] using this
      have f1 : wr.cell? ⟨g, k * 4 + 1, none⟩ = some (.string us[k].nm) := by have := (unhide XR).own.cellAt (k * 4 + 1) (by omega); rw [this]; have := bvC_at hlk 1 (by omega); simpa [bvC] using this
      have f2 : wr.cell? ⟨g, k * 4 + 2, none⟩ = some (.int .i64 0) := by have := (unhide XR).own.cellAt (k * 4 + 2) (by omega); rw [this]; have := bvC_at hlk 2 (by omega); rw [← (unhide H).zero us[k] (by simp)]; simpa [bvC] using this
      have f3 : wr.cell? ⟨g, k * 4 + 3, none⟩ = some (.slice us[k].ao us[k].n us[k].cap) := by have := (unhide XR).own.cellAt (k * 4 + 3) (by omega); rw [this]; have := bvC_at hlk 3 (by omega); simpa [bvC] using this
      have e1 := e0 0
      have e2 := e0 1
      have e3 := e0 2
      have e4 := e0 3
      simp at e1 e2 e3 e4
      clear e0 hm
      have i0 : (0 : Int) ≤ (k : Int) := by omega
      have i1 : (k : Int) < (us.length : Int) := by omega
      have SV := hide (fun W => sameVar_any ⟨us[k].k, us[k].nm, 0, us[k].ao, us[k].n, us[k].cap⟩ ⟨a.k, a.nm, 0, a.ao, a.n, a.cap⟩ W rfl rfl)
      have hnw : wr.heap.size = wr.heap.size := rfl
      go_wp2_with fail
      go_region_held3 (fun w' => w'.cell? ⟨xb, 0, none⟩ = some (.slice (some ⟨g, 0, none⟩) us.length cap) ∧ w'.cell? ⟨g, k * 4, none⟩ = some (.int .i64 us[k].k) ∧ w'.cell? ⟨g, k * 4 + 1, none⟩ = some (.string us[k].nm) ∧ w'.cell? ⟨g, k * 4 + 2, none⟩ = some (.int .i64 0) ∧ w'.cell? ⟨g, k * 4 + 3, none⟩ = some (.slice us[k].ao us[k].n us[k].cap) ∧ w'.cell? ⟨w.heap.size, 0, none⟩ = some (.int .i64 a.k) ∧ w'.cell? ⟨w.heap.size, 1, none⟩ = some (.string a.nm) ∧ w'.cell? ⟨w.heap.size, 2, none⟩ = some (.int .i64 0) ∧ w'.cell? ⟨w.heap.size, 3, none⟩ = some (.slice a.ao a.n a.cap)) (first | go_keep | (refine ⟨?_, ?_, ?_, ?_, ?_, ?_, ?_, ?_, ?_⟩ <;> exact cell_drew (unhide HB2) (by assumption))) ((go_at_call 106; refine (unhide SV _).mono ?_; rintro e w2 ⟨rfl, hb2⟩; have HB2 := hide hb2; clear hb2))
      have XR2 := hide (((unhide XR).below (Below.refl _ _).drew).below (unhide HB2))
      have HBR := hide (((unhide HB).drew).trans ((unhide HB2).mono (show w.heap.size + 1 ≤ wr.drew.heap.size by show w.heap.size + 1 ≤ wr.heap.size; omega)))
      clear d0 f0 f1 f2 f3 e1 e2 e3 e4 SV
      cases hq : (us[k].nm.toList == a.nm.toList)
      · go_wp2_with fail
        go_roundw
        case rel =>
          refine ⟨k + 1, by omega, by go_num, fun j hj q => ?_, unhide HBR⟩
          rcases (show j < k ∨ j = k by omega) with h | rfl
          · exact unhide HNO j hj h
          · intro e; rw [e] at hq; simp at hq
        case measure => simp [intOf]; omega
      · go_wp2_with fail
        go_ret
        have hi := nms_idx hlk (by simpa using hq) (unhide HNO)
        exact ⟨us, _, cap, by rw [hi]; rfl, unhide XR2, (nms_in hlk (by simpa using hq)).symm, FrX.of_below (((Below.refl _ _).alloc (Nat.le_refl _) _).trans ((unhide HBR).mono (by omega)))⟩
    · obtain rfl : k = us.length := by omega
      have e1 := e0 0
      have e2 := e0 1
      have e3 := e0 2
      have e4 := e0 3
      simp at e1 e2 e3 e4
      clear e0
      have fz := (unhide XR).froz
      have hwr : w.heap.size < wr.heap.size := by omega
      have nx : xb ≠ w.heap.size := by omega
      have nx' : w.heap.size ≠ xb := by omega
      have hxr := (unhide XR).lt
      have j0 : (0 : Int) ≤ (us.length : Int) := by omega
      have j1 : (us.length : Int) < (us.length : Int) + 1 := by omega
      have fz' : ((wr.alloc (.cells #[.int .i64 0, .string ⟨#[]⟩, .int .i64 0, .slice none 0 0] 109)).drew).frozen? ⟨xb, 0, none⟩ = false := (World.frozen?_alloc_past _ _ _ hxr).trans fz
      have hxr' : xb < ((wr.alloc (.cells #[.int .i64 0, .string ⟨#[]⟩, .int .i64 0, .slice none 0 0] 109)).drew).heap.size := by simp; omega
      obtain ⟨ti, hi, hz0', hz1', hz2'⟩ := info_parts Tryz.info109
      have bex := hide (show ((wr.alloc (.cells #[.int .i64 0, .string ⟨#[]⟩, .int .i64 0, .slice none 0 0] 109)).drew).cell? ⟨xb, 0, none⟩ = some (.slice o us.length cap) from (World.cell?_alloc_past _ _ _ hxr).trans d0)
      have be0 := hide (show ((wr.alloc (.cells #[.int .i64 0, .string ⟨#[]⟩, .int .i64 0, .slice none 0 0] 109)).drew).cell? ⟨w.heap.size, 0, none⟩ = some (.int .i64 a.k) from (World.cell?_alloc_past _ _ _ (by show w.heap.size < wr.heap.size; omega)).trans e1)
      have be1 := hide (show ((wr.alloc (.cells #[.int .i64 0, .string ⟨#[]⟩, .int .i64 0, .slice none 0 0] 109)).drew).cell? ⟨w.heap.size, 1, none⟩ = some (.string a.nm) from (World.cell?_alloc_past _ _ _ (by show w.heap.size < wr.heap.size; omega)).trans e2)
      have be2 := hide (show ((wr.alloc (.cells #[.int .i64 0, .string ⟨#[]⟩, .int .i64 0, .slice none 0 0] 109)).drew).cell? ⟨w.heap.size, 2, none⟩ = some (.int .i64 0) from (World.cell?_alloc_past _ _ _ (by show w.heap.size < wr.heap.size; omega)).trans e3)
      have be3 := hide (show ((wr.alloc (.cells #[.int .i64 0, .string ⟨#[]⟩, .int .i64 0, .slice none 0 0] 109)).drew).cell? ⟨w.heap.size, 3, none⟩ = some (.slice a.ao a.n a.cap) from (World.cell?_alloc_past _ _ _ (by show w.heap.size < wr.heap.size; omega)).trans e4)
      have hxo : some xb ≠ (Value.slice o us.length cap).ownBlock := fun q => by have := ((unhide XR).own.lt xb q.symm).1; omega
      have HXO := hide hxo
      have hwo : some w.heap.size ≠ (Value.slice o us.length cap).ownBlock := fun q => by have h1 := ((unhide H).own.lt w.heap.size q.symm).2; omega
      have HWO := hide hwo
      clear hxo hwo
      go_wp2_with fail
      go_region_law (refine step_append_lies _ (by rfl) _ _ _ (by rfl) (xb + 1) 109 ti _ 4 56 Tryz.underlying104 hi hz0' hz1' hz2' rfl (by omega) (.slice o us.length cap) us.length (us.flatMap bvC) (by rfl) (((unhide XR).own.alloc _).drew) ⟨wr.heap.size, 0, none⟩ 1 1 [.int .i64 0, .string ⟨#[]⟩, .int .i64 0, .slice none 0 0] (by rfl) (by rfl) (World.news_of_block (cs := #[.int .i64 0, .string ⟨#[]⟩, .int .i64 0, .slice none 0 0]) (t := 109) (fr := (0, 0)) (heap_alloc_new wr _)) (by simp [Value.oneCell']) (by omega) (by unfold maxLen; omega) (by omega) (by simp; omega) (wr.heap.size + 1) (by simp) ?_; intro g cap' w1 hown1 hgrow hat hlg; obtain ⟨q0, q1, q2, q3, qf⟩ := put_facts hown1; have fx := (hgrow.frozen_far ⟨xb, 0, none⟩ (by simp; omega) (unhide HXO)).trans fz'; have hxw := Nat.lt_of_lt_of_le hxr' hgrow.size; have ng : g ≠ xb := (by rintro rfl; rcases hat with q | q; exact unhide HXO q.symm; omega); have ng' : g ≠ w.heap.size := (by rintro rfl; rcases hat with q | q; exact unhide HWO q.symm; omega); have gx : xb ≤ g := (by rcases ownB_some hown1 with ⟨g9, c9, hv9, -⟩; have := (hown1.lt g rfl).1; omega); have ng2 := Ne.symm ng; have ng3 := Ne.symm ng'; have dx := (hgrow.cell_far ⟨xb, 0, none⟩ (by simp; omega) (unhide HXO)).trans (unhide bex); have b0 := (hgrow.cell_far ⟨w.heap.size, 0, none⟩ (by simp; omega) (unhide HWO)).trans (unhide be0); have b1 := (hgrow.cell_far ⟨w.heap.size, 1, none⟩ (by simp; omega) (unhide HWO)).trans (unhide be1); have b2 := (hgrow.cell_far ⟨w.heap.size, 2, none⟩ (by simp; omega) (unhide HWO)).trans (unhide be2); have b3 := (hgrow.cell_far ⟨w.heap.size, 3, none⟩ (by simp; omega) (unhide HWO)).trans (unhide be3))
      all_goals have HW1 := hide (FrX.append (xb := xb) (unhide HB) hgrow hat)
      all_goals have HG1 := hide (FrX.apart (w := w) (unhide HB) hat)
      all_goals have HO1 := hide hown1
      all_goals clear hown1 hgrow hat q0 q1 q2 q3 b0 b1 b2 b3
      all_goals go_wp2_with fail
      all_goals go_ret
      all_goals have hout := nms_out (fun j hj => unhide HNO j hj hj)
      all_goals refine ⟨us ++ [a], some ⟨g, 0, none⟩, cap', ?_, ?_, nms_new hout, ?_⟩
      all_goals first
        | exact place_ret hout
        | (with_reducible exact xl_put1 (unhide HO1) ⟨_, dx⟩ fx hxw ng (unhide H).zero h0)
        | (with_reducible exact xl_put2 (unhide HO1) ⟨_, dx⟩ fx hxw ng (unhide H).zero h0)
        | (repeat (refine FrX.set ?_ (by first | exact Or.inl rfl | exact Or.inr (unhide HG1)) _)
           exact unhide HW1)
end Go.Proofs.YthfjnfcekeknlaaGreatDoor
namespace Go.Proofs.YthfjnfcekeknlaaGreatDoor
open Go.RowKit

/-- What 'list.term' leaves. -/
def PStr (f xb : Nat) (o : Option Addr) (us : List BV) (t : Parl.Tm) (w : World) (e : Ending) (w' : World) : Prop :=
  ∃ us' o' cap', e = .returned (.string ⟨(Parl.strF f (nmsB us') t).toArray⟩) ∧ XL w' xb us' o' cap' ∧ nmsB us' = Parl.namesF f (nmsB us) t ∧ FrX xb o o' w w'
def ShSaid (f : Nat) : Prop := ∀ (w : World) (xb : Nat) (us : List BV) (o : Option Addr) (cap : Nat) (a : BV) (t : Parl.Tm), XL w xb us o cap → RB f (fun g => g < xb) w a t → us.length + 3 ^ f ≤ 1000000 → f ≤ 8 →
  Calls Tryz.prog 50 #[.pointer (some ⟨xb, 0, none⟩), .agg #[.int .i64 a.k, .string a.nm, .int .i64 a.num, .slice a.ao a.n a.cap]] w fun e w' => PStr f xb o us t w e w'

set_option maxHeartbeats 2000000 in
set_option maxRecDepth 100000 in
theorem sh_var (f : Nat) (w : World) (xb : Nat) (us : List BV) (o : Option Addr) (cap : Nat) (a : BV) (t : Parl.Tm) (h : XL w xb us o cap) (hr : LeafB a t) (hk : t.kind = 3) (hl : us.length + 3 ^ (f + 1) ≤ 1000000) :
    Calls Tryz.prog 50 #[.pointer (some ⟨xb, 0, none⟩), .agg #[.int .i64 a.k, .string a.nm, .int .i64 a.num, .slice a.ao a.n a.cap]] w fun e w' => PStr (f + 1) xb o us t w e w' := by
  obtain ⟨k, nm, num, ao, n, cp⟩ := a
  obtain ⟨h1, h2, h3, h4, h5, h6⟩ := hr
  obtain ⟨h7, h8⟩ := h3 (by omega)
  dsimp only at h1 h2 h7 h8 ⊢
  have e1 : bk t.kind = 2 := by rw [hk]; rfl
  rw [e1] at h1
  subst h1 h8
  have hul : us.length ≤ 1000000 := Nat.le_trans (Nat.le_add_right _ _) hl
  clear hl
  have hidx : (nmsB us).idxOf nm.toList ≤ us.length := by have := List.idxOf_le_length (l := nmsB us) (a := nm.toList); simpa [nmsB] using this
  have hdl := dec9 ((nmsB us).idxOf nm.toList) (by omega)
  have HS := hide (show Parl.strF (f + 1) (Parl.addN (nmsB us) nm.toList ++ []) t = 86 :: Lib.decDigits ((nmsB us).idxOf nm.toList) by unfold Parl.strF; rw [if_pos hk, ← h7, Parl.addN_idx])
  have HN := hide (show Parl.namesF (f + 1) (nmsB us) t = Parl.addN (nmsB us) nm.toList by unfold Parl.namesF; rw [if_pos hk, h7])
  have HX := hide (h.below ((Below.refl _ _).alloc (Nat.le_refl _) (.cells #[.int .i64 2, .string nm, .int .i64 0, .slice ao n cp] 109)))
  have hlt := h.lt
  clear h h2 h4 h5 h6 h3 h7 e1 hk
  generalize hi : (nmsB us).idxOf nm.toList = ix at *
  go_enter Tryz.func50, Tryz.ntmps50
  go_wp2_with fail
  refine (place_any _ xb us o cap ⟨2, nm, 0, ao, n, cp⟩ (unhide HX) rfl (by omega)).mono ?_
  rintro e w1 ⟨us', o', cap', rfl, hxl, hnm, hfr⟩
  dsimp only at hnm ⊢
  rw [hi]
  have HXL := hide hxl
  have HNM := hide hnm
  have HFR := hide hfr
  clear hxl hnm hfr
  go_wp2_with fail
  refine (dec_any ix w1 (by omega)).mono ?_
  rintro e w2 ⟨rfl, hb⟩
  have HB := hide hb
  clear hb
  go_wp2_with fail
  go_ret
  refine ⟨us', o', cap', ?_, (unhide HXL).below (unhide HB), (unhide HNM).trans (unhide HN).symm, ((FrX.of_below ((Below.refl _ _).alloc (Nat.le_refl _) _)).trans (unhide HFR)).trans (FrX.of_below (unhide HB))⟩
  have := unhide HS
  rw [List.append_nil] at this
  rw [unhide HNM, this]
  rfl

set_option maxHeartbeats 2000000 in
set_option maxRecDepth 100000 in
theorem sh_num (f : Nat) (w : World) (xb : Nat) (us : List BV) (o : Option Addr) (cap : Nat) (a : BV) (t : Parl.Tm) (h : XL w xb us o cap) (hr : LeafB a t) (hk : t.kind = 4) :
    Calls Tryz.prog 50 #[.pointer (some ⟨xb, 0, none⟩), .agg #[.int .i64 a.k, .string a.nm, .int .i64 a.num, .slice a.ao a.n a.cap]] w fun e w' => PStr (f + 1) xb o us t w e w' := by
  obtain ⟨k, nm, num, ao, n, cp⟩ := a
  obtain ⟨h1, h2, h3, h4, h5, h6⟩ := hr
  obtain ⟨h7, h8, _⟩ := h4 hk
  dsimp only at h1 h2 h7 ⊢
  have e1 : bk t.kind = 3 := by rw [hk]; rfl
  rw [e1] at h1
  subst h1 h7
  have hnum : Parl.numOf t.text < 1000000000 := by have := Parl.numL_le t.text.toList (by rw [Parl.bytes_len]; exact h8); unfold Parl.numOf; omega
  have HS := hide (show ∀ N, Parl.strF (f + 1) N t = Lib.decDigits (Parl.numOf t.text) from fun N => by unfold Parl.strF; rw [if_neg (by omega), if_pos hk])
  have HN := hide (show Parl.namesF (f + 1) (nmsB us) t = nmsB us by unfold Parl.namesF; rw [if_neg (by omega), if_pos hk])
  have HX := hide h
  have hlt := h.lt
  clear h h2 h4 h5 h6 h3 e1 hk h8
  generalize Parl.numOf t.text = ix at *
  go_enter Tryz.func50, Tryz.ntmps50
  go_wp2_with fail
  refine (dec_any ix _ hnum).mono ?_
  rintro e w2 ⟨rfl, hb⟩
  have HB := hide hb
  clear hb
  go_wp2_with fail
  go_ret
  refine ⟨us, o, cap, ?_, ((unhide HX).below ((Below.refl _ _).alloc (Nat.le_refl _) _)).below (unhide HB), (unhide HN).symm, (FrX.of_below ((Below.refl _ _).alloc (Nat.le_refl _) _)).trans (FrX.of_below (unhide HB))⟩
  rw [unhide HS]
  rfl
end Go.Proofs.YthfjnfcekeknlaaGreatDoor
