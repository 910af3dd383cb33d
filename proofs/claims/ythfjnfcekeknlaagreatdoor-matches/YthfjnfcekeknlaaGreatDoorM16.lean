import Derived.Test.YthfjnfcekeknlaaGreatDoorM11
import Derived.Test.YthfjnfcekeknlaaGreatDoorM13
import Derived.Test.YthfjnfcekeknlaaGreatDoorM15
import Derived.Deep.RegionWith
import Derived.Deep.RegionHeld3
import Derived.Deep.LoopGhost
namespace Go.Proofs.YthfjnfcekeknlaaGreatDoor
open Go.RowKit

/-- A bind's eight cells. -/
def bdC (v : BV × BV) : List Value := bvC v.1 ++ bvC v.2
theorem bdC_length (vs : List (BV × BV)) : (vs.flatMap bdC).length = vs.length * 8 := by
  induction vs with
  | nil => rfl
  | cons a r ih => rw [List.flatMap_cons, List.length_append, ih]; simp [bdC, bvC]; omega
/-- What a variable of the pattern stands for lies there. -/
def StB (wb : Nat) (w : World) (v : BV × BV) (q : List UInt8 × Parl.Tm) : Prop := v.1.nm.toList = q.1 ∧ v.1.num = 0 ∧ RS 1 8 (fun g => g < wb) w v.2 q.2
/-- The look lies in the block wb. -/
structure LkB (w : World) (wb : Nat) (l : Parl.Lk) (so : Option Addr) (sc : Nat) (wo : Option Addr) (wc : Nat) (vs : List (BV × BV)) (us : List BV) : Prop where
  blk : w.heap[wb]? = some (.cells #[.slice so vs.length sc, .slice wo us.length wc, .bool l.no, .bool (!l.wt.isEmpty)] 195 (0, 0))
  sown : w.ownsRow (wb + 1) 132 8 (.slice so vs.length sc) vs.length (vs.flatMap bdC)
  wown : w.ownsRow (wb + 1) 109 4 (.slice wo us.length wc) us.length (us.flatMap bvC)
  side : ∀ u ∈ us, u.num = 1
  nms : nmsB us = l.wt
  stands : All2 (StB wb w) vs l.st
/-- The rows of the two lists. -/
def rowsL (so wo : Option Addr) (k : Nat) : Prop := (∃ p, so = some p ∧ k = p.block) ∨ (∃ p, wo = some p ∧ k = p.block)
def LkSt (w : World) (wb : Nat) (l : Parl.Lk) (R : Nat → Prop) : Prop := ∃ so sc wo wc vs us, LkB w wb l so sc wo wc vs us ∧ R = rowsL so wo
theorem LkB.past {w : World} {wb : Nat} {l : Parl.Lk} {so : Option Addr} {sc : Nat} {wo : Option Addr} {wc : Nat} {vs : List (BV × BV)} {us : List BV} (h : LkB w wb l so sc wo wc vs us) : ∀ k, rowsL so wo k → wb < k ∧ k < w.heap.size := by
  rintro k (⟨p, rfl, rfl⟩ | ⟨p, rfl, rfl⟩)
  · have := h.sown.lt p.block rfl; omega
  · have := h.wown.lt p.block rfl; omega
theorem LkSt.past {w : World} {wb : Nat} {l : Parl.Lk} {R : Nat → Prop} (h : LkSt w wb l R) : ∀ k, R k → wb < k ∧ k < w.heap.size := by
  obtain ⟨so, sc, wo, wc, vs, us, h, rfl⟩ := h
  exact h.past
theorem LkSt.lt {w : World} {wb : Nat} {l : Parl.Lk} {R : Nat → Prop} (h : LkSt w wb l R) : wb < w.heap.size := by
  obtain ⟨so, sc, wo, wc, vs, us, h, rfl⟩ := h
  exact blk_lt' h.blk
theorem LkB.below {w w' : World} {wb : Nat} {l : Parl.Lk} {so : Option Addr} {sc : Nat} {wo : Option Addr} {wc : Nat} {vs : List (BV × BV)} {us : List BV} (h : LkB w wb l so sc wo wc vs us) (hb : Below w.heap.size w w') : LkB w' wb l so sc wo wc vs us :=
  ⟨(hb.block wb (blk_lt' h.blk)).trans h.blk, own_below h.sown hb, own_below h.wown hb, h.side, h.nms, h.stands.imp fun _ _ q => ⟨q.1, q.2.1, q.2.2.below hb⟩⟩
theorem LkSt.below {w w' : World} {wb : Nat} {l : Parl.Lk} {R : Nat → Prop} (h : LkSt w wb l R) (hb : Below w.heap.size w w') : LkSt w' wb l R := by
  obtain ⟨so, sc, wo, wc, vs, us, h, rfl⟩ := h
  exact ⟨so, sc, wo, wc, vs, us, h.below hb, rfl⟩
/-- What the look's calls leave as it was. -/
structure FrL (wb : Nat) (R R' : Nat → Prop) (w w' : World) : Prop where
  os : w'.os = w.os
  tape : w'.tape = w.tape
  output : w'.output = w.output
  size : w.heap.size ≤ w'.heap.size
  block : ∀ k, k < w.heap.size → k ≠ wb → ¬ R k → w'.heap[k]? = w.heap[k]?
  row : ∀ k, R' k → R k ∨ w.heap.size ≤ k
theorem FrL.of_below {wb : Nat} {R : Nat → Prop} {w w' : World} (h : Below w.heap.size w w') : FrL wb R R w w' := ⟨h.os, h.tape, h.output, h.size, fun k hk _ _ => h.block k hk, fun _ q => Or.inl q⟩
theorem FrL.trans {wb : Nat} {R R1 R2 : Nat → Prop} {u v w : World} (h : FrL wb R R1 u v) (k : FrL wb R1 R2 v w) : FrL wb R R2 u w :=
  ⟨k.os.trans h.os, k.tape.trans h.tape, k.output.trans h.output, Nat.le_trans h.size k.size, fun i hi h1 h2 => (k.block i (Nat.lt_of_lt_of_le hi h.size) h1 (fun q => by
    rcases h.row i q with e | e
    · exact h2 e
    · omega)).trans (h.block i hi h1 h2), fun i q => by
    rcases k.row i q with e | e
    · exact h.row i e
    · exact Or.inr (Nat.le_trans h.size e)⟩
theorem FrL.below {wb : Nat} {R R' : Nat → Prop} {w w' : World} (h : FrL wb R R' w w') (hr : ∀ k, R k → wb < k) (hx : wb ≤ w.heap.size) : Below wb w w' :=
  ⟨h.os, h.tape, h.output, h.size, fun k hk => h.block k (by omega) (by omega) (fun q => by have := hr k q; omega)⟩
/-- The parts of a bind and of a wait lie apart. -/
theorem LkB.apart {w : World} {wb : Nat} {l : Parl.Lk} {so : Option Addr} {sc : Nat} {wo : Option Addr} {wc : Nat} {vs : List (BV × BV)} {us : List BV} (h : LkB w wb l so sc wo wc vs us) : ∀ p q, so = some p → wo = some q → p.block ≠ q.block := by
  rintro p q rfl rfl e
  rcases h.sown.2 with ⟨c, _⟩ | ⟨g, cp, cur, c, _, hc, _⟩
  · cases c
  · rcases h.wown.2 with ⟨d, _⟩ | ⟨g', cp', cur', d, _, hd, _⟩
    · cases d
    · simp only [Value.slice.injEq, Option.some.injEq] at c d
      obtain ⟨rfl, _⟩ := c
      obtain ⟨rfl, _⟩ := d
      dsimp only at e
      subst e
      rw [hc] at hd
      simp at hd
set_option maxHeartbeats 1000000 in
theorem says_any (w : World) (wb : Nat) (l : Parl.Lk) (R : Nat → Prop) (h : LkSt w wb l R) :
    Calls Tryz.prog 113 #[.pointer (some ⟨wb, 0, none⟩)] w fun e w' => e = .returned (.int .i64 (l.says : Int)) ∧ w' = w := by
  obtain ⟨so, sc, wo, wc, vs, us, h, rfl⟩ := h
  have c := blkA' h.blk
  have hz := blk_lt' h.blk
  have c2 := c 2
  have c3 := c 3
  simp at c2 c3
  clear c h
  unfold Parl.Lk.says
  cases hn : l.no
  · cases hw : l.wt.isEmpty
    · rw [hn] at c2
      rw [hw] at c3
      have he : l.wt ≠ [] := fun q => by rw [q] at hw; cases hw
      go_enter Tryz.func113, Tryz.ntmps113
      go_wp2_with fail
      go_ret
      exact ⟨by simp, rfl⟩
    · rw [hn] at c2
      rw [hw] at c3
      have he : l.wt = [] := List.isEmpty_iff.1 hw
      go_enter Tryz.func113, Tryz.ntmps113
      go_wp2_with fail
      go_ret
      exact ⟨by simp, rfl⟩
  · rw [hn] at c2
    go_enter Tryz.func113, Tryz.ntmps113
    go_wp2_with fail
    go_ret
    exact ⟨by simp, rfl⟩
end Go.Proofs.YthfjnfcekeknlaaGreatDoor
namespace Go.Proofs.YthfjnfcekeknlaaGreatDoor
open Go.RowKit

set_option maxHeartbeats 2000000 in
set_option maxRecDepth 100000 in
theorem alikeB (u v : BV) (w : World) :
    Calls Tryz.prog 105 #[.agg #[.int .i64 u.k, .string u.nm, .int .i64 u.num, .slice u.ao u.n u.cap], .agg #[.int .i64 v.k, .string v.nm, .int .i64 v.num, .slice v.ao v.n v.cap]] w fun e w' => e = .returned (.bool (u.k == v.k && (u.nm.toList == v.nm.toList && (u.num == v.num && decide (u.n = v.n))))) ∧ Below w.heap.size w w' := by
  cases h1 : (u.k == v.k)
  · go_enter Tryz.func105, Tryz.ntmps105
    go_wp2_with fail
    go_ret
    exact ⟨rfl, ((Below.refl _ _).alloc (Nat.le_refl _) _).alloc (by simp) _⟩
  · cases h2 : (u.nm.toList == v.nm.toList)
    · go_enter Tryz.func105, Tryz.ntmps105
      go_wp2_with fail
      go_ret
      exact ⟨rfl, ((Below.refl _ _).alloc (Nat.le_refl _) _).alloc (by simp) _⟩
    · cases h3 : (u.num == v.num)
      · go_enter Tryz.func105, Tryz.ntmps105
        go_wp2_with fail
        go_ret
        exact ⟨rfl, ((Below.refl _ _).alloc (Nat.le_refl _) _).alloc (by simp) _⟩
      · by_cases h4 : u.n = v.n
        · have h5 : ((u.n : Int) == (v.n : Int)) = true := by rw [h4]; simp
          go_enter Tryz.func105, Tryz.ntmps105
          go_wp2_with fail
          go_ret
          exact ⟨by simp [h4], ((Below.refl _ _).alloc (Nat.le_refl _) _).alloc (by simp) _⟩
        · have h5 : ((u.n : Int) == (v.n : Int)) = false := by simp; omega
          go_enter Tryz.func105, Tryz.ntmps105
          go_wp2_with fail
          go_ret
          exact ⟨by simp [h4], ((Below.refl _ _).alloc (Nat.le_refl _) _).alloc (by simp) _⟩
theorem dec_beq (x y : Nat) : decide (x = y) = (x == y) := by
  rw [Bool.eq_iff_iff]
  simp
theorem bk_inj {a b : Nat} (ha : a = 2 ∨ a = 4) (hb : b = 2 ∨ b = 4) : (bk a == bk b) = (a == b) := by
  rcases ha with rfl | rfl <;> rcases hb with rfl | rfl <;> decide
theorem alike_is {sd sd' : Int} {u v : BV} {a b : Parl.Tm} (hu : LeafS sd u a) (hv : LeafS sd' v b) (ha : a.kind ≠ 3) (hb : b.kind ≠ 3) : (u.k == v.k && (u.nm.toList == v.nm.toList && (u.num == v.num && decide (u.n = v.n)))) = Parl.alike a b := by
  have ka : a.kind = 2 ∨ a.kind = 4 := by have := hu.ks; omega
  have kb : b.kind = 2 ∨ b.kind = 4 := by have := hv.ks; omega
  unfold Parl.alike
  rw [hu.k, hv.k, bk_inj ka kb, hu.n, hv.n]
  by_cases he : a.kind = b.kind
  · rw [he]
    simp only [beq_self_eq_true, Bool.true_and]
    rcases kb with h2 | h4
    · rw [(hu.c (by omega)).1, (hu.c (by omega)).2, (hv.c h2).1, (hv.c h2).2, if_neg (by omega), dec_beq]
      simp
    · rw [(hu.m (by omega)).1, (hu.m (by omega)).2, (hv.m h4).1, (hv.m h4).2, if_pos h4]
      have : ((Parl.numOf a.text : Int) == (Parl.numOf b.text : Int)) = (Parl.numOf a.text == Parl.numOf b.text) := by
        rw [Bool.eq_iff_iff]
        simp only [beq_iff_eq]
        omega
      rw [this, dec_beq]
      simp
  · have : (a.kind == b.kind) = false := by simpa using he
    rw [this]
    simp
theorem alike_any {sd sd' : Int} {u v : BV} {a b : Parl.Tm} (w : World) (hu : LeafS sd u a) (hv : LeafS sd' v b) (ha : a.kind ≠ 3) (hb : b.kind ≠ 3) :
    Calls Tryz.prog 105 #[.agg #[.int .i64 u.k, .string u.nm, .int .i64 u.num, .slice u.ao u.n u.cap], .agg #[.int .i64 v.k, .string v.nm, .int .i64 v.num, .slice v.ao v.n v.cap]] w fun e w' => e = .returned (.bool (Parl.alike a b)) ∧ Below w.heap.size w w' := by
  rw [← alike_is hu hv ha hb]
  exact alikeB u v w

/-- The look as the list of those that are waited for finds it. -/
theorem LkB.wait0 {w : World} {wb : Nat} {l : Parl.Lk} {so : Option Addr} {sc : Nat} {wo : Option Addr} {wc : Nat} {vs : List (BV × BV)} {us : List BV} (h : LkB w wb l so sc wo wc vs us) : XG (w.setCell ⟨wb, 3, none⟩ (.bool true)) wb 1 1 195 #[.slice so vs.length sc, .slice wo us.length wc, .bool l.no, .bool true] us wo wc := by
  refine ⟨?_, rfl, own_at h.wown (fun k h1 _ => heap_set _ _ _ _ (by omega)), h.side⟩
  have := blk_set h.blk 3 (.bool true)
  simpa using this
theorem arr4 {cs' : Array Value} {a b c d b' : Value} (h : ∀ i, i ≠ 1 → cs'[i]? = #[a, b, c, d][i]?) (h1 : cs'[1]? = some b') : cs' = #[a, b', c, d] := by
  apply Array.ext_getElem?
  intro i
  by_cases e : i = 1
  · subst e; rw [h1]; rfl
  · rw [h i e]
    match i, e with
    | 0, _ => rfl
    | 1, e => exact absurd rfl e
    | 2, _ => rfl
    | 3, _ => rfl
    | i + 4, _ => simp
/-- The look behind a wait. -/
theorem LkB.wait1 {w W w2 : World} {wb : Nat} {l : Parl.Lk} {so : Option Addr} {sc : Nat} {wo : Option Addr} {wc : Nat} {vs : List (BV × BV)} {us : List BV} (h : LkB w wb l so sc wo wc vs us) (hW : Below w.heap.size (w.setCell ⟨wb, 3, none⟩ (.bool true)) W)
    {cs' : Array Value} {us' : List BV} {o' : Option Addr} {cap' : Nat} {x : List UInt8} (hx : XG w2 wb 1 1 195 cs' us' o' cap') (hcs : ∀ i, i ≠ 1 → cs'[i]? = (#[.slice so vs.length sc, .slice wo us.length wc, .bool l.no, .bool true] : Array Value)[i]?) (hn : nmsB us' = Parl.addN (nmsB us) x) (hf : FrX wb wo o' W w2) :
    ∃ R', LkSt w2 wb (l.wait x) R' ∧ FrL wb (rowsL so wo) R' w w2 := by
  have hz : w.heap.size ≤ W.heap.size := by have := hW.size; rwa [size_set] at this
  have hp := h.past
  have hwb := blk_lt' h.blk
  have hblk : ∀ k, k < w.heap.size → k ≠ wb → (∀ p, wo = some p → k ≠ p.block) → w2.heap[k]? = w.heap[k]? := fun k h1 h2 h3 => by
    rw [hf.block k (by omega) h2 h3, hW.block k h1, heap_set _ _ _ _ h2]
  have e := arr4 hcs hx.here
  refine ⟨rowsL so o', ⟨so, sc, o', cap', vs, us', ⟨?_, ?_, hx.own, hx.side, hn.trans (by rw [h.nms]; rfl), ?_⟩, rfl⟩, ⟨hf.os.trans hW.os, hf.tape.trans hW.tape, hf.output.trans hW.output, Nat.le_trans hz hf.size, fun k h1 h2 h3 => hblk k h1 h2 (fun p q r => h3 (Or.inr ⟨p, q, r⟩)), ?_⟩⟩
  · rw [hx.blk, e]
    have : (!(l.wait x).wt.isEmpty) = true := by
      show (!(Parl.addN l.wt x).isEmpty) = true
      unfold Parl.addN
      split
      · rename_i q
        cases hl : l.wt with
        | nil => rw [hl] at q; cases q
        | cons a b => rfl
      · simp
    rw [this]
    rfl
  · refine ⟨h.sown.1, h.sown.2.imp id fun ⟨g, cap, cur, a, b, c, d⟩ => ⟨g, cap, cur, a, b, (hblk g (blk_lt' c) (by omega) (fun p q r => ?_)).trans c, d⟩⟩
    simp only [Value.slice.injEq] at a
    exact h.apart _ _ a.1 q r
  · exact h.stands.imp fun v q r => ⟨r.1, r.2.1, r.2.2.keep fun g cs hg hc => ⟨(hblk g (blk_lt' hc) (by omega) (fun p q e => by
      have := (hp p.block (Or.inr ⟨p, q, rfl⟩)).1
      omega)).trans hc, hg⟩⟩
  · rintro k (⟨p, q, r⟩ | ⟨p, q, r⟩)
    · exact Or.inl (Or.inl ⟨p, q, r⟩)
    · rcases hf.row p q with ⟨s, hs, hb⟩ | hb
      · exact Or.inl (Or.inr ⟨s, hs, r.trans hb.symm⟩)
      · exact Or.inr (by omega)

set_option maxHeartbeats 2000000 in
set_option maxRecDepth 100000 in
theorem waitFor_any (w : World) (wb : Nat) (l : Parl.Lk) (R : Nat → Prop) (a : BV) (h : LkSt w wb l R) (hn : a.num = 1) (hl : l.wt.length ≤ 1000000000) :
    Calls Tryz.prog 165 #[.pointer (some ⟨wb, 0, none⟩), .agg #[.int .i64 a.k, .string a.nm, .int .i64 a.num, .slice a.ao a.n a.cap]] w fun e w' => e = .returned (.tuple #[]) ∧ ∃ R', LkSt w' wb (l.wait a.nm.toList) R' ∧ FrL wb R R' w w' := by
  obtain ⟨so, sc, wo, wc, vs, us, h, rfl⟩ := h
  obtain ⟨ki, nm, num, ao, n, cap⟩ := a
  dsimp only at hn ⊢
  subst hn
  have hul : us.length ≤ 1000000000 := by have := congrArg List.length h.nms; simp [nmsB] at this; omega
  have H := hide h
  have c := blkA' h.blk
  have x := blkX' h.blk
  have hz := blk_lt' h.blk
  have H0 := hide h.wait0
  clear h
  have PL := hide (fun W (q : XG W wb 1 1 195 #[.slice so vs.length sc, .slice wo us.length wc, .bool l.no, .bool true] us wo wc) => placeG W wb 1 1 195 _ us wo wc ⟨ki, nm, 1, ao, n, cap⟩ q rfl hul)
  go_enter Tryz.func165, Tryz.ntmps165
  go_wp2_with fail
  go_region_with (go_at_call 91; refine (unhide PL _ ((unhide H0).below (((Below.refl _ _).alloc (Nat.le_refl _) _).drew))).mono ?_; rintro e w2 ⟨cs', us', o', cap', rfl, hxg, hcs, hnm, hfr⟩; have HX := hide hxg; have HCS := hide hcs; have HNM := hide hnm; have HFR := hide hfr; clear hxg hcs hnm hfr)
  all_goals
    go_wp2_with fail
    go_end0
    refine ⟨rfl, ?_⟩
    exact (unhide H).wait1 (((Below.refl _ _).alloc (by rw [size_set]; exact Nat.le_refl _) _).drew) (unhide HX) (unhide HCS) (unhide HNM) (unhide HFR)
end Go.Proofs.YthfjnfcekeknlaaGreatDoor
namespace Go.Proofs.YthfjnfcekeknlaaGreatDoor
open Go.RowKit

/-- What 'compare' is to leave. -/
def PCm (wb : Nat) (R : Nat → Prop) (l' : Parl.Lk) (w : World) (e : Ending) (w' : World) : Prop := e = .returned (.tuple #[]) ∧ ∃ R', LkSt w' wb l' R' ∧ FrL wb R R' w w'
def CmSaid (f : Nat) : Prop := ∀ (w : World) (wb : Nat) (l : Parl.Lk) (R : Nat → Prop) (a b : BV) (ta tb : Parl.Tm), LkSt w wb l R → RS 1 f (fun g => g < wb) w a ta → RS 1 f (fun g => g < wb) w b tb → l.wt.length + 2 * 3 ^ f ≤ 1000000000 →
  Calls Tryz.prog 164 #[.pointer (some ⟨wb, 0, none⟩), .agg #[.int .i64 a.k, .string a.nm, .int .i64 a.num, .slice a.ao a.n a.cap], .agg #[.int .i64 b.k, .string b.nm, .int .i64 b.num, .slice b.ao b.n b.cap]] w fun e w' => PCm wb R (Parl.cmpF f ta tb l) w e w'
theorem FrL.cell {wb : Nat} {R R' : Nat → Prop} {w w' : World} (h : FrL wb R R' w w') {p : Addr} {v : Value} (hc : w.cell? p = some v) (h1 : p.block ≠ wb) (h2 : ¬ R p.block) : w'.cell? p = some v :=
  (World.cell?_of_block (h.block p.block (World.block_lt_of_cell? w p hc) h1 h2)).trans hc
theorem RS.wf {sd : Int} {P : Nat → Prop} {w : World} : ∀ {f : Nat} {a : BV} {t : Parl.Tm}, RS sd f P w a t → Parl.wfK f t
  | f + 1, a, t, ⟨h, q⟩ => by
    refine ⟨h.ks, h.lf, h.few, ?_⟩
    intro u hu
    obtain ⟨g, us, cs, _, _, _, _, ha⟩ := q (fun e => by rw [e] at hu; cases hu)
    have : ∀ (us : List BV) (ts : List Parl.Tm), All2 (RS sd f P w) us ts → ∀ u ∈ ts, Parl.wfK f u := by
      intro us
      induction us with
      | nil => intro ts ha u hu; cases ts with
        | nil => cases hu
        | cons t ts => exact ha.elim
      | cons v us ih => intro ts ha u hu; cases ts with
        | nil => cases hu
        | cons t ts =>
          rcases List.mem_cons.1 hu with rfl | hu
          · exact RS.wf ha.1
          · exact ih ts ha.2 u hu
    exact this us t.args ha u hu
/-- The boxes of two terms. -/
theorem two_boxes {w : World} {wb : Nat} {l : Parl.Lk} {R : Nat → Prop} (h : LkSt w wb l R) (x y : Obj) : LkSt ((w.alloc x).alloc y) wb l R ∧ ((w.alloc x).alloc y).heap[w.heap.size]? = some x ∧ ((w.alloc x).alloc y).heap[w.heap.size + 1]? = some y ∧ Below w.heap.size w ((w.alloc x).alloc y) := by
  have hb : Below w.heap.size w ((w.alloc x).alloc y) := ((Below.refl _ _).alloc (Nat.le_refl _) _).alloc (by simp) _
  refine ⟨h.below hb, blk_alloc' (heap_alloc_new w x) _, ?_, hb⟩
  have := heap_alloc_new (w.alloc x) y
  rw [World.size_alloc] at this
  exact this
theorem LkSt.draw {w : World} {wb : Nat} {l : Parl.Lk} {R : Nat → Prop} (h : LkSt w wb l R) : LkSt w.drew wb l R := h.below (Below.refl _ _).drew

set_option maxHeartbeats 2000000 in
set_option maxRecDepth 100000 in
theorem cm_same (w : World) (wb : Nat) (l : Parl.Lk) (R : Nat → Prop) (a b : BV) (ta tb : Parl.Tm) (h : LkSt w wb l R) (ha : LeafS 1 a ta) (hb : LeafS 1 b tb) (ka : ta.kind = 3) (kb : tb.kind = 3) (he : ta.text.toList = tb.text.toList) (_hl : l.wt.length + 2 ≤ 1000000000) :
    Calls Tryz.prog 164 #[.pointer (some ⟨wb, 0, none⟩), .agg #[.int .i64 a.k, .string a.nm, .int .i64 a.num, .slice a.ao a.n a.cap], .agg #[.int .i64 b.k, .string b.nm, .int .i64 b.num, .slice b.ao b.n b.cap]] w fun e w' => PCm wb R l w e w' := by
  obtain ⟨H1, hB4, hB5, hBl⟩ := two_boxes h (.cells #[.int .i64 a.k, .string a.nm, .int .i64 a.num, .slice a.ao a.n a.cap] 109) (.cells #[.int .i64 b.k, .string b.nm, .int .i64 b.num, .slice b.ao b.n b.cap] 109)
  have hpast := h.past
  have hwb := h.lt
  obtain ⟨ak, anm, anum, aao, an, acap⟩ := a
  obtain ⟨bk', bnm, bnum, bao, bn, bcap⟩ := b
  obtain ⟨na, ma⟩ := ha.v ka
  have qa : ak = 2 := by have := ha.k; dsimp only at this; rw [this, ka]; rfl
  dsimp only at na ma
  obtain ⟨nb, mb⟩ := hb.v kb
  have qb : bk' = 2 := by have := hb.k; dsimp only at this; rw [this, kb]; rfl
  dsimp only at nb mb
  subst qa qb na nb ma mb
  have SV := hide (fun W => sameVarG ⟨2, ta.text, 1, aao, an, acap⟩ ⟨2, tb.text, 1, bao, bn, bcap⟩ W (sd := 1) rfl rfl)
  have he' : (ta.text.toList == tb.text.toList) = true := by simpa using he
  dsimp only at hB4 hB5 hBl H1 SV ⊢
  rw [he'] at SV
  have HL := hide H1
  have HB4 := hide hB4
  have HB5 := hide hB5
  have HBL := hide hBl
  have HPA := hide hpast
  clear H1 hB4 hB5 hBl hpast h
  clear ha hb
  go_enter Tryz.func164, Tryz.ntmps164
  go_wp2_with fail
  refine (unhide SV _).mono ?_
  rintro e w2 ⟨rfl, hb2⟩
  have HB2 := hide hb2
  clear hb2
  go_wp2_with fail
  go_end0
  exact ⟨rfl, R, (unhide HL).below (unhide HB2), (FrL.of_below (unhide HBL)).trans (FrL.of_below (unhide HB2))⟩

set_option maxHeartbeats 2000000 in
set_option maxRecDepth 100000 in
theorem cm_two (w : World) (wb : Nat) (l : Parl.Lk) (R : Nat → Prop) (a b : BV) (ta tb : Parl.Tm) (h : LkSt w wb l R) (ha : LeafS 1 a ta) (hb : LeafS 1 b tb) (ka : ta.kind = 3) (kb : tb.kind = 3) (he : ta.text.toList ≠ tb.text.toList) (hl : l.wt.length + 2 ≤ 1000000000) :
    Calls Tryz.prog 164 #[.pointer (some ⟨wb, 0, none⟩), .agg #[.int .i64 a.k, .string a.nm, .int .i64 a.num, .slice a.ao a.n a.cap], .agg #[.int .i64 b.k, .string b.nm, .int .i64 b.num, .slice b.ao b.n b.cap]] w fun e w' => PCm wb R ((l.wait ta.text.toList).wait tb.text.toList) w e w' := by
  obtain ⟨H1, hB4, hB5, hBl⟩ := two_boxes h (.cells #[.int .i64 a.k, .string a.nm, .int .i64 a.num, .slice a.ao a.n a.cap] 109) (.cells #[.int .i64 b.k, .string b.nm, .int .i64 b.num, .slice b.ao b.n b.cap] 109)
  have hpast := h.past
  have hwb := h.lt
  obtain ⟨ak, anm, anum, aao, an, acap⟩ := a
  obtain ⟨bk', bnm, bnum, bao, bn, bcap⟩ := b
  obtain ⟨na, ma⟩ := ha.v ka
  have qa : ak = 2 := by have := ha.k; dsimp only at this; rw [this, ka]; rfl
  dsimp only at na ma
  obtain ⟨nb, mb⟩ := hb.v kb
  have qb : bk' = 2 := by have := hb.k; dsimp only at this; rw [this, kb]; rfl
  dsimp only at nb mb
  subst qa qb na nb ma mb
  have SV := hide (fun W => sameVarG ⟨2, ta.text, 1, aao, an, acap⟩ ⟨2, tb.text, 1, bao, bn, bcap⟩ W (sd := 1) rfl rfl)
  have he' : (ta.text.toList == tb.text.toList) = false := by simpa using he
  have hl2 : (l.wait ta.text.toList).wt.length ≤ 1000000000 := Nat.le_trans (Parl.addN_len _ _) (by omega)
  dsimp only at hB4 hB5 hBl H1 SV ⊢
  rw [he'] at SV
  have HL := hide H1
  have HB4 := hide hB4
  have HB5 := hide hB5
  have HBL := hide hBl
  have HPA := hide hpast
  clear H1 hB4 hB5 hBl hpast h
  clear ha hb
  go_enter Tryz.func164, Tryz.ntmps164
  go_wp2_with fail
  refine (unhide SV _).mono ?_
  rintro e w2 ⟨rfl, hb2⟩
  have HLx := hide ((unhide HL).below hb2)
  have HFx := hide (FrL.of_below (wb := wb) (R := R) hb2)
  have HX4 := hide ((hb2.block w.heap.size (blk_lt' (unhide HB4))).trans (unhide HB4))
  have HX5 := hide ((hb2.block (w.heap.size + 1) (blk_lt' (unhide HB5))).trans (unhide HB5))
  have x4 := blkA' (unhide HX4)
  have x5 := blkA' (unhide HX5)
  have zx4 := blk_lt' (unhide HX4)
  have zx5 := blk_lt' (unhide HX5)
  clear hb2
  go_wp2_with fail
  refine (waitFor_any _ wb _ _ ⟨2, ta.text, 1, aao, an, acap⟩ (unhide HLx) rfl (by omega)).mono ?_
  rintro e w3 ⟨rfl, R3, hl3, hf3⟩
  have HL3 := hide hl3
  have HF3 := hide (((FrL.of_below (unhide HBL)).trans (unhide HFx)).trans hf3)
  have q4 := hide ((hf3.block w.heap.size (by have := blk_lt' (unhide HX4); omega) (by omega) (fun q => by have := unhide HPA _ q; omega)).trans (unhide HX4))
  have q5 := hide ((hf3.block (w.heap.size + 1) (by have := blk_lt' (unhide HX5); omega) (by omega) (fun q => by have := unhide HPA _ q; omega)).trans (unhide HX5))
  have y4 := blkA' (unhide q4)
  have y5 := blkA' (unhide q5)
  have z4 := blk_lt' (unhide q4)
  have z5 := blk_lt' (unhide q5)
  clear hl3 hf3
  clear x4 x5 zx4 zx5
  go_wp2_with fail
  refine (waitFor_any _ wb _ _ ⟨2, tb.text, 1, bao, bn, bcap⟩ (unhide HL3) rfl hl2).mono ?_
  rintro e w4 ⟨rfl, R4, hl4, hf4⟩
  have HL4 := hide hl4
  have HF4 := hide ((unhide HF3).trans hf4)
  clear hl4 hf4
  go_wp2_with fail
  go_end0
  exact ⟨rfl, R4, unhide HL4, unhide HF4⟩

set_option maxHeartbeats 2000000 in
set_option maxRecDepth 100000 in
theorem cm_left (w : World) (wb : Nat) (l : Parl.Lk) (R : Nat → Prop) (a b : BV) (ta tb : Parl.Tm) (h : LkSt w wb l R) (ha : LeafS 1 a ta) (hb : LeafS 1 b tb) (ka : ta.kind = 3) (kb : tb.kind ≠ 3) (hl : l.wt.length + 2 ≤ 1000000000) :
    Calls Tryz.prog 164 #[.pointer (some ⟨wb, 0, none⟩), .agg #[.int .i64 a.k, .string a.nm, .int .i64 a.num, .slice a.ao a.n a.cap], .agg #[.int .i64 b.k, .string b.nm, .int .i64 b.num, .slice b.ao b.n b.cap]] w fun e w' => PCm wb R (l.wait ta.text.toList) w e w' := by
  obtain ⟨H1, hB4, hB5, hBl⟩ := two_boxes h (.cells #[.int .i64 a.k, .string a.nm, .int .i64 a.num, .slice a.ao a.n a.cap] 109) (.cells #[.int .i64 b.k, .string b.nm, .int .i64 b.num, .slice b.ao b.n b.cap] 109)
  have hpast := h.past
  have hwb := h.lt
  obtain ⟨ak, anm, anum, aao, an, acap⟩ := a
  obtain ⟨bk', bnm, bnum, bao, bn, bcap⟩ := b
  obtain ⟨na, ma⟩ := ha.v ka
  have qa : ak = 2 := by have := ha.k; dsimp only at this; rw [this, ka]; rfl
  dsimp only at na ma
  have qb : (bk' == 2) = false := by have := hb.k; dsimp only at this; rw [this]; have k2 := hb.ks; rcases k2 with e | e | e <;> first | (exact absurd e kb) | (rw [e]; decide)
  subst qa na ma
  dsimp only at hB4 hB5 hBl H1 ⊢
  have HL := hide H1
  have HB4 := hide hB4
  have HB5 := hide hB5
  have HBL := hide hBl
  have HPA := hide hpast
  clear H1 hB4 hB5 hBl hpast h
  clear ha hb
  have HLx := HL
  have HFx := hide (FrL.of_below (wb := wb) (R := R) (Below.refl ((w.alloc (.cells #[.int .i64 2, .string ta.text, .int .i64 1, .slice aao an acap] 109)).alloc (.cells #[.int .i64 bk', .string bnm, .int .i64 bnum, .slice bao bn bcap] 109)).heap.size ((w.alloc (.cells #[.int .i64 2, .string ta.text, .int .i64 1, .slice aao an acap] 109)).alloc (.cells #[.int .i64 bk', .string bnm, .int .i64 bnum, .slice bao bn bcap] 109))))
  have HX4 := HB4
  have HX5 := HB5
  go_enter Tryz.func164, Tryz.ntmps164
  go_wp2_with fail
  refine (waitFor_any _ wb _ _ ⟨2, ta.text, 1, aao, an, acap⟩ (unhide HLx) rfl (by omega)).mono ?_
  rintro e w3 ⟨rfl, R3, hl3, hf3⟩
  have HL3 := hide hl3
  have HF3 := hide (((FrL.of_below (unhide HBL)).trans (unhide HFx)).trans hf3)
  have q4 := hide ((hf3.block w.heap.size (by have := blk_lt' (unhide HX4); omega) (by omega) (fun q => by have := unhide HPA _ q; omega)).trans (unhide HX4))
  have q5 := hide ((hf3.block (w.heap.size + 1) (by have := blk_lt' (unhide HX5); omega) (by omega) (fun q => by have := unhide HPA _ q; omega)).trans (unhide HX5))
  have y4 := blkA' (unhide q4)
  have y5 := blkA' (unhide q5)
  have z4 := blk_lt' (unhide q4)
  have z5 := blk_lt' (unhide q5)
  clear hl3 hf3
  go_wp2_with fail
  go_end0
  exact ⟨rfl, R3, unhide HL3, unhide HF3⟩

set_option maxHeartbeats 2000000 in
set_option maxRecDepth 100000 in
theorem cm_right (w : World) (wb : Nat) (l : Parl.Lk) (R : Nat → Prop) (a b : BV) (ta tb : Parl.Tm) (h : LkSt w wb l R) (ha : LeafS 1 a ta) (hb : LeafS 1 b tb) (ka : ta.kind ≠ 3) (kb : tb.kind = 3) (hl : l.wt.length + 2 ≤ 1000000000) :
    Calls Tryz.prog 164 #[.pointer (some ⟨wb, 0, none⟩), .agg #[.int .i64 a.k, .string a.nm, .int .i64 a.num, .slice a.ao a.n a.cap], .agg #[.int .i64 b.k, .string b.nm, .int .i64 b.num, .slice b.ao b.n b.cap]] w fun e w' => PCm wb R (l.wait tb.text.toList) w e w' := by
  obtain ⟨H1, hB4, hB5, hBl⟩ := two_boxes h (.cells #[.int .i64 a.k, .string a.nm, .int .i64 a.num, .slice a.ao a.n a.cap] 109) (.cells #[.int .i64 b.k, .string b.nm, .int .i64 b.num, .slice b.ao b.n b.cap] 109)
  have hpast := h.past
  have hwb := h.lt
  obtain ⟨ak, anm, anum, aao, an, acap⟩ := a
  obtain ⟨bk', bnm, bnum, bao, bn, bcap⟩ := b
  have qa : (ak == 2) = false := by have := ha.k; dsimp only at this; rw [this]; have k2 := ha.ks; rcases k2 with e | e | e <;> first | (exact absurd e ka) | (rw [e]; decide)
  obtain ⟨nb, mb⟩ := hb.v kb
  have qb : bk' = 2 := by have := hb.k; dsimp only at this; rw [this, kb]; rfl
  dsimp only at nb mb
  subst qb nb mb
  dsimp only at hB4 hB5 hBl H1 ⊢
  have HL := hide H1
  have HB4 := hide hB4
  have HB5 := hide hB5
  have HBL := hide hBl
  have HPA := hide hpast
  clear H1 hB4 hB5 hBl hpast h
  clear ha hb
  go_enter Tryz.func164, Tryz.ntmps164
  go_wp2_with fail
  refine (waitFor_any _ wb _ _ ⟨2, tb.text, 1, bao, bn, bcap⟩ (unhide HL) rfl (by omega)).mono ?_
  rintro e w4 ⟨rfl, R4, hl4, hf4⟩
  have HL4 := hide hl4
  have HF4 := hide ((FrL.of_below (unhide HBL)).trans hf4)
  clear hl4 hf4
  go_wp2_with fail
  go_end0
  exact ⟨rfl, R4, unhide HL4, unhide HF4⟩
end Go.Proofs.YthfjnfcekeknlaaGreatDoor
namespace Go.Proofs.YthfjnfcekeknlaaGreatDoor
open Go.RowKit

theorem LkSt.bad {w : World} {wb : Nat} {l : Parl.Lk} {R : Nat → Prop} (h : LkSt w wb l R) : LkSt (w.setCell ⟨wb, 2, none⟩ (.bool true)) wb l.bad R ∧ FrL wb R R w (w.setCell ⟨wb, 2, none⟩ (.bool true)) := by
  obtain ⟨so, sc, wo, wc, vs, us, h, rfl⟩ := h
  refine ⟨⟨so, sc, wo, wc, vs, us, ⟨?_, own_at h.sown (fun k h1 _ => heap_set _ _ _ _ (by omega)), own_at h.wown (fun k h1 _ => heap_set _ _ _ _ (by omega)), h.side, h.nms, h.stands.imp fun v q r => ⟨r.1, r.2.1, r.2.2.keep fun g cs hg hc => ⟨(heap_set _ _ _ _ (by omega)).trans hc, hg⟩⟩⟩, rfl⟩, ⟨rfl, rfl, rfl, by rw [size_set]; exact Nat.le_refl _, fun k _ h2 _ => heap_set _ _ _ _ h2, fun _ q => Or.inl q⟩⟩
  have := blk_set h.blk 2 (.bool true)
  show (w.setCell ⟨wb, 2, none⟩ (.bool true)).heap[wb]? = some (.cells #[.slice so vs.length sc, .slice wo us.length wc, .bool true, .bool (!l.wt.isEmpty)] 195 (0, 0))
  simpa using this
theorem LkSt.at2 {w : World} {wb : Nat} {l : Parl.Lk} {R : Nat → Prop} (h : LkSt w wb l R) : (∃ v, w.cell? ⟨wb, 2, none⟩ = some (.bool v)) ∧ w.frozen? ⟨wb, 2, none⟩ = false := by
  obtain ⟨so, sc, wo, wc, vs, us, h, rfl⟩ := h
  exact ⟨⟨_, blkA' h.blk 2⟩, blkX' h.blk 2⟩

set_option maxHeartbeats 2000000 in
set_option maxRecDepth 100000 in
theorem cm_bad (w : World) (wb : Nat) (l : Parl.Lk) (R : Nat → Prop) (a b : BV) (ta tb : Parl.Tm) (h : LkSt w wb l R) (ha : LeafS 1 a ta) (hb : LeafS 1 b tb) (ka : ta.kind ≠ 3) (kb : tb.kind ≠ 3) (hk : Parl.alike ta tb = false) (_hl : l.wt.length + 2 ≤ 1000000000) :
    Calls Tryz.prog 164 #[.pointer (some ⟨wb, 0, none⟩), .agg #[.int .i64 a.k, .string a.nm, .int .i64 a.num, .slice a.ao a.n a.cap], .agg #[.int .i64 b.k, .string b.nm, .int .i64 b.num, .slice b.ao b.n b.cap]] w fun e w' => PCm wb R l.bad w e w' := by
  obtain ⟨H1, hB4, hB5, hBl⟩ := two_boxes h (.cells #[.int .i64 a.k, .string a.nm, .int .i64 a.num, .slice a.ao a.n a.cap] 109) (.cells #[.int .i64 b.k, .string b.nm, .int .i64 b.num, .slice b.ao b.n b.cap] 109)
  have hpast := h.past
  have hwb := h.lt
  have AL := hide (fun W => alike_any W ha hb ka kb)
  rw [hk] at AL
  obtain ⟨ak, anm, anum, aao, an, acap⟩ := a
  obtain ⟨bk', bnm, bnum, bao, bn, bcap⟩ := b
  have qa : (ak == 2) = false := by have := ha.k; dsimp only at this; rw [this]; have k2 := ha.ks; rcases k2 with e | e | e <;> first | (exact absurd e ka) | (rw [e]; decide)
  have qb : (bk' == 2) = false := by have := hb.k; dsimp only at this; rw [this]; have k2 := hb.ks; rcases k2 with e | e | e <;> first | (exact absurd e kb) | (rw [e]; decide)
  dsimp only at hB4 hB5 hBl H1 AL ⊢
  have HL := hide H1
  have HB4 := hide hB4
  have HB5 := hide hB5
  have HBL := hide hBl
  have HPA := hide hpast
  clear H1 hB4 hB5 hBl hpast h
  clear ha hb
  go_enter Tryz.func164, Tryz.ntmps164
  go_wp2_with fail
  refine (unhide AL _).mono ?_
  rintro e w2 ⟨rfl, hb2⟩
  have HL2 := hide ((unhide HL).below hb2)
  have HF2 := hide ((FrL.of_below (wb := wb) (R := R) (unhide HBL)).trans (FrL.of_below hb2))
  obtain ⟨⟨v2, c2⟩, x2⟩ := (unhide HL2).at2
  have z2 := (unhide HL2).lt
  clear hb2
  go_wp2_with fail
  go_end0
  exact ⟨rfl, R, (unhide HL2).bad.1, (unhide HF2).trans (unhide HL2).bad.2⟩

/-- The loop over the arguments. -/
def LCm (W0 : World) (wb : Nat) (l : Parl.Lk) (R : Nat → Prop) (f : Nat) (ta tb : Parl.Tm) (k : Nat) (iv : Value) (wr : World) : Prop :=
  ∃ (j : Nat) (R' : Nat → Prop), k + j = ta.args.length ∧ iv = .int .i64 (j : Int) ∧ LkSt wr wb (Parl.two (Parl.cmpF f) (ta.args.take j) (tb.args.take j) l) R' ∧ FrL wb R R' W0 wr

set_option maxHeartbeats 4000000 in
set_option maxRecDepth 100000 in
theorem cm_args {f : Nat} (IH : CmSaid f) (w : World) (wb : Nat) (l : Parl.Lk) (R : Nat → Prop) (a b : BV) (ta tb : Parl.Tm) (h : LkSt w wb l R) (hra : RS 1 (f + 1) (fun g => g < wb) w a ta) (hrb : RS 1 (f + 1) (fun g => g < wb) w b tb) (ka : ta.kind ≠ 3) (kb : tb.kind ≠ 3) (hk : Parl.alike ta tb = true) (hl : l.wt.length + 2 * 3 ^ (f + 1) ≤ 1000000000) :
    Calls Tryz.prog 164 #[.pointer (some ⟨wb, 0, none⟩), .agg #[.int .i64 a.k, .string a.nm, .int .i64 a.num, .slice a.ao a.n a.cap], .agg #[.int .i64 b.k, .string b.nm, .int .i64 b.num, .slice b.ao b.n b.cap]] w fun e w' => PCm wb R (Parl.two (Parl.cmpF f) ta.args tb.args l) w e w' := by
  obtain ⟨H1, hB4, hB5, hBl⟩ := two_boxes h (.cells #[.int .i64 a.k, .string a.nm, .int .i64 a.num, .slice a.ao a.n a.cap] 109) (.cells #[.int .i64 b.k, .string b.nm, .int .i64 b.num, .slice b.ao b.n b.cap] 109)
  have hpast := h.past
  have hwb := h.lt
  have HWA := hide hra.wf
  obtain ⟨ha, hrowa⟩ := hra
  obtain ⟨hb, hrowb⟩ := hrb
  have AL := hide (fun W => alike_any W ha hb ka kb)
  rw [hk] at AL
  have hn := Parl.alike_args hk
  have h8 := ha.few
  have HRA := hide hrowa
  have HRB := hide hrowb
  clear hrowa hrowb
  have hna := ha.n
  have hnb := hb.n
  obtain ⟨ak, anm, anum, aao, an, acap⟩ := a
  obtain ⟨bk', bnm, bnum, bao, bn, bcap⟩ := b
  have qa : (ak == 2) = false := by have := ha.k; dsimp only at this; rw [this]; have k2 := ha.ks; rcases k2 with e | e | e <;> first | (exact absurd e ka) | (rw [e]; decide)
  have qb : (bk' == 2) = false := by have := hb.k; dsimp only at this; rw [this]; have k2 := hb.ks; rcases k2 with e | e | e <;> first | (exact absurd e kb) | (rw [e]; decide)
  dsimp only at hna hnb hB4 hB5 hBl H1 AL HRA HRB ⊢
  subst hna
  rw [← hn] at hnb
  subst hnb
  have I := hide IH
  have HHL := hide hl
  have hpow : 3 ^ (f + 1) = 3 * 3 ^ f := by rw [Nat.pow_succ, Nat.mul_comm]
  have HPO := hide hpow
  have HN := hide hn
  have HL := hide H1
  have HB4 := hide hB4
  have HB5 := hide hB5
  have HBL := hide hBl
  have HPA := hide hpast
  clear H1 hB4 hB5 hBl hpast h
  clear ha hb IH ka kb hk hl hpow hn
  go_enter Tryz.func164, Tryz.ntmps164
  go_wp2_with fail
  refine (unhide AL _).mono ?_
  rintro e w2 ⟨rfl, hb2⟩
  have HST := hide (show LCm ((w.alloc (.cells #[.int .i64 ak, .string anm, .int .i64 anum, .slice aao ta.args.length acap] 109)).alloc (.cells #[.int .i64 bk', .string bnm, .int .i64 bnum, .slice bao ta.args.length bcap] 109)) wb l R f ta tb ta.args.length (.int .i64 0) w2 from ⟨0, R, by omega, rfl, by simp only [List.take_zero, Parl.two]; exact (unhide HL).below hb2, FrL.of_below hb2⟩)
  clear hb2 AL
  go_wp2_with fail
  go_loopg [7] ta.args.length (fun k iv wr => LCm ((w.alloc (.cells #[.int .i64 ak, .string anm, .int .i64 anum, .slice aao ta.args.length acap] 109)).alloc (.cells #[.int .i64 bk', .string bnm, .int .i64 bnum, .slice bao ta.args.length bcap] 109)) wb l R f ta tb k iv wr)
  case atStart => exact unhide HST
  case round =>
    clear HST
    obtain ⟨j, R1, hkj, rfl, hlk, hfr⟩ := hrel
    have hp1 := hlk.past
    have hw1 := hlk.lt
    have n4 : w.heap.size ≠ wb := by omega
    have n5 : w.heap.size + 1 ≠ wb := by omega
    have e4 := (hfr.block w.heap.size (by simp; omega) n4 (fun q => by have := unhide HPA _ q; omega)).trans (unhide HB4)
    have e5 := (hfr.block (w.heap.size + 1) (by simp) n5 (fun q => by have := unhide HPA _ q; omega)).trans (unhide HB5)
    have x4 := blkA' e4 3
    have x5 := blkA' e5 3
    have z4 := blk_lt' e4
    have z5 := blk_lt' e5
    simp at x4 x5
    have HLK := hide hlk
    have HFR := hide hfr
    have hz := hfr.size
    simp at hz
    by_cases hlt' : j < ta.args.length
    · have hltb : j < tb.args.length := by have := unhide HN; omega
      obtain ⟨ga, va, ca, hao, hga, hca, hta, haa⟩ := unhide HRA (fun q => by rw [q] at hlt'; simp at hlt')
      obtain ⟨gb, vb, cb, hbo, hgb, hcb, htb, hab⟩ := unhide HRB (fun q => by rw [q] at hltb; simp at hltb)
      subst hao hbo
      have hja : j < va.length := by have := haa.length; omega
      have hjb : j < vb.length := by have := hab.length; omega
      have BW : Below wb w wr := ((unhide HBL).mono (by omega)).trans (hfr.below (fun k q => (unhide HPA k q).1) (by simp; omega))
      have hcwa : wr.heap[ga]? = some (.cells ca 109 (0, 0)) := (BW.block ga hga).trans hca
      have hcwb : wr.heap[gb]? = some (.cells cb 109 (0, 0)) := (BW.block gb hgb).trans hcb
      have fca : ∀ i, i < 4 → wr.cell? ⟨ga, j * 4 + i, none⟩ = (bvC va[j])[i]? := fun i hi => by
        rw [blkA' hcwa, ← Array.getElem?_toList, ← bvC_at hja i hi, ← hta, List.getElem?_take_of_lt (by omega)]
      have fcb : ∀ i, i < 4 → wr.cell? ⟨gb, j * 4 + i, none⟩ = (bvC vb[j])[i]? := fun i hi => by
        rw [blkA' hcwb, ← Array.getElem?_toList, ← bvC_at hjb i hi, ← htb, List.getElem?_take_of_lt (by omega)]
      have f0 := fca 0 (by omega)
      have f1 := fca 1 (by omega)
      have f2 := fca 2 (by omega)
      have f3 := fca 3 (by omega)
      have g0 := fcb 0 (by omega)
      have g1 := fcb 1 (by omega)
      have g2 := fcb 2 (by omega)
      have g3 := fcb 3 (by omega)
      simp only [bvC, List.getElem?_cons_zero, List.getElem?_cons_succ, Nat.add_zero] at f0 f1 f2 f3 g0 g1 g2 g3
      have hlen : (Parl.two (Parl.cmpF f) (ta.args.take j) (tb.args.take j) l).wt.length + 2 * 3 ^ f ≤ 1000000000 := by
        have q1 := Parl.two_len (g := Parl.cmpF f) (c := 2 * 3 ^ f) (ta.args.take j) (tb.args.take j) l (fun u hu v m => Parl.cmpF_len f u v m ((unhide HWA).2.2.2 u (List.mem_of_mem_take hu)))
        have q2 : (ta.args.take j).length ≤ 2 := by simp; omega
        have q3 := Nat.mul_le_mul_right (2 * 3 ^ f) q2
        have q4 := unhide HHL
        have q5 := unhide HPO
        omega
      have IC := hide (unhide I wr.drew wb _ R1 va[j] vb[j] ta.args[j] tb.args[j] hlk.draw (((haa.at j hja hlt').blw BW).below (Below.refl _ _).drew) (((hab.at j hjb hltb).blw BW).below (Below.refl _ _).drew) hlen)
      have HTW := hide (Parl.two_step (g := Parl.cmpF f) ta.args tb.args j hlt' hltb l)
      have hgwa : ga < wr.heap.size := blk_lt' hcwa
      have hgwb : gb < wr.heap.size := blk_lt' hcwb
      have na : ga ≠ wb := by omega
      have nb : gb ≠ wb := by omega
      have ra : ¬ R1 ga := fun q => by have := hp1 ga q; omega
      have rb : ¬ R1 gb := fun q => by have := hp1 gb q; omega
      have r4 : ¬ R1 w.heap.size := fun q => by
        rcases hfr.row _ q with e | e
        · have := unhide HPA _ e; omega
        · rw [World.size_alloc, World.size_alloc] at e; omega
      have r5 : ¬ R1 (w.heap.size + 1) := fun q => by
        rcases hfr.row _ q with e | e
        · have := unhide HPA _ e; omega
        · rw [World.size_alloc, World.size_alloc] at e; omega
      have i0 : (0 : Int) ≤ (j : Int) := by omega
      have i1 : (j : Int) < (ta.args.length : Int) := by omega
      have HLT := hide hlt'
      have HKJ := hide hkj
      have hj3 : j ≤ 3 := by omega
      clear hlk hfr hp1 e4 e5 hca hcb hta htb haa hab BW hcwa hcwb fca fcb hlen hkj
      unfold PCm at IC
      go_wp2_with fail
      go_region_held3 (fun w' => w'.cell? ⟨w.heap.size, 3, none⟩ = some (.slice (some ⟨ga, 0, none⟩) ta.args.length acap) ∧ w'.cell? ⟨w.heap.size + 1, 3, none⟩ = some (.slice (some ⟨gb, 0, none⟩) ta.args.length bcap) ∧ w'.cell? ⟨ga, j * 4, none⟩ = some (.int .i64 va[j].k) ∧ w'.cell? ⟨ga, j * 4 + 1, none⟩ = some (.string va[j].nm) ∧ w'.cell? ⟨ga, j * 4 + 2, none⟩ = some (.int .i64 va[j].num) ∧ w'.cell? ⟨ga, j * 4 + 3, none⟩ = some (.slice va[j].ao va[j].n va[j].cap) ∧ w'.cell? ⟨gb, j * 4, none⟩ = some (.int .i64 vb[j].k) ∧ w'.cell? ⟨gb, j * 4 + 1, none⟩ = some (.string vb[j].nm) ∧ w'.cell? ⟨gb, j * 4 + 2, none⟩ = some (.int .i64 vb[j].num) ∧ w'.cell? ⟨gb, j * 4 + 3, none⟩ = some (.slice vb[j].ao vb[j].n vb[j].cap)) (first | go_keep | (refine ⟨?_, ?_, ?_, ?_, ?_, ?_, ?_, ?_, ?_, ?_⟩ <;> exact FrL.cell (unhide HF2) (by assumption) (by assumption) (by assumption))) ((go_at_call 164; refine (unhide IC).mono ?_; rintro e w2 ⟨rfl, R2, hl2, hf2⟩; have HL2 := hide hl2; have HF2 := hide hf2; clear hl2 hf2))
      go_wp2_with fail
      go_roundg (gk - 1)
      case measure => have := unhide HKJ; have := unhide HLT; omega
      case rel => exact ⟨j + 1, R2, by have := unhide HKJ; have := unhide HLT; omega, by go_num, by rw [unhide HTW]; exact unhide HL2, ((unhide HFR).trans (FrL.of_below (Below.refl _ _).drew)).trans (unhide HF2)⟩
    · obtain rfl : j = ta.args.length := by omega
      rw [List.take_length, unhide HN, List.take_length] at hlk
      have HLK2 := hide hlk
      clear hlk hfr hp1 hkj e4 e5
      go_wp2_with fail
      go_end0
      exact ⟨rfl, R1, unhide HLK2, (FrL.of_below (unhide HBL)).trans (unhide HFR)⟩

theorem cm_all : ∀ f, CmSaid f
  | 0 => fun _ _ _ _ _ _ _ _ _ ha => ha.elim
  | f + 1 => fun w wb l R a b ta tb h ha hb hl => by
    have hp : 1 ≤ 3 ^ (f + 1) := Nat.one_le_pow _ _ (by omega)
    have hl2 : l.wt.length + 2 ≤ 1000000000 := by omega
    unfold Parl.cmpF
    by_cases ka : ta.kind = 3
    · rw [if_pos ka]
      by_cases kb : tb.kind = 3
      · rw [if_pos kb]
        by_cases he : ta.text.toList = tb.text.toList
        · rw [if_pos he]; exact cm_same w wb l R a b ta tb h ha.1 hb.1 ka kb he hl2
        · rw [if_neg he]; exact cm_two w wb l R a b ta tb h ha.1 hb.1 ka kb he hl2
      · rw [if_neg kb]; exact cm_left w wb l R a b ta tb h ha.1 hb.1 ka kb hl2
    · rw [if_neg ka]
      by_cases kb : tb.kind = 3
      · rw [if_pos kb]; exact cm_right w wb l R a b ta tb h ha.1 hb.1 ka kb hl2
      · rw [if_neg kb]
        by_cases hk : Parl.alike ta tb = true
        · rw [if_pos hk]; exact cm_args (cm_all f) w wb l R a b ta tb h ha hb ka kb hk hl
        · rw [if_neg hk]; exact cm_bad w wb l R a b ta tb h ha.1 hb.1 ka kb (by simpa using hk) hl2
end Go.Proofs.YthfjnfcekeknlaaGreatDoor
namespace Go.Proofs.YthfjnfcekeknlaaGreatDoor
open Go.RowKit

def MtSaid (f : Nat) : Prop := ∀ (w : World) (wb : Nat) (l : Parl.Lk) (R : Nat → Prop) (a b : BV) (ta tb : Parl.Tm), LkSt w wb l R → RS 0 f (fun g => g < wb) w a ta → RS 1 f (fun g => g < wb) w b tb → f ≤ 8 → l.wt.length + 13122 * 3 ^ f ≤ 1000000000 → l.st.length + 3 ^ f ≤ 1000000000 →
  Calls Tryz.prog 112 #[.pointer (some ⟨wb, 0, none⟩), .agg #[.int .i64 a.k, .string a.nm, .int .i64 a.num, .slice a.ao a.n a.cap], .agg #[.int .i64 b.k, .string b.nm, .int .i64 b.num, .slice b.ao b.n b.cap]] w fun e w' => PCm wb R (Parl.matF f ta tb l) w e w'
theorem RS.up {sd : Int} {P : Nat → Prop} {w : World} : ∀ {f : Nat} {a : BV} {t : Parl.Tm}, RS sd f P w a t → RS sd (f + 1) P w a t
  | _ + 1, _, _, ⟨h, q⟩ => ⟨h, fun n => by
    obtain ⟨g, us, cs, h1, h2, h3, h4, h5⟩ := q n
    exact ⟨g, us, cs, h1, h2, h3, h4, h5.imp fun _ _ => RS.up⟩⟩
theorem RS.le {sd : Int} {P : Nat → Prop} {w : World} {f k : Nat} {a : BV} {t : Parl.Tm} (h : RS sd f P w a t) (hk : f ≤ k) : RS sd k P w a t := by
  induction hk with
  | refl => exact h
  | step _ ih => exact ih.up

set_option maxHeartbeats 2000000 in
set_option maxRecDepth 100000 in
theorem mt_wait (w : World) (wb : Nat) (l : Parl.Lk) (R : Nat → Prop) (a b : BV) (ta tb : Parl.Tm) (h : LkSt w wb l R) (ha : LeafS 0 a ta) (hb : LeafS 1 b tb) (ka : ta.kind ≠ 3) (kb : tb.kind = 3) (hl : l.wt.length + 2 ≤ 1000000000) :
    Calls Tryz.prog 112 #[.pointer (some ⟨wb, 0, none⟩), .agg #[.int .i64 a.k, .string a.nm, .int .i64 a.num, .slice a.ao a.n a.cap], .agg #[.int .i64 b.k, .string b.nm, .int .i64 b.num, .slice b.ao b.n b.cap]] w fun e w' => PCm wb R (l.wait tb.text.toList) w e w' := by
  obtain ⟨H1, hB4, hB5, hBl⟩ := two_boxes h (.cells #[.int .i64 a.k, .string a.nm, .int .i64 a.num, .slice a.ao a.n a.cap] 109) (.cells #[.int .i64 b.k, .string b.nm, .int .i64 b.num, .slice b.ao b.n b.cap] 109)
  have hpast := h.past
  have hwb := h.lt
  obtain ⟨ak, anm, anum, aao, an, acap⟩ := a
  obtain ⟨bk', bnm, bnum, bao, bn, bcap⟩ := b
  have qa : (ak == 2) = false := by have := ha.k; dsimp only at this; rw [this]; have k2 := ha.ks; rcases k2 with e | e | e <;> first | (exact absurd e ka) | (rw [e]; decide)
  obtain ⟨nb, mb⟩ := hb.v kb
  have qb : bk' = 2 := by have := hb.k; dsimp only at this; rw [this, kb]; rfl
  dsimp only at nb mb
  subst qb nb mb
  dsimp only at hB4 hB5 hBl H1 ⊢
  have HL := hide H1
  have HB4 := hide hB4
  have HB5 := hide hB5
  have HBL := hide hBl
  have HPA := hide hpast
  clear H1 hB4 hB5 hBl hpast h
  clear ha hb
  go_enter Tryz.func112, Tryz.ntmps112
  go_wp2_with fail
  refine (waitFor_any _ wb _ _ ⟨2, tb.text, 1, bao, bn, bcap⟩ (unhide HL) rfl (by omega)).mono ?_
  rintro e w4 ⟨rfl, R4, hl4, hf4⟩
  have HL4 := hide hl4
  have HF4 := hide ((FrL.of_below (unhide HBL)).trans hf4)
  clear hl4 hf4
  go_wp2_with fail
  go_end0
  exact ⟨rfl, R4, unhide HL4, unhide HF4⟩

set_option maxHeartbeats 2000000 in
set_option maxRecDepth 100000 in
theorem mt_bad (w : World) (wb : Nat) (l : Parl.Lk) (R : Nat → Prop) (a b : BV) (ta tb : Parl.Tm) (h : LkSt w wb l R) (ha : LeafS 0 a ta) (hb : LeafS 1 b tb) (ka : ta.kind ≠ 3) (kb : tb.kind ≠ 3) (hk : Parl.alike ta tb = false) (_hl : l.wt.length + 2 ≤ 1000000000) :
    Calls Tryz.prog 112 #[.pointer (some ⟨wb, 0, none⟩), .agg #[.int .i64 a.k, .string a.nm, .int .i64 a.num, .slice a.ao a.n a.cap], .agg #[.int .i64 b.k, .string b.nm, .int .i64 b.num, .slice b.ao b.n b.cap]] w fun e w' => PCm wb R l.bad w e w' := by
  obtain ⟨H1, hB4, hB5, hBl⟩ := two_boxes h (.cells #[.int .i64 a.k, .string a.nm, .int .i64 a.num, .slice a.ao a.n a.cap] 109) (.cells #[.int .i64 b.k, .string b.nm, .int .i64 b.num, .slice b.ao b.n b.cap] 109)
  have hpast := h.past
  have hwb := h.lt
  have AL := hide (fun W => alike_any W ha hb ka kb)
  rw [hk] at AL
  obtain ⟨ak, anm, anum, aao, an, acap⟩ := a
  obtain ⟨bk', bnm, bnum, bao, bn, bcap⟩ := b
  have qa : (ak == 2) = false := by have := ha.k; dsimp only at this; rw [this]; have k2 := ha.ks; rcases k2 with e | e | e <;> first | (exact absurd e ka) | (rw [e]; decide)
  have qb : (bk' == 2) = false := by have := hb.k; dsimp only at this; rw [this]; have k2 := hb.ks; rcases k2 with e | e | e <;> first | (exact absurd e kb) | (rw [e]; decide)
  dsimp only at hB4 hB5 hBl H1 AL ⊢
  have HL := hide H1
  have HB4 := hide hB4
  have HB5 := hide hB5
  have HBL := hide hBl
  have HPA := hide hpast
  clear H1 hB4 hB5 hBl hpast h
  clear ha hb
  go_enter Tryz.func112, Tryz.ntmps112
  go_wp2_with fail
  refine (unhide AL _).mono ?_
  rintro e w2 ⟨rfl, hb2⟩
  have HL2 := hide ((unhide HL).below hb2)
  have HF2 := hide ((FrL.of_below (wb := wb) (R := R) (unhide HBL)).trans (FrL.of_below hb2))
  obtain ⟨⟨v2, c2⟩, x2⟩ := (unhide HL2).at2
  have z2 := (unhide HL2).lt
  clear hb2
  go_wp2_with fail
  go_end0
  exact ⟨rfl, R, (unhide HL2).bad.1, (unhide HF2).trans (unhide HL2).bad.2⟩

/-- The loop over the arguments. -/
def LMt (W0 : World) (wb : Nat) (l : Parl.Lk) (R : Nat → Prop) (f : Nat) (ta tb : Parl.Tm) (k : Nat) (iv : Value) (wr : World) : Prop :=
  ∃ (j : Nat) (R' : Nat → Prop), k + j = ta.args.length ∧ iv = .int .i64 (j : Int) ∧ LkSt wr wb (Parl.two (Parl.matF f) (ta.args.take j) (tb.args.take j) l) R' ∧ FrL wb R R' W0 wr

set_option maxHeartbeats 4000000 in
set_option maxRecDepth 100000 in
theorem mt_args {f : Nat} (IH : MtSaid f) (w : World) (wb : Nat) (l : Parl.Lk) (R : Nat → Prop) (a b : BV) (ta tb : Parl.Tm) (h : LkSt w wb l R) (hra : RS 0 (f + 1) (fun g => g < wb) w a ta) (hrb : RS 1 (f + 1) (fun g => g < wb) w b tb) (ka : ta.kind ≠ 3) (kb : tb.kind ≠ 3) (hk : Parl.alike ta tb = true) (hf : f + 1 ≤ 8) (hl : l.wt.length + 13122 * 3 ^ (f + 1) ≤ 1000000000) (hs : l.st.length + 3 ^ (f + 1) ≤ 1000000000) :
    Calls Tryz.prog 112 #[.pointer (some ⟨wb, 0, none⟩), .agg #[.int .i64 a.k, .string a.nm, .int .i64 a.num, .slice a.ao a.n a.cap], .agg #[.int .i64 b.k, .string b.nm, .int .i64 b.num, .slice b.ao b.n b.cap]] w fun e w' => PCm wb R (Parl.two (Parl.matF f) ta.args tb.args l) w e w' := by
  obtain ⟨H1, hB4, hB5, hBl⟩ := two_boxes h (.cells #[.int .i64 a.k, .string a.nm, .int .i64 a.num, .slice a.ao a.n a.cap] 109) (.cells #[.int .i64 b.k, .string b.nm, .int .i64 b.num, .slice b.ao b.n b.cap] 109)
  have hpast := h.past
  have hwb := h.lt
  have HWA := hide hrb.wf
  obtain ⟨ha, hrowa⟩ := hra
  obtain ⟨hb, hrowb⟩ := hrb
  have AL := hide (fun W => alike_any W ha hb ka kb)
  rw [hk] at AL
  have hn := Parl.alike_args hk
  have h8 := ha.few
  have HRA := hide hrowa
  have HRB := hide hrowb
  clear hrowa hrowb
  have hna := ha.n
  have hnb := hb.n
  obtain ⟨ak, anm, anum, aao, an, acap⟩ := a
  obtain ⟨bk', bnm, bnum, bao, bn, bcap⟩ := b
  have qa : (ak == 2) = false := by have := ha.k; dsimp only at this; rw [this]; have k2 := ha.ks; rcases k2 with e | e | e <;> first | (exact absurd e ka) | (rw [e]; decide)
  have qb : (bk' == 2) = false := by have := hb.k; dsimp only at this; rw [this]; have k2 := hb.ks; rcases k2 with e | e | e <;> first | (exact absurd e kb) | (rw [e]; decide)
  dsimp only at hna hnb hB4 hB5 hBl H1 AL HRA HRB ⊢
  subst hna
  rw [← hn] at hnb
  subst hnb
  have I := hide IH
  have HHL := hide hl
  have HHS := hide hs
  have hpow : 3 ^ (f + 1) = 3 * 3 ^ f := by rw [Nat.pow_succ, Nat.mul_comm]
  have HPO := hide hpow
  have HN := hide hn
  have HL := hide H1
  have HB4 := hide hB4
  have HB5 := hide hB5
  have HBL := hide hBl
  have HPA := hide hpast
  clear H1 hB4 hB5 hBl hpast h
  clear ha hb IH ka kb hk hl hs hpow hn
  go_enter Tryz.func112, Tryz.ntmps112
  go_wp2_with fail
  refine (unhide AL _).mono ?_
  rintro e w2 ⟨rfl, hb2⟩
  have HST := hide (show LMt ((w.alloc (.cells #[.int .i64 ak, .string anm, .int .i64 anum, .slice aao ta.args.length acap] 109)).alloc (.cells #[.int .i64 bk', .string bnm, .int .i64 bnum, .slice bao ta.args.length bcap] 109)) wb l R f ta tb ta.args.length (.int .i64 0) w2 from ⟨0, R, by omega, rfl, by simp only [List.take_zero, Parl.two]; exact (unhide HL).below hb2, FrL.of_below hb2⟩)
  clear hb2 AL
  go_wp2_with fail
  go_loopg [9] ta.args.length (fun k iv wr => LMt ((w.alloc (.cells #[.int .i64 ak, .string anm, .int .i64 anum, .slice aao ta.args.length acap] 109)).alloc (.cells #[.int .i64 bk', .string bnm, .int .i64 bnum, .slice bao ta.args.length bcap] 109)) wb l R f ta tb k iv wr)
  case atStart => exact unhide HST
  case round =>
    clear HST
    obtain ⟨j, R1, hkj, rfl, hlk, hfr⟩ := hrel
    have hp1 := hlk.past
    have hw1 := hlk.lt
    have n4 : w.heap.size ≠ wb := by omega
    have n5 : w.heap.size + 1 ≠ wb := by omega
    have e4 := (hfr.block w.heap.size (by simp; omega) n4 (fun q => by have := unhide HPA _ q; omega)).trans (unhide HB4)
    have e5 := (hfr.block (w.heap.size + 1) (by simp) n5 (fun q => by have := unhide HPA _ q; omega)).trans (unhide HB5)
    have x4 := blkA' e4 3
    have x5 := blkA' e5 3
    have z4 := blk_lt' e4
    have z5 := blk_lt' e5
    simp at x4 x5
    have HLK := hide hlk
    have HFR := hide hfr
    have hz := hfr.size
    simp at hz
    by_cases hlt' : j < ta.args.length
    · have hltb : j < tb.args.length := by have := unhide HN; omega
      obtain ⟨ga, va, ca, hao, hga, hca, hta, haa⟩ := unhide HRA (fun q => by rw [q] at hlt'; simp at hlt')
      obtain ⟨gb, vb, cb, hbo, hgb, hcb, htb, hab⟩ := unhide HRB (fun q => by rw [q] at hltb; simp at hltb)
      subst hao hbo
      have hja : j < va.length := by have := haa.length; omega
      have hjb : j < vb.length := by have := hab.length; omega
      have BW : Below wb w wr := ((unhide HBL).mono (by omega)).trans (hfr.below (fun k q => (unhide HPA k q).1) (by simp; omega))
      have hcwa : wr.heap[ga]? = some (.cells ca 109 (0, 0)) := (BW.block ga hga).trans hca
      have hcwb : wr.heap[gb]? = some (.cells cb 109 (0, 0)) := (BW.block gb hgb).trans hcb
      have fca : ∀ i, i < 4 → wr.cell? ⟨ga, j * 4 + i, none⟩ = (bvC va[j])[i]? := fun i hi => by
        rw [blkA' hcwa, ← Array.getElem?_toList, ← bvC_at hja i hi, ← hta, List.getElem?_take_of_lt (by omega)]
      have fcb : ∀ i, i < 4 → wr.cell? ⟨gb, j * 4 + i, none⟩ = (bvC vb[j])[i]? := fun i hi => by
        rw [blkA' hcwb, ← Array.getElem?_toList, ← bvC_at hjb i hi, ← htb, List.getElem?_take_of_lt (by omega)]
      have f0 := fca 0 (by omega)
      have f1 := fca 1 (by omega)
      have f2 := fca 2 (by omega)
      have f3 := fca 3 (by omega)
      have g0 := fcb 0 (by omega)
      have g1 := fcb 1 (by omega)
      have g2 := fcb 2 (by omega)
      have g3 := fcb 3 (by omega)
      simp only [bvC, List.getElem?_cons_zero, List.getElem?_cons_succ, Nat.add_zero] at f0 f1 f2 f3 g0 g1 g2 g3
      have hlen : (Parl.two (Parl.matF f) (ta.args.take j) (tb.args.take j) l).wt.length + 13122 * 3 ^ f ≤ 1000000000 ∧ (Parl.two (Parl.matF f) (ta.args.take j) (tb.args.take j) l).st.length + 3 ^ f ≤ 1000000000 := by
        have q1 := Parl.two_lenR (g := Parl.matF f) (c := 13122 * 3 ^ f) (ta.args.take j) (tb.args.take j) l (fun u hu v m => (Parl.matF_len f v u m ((unhide HWA).2.2.2 u (List.mem_of_mem_take hu)) (by omega)).1)
        have q6 := Parl.two_stR (g := Parl.matF f) (c := 3 ^ f) (ta.args.take j) (tb.args.take j) l (fun u hu v m => (Parl.matF_len f v u m ((unhide HWA).2.2.2 u (List.mem_of_mem_take hu)) (by omega)).2)
        have q2 : (tb.args.take j).length ≤ 2 := by simp; omega
        have q3 := Nat.mul_le_mul_right (13122 * 3 ^ f) q2
        have q7 := Nat.mul_le_mul_right (3 ^ f) q2
        have q4 := unhide HHL
        have q8 := unhide HHS
        have q5 := unhide HPO
        omega
      have IC := hide (unhide I wr.drew wb _ R1 va[j] vb[j] ta.args[j] tb.args[j] hlk.draw (((haa.at j hja hlt').blw BW).below (Below.refl _ _).drew) (((hab.at j hjb hltb).blw BW).below (Below.refl _ _).drew) (by omega) hlen.1 hlen.2)
      have HTW := hide (Parl.two_step (g := Parl.matF f) ta.args tb.args j hlt' hltb l)
      have hgwa : ga < wr.heap.size := blk_lt' hcwa
      have hgwb : gb < wr.heap.size := blk_lt' hcwb
      have na : ga ≠ wb := by omega
      have nb : gb ≠ wb := by omega
      have ra : ¬ R1 ga := fun q => by have := hp1 ga q; omega
      have rb : ¬ R1 gb := fun q => by have := hp1 gb q; omega
      have r4 : ¬ R1 w.heap.size := fun q => by
        rcases hfr.row _ q with e | e
        · have := unhide HPA _ e; omega
        · rw [World.size_alloc, World.size_alloc] at e; omega
      have r5 : ¬ R1 (w.heap.size + 1) := fun q => by
        rcases hfr.row _ q with e | e
        · have := unhide HPA _ e; omega
        · rw [World.size_alloc, World.size_alloc] at e; omega
      have i0 : (0 : Int) ≤ (j : Int) := by omega
      have i1 : (j : Int) < (ta.args.length : Int) := by omega
      have HLT := hide hlt'
      have HKJ := hide hkj
      have hj3 : j ≤ 3 := by omega
      clear hlk hfr hp1 e4 e5 hca hcb hta htb haa hab BW hcwa hcwb fca fcb hlen hkj
      unfold PCm at IC
      go_wp2_with fail
      go_region_held3 (fun w' => w'.cell? ⟨w.heap.size, 3, none⟩ = some (.slice (some ⟨ga, 0, none⟩) ta.args.length acap) ∧ w'.cell? ⟨w.heap.size + 1, 3, none⟩ = some (.slice (some ⟨gb, 0, none⟩) ta.args.length bcap) ∧ w'.cell? ⟨ga, j * 4, none⟩ = some (.int .i64 va[j].k) ∧ w'.cell? ⟨ga, j * 4 + 1, none⟩ = some (.string va[j].nm) ∧ w'.cell? ⟨ga, j * 4 + 2, none⟩ = some (.int .i64 va[j].num) ∧ w'.cell? ⟨ga, j * 4 + 3, none⟩ = some (.slice va[j].ao va[j].n va[j].cap) ∧ w'.cell? ⟨gb, j * 4, none⟩ = some (.int .i64 vb[j].k) ∧ w'.cell? ⟨gb, j * 4 + 1, none⟩ = some (.string vb[j].nm) ∧ w'.cell? ⟨gb, j * 4 + 2, none⟩ = some (.int .i64 vb[j].num) ∧ w'.cell? ⟨gb, j * 4 + 3, none⟩ = some (.slice vb[j].ao vb[j].n vb[j].cap)) (first | go_keep | (refine ⟨?_, ?_, ?_, ?_, ?_, ?_, ?_, ?_, ?_, ?_⟩ <;> exact FrL.cell (unhide HF2) (by assumption) (by assumption) (by assumption))) ((go_at_call 112; refine (unhide IC).mono ?_; rintro e w2 ⟨rfl, R2, hl2, hf2⟩; have HL2 := hide hl2; have HF2 := hide hf2; clear hl2 hf2))
      go_wp2_with fail
      go_roundg (gk - 1)
      case measure => have := unhide HKJ; have := unhide HLT; omega
      case rel => exact ⟨j + 1, R2, by have := unhide HKJ; have := unhide HLT; omega, by go_num, by rw [unhide HTW]; exact unhide HL2, ((unhide HFR).trans (FrL.of_below (Below.refl _ _).drew)).trans (unhide HF2)⟩
    · obtain rfl : j = ta.args.length := by omega
      rw [List.take_length, unhide HN, List.take_length] at hlk
      have HLK2 := hide hlk
      clear hlk hfr hp1 hkj e4 e5
      go_wp2_with fail
      go_end0
      exact ⟨rfl, R1, unhide HLK2, (FrL.of_below (unhide HBL)).trans (unhide HFR)⟩
end Go.Proofs.YthfjnfcekeknlaaGreatDoor
