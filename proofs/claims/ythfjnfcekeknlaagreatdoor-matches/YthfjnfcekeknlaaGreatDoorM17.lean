import Derived.Test.YthfjnfcekeknlaaGreatDoorM16
import Derived.Deep.AppendLies
import Derived.Deep.RegionLaw
import Derived.Deep.LoopGhost
namespace Parl
theorem find_at {α : Type} {l : List (List UInt8 × α)} {x : List UInt8} {j : Nat} (hj : j < l.length) (hno : ∀ i (hi : i < l.length), i < j → l[i].1 ≠ x) (he : l[j].1 = x) : l.find? (fun q => q.1 == x) = some l[j] := by
  induction l generalizing j with
  | nil => simp at hj
  | cons u us ih =>
    cases j with
    | zero => rw [List.find?_cons_of_pos (by simpa using he)]; rfl
    | succ j =>
      have h0 : u.1 ≠ x := hno 0 (by simp) (by omega)
      rw [List.find?_cons_of_neg (by simpa using h0)]
      exact ih (by simpa using hj) (fun i hi q => by have := hno (i + 1) (by simpa using hi) (by omega); simpa using this) (by simpa using he)
theorem find_none {α : Type} {l : List (List UInt8 × α)} {x : List UInt8} (hno : ∀ i (hi : i < l.length), l[i].1 ≠ x) : l.find? (fun q => q.1 == x) = Option.none := by
  rw [List.find?_eq_none]
  intro q hq
  obtain ⟨i, hi, rfl⟩ := List.getElem_of_mem hq
  simpa using hno i hi
end Parl
namespace Go.Proofs.YthfjnfcekeknlaaGreatDoor
open Go.RowKit

theorem Tryz.info132 : (Tryz.prog.info? 132).map (fun i => (i.zero, i.size, i.bytes)) = some (some (.agg #[.int .i64 0, .string ⟨#[]⟩, .int .i64 0, .slice none 0 0, .int .i64 0, .string ⟨#[]⟩, .int .i64 0, .slice none 0 0]), 8, 112) := by kernel_rfl
theorem bdC_at {us : List (BV × BV)} {i : Nat} (h : i < us.length) (j : Nat) (hj : j < 8) : (us.flatMap bdC)[i * 8 + j]? = (bdC us[i])[j]? := by
  induction us generalizing i with
  | nil => simp at h
  | cons t r ih =>
    cases i with
    | zero => rw [List.flatMap_cons, List.getElem?_append_left (by simp [bdC, bvC]; omega)]; simp
    | succ i =>
      rw [List.flatMap_cons, List.getElem?_append_right (by simp [bdC, bvC]; omega)]
      simp only [show (bdC t).length = 8 from rfl]
      rw [show (i + 1) * 8 + j - 8 = i * 8 + j by omega]
      simpa using ih (by simpa using h)
/-- The look behind a new bind. -/
theorem LkB.push {w wr w1 : World} {wb : Nat} {l : Parl.Lk} {so : Option Addr} {sc : Nat} {wo : Option Addr} {wc : Nat} {vs : List (BV × BV)} {us : List BV} (h : LkB wr wb l so sc wo wc vs us) {X : Obj} {g cap' : Nat} {a b : BV} {t : Parl.Tm} (ha : a.num = 0) (hb : RS 1 8 (fun g => g < wb) wr b t)
    (hown : w1.ownsRow (wb + 1) 132 8 (.slice (some ⟨g, 0, none⟩) (vs.length + 1) cap') (vs.length + 1) (vs.flatMap bdC ++ bdC (a, b))) (hg : ((wr.alloc X).drew).grownBy w1 (Value.slice so vs.length sc).ownBlock) (hat : (Value.slice so vs.length sc).ownBlock = some g ∨ g = wr.heap.size + 1) {R : Nat → Prop} (hf : FrL wb R (rowsL so wo) w wr) :
    ∃ R', LkSt (w1.setCell ⟨wb, 0, none⟩ (.slice (some ⟨g, 0, none⟩) (vs.length + 1) cap')) wb ⟨l.st ++ [(a.nm.toList, t)], l.wt, l.no⟩ R' ∧ FrL wb R R' w (w1.setCell ⟨wb, 0, none⟩ (.slice (some ⟨g, 0, none⟩) (vs.length + 1) cap')) := by
  have hp := h.past
  have hwb := blk_lt' h.blk
  have hso : ∀ k, (∀ p, so = some p → k ≠ p.block) → some k ≠ (Value.slice so vs.length sc).ownBlock := fun k q => own_none q
  have keep : ∀ k, k < wr.heap.size → k ≠ wb → (∀ p, so = some p → k ≠ p.block) → (w1.setCell ⟨wb, 0, none⟩ (.slice (some ⟨g, 0, none⟩) (vs.length + 1) cap')).heap[k]? = wr.heap[k]? := fun k h1 h2 h3 => by
    rw [heap_set _ _ _ _ h2, hg.block k (by simp; omega) (hso k h3)]
    exact Below.heap_alloc _ _ _ h1
  have hwbs : ∀ p, so = some p → wb ≠ p.block := fun p q e => by
    have := hp p.block (Or.inl ⟨p, q, rfl⟩)
    omega
  have hF : FrL wb (rowsL so wo) (rowsL (some ⟨g, 0, none⟩) wo) wr (w1.setCell ⟨wb, 0, none⟩ (.slice (some ⟨g, 0, none⟩) (vs.length + 1) cap')) := by
    refine ⟨hg.os, hg.tape, hg.output, by rw [size_set]; have := hg.size; simp at this; omega, fun k h1 h2 h3 => keep k h1 h2 (fun p q e => h3 (Or.inl ⟨p, q, e⟩)), ?_⟩
    rintro k (⟨p, q, r⟩ | ⟨p, q, r⟩)
    · cases q
      rcases hat with e | e
      · left
        left
        cases so with
        | none => simp [Value.ownBlock] at e
        | some s => simp [Value.ownBlock] at e; exact ⟨s, rfl, by rw [r]; exact e.symm⟩
      · right
        rw [r]
        show wr.heap.size ≤ g
        omega
    · exact Or.inl (Or.inr ⟨p, q, r⟩)
  refine ⟨rowsL (some ⟨g, 0, none⟩) wo, ⟨some ⟨g, 0, none⟩, cap', wo, wc, vs ++ [(a, b)], us, ⟨?_, ?_, ?_, h.side, h.nms, ?_⟩, rfl⟩, hf.trans hF⟩
  · have q0 : w1.heap[wb]? = some (.cells #[.slice so vs.length sc, .slice wo us.length wc, .bool l.no, .bool (!l.wt.isEmpty)] 195 (0, 0)) := by
      rw [hg.block wb (by simp; omega) (hso wb hwbs)]
      exact (Below.heap_alloc _ _ _ hwb).trans h.blk
    have := blk_set q0 0 (.slice (some ⟨g, 0, none⟩) (vs.length + 1) cap')
    simpa using this
  · have := own_at hown (w' := w1.setCell ⟨wb, 0, none⟩ (.slice (some ⟨g, 0, none⟩) (vs.length + 1) cap')) (fun k h1 _ => heap_set _ _ _ _ (by omega))
    simpa using this
  · refine ⟨h.wown.1, h.wown.2.imp id fun ⟨q, cap, cur, a, b, c, d⟩ => ⟨q, cap, cur, a, b, (keep q (blk_lt' c) (by omega) (fun p e r => ?_)).trans c, d⟩⟩
    simp only [Value.slice.injEq] at a
    exact h.apart _ _ e a.1 r.symm
  · have kr2 : ∀ k cs, k < wb → wr.heap[k]? = some (.cells cs 109 (0, 0)) → (w1.setCell ⟨wb, 0, none⟩ (.slice (some ⟨g, 0, none⟩) (vs.length + 1) cap')).heap[k]? = some (.cells cs 109 (0, 0)) ∧ k < wb := fun k cs hk hc => ⟨(keep k (blk_lt' hc) (by omega) (fun p q e => by have := (hp p.block (Or.inl ⟨p, q, rfl⟩)).1; omega)).trans hc, hk⟩
    exact All2.snoc ⟨rfl, ha, hb.keep kr2⟩ (h.stands.imp fun v q r => ⟨r.1, r.2.1, r.2.2.keep kr2⟩)

set_option maxHeartbeats 4000000 in
set_option maxRecDepth 100000 in
theorem mt_meet (w : World) (wb : Nat) (l : Parl.Lk) (R : Nat → Prop) (a b : BV) (ta tb : Parl.Tm) (h : LkSt w wb l R) (ha : LeafS 0 a ta) (hb : RS 1 8 (fun g => g < wb) w b tb) (ka : ta.kind = 3) (hl : l.wt.length + 13122 ≤ 1000000000) (hs : l.st.length ≤ 1000000000) :
    Calls Tryz.prog 112 #[.pointer (some ⟨wb, 0, none⟩), .agg #[.int .i64 a.k, .string a.nm, .int .i64 a.num, .slice a.ao a.n a.cap], .agg #[.int .i64 b.k, .string b.nm, .int .i64 b.num, .slice b.ao b.n b.cap]] w fun e w' => PCm wb R (l.meet ta.text.toList tb) w e w' := by
  obtain ⟨so, sc, wo, wc, vs, us, h, rfl⟩ := h
  obtain ⟨na, ma⟩ := ha.v ka
  have qa : a.k = 2 := by rw [ha.k, ka]; rfl
  obtain ⟨ak, anm, anum, aao, an, acap⟩ := a
  dsimp only at na ma qa ⊢
  subst na ma qa
  have HVL := hide h.stands.length
  have hpast := h.past
  have hwb := blk_lt' h.blk
  have hBl : Below w.heap.size w ((w.alloc (.cells #[.int .i64 2, .string ta.text, .int .i64 0, .slice aao an acap] 109)).alloc (.cells #[.int .i64 b.k, .string b.nm, .int .i64 b.num, .slice b.ao b.n b.cap] 109)) := ((Below.refl _ _).alloc (Nat.le_refl _) _).alloc (by simp) _
  have H0 := h.below hBl
  have hB4 : ((w.alloc (.cells #[.int .i64 2, .string ta.text, .int .i64 0, .slice aao an acap] 109)).alloc (.cells #[.int .i64 b.k, .string b.nm, .int .i64 b.num, .slice b.ao b.n b.cap] 109)).heap[w.heap.size]? = some (.cells #[.int .i64 2, .string ta.text, .int .i64 0, .slice aao an acap] 109) := blk_alloc' (heap_alloc_new w _) _
  have hB5 : ((w.alloc (.cells #[.int .i64 2, .string ta.text, .int .i64 0, .slice aao an acap] 109)).alloc (.cells #[.int .i64 b.k, .string b.nm, .int .i64 b.num, .slice b.ao b.n b.cap] 109)).heap[w.heap.size + 1]? = some (.cells #[.int .i64 b.k, .string b.nm, .int .i64 b.num, .slice b.ao b.n b.cap] 109) := by
    have := heap_alloc_new (w.alloc (.cells #[.int .i64 2, .string ta.text, .int .i64 0, .slice aao an acap] 109)) (.cells #[.int .i64 b.k, .string b.nm, .int .i64 b.num, .slice b.ao b.n b.cap] 109)
    rw [World.size_alloc] at this
    exact this
  have hz0 : ((w.alloc (.cells #[.int .i64 2, .string ta.text, .int .i64 0, .slice aao an acap] 109)).alloc (.cells #[.int .i64 b.k, .string b.nm, .int .i64 b.num, .slice b.ao b.n b.cap] 109)).heap.size = w.heap.size + 2 := by simp
  obtain ⟨ti, hi, hzz0, hzz1, hzz2⟩ := info_parts Tryz.info132
  have HH := hide H0
  have HB4 := hide hB4
  have HB5 := hide hB5
  have HBL := hide hBl
  have HPA := hide hpast
  have HRB := hide (hb.below hBl)
  have HZ := hide hz0
  clear h H0 hB4 hB5 hBl hpast ha ka hb hz0
  go_enter Tryz.func112, Tryz.ntmps112
  go_wp2_with fail
  generalize hW0 : ((w.alloc (.cells #[.int .i64 2, .string ta.text, .int .i64 0, .slice aao an acap] 109)).alloc (.cells #[.int .i64 b.k, .string b.nm, .int .i64 b.num, .slice b.ao b.n b.cap] 109)) = W0 at *
  clear hW0
  go_loopw [6] (fun i wr => ∃ j : Nat, j ≤ vs.length ∧ i = .int .i64 j ∧ (∀ i (hi : i < l.st.length), i < j → l.st[i].1 ≠ ta.text.toList) ∧ Below W0.heap.size W0 wr) (fun i _ => vs.length - (intOf i).toNat)
  case atStart => exact ⟨0, by omega, rfl, fun i hi q => by omega, Below.refl _ _⟩
  case round =>
    obtain ⟨j, hjl, rfl, hno, hB⟩ := hrel
    have hz := unhide HZ
    have HNO := hide hno
    have HB := hide hB
    have hzr := hB.size
    have HLR := hide ((unhide HH).below hB)
    have q4 := (hB.block w.heap.size (by omega)).trans (unhide HB4)
    have q5 := (hB.block (w.heap.size + 1) (by omega)).trans (unhide HB5)
    have d4 := blkA' q4
    have d5 := blkA' q5
    have s0 := blkA' (unhide HLR).blk 0
    have x0 := blkX' (unhide HLR).blk 0
    have wz := blk_lt' (unhide HLR).blk
    have z4 := blk_lt' q4
    have z5 := blk_lt' q5
    have a0 := d4 0
    have a1 := d4 1
    have a2 := d4 2
    have a3 := d4 3
    have b0 := d5 0
    have b1 := d5 1
    have b2 := d5 2
    have b3 := d5 3
    simp at s0 a0 a1 a2 a3 b0 b1 b2 b3
    clear hno hB q4 q5 d4 d5
    by_cases hlk : j < vs.length
    · have hlst : j < l.st.length := by have := unhide HVL; omega
      have hst := (unhide HLR).stands.at j hlk hlst
      obtain ⟨gs, hgs⟩ : ∃ g, so = some ⟨g, 0, none⟩ := by
        rcases (unhide HLR).sown.2 with ⟨q, q2⟩ | ⟨g, cp, cur, q, _⟩
        · omega
        · simp only [Value.slice.injEq] at q
          exact ⟨g, q.1⟩
      subst hgs
      have fc : ∀ i, i < 8 → wr.cell? ⟨gs, j * 8 + i, none⟩ = (bdC vs[j])[i]? := fun i hi => by
        rw [(unhide HLR).sown.cellAt _ (by omega), bdC_at hlk i hi]
      have f0 := fc 0 (by omega)
      have f1 := fc 1 (by omega)
      have f2 := fc 2 (by omega)
      have f3 := fc 3 (by omega)
      have f4 := fc 4 (by omega)
      have f5 := fc 5 (by omega)
      have f6 := fc 6 (by omega)
      have f7 := fc 7 (by omega)
      simp only [bdC, bvC, List.cons_append, List.nil_append, List.getElem?_cons_zero, List.getElem?_cons_succ, Nat.add_zero] at f0 f1 f2 f3 f4 f5 f6 f7
      rw [hst.2.1] at f2
      have hgz : gs < wr.heap.size := ((unhide HLR).sown.lt gs rfl).2
      have i0 : (0 : Int) ≤ (j : Int) := by omega
      have i1 : (j : Int) < (vs.length : Int) := by omega
      have SV := hide (fun W => sameVarG ⟨vs[j].1.k, vs[j].1.nm, 0, vs[j].1.ao, vs[j].1.n, vs[j].1.cap⟩ ⟨2, ta.text, 0, aao, an, acap⟩ W (sd := 0) rfl rfl)
      have HST := hide hst
      clear fc hst
      go_wp2_with fail
      go_region_held3 (fun w' => w'.cell? ⟨wb, 0, none⟩ = some (.slice (some ⟨gs, 0, none⟩) vs.length sc) ∧ w'.cell? ⟨gs, j * 8, none⟩ = some (.int .i64 vs[j].1.k) ∧ w'.cell? ⟨gs, j * 8 + 1, none⟩ = some (.string vs[j].1.nm) ∧ w'.cell? ⟨gs, j * 8 + 2, none⟩ = some (.int .i64 0) ∧ w'.cell? ⟨gs, j * 8 + 3, none⟩ = some (.slice vs[j].1.ao vs[j].1.n vs[j].1.cap) ∧ w'.cell? ⟨w.heap.size, 0, none⟩ = some (.int .i64 2) ∧ w'.cell? ⟨w.heap.size, 1, none⟩ = some (.string ta.text) ∧ w'.cell? ⟨w.heap.size, 2, none⟩ = some (.int .i64 0) ∧ w'.cell? ⟨w.heap.size, 3, none⟩ = some (.slice aao an acap)) (first | go_keep | (refine ⟨?_, ?_, ?_, ?_, ?_, ?_, ?_, ?_, ?_⟩ <;> exact cell_drew (unhide HB2) (by assumption))) ((go_at_call 106; refine (unhide SV _).mono ?_; rintro e w2 ⟨rfl, hb2⟩; have HB2 := hide hb2; clear hb2))
      have HLR2 := hide (((unhide HLR).below (Below.refl _ _).drew).below (unhide HB2))
      have HBR := hide (((unhide HB).drew).trans ((unhide HB2).mono (show W0.heap.size ≤ wr.drew.heap.size by show W0.heap.size ≤ wr.heap.size; omega)))
      have k0 := cell_drew (unhide HB2) s0
      have k4 := cell_drew (unhide HB2) f4
      have k5 := cell_drew (unhide HB2) f5
      have k6 := cell_drew (unhide HB2) f6
      have k7 := cell_drew (unhide HB2) f7
      have e0 := cell_drew (unhide HB2) b0
      have e1 := cell_drew (unhide HB2) b1
      have e2 := cell_drew (unhide HB2) b2
      have e3 := cell_drew (unhide HB2) b3
      have zr : wr.heap.size ≤ w2.heap.size := (unhide HB2).size
      clear s0 f0 f1 f2 f3 f4 f5 f6 f7 a0 a1 a2 a3 b0 b1 b2 b3 SV
      cases hq : (vs[j].1.nm.toList == ta.text.toList)
      · clear k0 k4 k5 k6 k7 e0 e1 e2 e3
        go_wp2_with fail
        go_roundw
        case rel =>
          refine ⟨j + 1, by omega, by go_num, fun i hi q => ?_, unhide HBR⟩
          rcases (show i < j ∨ i = j by omega) with h | rfl
          · exact unhide HNO i hi h
          · intro e
            rw [← e] at hq
            rw [(unhide HST).1] at hq
            simp at hq
        case measure => simp [intOf]; omega
      · have HMT := hide (show l.meet ta.text.toList tb = Parl.cmpF 8 l.st[j].2 tb l by
          unfold Parl.Lk.meet
          rw [Parl.find_at hlst (unhide HNO) (by rw [← (unhide HST).1]; simpa using hq)])
        have g2 : gs < w2.heap.size := by omega
        have z52 : w.heap.size + 1 < w2.heap.size := by omega
        have CP := hide (fun W (hW : Below w2.heap.size w2 W) => cm_all 8 W wb l (rowsL (some ⟨gs, 0, none⟩) wo) vs[j].2 b l.st[j].2 tb ⟨_, _, _, _, _, _, (unhide HLR2).below hW, rfl⟩ ((((unhide HLR2).stands.at j hlk hlst).2.2).below hW) ((((unhide HRB).below (unhide HB)).below (Below.refl _ _).drew).below (unhide HB2) |>.below hW) (by simpa using hl))
        go_wp2_with fail
        go_region_with (go_at_call 164; refine (unhide CP _ (Below.refl _ _).drew).mono ?_; rintro e w3 ⟨rfl, R3, hl3, hf3⟩; have HL3 := hide hl3; have HF3 := hide hf3; clear hl3 hf3)
        all_goals
          go_wp2_with fail
          go_end0
          refine ⟨rfl, R3, by rw [unhide HMT]; exact unhide HL3, ?_⟩
          exact ((FrL.of_below (unhide HBL)).trans (FrL.of_below (unhide HBR))).trans ((FrL.of_below (Below.refl _ _).drew).trans (unhide HF3))
    · obtain rfl : j = vs.length := by omega
      have HMT := hide (show l.meet ta.text.toList tb = ⟨l.st ++ [(ta.text.toList, tb)], l.wt, l.no⟩ by
        unfold Parl.Lk.meet
        rw [Parl.find_none (fun i hi => unhide HNO i hi (by have := unhide HVL; omega))])
      have hvs : vs.length ≤ 1000000000 := by have := unhide HVL; omega
      have HRT := hide ((unhide HRB).below (unhide HB))
      have HXO := hide (show some wb ≠ (Value.slice so vs.length sc).ownBlock from own_none (fun p q e => by have := (unhide HPA _ (Or.inl ⟨p, q, rfl⟩)).1; omega))
      have fz' : ((wr.alloc (.cells #[.int .i64 2, .string ta.text, .int .i64 0, .slice aao an acap, .int .i64 b.k, .string b.nm, .int .i64 b.num, .slice b.ao b.n b.cap] 132)).drew).frozen? ⟨wb, 0, none⟩ = false := (World.frozen?_alloc_past _ _ _ wz).trans x0
      have bex := hide (show ((wr.alloc (.cells #[.int .i64 2, .string ta.text, .int .i64 0, .slice aao an acap, .int .i64 b.k, .string b.nm, .int .i64 b.num, .slice b.ao b.n b.cap] 132)).drew).cell? ⟨wb, 0, none⟩ = some (.slice so vs.length sc) from (World.cell?_alloc_past _ _ _ wz).trans s0)
      have hxr' : wb < ((wr.alloc (.cells #[.int .i64 2, .string ta.text, .int .i64 0, .slice aao an acap, .int .i64 b.k, .string b.nm, .int .i64 b.num, .slice b.ao b.n b.cap] 132)).drew).heap.size := by simp; omega
      go_wp2_with fail
      go_region_law (refine step_append_lies _ (by rfl) _ _ _ (by rfl) (wb + 1) 132 ti _ 8 112 Tryz.underlying128 hi hzz0 hzz1 hzz2 rfl (by omega) (.slice so vs.length sc) vs.length (vs.flatMap bdC) (by rfl) (((unhide HLR).sown.alloc _).drew) ⟨wr.heap.size, 0, none⟩ 1 1 [.int .i64 2, .string ta.text, .int .i64 0, .slice aao an acap, .int .i64 b.k, .string b.nm, .int .i64 b.num, .slice b.ao b.n b.cap] (by rfl) (by rfl) (World.news_of_block (cs := #[.int .i64 2, .string ta.text, .int .i64 0, .slice aao an acap, .int .i64 b.k, .string b.nm, .int .i64 b.num, .slice b.ao b.n b.cap]) (t := 132) (fr := (0, 0)) (heap_alloc_new wr _)) (by simp [Value.oneCell']) (by omega) (by unfold maxLen; omega) (by omega) (by simp; omega) (wr.heap.size + 1) (by simp) ?_; intro g cap' w1 hown1 hgrow hat hlg; have fx := (hgrow.frozen_far ⟨wb, 0, none⟩ (by simp; omega) (unhide HXO)).trans fz'; have dx := (hgrow.cell_far ⟨wb, 0, none⟩ (by simp; omega) (unhide HXO)).trans (unhide bex); have hxw := Nat.lt_of_lt_of_le hxr' hgrow.size)
      all_goals have HPU := hide ((unhide HLR).push (a := ⟨2, ta.text, 0, aao, an, acap⟩) (b := b) rfl (unhide HRT) hown1 hgrow hat ((FrL.of_below (unhide HBL)).trans (FrL.of_below (unhide HB))))
      all_goals clear hown1 hgrow hat
      all_goals go_wp2_with fail
      all_goals go_end0
      all_goals refine ⟨rfl, ?_⟩
      all_goals rw [unhide HMT]
      all_goals exact unhide HPU
theorem mt_all : ∀ f, MtSaid f
  | 0 => fun _ _ _ _ _ _ _ _ _ ha => ha.elim
  | f + 1 => fun w wb l R a b ta tb h ha hb hf hl hs => by
    have hp : 1 ≤ 3 ^ (f + 1) := Nat.one_le_pow _ _ (by omega)
    unfold Parl.matF
    by_cases ka : ta.kind = 3
    · rw [if_pos ka]
      exact mt_meet w wb l R a b ta tb h ha.1 (hb.le hf) ka (by omega) (by omega)
    · rw [if_neg ka]
      by_cases kb : tb.kind = 3
      · rw [if_pos kb]; exact mt_wait w wb l R a b ta tb h ha.1 hb.1 ka kb (by omega)
      · rw [if_neg kb]
        by_cases hk : Parl.alike ta tb = true
        · rw [if_pos hk]; exact mt_args (mt_all f) w wb l R a b ta tb h ha hb ka kb hk hf hl hs
        · rw [if_neg hk]; exact mt_bad w wb l R a b ta tb h ha.1 hb.1 ka kb (by simpa using hk) (by omega)
end Go.Proofs.YthfjnfcekeknlaaGreatDoor
namespace Go.Proofs.YthfjnfcekeknlaaGreatDoor
open Go.RowKit

/-- What 'meet' is to leave. -/
def PMe (xb : Nat) (o : Option Addr) (ns : List (List UInt8)) (w : World) (e : Ending) (w' : World) : Prop :=
  e = .returned (.tuple #[]) ∧ ∃ cs' us' o' cap', XG w' xb 0 1 106 cs' us' o' cap' ∧ nmsB us' = ns ∧ FrX xb o o' w w'
def MeSaid (f : Nat) : Prop := ∀ (w : World) (xb : Nat) (cs : Array Value) (us : List BV) (o : Option Addr) (cap : Nat) (a : BV) (t : Parl.Tm), XG w xb 0 1 106 cs us o cap → RS 1 f (fun g => g < xb) w a t → us.length + 3 ^ f ≤ 1000000000 →
  Calls Tryz.prog 114 #[.pointer (some ⟨xb, 0, none⟩), .agg #[.int .i64 a.k, .string a.nm, .int .i64 a.num, .slice a.ao a.n a.cap]] w fun e w' => PMe xb o (Parl.namesF f (nmsB us) t) w e w'

set_option maxHeartbeats 2000000 in
set_option maxRecDepth 100000 in
theorem me_var (f : Nat) (w : World) (xb : Nat) (cs : Array Value) (us : List BV) (o : Option Addr) (cap : Nat) (a : BV) (t : Parl.Tm) (h : XG w xb 0 1 106 cs us o cap) (ha : LeafS 1 a t) (ka : t.kind = 3) (hl : us.length ≤ 1000000000) :
    Calls Tryz.prog 114 #[.pointer (some ⟨xb, 0, none⟩), .agg #[.int .i64 a.k, .string a.nm, .int .i64 a.num, .slice a.ao a.n a.cap]] w fun e w' => PMe xb o (Parl.namesF (f + 1) (nmsB us) t) w e w' := by
  obtain ⟨na, ma⟩ := ha.v ka
  have qa : a.k = 2 := by rw [ha.k, ka]; rfl
  have hn : a.n = 0 := by rw [ha.n, ha.lf (by omega)]; rfl
  obtain ⟨ki, nm, num, ao, n, cp⟩ := a
  dsimp only at na ma qa hn ⊢
  subst na ma qa hn
  have HN := hide (show Parl.namesF (f + 1) (nmsB us) t = Parl.addN (nmsB us) t.text.toList by unfold Parl.namesF; rw [if_pos ka])
  have hlt := h.lt
  have hold : ∀ p, o = some p → p.block < w.heap.size := fun p q => (h.own.lt p.block (by rw [q]; rfl)).2
  have HP := hide (placeG _ xb 0 1 106 cs us o cap ⟨2, t.text, 1, ao, 0, cp⟩ (h.below ((Below.refl _ _).alloc (Nat.le_refl _) (.cells #[.int .i64 2, .string t.text, .int .i64 1, .slice ao 0 cp] 109))) rfl hl)
  have HOLD := hide hold
  clear h ha ka hold
  go_enter Tryz.func114, Tryz.ntmps114
  go_wp2_with fail
  refine (unhide HP).mono ?_
  rintro e w2 ⟨cs', us', o', cap', rfl, hxg, -, hnm, hfr⟩
  have q3 := (hfr.block w.heap.size (by simp) (by omega) (fun p q => by have := unhide HOLD p q; omega)).trans (heap_alloc_new w (.cells #[.int .i64 2, .string t.text, .int .i64 1, .slice ao 0 cp] 109))
  have y3 := blkA' q3
  have z3 := blk_lt' q3
  have HX := hide hxg
  have HNM := hide hnm
  have HFR := hide hfr
  clear hxg hnm hfr q3
  go_wp2_with fail
  refine wp_loop_rounds 1 ?_
  rw [rounds_succ]
  go_wp2_with fail
  go_end0
  exact ⟨rfl, cs', us', o', cap', unhide HX, (unhide HNM).trans (unhide HN).symm, (FrX.of_below ((Below.refl _ _).alloc (Nat.le_refl _) _)).trans (unhide HFR)⟩

/-- The loop over the arguments. -/
def LMe (W0 : World) (b3 : Nat) (xb : Nat) (o : Option Addr) (us : List BV) (t : Parl.Tm) (C : Array Value) (f : Nat) (k : Nat) (iv : Value) (wr : World) : Prop :=
  ∃ (j : Nat) (cs' : Array Value) (us' : List BV) (o' : Option Addr) (cap' : Nat), k + j = t.args.length ∧ iv = .int .i64 (j : Int) ∧ XG wr xb 0 1 106 cs' us' o' cap' ∧
    nmsB us' = (t.args.take j).foldl (Parl.namesF f) (nmsB us) ∧ FrX xb o o' W0 wr ∧ wr.heap[b3]? = some (.cells C 109 (0, 0))

set_option maxHeartbeats 4000000 in
set_option maxRecDepth 100000 in
theorem me_args {f : Nat} (IH : MeSaid f) (w : World) (xb : Nat) (cs : Array Value) (us : List BV) (o : Option Addr) (cap : Nat) (a : BV) (t : Parl.Tm) (h : XG w xb 0 1 106 cs us o cap) (hr : RS 1 (f + 1) (fun g => g < xb) w a t) (ka : t.kind ≠ 3) (hl : us.length + 3 ^ (f + 1) ≤ 1000000000) :
    Calls Tryz.prog 114 #[.pointer (some ⟨xb, 0, none⟩), .agg #[.int .i64 a.k, .string a.nm, .int .i64 a.num, .slice a.ao a.n a.cap]] w fun e w' => PMe xb o (Parl.namesF (f + 1) (nmsB us) t) w e w' := by
  have HWF := hide hr.wf
  obtain ⟨ha, hrow⟩ := hr
  have qa : (a.k == 2) = false := by rw [ha.k]; have k2 := ha.ks; rcases k2 with e | e | e <;> first | (exact absurd e ka) | (rw [e]; decide)
  have HN := hide (show Parl.namesF (f + 1) (nmsB us) t = t.args.foldl (Parl.namesF f) (nmsB us) by
    unfold Parl.namesF
    rw [if_neg ka]
    by_cases k4 : t.kind = 4
    · rw [if_pos k4, ha.lf (by omega)]; rfl
    · rw [if_neg k4])
  have h3 := ha.few
  have hn := ha.n
  have hlt := h.lt
  have hpast := h.past
  have hold : ∀ p, o = some p → p.block < w.heap.size := fun p q => (h.own.lt p.block (by rw [q]; rfl)).2
  obtain ⟨ki, nm, num, ao, n, cp⟩ := a
  dsimp only at hn qa hrow ⊢
  subst hn
  have HST := hide (show LMe (w.alloc (.cells #[.int .i64 ki, .string nm, .int .i64 num, .slice ao t.args.length cp] 109)) w.heap.size xb o us t #[.int .i64 ki, .string nm, .int .i64 num, .slice ao t.args.length cp] f t.args.length (.int .i64 0) (w.alloc (.cells #[.int .i64 ki, .string nm, .int .i64 num, .slice ao t.args.length cp] 109)) from
    ⟨0, cs, us, o, cap, by omega, rfl, h.below ((Below.refl _ _).alloc (Nat.le_refl _) _), by simp, FrX.of_below (Below.refl _ _), heap_alloc_new w _⟩)
  have HROW := hide hrow
  have HPA := hide hpast
  have HOLD := hide hold
  have HHL := hide hl
  have HPO := hide (show 3 ^ (f + 1) = 3 * 3 ^ f by rw [Nat.pow_succ, Nat.mul_comm])
  have I := hide IH
  clear h ha ka hrow hpast hold hl IH
  go_enter Tryz.func114, Tryz.ntmps114
  go_wp2_with fail
  go_loopg [4] t.args.length (fun k iv wr => LMe (w.alloc (.cells #[.int .i64 ki, .string nm, .int .i64 num, .slice ao t.args.length cp] 109)) w.heap.size xb o us t #[.int .i64 ki, .string nm, .int .i64 num, .slice ao t.args.length cp] f k iv wr)
  case atStart => exact unhide HST
  case round =>
    clear HST
    obtain ⟨j, cs1, us1, o1, cap1, hkj, rfl, hxg, hnm, hfr, hbx⟩ := hrel
    have y3 := blkA' hbx 3
    have z3 := blk_lt' hbx
    simp at y3
    have HXG := hide hxg
    have HNM := hide hnm
    have HFR := hide hfr
    have HBX := hide hbx
    have HAP := hide (show ∀ p, o1 = some p → w.heap.size ≠ p.block from fun p q => by
      rcases hfr.row p q with ⟨r, hr, hb⟩ | hb
      · have := unhide HOLD r hr; omega
      · simp at hb; omega)
    by_cases hlt' : j < t.args.length
    · obtain ⟨g, vs, ca, hao, hga, hca, hta, haa⟩ := unhide HROW (fun q => by rw [q] at hlt'; simp at hlt')
      subst hao
      have hjv : j < vs.length := by have := haa.length; omega
      have BW : Below xb w wr := ((Below.refl _ _).alloc (by omega) _).trans (hfr.below (unhide HPA) (by simp; omega))
      have hcw : wr.heap[g]? = some (.cells ca 109 (0, 0)) := (BW.block g hga).trans hca
      have fc : ∀ i, i < 4 → wr.cell? ⟨g, j * 4 + i, none⟩ = (bvC vs[j])[i]? := fun i hi => by
        rw [blkA' hcw, ← Array.getElem?_toList, ← bvC_at hjv i hi, ← hta, List.getElem?_take_of_lt (by omega)]
      have f0 := fc 0 (by omega)
      have f1 := fc 1 (by omega)
      have f2 := fc 2 (by omega)
      have f3 := fc 3 (by omega)
      simp only [bvC, List.getElem?_cons_zero, List.getElem?_cons_succ, Nat.add_zero] at f0 f1 f2 f3
      have hlen : us1.length + 3 ^ f ≤ 1000000000 := by
        have q1 := Parl.namesK_fold f (t.args.take j) (nmsB us) (fun u hu => (unhide HWF).2.2.2 u (List.mem_of_mem_take hu))
        rw [← hnm] at q1
        simp only [nmsB, List.length_map] at q1
        have q2 : (t.args.take j).length ≤ 2 := by simp; omega
        have q3 := Nat.mul_le_mul_right (3 ^ f) q2
        have q4 := unhide HHL
        have q5 := unhide HPO
        omega
      have IC := hide (unhide I wr xb cs1 us1 o1 cap1 vs[j] t.args[j] hxg ((haa.at j hjv hlt').blw BW) hlen)
      have HTK := hide (show (t.args.take (j + 1)).foldl (Parl.namesF f) (nmsB us) = Parl.namesF f ((t.args.take j).foldl (Parl.namesF f) (nmsB us)) t.args[j] by rw [List.take_add_one, List.getElem?_eq_getElem hlt', List.foldl_append]; rfl)
      have hgw : g < wr.heap.size := blk_lt' hcw
      have i0 : (0 : Int) ≤ (j : Int) := by omega
      have i1 : (j : Int) < (t.args.length : Int) := by omega
      have HLT := hide hlt'
      have HKJ := hide hkj
      have hj3 : j ≤ 3 := by omega
      clear hxg hnm hfr hbx hca hta haa BW hcw fc hlen hkj
      go_wp2_with fail
      refine (unhide IC).mono ?_
      rintro e w2 ⟨rfl, cs2, us2, o2, cap2, hx2, hn2, hf2⟩
      have HX2 := hide hx2
      have HN2 := hide hn2
      have HBX2 := hide ((hf2.block w.heap.size z3 (by omega) (unhide HAP)).trans (unhide HBX))
      have HF2 := hide ((unhide HFR).trans hf2)
      clear hx2 hn2 hf2 f0 f1 f2 f3 y3 IC
      go_wp2_with fail
      go_roundg (gk - 1)
      case measure => have := unhide HKJ; have := unhide HLT; omega
      case rel => exact ⟨j + 1, cs2, us2, o2, cap2, by have := unhide HKJ; have := unhide HLT; omega, by go_num, unhide HX2, by rw [unhide HTK, ← unhide HNM]; exact unhide HN2, unhide HF2, unhide HBX2⟩
    · obtain rfl : j = t.args.length := by omega
      rw [List.take_length] at hnm
      have HNM2 := hide hnm
      clear hxg hnm hfr hbx hkj
      go_wp2_with fail
      go_end0
      exact ⟨rfl, cs1, us1, o1, cap1, unhide HXG, (unhide HNM2).trans (unhide HN).symm, (FrX.of_below ((Below.refl _ _).alloc (Nat.le_refl _) _)).trans (unhide HFR)⟩
theorem me_all : ∀ f, MeSaid f
  | 0 => fun _ _ _ _ _ _ _ _ _ hr => hr.elim
  | f + 1 => fun w xb cs us o cap a t h hr hl => by
    by_cases ka : t.kind = 3
    · exact me_var f w xb cs us o cap a t h hr.1 ka (Nat.le_trans (Nat.le_add_right _ _) hl)
    · exact me_args (me_all f) w xb cs us o cap a t h hr ka hl
end Go.Proofs.YthfjnfcekeknlaaGreatDoor
