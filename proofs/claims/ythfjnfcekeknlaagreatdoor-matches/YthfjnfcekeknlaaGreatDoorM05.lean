import Derived.Test.YthfjnfcekeknlaaGreatDoorM04
namespace Go.Proofs.YthfjnfcekeknlaaGreatDoor
open Go.RowKit

theorem alikeP_iff {D : List Nd} {V : List Nat} {N M : List (List UInt8)} {f n : Nat} {a : AV} {p t : Parl.Tm} {d : Nd} (ha : LeafA M a p) (hb : RN D V N (f + 1) n t) (wb : Parl.wfK (f + 1) t) (ka : p.kind ≠ 3) (kb : t.kind ≠ 3) (eb : D[n]? = some d) :
    Parl.alike p t = true ↔ (a.k = d.k ∧ labV a = d.val ∧ a.tx = d.tx ∧ a.n = d.cnt) := by
  obtain ⟨h1, h2, h3, h4, h5, h6, h7, h8⟩ := ha
  obtain ⟨e, k1, k2, k3, k4, k5, k6, k7⟩ := hb
  rw [eb] at k1
  cases k1
  have hk : a.k = d.k ↔ p.kind = t.kind := by
    rw [h1, k2]
    exact ⟨fun q => ak_inj h6 wb.1 q, fun q => by rw [q]⟩
  have l2 : p.kind = 2 → labV a = 0 := fun e => by
    unfold labV
    rw [if_neg]
    rw [h1, e]
    decide
  have l4 : p.kind = 4 → labV a = a.val := fun e => by
    unfold labV
    rw [if_pos]
    rw [h1, e]
    decide
  rw [hk]
  unfold Parl.alike
  simp only [Bool.and_eq_true, beq_iff_eq]
  constructor
  · rintro ⟨q1, q2, q3⟩
    rcases h6 with e | e | e
    · rw [if_neg (by omega)] at q2
      have q2 := eq_of_beq q2
      have r2 := k5 (q1 ▸ e)
      exact ⟨q1, by rw [l2 e, r2.1], by rw [h5 e, r2.2]; exact ba_ext q2, by rw [h2, k6 kb, q3]⟩
    · exact absurd e ka
    · rw [if_pos e] at q2
      have q2 := eq_of_beq q2
      have r1 := h4 e
      have r2 := k4 (q1 ▸ e)
      exact ⟨q1, by rw [l4 e, r1.1, r2.1, q2], by rw [r1.2.2, r2.2], by rw [h2, k6 kb, q3]⟩
  · rintro ⟨q1, q2, q3, q4⟩
    rw [h2, k6 kb] at q4
    refine ⟨q1, ?_, q4⟩
    rcases h6 with e | e | e
    · rw [if_neg (by omega)]
      have r2 := k5 (q1 ▸ e)
      rw [h5 e, r2.2] at q3
      rw [q3]
      simp
    · exact absurd e ka
    · rw [if_pos e]
      have r1 := h4 e
      have r2 := k4 (q1 ▸ e)
      rw [l4 e, r1.1, r2.1] at q2
      simp only [beq_iff_eq]
      omega
def MatSaid (f : Nat) : Prop := ∀ (u w : World) (lb sb cb : Nat) (D : List Nd) (V : List Nat) (R0 R P : Nat → Prop) (N M : List (List UInt8)) (S : List Int) (T : List Nat) (a : AV) (n : Nat) (p t : Parl.Tm) (l : Parl.Lk), GrU u lb sb cb D V R0 N → Below u.heap.size u w → LoA w lb S T l.no R → StA D V N M S l.st → S.length ≤ M.length → M.Nodup → M.length ≤ 100000 → WtA V N T l.wt → RA f M P u a p → RN D V N f n t → Parl.wfK f p → Parl.wfK f t → f ≤ 8 → T.length + 13122 * 3 ^ f + 13122 ≤ 100000000 →
  Calls Tryz.prog 109 #[.pointer (some ⟨lb, 0, none⟩), .pointer (some ⟨sb, 0, none⟩), .agg #[.int .i64 a.k, .int .i64 a.val, .string a.tx, .slice a.ao a.n a.cap], .int .i64 (n : Int)] w fun e w' => PMt lb D V N M (Parl.matF f p t l) R w e w'

set_option maxHeartbeats 4000000 in
set_option maxRecDepth 100000 in
theorem matA_meet (f : Nat) (u w : World) (lb sb cb : Nat) (D : List Nd) (V : List Nat) (R0 R : Nat → Prop) (N M : List (List UInt8)) (S : List Int) (T : List Nat) (a : AV) (n : Nat) (p t : Parl.Tm) (l : Parl.Lk) (hG : GrU u lb sb cb D V R0 N) (hu : Below u.heap.size u w) (h : LoA w lb S T l.no R) (hs : StA D V N M S l.st) (hS : S.length ≤ M.length) (hM : M.Nodup) (hML : M.length ≤ 100000) (ht : WtA V N T l.wt) (ha : LeafA M a p) (hn : RN D V N (f + 1) n t) (hw : Parl.wfK (f + 1) t) (hf : f + 1 ≤ 8) (hl : T.length + 13122 * 3 ^ (f + 1) + 13122 ≤ 100000000) (kp : p.kind = 3) :
    Calls Tryz.prog 109 #[.pointer (some ⟨lb, 0, none⟩), .pointer (some ⟨sb, 0, none⟩), .agg #[.int .i64 a.k, .int .i64 a.val, .string a.tx, .slice a.ao a.n a.cap], .int .i64 (n : Int)] w fun e w' => PMt lb D V N M (Parl.matF (f + 1) p t l) R w e w' := by
  obtain ⟨h1, h2, h3, h4, h5, h6, h7, h8⟩ := ha
  obtain ⟨h9, h10⟩ := h3 kp
  obtain ⟨k, val, tx, ao, m, cp⟩ := a
  dsimp only at h1 h2 h10 ⊢
  have e1 : ak p.kind = 1 := by rw [kp]; rfl
  rw [e1] at h1
  subst h1 h10
  have hx : M[M.idxOf p.text.toList]? = some p.text.toList := by
    rw [List.getElem?_eq_getElem (List.idxOf_lt_length_of_mem h9), List.getElem_idxOf]
  have HS := hide (show Parl.matF (f + 1) p t l = l.meet p.text.toList t by unfold Parl.matF; rw [if_pos kp])
  have HB := hide ((Below.refl w.heap.size w).alloc (Nat.le_refl _) (.cells #[.int .i64 1, .int .i64 (M.idxOf p.text.toList : Int), .string tx, .slice ao m cp] 76))
  have HM := hide (meetA_any u (w.alloc (.cells #[.int .i64 1, .int .i64 (M.idxOf p.text.toList : Int), .string tx, .slice ao m cp] 76)) lb sb cb D V R0 R N M S T (M.idxOf p.text.toList) n p.text.toList t l hG (hu.trans ((unhide HB).mono hu.size)) (h.below (unhide HB)) hs hS hM hML ht hx (hn.le hf) (hw.le hf) (by omega))
  clear hG hu h hs hS hM ht hn hw hl h2 h3 h4 h5 h6 h7 h8 h9 hx e1 kp
  generalize M.idxOf p.text.toList = ix at *
  go_enter Tryz.func109, Tryz.ntmps109
  go_wp2_with fail
  refine (unhide HM).mono ?_
  rintro e w2 ⟨rfl, S2, T2, R2, h2, s2, l2, t2, fr2⟩
  have H2 := hide h2
  have HS2 := hide s2
  have HL2 := hide l2
  have HT2 := hide t2
  have HF2 := hide fr2
  clear h2 s2 l2 t2 fr2
  go_wp2_with fail
  go_end0
  rw [unhide HS]
  exact ⟨rfl, S2, T2, R2, unhide H2, unhide HS2, unhide HL2, unhide HT2, (FrG.of_below (unhide HB)).trans (unhide HF2)⟩

set_option maxHeartbeats 4000000 in
set_option maxRecDepth 100000 in
theorem matA_wait (f : Nat) (u w : World) (lb sb cb : Nat) (D : List Nd) (V : List Nat) (R0 R : Nat → Prop) (N M : List (List UInt8)) (S : List Int) (T : List Nat) (a : AV) (n : Nat) (p t : Parl.Tm) (l : Parl.Lk) (hG : GrU u lb sb cb D V R0 N) (hu : Below u.heap.size u w) (h : LoA w lb S T l.no R) (hs : StA D V N M S l.st) (hS : S.length ≤ M.length) (_hM : M.Nodup) (_hML : M.length ≤ 100000) (ht : WtA V N T l.wt) (ha : LeafA M a p) (hn : RN D V N (f + 1) n t) (_hw : Parl.wfK (f + 1) t) (_hf : f + 1 ≤ 8) (hl : T.length + 13122 * 3 ^ (f + 1) + 13122 ≤ 100000000) (kp : p.kind ≠ 3) (kt : t.kind = 3) :
    Calls Tryz.prog 109 #[.pointer (some ⟨lb, 0, none⟩), .pointer (some ⟨sb, 0, none⟩), .agg #[.int .i64 a.k, .int .i64 a.val, .string a.tx, .slice a.ao a.n a.cap], .int .i64 (n : Int)] w fun e w' => PMt lb D V N M (Parl.matF (f + 1) p t l) R w e w' := by
  obtain ⟨k, val, tx, ao, m, cp⟩ := a
  have hk : (k == 1) = false := by
    have h1 := ha.1
    dsimp only at h1
    rw [h1]
    rcases ha.2.2.2.2.2.1 with e | e | e <;> first | exact absurd e kp | (rw [e]; decide)
  have HB := hide ((Below.refl w.heap.size w).alloc (Nat.le_refl _) (.cells #[.int .i64 k, .int .i64 val, .string tx, .slice ao m cp] 76))
  have HU := hide (hu.trans ((unhide HB).mono hu.size))
  have HU0 := hide hu
  have HG := hide hG
  have H := hide h
  have HST := hide hs
  have HSL := hide hS
  have HT := hide ht
  obtain ⟨⟨kb, vb, xb, cb', ob, pb, gb⟩, eb, jb, nb⟩ := hn.node
  dsimp only at jb
  have HL := hide (label_at _ sb cb D V R0 n _ (hG.at (unhide HU)) eb)
  dsimp only at HL
  have HN := hide (nd_mem hG.len (nb kt))
  have HF := hide (fun w (hu : Below u.heap.size u w) => front_any w sb cb D V R0 n (hG.at hu) hn.lt)
  have HS := hide (show Parl.matF (f + 1) p t l = l.wait t.text.toList by unfold Parl.matF; rw [if_neg kp, if_pos kt])
  rw [kt] at jb
  obtain rfl : kb = 1 := jb
  have HEB := hide eb
  clear hG hu h hs hS _hM ht hn _hw ha eb nb kp kt
  go_enter Tryz.func109, Tryz.ntmps109
  go_wp2_with fail
  refine (unhide HL).mono ?_
  rintro e w3 ⟨rfl, hb3⟩
  have f0 := (hb3.cell (p := ⟨w.heap.size, 0, none⟩) (by simp)).trans (blkA (heap_alloc_new w _) 0)
  have f1 := (hb3.cell (p := ⟨w.heap.size, 1, none⟩) (by simp)).trans (blkA (heap_alloc_new w _) 1)
  have f2 := (hb3.cell (p := ⟨w.heap.size, 2, none⟩) (by simp)).trans (blkA (heap_alloc_new w _) 2)
  have f3 := (hb3.cell (p := ⟨w.heap.size, 3, none⟩) (by simp)).trans (blkA (heap_alloc_new w _) 3)
  simp only [List.getElem?_toArray, List.getElem?_cons_zero, List.getElem?_cons_succ] at f0 f1 f2 f3
  have z3 := hb3.size
  rw [World.size_alloc] at z3
  have z5 : w.heap.size < w3.heap.size := by omega
  have HB3 := hide ((unhide HB).trans (hb3.mono (by rw [World.size_alloc]; omega)))
  have HU3 := hide ((unhide HU).trans (hb3.mono (unhide HU).size))
  have HBX3 := hide ((hb3.block w.heap.size (by simp)).trans (heap_alloc_new w _))
  clear hb3
  go_wp2_with fail
  have HB4 := hide ((unhide HB3).alloc (by omega) (.cells #[.int .i64 1, .int .i64 vb, .string xb, .int .i64 (cb' : Int)] 177))
  have HU4 := hide ((unhide HU3).alloc (Nat.le_trans (unhide HU0).size (by omega)) (.cells #[.int .i64 1, .int .i64 vb, .string xb, .int .i64 (cb' : Int)] 177))
  refine (awaitA_any _ lb sb cb D V R0 R S T l.no n _ ((unhide HG).at (unhide HU4)) (unhide HEB) ((unhide H).below (unhide HB4)) (by omega)).mono ?_
  rintro e w6 ⟨rfl, R6, h6, fr6⟩
  have H6 := hide h6
  have HF6 := hide fr6
  clear h6 fr6
  go_wp2_with fail
  go_end0
  rw [unhide HS]
  exact ⟨rfl, S, _, R6, unhide H6, unhide HST, unhide HSL, (unhide HT).add (unhide HG).vn.one (unhide HN), (FrG.of_below (unhide HB4)).trans (unhide HF6)⟩

theorem lt_new (w : World) (X : Obj) : w.heap.size < ((w.alloc X).drew).heap.size := by
  show w.heap.size < (w.alloc X).heap.size
  simp

set_option maxHeartbeats 4000000 in
set_option maxRecDepth 100000 in
theorem matA_bad (f : Nat) (u w : World) (lb sb cb : Nat) (D : List Nd) (V : List Nat) (R0 R : Nat → Prop) (N M : List (List UInt8)) (S : List Int) (T : List Nat) (a : AV) (n : Nat) (p t : Parl.Tm) (l : Parl.Lk) (hG : GrU u lb sb cb D V R0 N) (hu : Below u.heap.size u w) (h : LoA w lb S T l.no R) (hs : StA D V N M S l.st) (hS : S.length ≤ M.length) (_hM : M.Nodup) (_hML : M.length ≤ 100000) (ht : WtA V N T l.wt) (ha : LeafA M a p) (hn : RN D V N (f + 1) n t) (hw : Parl.wfK (f + 1) t) (_hf : f + 1 ≤ 8) (_hl : T.length + 13122 * 3 ^ (f + 1) + 13122 ≤ 100000000) (kp : p.kind ≠ 3) (kt : t.kind ≠ 3) (hk2 : Parl.alike p t = false) :
    Calls Tryz.prog 109 #[.pointer (some ⟨lb, 0, none⟩), .pointer (some ⟨sb, 0, none⟩), .agg #[.int .i64 a.k, .int .i64 a.val, .string a.tx, .slice a.ao a.n a.cap], .int .i64 (n : Int)] w fun e w' => PMt lb D V N M (Parl.matF (f + 1) p t l) R w e w' := by
  obtain ⟨k, val, tx, ao, m, cp⟩ := a
  have hk : (k == 1) = false := by
    have h1 := ha.1
    dsimp only at h1
    rw [h1]
    rcases ha.2.2.2.2.2.1 with e | e | e <;> first | exact absurd e kp | (rw [e]; decide)
  have HB := hide ((Below.refl w.heap.size w).alloc (Nat.le_refl _) (.cells #[.int .i64 k, .int .i64 val, .string tx, .slice ao m cp] 76))
  have HU := hide (hu.trans ((unhide HB).mono hu.size))
  have HU0 := hide hu
  have HG := hide hG
  have H := hide h
  have HST := hide hs
  have HSL := hide hS
  have HT := hide ht
  obtain ⟨⟨kb, vb, xb, cb', ob, pb, gb⟩, eb, jb, nb⟩ := hn.node
  dsimp only at jb
  have HL := hide (label_at _ sb cb D V R0 n _ (hG.at (unhide HU)) eb)
  dsimp only at HL
  have HS := hide (show Parl.matF (f + 1) p t l = l.bad by unfold Parl.matF; rw [if_neg kp, if_neg kt, if_neg (by rw [hk2]; decide)])
  have t2 : (kb == 1) = false := by rw [jb]; rcases hw.1 with e | e | e <;> first | exact absurd e kt | (rw [e]; decide)
  have hlab := fun w => lab_any w ⟨k, val, tx, ao, m, cp⟩
  have t3 : ¬ (k = kb ∧ labV ⟨k, val, tx, ao, m, cp⟩ = vb ∧ tx = xb ∧ m = cb') := fun q => by
    rw [(alikeP_iff ha hn hw kp kt eb).2 q] at hk2
    cases hk2
  generalize labV ⟨k, val, tx, ao, m, cp⟩ = lv at *
  dsimp only at hlab
  have LA := hide hlab
  have hc : (¬ k = kb) ∨ (k = kb ∧ ¬ lv = vb) ∨ (k = kb ∧ lv = vb ∧ ¬ tx.toList = xb.toList) ∨ (k = kb ∧ lv = vb ∧ tx = xb ∧ ¬ (m : Int) = (cb' : Int)) := by
    by_cases q1 : k = kb
    · by_cases q2 : lv = vb
      · by_cases q3 : tx = xb
        · exact Or.inr (Or.inr (Or.inr ⟨q1, q2, q3, fun q4 => t3 ⟨q1, q2, q3, by omega⟩⟩))
        · exact Or.inr (Or.inr (Or.inl ⟨q1, q2, fun q => q3 (ba_ext q)⟩))
      · exact Or.inr (Or.inl ⟨q1, q2⟩)
    · exact Or.inl q1
  clear hG hu h hs hS _hM ht hn hw ha eb nb kp kt jb hk2 t3
  rcases hc with hc | ⟨rfl, hc⟩ | ⟨rfl, rfl, hc⟩ | ⟨rfl, rfl, rfl, hc⟩
  all_goals
    clear hlab
    go_enter Tryz.func109, Tryz.ntmps109
    go_wp2_with fail
    refine (unhide HL).mono ?_
    rintro e w3 ⟨rfl, hb3⟩
    have f0 := (hb3.cell (p := ⟨w.heap.size, 0, none⟩) (by simp)).trans (blkA (heap_alloc_new w _) 0)
    have f1 := (hb3.cell (p := ⟨w.heap.size, 1, none⟩) (by simp)).trans (blkA (heap_alloc_new w _) 1)
    have f2 := (hb3.cell (p := ⟨w.heap.size, 2, none⟩) (by simp)).trans (blkA (heap_alloc_new w _) 2)
    have f3 := (hb3.cell (p := ⟨w.heap.size, 3, none⟩) (by simp)).trans (blkA (heap_alloc_new w _) 3)
    simp only [List.getElem?_toArray, List.getElem?_cons_zero, List.getElem?_cons_succ] at f0 f1 f2 f3
    have z3 := hb3.size
    rw [World.size_alloc] at z3
    have z5 : w.heap.size < w3.heap.size := by omega
    have HB3 := hide ((unhide HB).trans (hb3.mono (by rw [World.size_alloc]; omega)))
    have HU3 := hide ((unhide HU).trans (hb3.mono (unhide HU).size))
    have HBX3 := hide ((hb3.block w.heap.size (by simp)).trans (heap_alloc_new w _))
    clear hb3
    go_wp2_with fail
    go_region_with (go_at_call 95; refine (unhide LA _).mono ?_; rintro e w5 ⟨rfl, hb5⟩; have g0 := (hb5.cell (p := ⟨w3.heap.size, 0, none⟩) (lt_new w3 _)).trans (blkA (heap_alloc_new w3 _) 0); have g1 := (hb5.cell (p := ⟨w3.heap.size, 1, none⟩) (lt_new w3 _)).trans (blkA (heap_alloc_new w3 _) 1); have g2 := (hb5.cell (p := ⟨w3.heap.size, 2, none⟩) (lt_new w3 _)).trans (blkA (heap_alloc_new w3 _) 2); have g3 := (hb5.cell (p := ⟨w3.heap.size, 3, none⟩) (lt_new w3 _)).trans (blkA (heap_alloc_new w3 _) 3); simp only [List.getElem?_toArray, List.getElem?_cons_zero, List.getElem?_cons_succ] at g0 g1 g2 g3; have HB5 := hide (((unhide HB3).alloc (by omega) _).trans ((((Below.refl _ _).drew).trans hb5).mono (Nat.le_trans (by omega) (Nat.le_of_lt (lt_new w3 _))))); clear hb5)
    all_goals
      obtain ⟨so, sc, wo, wc, hlo, rfl⟩ := (unhide H).below (unhide HB5)
      have s2 := blkA hlo.blk 2
      have sf := blkX hlo.blk 2
      have sz := blk_lt hlo.blk
      simp only [List.getElem?_toArray, List.getElem?_cons_zero, List.getElem?_cons_succ] at s2
      have HLO := hide hlo
      clear hlo
      go_wp2_with fail
      go_end0
      rw [unhide HS]
      exact ⟨rfl, S, T, _, ⟨so, sc, wo, wc, (unhide HLO).bad.1, rfl⟩, unhide HST, unhide HSL, unhide HT, (FrG.of_below (unhide HB5)).trans (unhide HLO).bad.2⟩

end Go.Proofs.YthfjnfcekeknlaaGreatDoor
