import Derived.Test.YthfjnfcekeknlaaDoorF12
namespace Go.Proofs.YthfjnfcekeknlaaDoor
open Go.RowKit

theorem alikeP_iff {D : List Nd} {V : List Nat} {N M : List (List UInt8)} {f n : Nat} {a : AV} {p t : Parl.Tm} {d : Nd} (ha : LeafA M a p) (hb : RN D V N (f + 1) n t) (wb : Parl.wfK (f + 1) t) (ka : p.kind ≠ 3) (kb : t.kind ≠ 3) (eb : D[n]? = some d) :
    Parl.alike p t = true ↔ (a.k = d.k ∧ labV a = d.val ∧ a.tx = d.tx ∧ a.n = d.cnt) := by
  obtain ⟨h1, h2, h3, h4, h5, h6, h7, h8⟩ := ha
  obtain ⟨e, k1, k2, k3, k4, k5, k6, k7⟩ := hb
  rw [eb] at k1
  cases k1
  have hk : a.k = d.k ↔ p.kind = t.kind := by
    rw [h1, k2]
    exact ⟨fun q => ak_inj h6 wb.1 q, fun q => by rw [q]⟩
  have l2 : p.kind = 2 → labV a = 0 := fun e => by
    unfold labV
    rw [if_neg]
    rw [h1, e]
    decide
  have l4 : p.kind = 4 → labV a = a.val := fun e => by
    unfold labV
    rw [if_pos]
    rw [h1, e]
    decide
  rw [hk]
  unfold Parl.alike
  simp only [Bool.and_eq_true, beq_iff_eq]
  constructor
  · rintro ⟨q1, q2, q3⟩
    rcases h6 with e | e | e
    · rw [if_neg (by omega)] at q2
      have q2 := eq_of_beq q2
      have r2 := k5 (q1 ▸ e)
      exact ⟨q1, by rw [l2 e, r2.1], by rw [h5 e, r2.2]; exact ba_ext q2, by rw [h2, k6 kb, q3]⟩
    · exact absurd e ka
    · rw [if_pos e] at q2
      have q2 := eq_of_beq q2
      have r1 := h4 e
      have r2 := k4 (q1 ▸ e)
      exact ⟨q1, by rw [l4 e, r1.1, r2.1, q2], by rw [r1.2.2, r2.2], by rw [h2, k6 kb, q3]⟩
  · rintro ⟨q1, q2, q3, q4⟩
    rw [h2, k6 kb] at q4
    refine ⟨q1, ?_, q4⟩
    rcases h6 with e | e | e
    · rw [if_neg (by omega)]
      have r2 := k5 (q1 ▸ e)
      rw [h5 e, r2.2] at q3
      rw [q3]
      simp
    · exact absurd e ka
    · rw [if_pos e]
      have r1 := h4 e
      have r2 := k4 (q1 ▸ e)
      rw [l4 e, r1.1, r2.1] at q2
      simp only [beq_iff_eq]
      omega
def MatSaid (f : Nat) : Prop := ∀ (u w : World) (lb sb cb : Nat) (D : List Nd) (V : List Nat) (R0 R P : Nat → Prop) (N M : List (List UInt8)) (S : List Int) (T : List Nat) (a : AV) (n : Nat) (p t : Parl.Tm) (l : Parl.Lk), GrU u lb sb cb D V R0 N → Below u.heap.size u w → LoA w lb S T l.no R → StA D V N M S l.st → S.length ≤ M.length → M.Nodup → M.length ≤ 100000 → WtA V N T l.wt → RA f M P u a p → RN D V N f n t → Parl.wfK f p → Parl.wfK f t → f ≤ 8 → T.length + 13122 * 3 ^ f + 13122 ≤ 100000000 →
  Calls Tryd.prog 30 #[.pointer (some ⟨lb, 0, none⟩), .pointer (some ⟨sb, 0, none⟩), .agg #[.int .i64 a.k, .int .i64 a.val, .string a.tx, .slice a.ao a.n a.cap], .int .i64 (n : Int)] w fun e w' => PMt lb D V N M (Parl.matF f p t l) R w e w'

set_option maxHeartbeats 4000000 in
set_option maxRecDepth 100000 in
theorem matA_meet (f : Nat) (u w : World) (lb sb cb : Nat) (D : List Nd) (V : List Nat) (R0 R : Nat → Prop) (N M : List (List UInt8)) (S : List Int) (T : List Nat) (a : AV) (n : Nat) (p t : Parl.Tm) (l : Parl.Lk) (hG : GrU u lb sb cb D V R0 N) (hu : Below u.heap.size u w) (h : LoA w lb S T l.no R) (hs : StA D V N M S l.st) (hS : S.length ≤ M.length) (hM : M.Nodup) (hML : M.length ≤ 100000) (ht : WtA V N T l.wt) (ha : LeafA M a p) (hn : RN D V N (f + 1) n t) (hw : Parl.wfK (f + 1) t) (hf : f + 1 ≤ 8) (hl : T.length + 13122 * 3 ^ (f + 1) + 13122 ≤ 100000000) (kp : p.kind = 3) :
    Calls Tryd.prog 30 #[.pointer (some ⟨lb, 0, none⟩), .pointer (some ⟨sb, 0, none⟩), .agg #[.int .i64 a.k, .int .i64 a.val, .string a.tx, .slice a.ao a.n a.cap], .int .i64 (n : Int)] w fun e w' => PMt lb D V N M (Parl.matF (f + 1) p t l) R w e w' := by
  obtain ⟨h1, h2, h3, h4, h5, h6, h7, h8⟩ := ha
  obtain ⟨h9, h10⟩ := h3 kp
  obtain ⟨k, val, tx, ao, m, cp⟩ := a
  dsimp only at h1 h2 h10 ⊢
  have e1 : ak p.kind = 1 := by rw [kp]; rfl
  rw [e1] at h1
  subst h1 h10
  have hx : M[M.idxOf p.text.toList]? = some p.text.toList := by
    rw [List.getElem?_eq_getElem (List.idxOf_lt_length_of_mem h9), List.getElem_idxOf]
  have HS := hide (show Parl.matF (f + 1) p t l = l.meet p.text.toList t by unfold Parl.matF; rw [if_pos kp])
  have HB := hide ((Below.refl w.heap.size w).alloc (Nat.le_refl _) (.cells #[.int .i64 1, .int .i64 (M.idxOf p.text.toList : Int), .string tx, .slice ao m cp] 52))
  have HM := hide (meetA_any u (w.alloc (.cells #[.int .i64 1, .int .i64 (M.idxOf p.text.toList : Int), .string tx, .slice ao m cp] 52)) lb sb cb D V R0 R N M S T (M.idxOf p.text.toList) n p.text.toList t l hG (hu.trans ((unhide HB).mono hu.size)) (h.below (unhide HB)) hs hS hM hML ht hx (hn.le hf) (hw.le hf) (by omega))
  clear hG hu h hs hS hM ht hn hw hl h2 h3 h4 h5 h6 h7 h8 h9 hx e1 kp
  generalize M.idxOf p.text.toList = ix at *
  go_enter Tryd.func30, Tryd.ntmps30
  go_wp2_with fail
  refine (unhide HM).mono ?_
  rintro e w2 ⟨rfl, S2, T2, R2, h2, s2, l2, t2, fr2⟩
  have H2 := hide h2
  have HS2 := hide s2
  have HL2 := hide l2
  have HT2 := hide t2
  have HF2 := hide fr2
  clear h2 s2 l2 t2 fr2
  go_wp2_with fail
  go_end0
  rw [unhide HS]
  exact ⟨rfl, S2, T2, R2, unhide H2, unhide HS2, unhide HL2, unhide HT2, (FrG.of_below (unhide HB)).trans (unhide HF2)⟩

set_option maxHeartbeats 4000000 in
set_option maxRecDepth 100000 in
theorem matA_wait (f : Nat) (u w : World) (lb sb cb : Nat) (D : List Nd) (V : List Nat) (R0 R : Nat → Prop) (N M : List (List UInt8)) (S : List Int) (T : List Nat) (a : AV) (n : Nat) (p t : Parl.Tm) (l : Parl.Lk) (hG : GrU u lb sb cb D V R0 N) (hu : Below u.heap.size u w) (h : LoA w lb S T l.no R) (hs : StA D V N M S l.st) (hS : S.length ≤ M.length) (_hM : M.Nodup) (_hML : M.length ≤ 100000) (ht : WtA V N T l.wt) (ha : LeafA M a p) (hn : RN D V N (f + 1) n t) (_hw : Parl.wfK (f + 1) t) (_hf : f + 1 ≤ 8) (hl : T.length + 13122 * 3 ^ (f + 1) + 13122 ≤ 100000000) (kp : p.kind ≠ 3) (kt : t.kind = 3) :
    Calls Tryd.prog 30 #[.pointer (some ⟨lb, 0, none⟩), .pointer (some ⟨sb, 0, none⟩), .agg #[.int .i64 a.k, .int .i64 a.val, .string a.tx, .slice a.ao a.n a.cap], .int .i64 (n : Int)] w fun e w' => PMt lb D V N M (Parl.matF (f + 1) p t l) R w e w' := by
  obtain ⟨k, val, tx, ao, m, cp⟩ := a
  have hk : (k == 1) = false := by
    have h1 := ha.1
    dsimp only at h1
    rw [h1]
    rcases ha.2.2.2.2.2.1 with e | e | e <;> first | exact absurd e kp | (rw [e]; decide)
  have HB := hide ((Below.refl w.heap.size w).alloc (Nat.le_refl _) (.cells #[.int .i64 k, .int .i64 val, .string tx, .slice ao m cp] 52))
  have HU := hide (hu.trans ((unhide HB).mono hu.size))
  have HU0 := hide hu
  have HG := hide hG
  have H := hide h
  have HST := hide hs
  have HSL := hide hS
  have HT := hide ht
  obtain ⟨⟨kb, vb, xb, cb', ob, pb, gb⟩, eb, jb, nb⟩ := hn.node
  dsimp only at jb
  have HL := hide (label_at _ sb cb D V R0 n _ (hG.at (unhide HU)) eb)
  dsimp only at HL
  have HN := hide (nd_mem hG.len (nb kt))
  have HF := hide (fun w (hu : Below u.heap.size u w) => front_any w sb cb D V R0 n (hG.at hu) hn.lt)
  have HS := hide (show Parl.matF (f + 1) p t l = l.wait t.text.toList by unfold Parl.matF; rw [if_neg kp, if_pos kt])
  rw [kt] at jb
  obtain rfl : kb = 1 := jb
  have HEB := hide eb
  clear hG hu h hs hS _hM ht hn _hw ha eb nb kp kt
  go_enter Tryd.func30, Tryd.ntmps30
  go_wp2_with fail
  refine (unhide HL).mono ?_
  rintro e w3 ⟨rfl, hb3⟩
  have f0 := (hb3.cell (p := ⟨w.heap.size, 0, none⟩) (by simp)).trans (blkA (heap_alloc_new w _) 0)
  have f1 := (hb3.cell (p := ⟨w.heap.size, 1, none⟩) (by simp)).trans (blkA (heap_alloc_new w _) 1)
  have f2 := (hb3.cell (p := ⟨w.heap.size, 2, none⟩) (by simp)).trans (blkA (heap_alloc_new w _) 2)
  have f3 := (hb3.cell (p := ⟨w.heap.size, 3, none⟩) (by simp)).trans (blkA (heap_alloc_new w _) 3)
  simp only [List.getElem?_toArray, List.getElem?_cons_zero, List.getElem?_cons_succ] at f0 f1 f2 f3
  have z3 := hb3.size
  rw [World.size_alloc] at z3
  have z5 : w.heap.size < w3.heap.size := by omega
  have HB3 := hide ((unhide HB).trans (hb3.mono (by rw [World.size_alloc]; omega)))
  have HU3 := hide ((unhide HU).trans (hb3.mono (unhide HU).size))
  have HBX3 := hide ((hb3.block w.heap.size (by simp)).trans (heap_alloc_new w _))
  clear hb3
  go_wp2_with fail
  have HB4 := hide ((unhide HB3).alloc (by omega) (.cells #[.int .i64 1, .int .i64 vb, .string xb, .int .i64 (cb' : Int)] 92))
  have HU4 := hide ((unhide HU3).alloc (Nat.le_trans (unhide HU0).size (by omega)) (.cells #[.int .i64 1, .int .i64 vb, .string xb, .int .i64 (cb' : Int)] 92))
  refine (awaitA_any _ lb sb cb D V R0 R S T l.no n _ ((unhide HG).at (unhide HU4)) (unhide HEB) ((unhide H).below (unhide HB4)) (by omega)).mono ?_
  rintro e w6 ⟨rfl, R6, h6, fr6⟩
  have H6 := hide h6
  have HF6 := hide fr6
  clear h6 fr6
  go_wp2_with fail
  go_end0
  rw [unhide HS]
  exact ⟨rfl, S, _, R6, unhide H6, unhide HST, unhide HSL, (unhide HT).add (unhide HG).vn.one (unhide HN), (FrG.of_below (unhide HB4)).trans (unhide HF6)⟩

theorem lt_new (w : World) (X : Obj) : w.heap.size < ((w.alloc X).drew).heap.size := by
  show w.heap.size < (w.alloc X).heap.size
  simp

set_option maxHeartbeats 4000000 in
set_option maxRecDepth 100000 in
theorem matA_bad (f : Nat) (u w : World) (lb sb cb : Nat) (D : List Nd) (V : List Nat) (R0 R : Nat → Prop) (N M : List (List UInt8)) (S : List Int) (T : List Nat) (a : AV) (n : Nat) (p t : Parl.Tm) (l : Parl.Lk) (hG : GrU u lb sb cb D V R0 N) (hu : Below u.heap.size u w) (h : LoA w lb S T l.no R) (hs : StA D V N M S l.st) (hS : S.length ≤ M.length) (_hM : M.Nodup) (_hML : M.length ≤ 100000) (ht : WtA V N T l.wt) (ha : LeafA M a p) (hn : RN D V N (f + 1) n t) (hw : Parl.wfK (f + 1) t) (_hf : f + 1 ≤ 8) (_hl : T.length + 13122 * 3 ^ (f + 1) + 13122 ≤ 100000000) (kp : p.kind ≠ 3) (kt : t.kind ≠ 3) (hk2 : Parl.alike p t = false) :
    Calls Tryd.prog 30 #[.pointer (some ⟨lb, 0, none⟩), .pointer (some ⟨sb, 0, none⟩), .agg #[.int .i64 a.k, .int .i64 a.val, .string a.tx, .slice a.ao a.n a.cap], .int .i64 (n : Int)] w fun e w' => PMt lb D V N M (Parl.matF (f + 1) p t l) R w e w' := by
  obtain ⟨k, val, tx, ao, m, cp⟩ := a
  have hk : (k == 1) = false := by
    have h1 := ha.1
    dsimp only at h1
    rw [h1]
    rcases ha.2.2.2.2.2.1 with e | e | e <;> first | exact absurd e kp | (rw [e]; decide)
  have HB := hide ((Below.refl w.heap.size w).alloc (Nat.le_refl _) (.cells #[.int .i64 k, .int .i64 val, .string tx, .slice ao m cp] 52))
  have HU := hide (hu.trans ((unhide HB).mono hu.size))
  have HU0 := hide hu
  have HG := hide hG
  have H := hide h
  have HST := hide hs
  have HSL := hide hS
  have HT := hide ht
  obtain ⟨⟨kb, vb, xb, cb', ob, pb, gb⟩, eb, jb, nb⟩ := hn.node
  dsimp only at jb
  have HL := hide (label_at _ sb cb D V R0 n _ (hG.at (unhide HU)) eb)
  dsimp only at HL
  have HS := hide (show Parl.matF (f + 1) p t l = l.bad by unfold Parl.matF; rw [if_neg kp, if_neg kt, if_neg (by rw [hk2]; decide)])
  have t2 : (kb == 1) = false := by rw [jb]; rcases hw.1 with e | e | e <;> first | exact absurd e kt | (rw [e]; decide)
  have hlab := fun w => lab_any w ⟨k, val, tx, ao, m, cp⟩
  have t3 : ¬ (k = kb ∧ labV ⟨k, val, tx, ao, m, cp⟩ = vb ∧ tx = xb ∧ m = cb') := fun q => by
    rw [(alikeP_iff ha hn hw kp kt eb).2 q] at hk2
    cases hk2
  generalize labV ⟨k, val, tx, ao, m, cp⟩ = lv at *
  dsimp only at hlab
  have LA := hide hlab
  have hc : (¬ k = kb) ∨ (k = kb ∧ ¬ lv = vb) ∨ (k = kb ∧ lv = vb ∧ ¬ tx.toList = xb.toList) ∨ (k = kb ∧ lv = vb ∧ tx = xb ∧ ¬ (m : Int) = (cb' : Int)) := by
    by_cases q1 : k = kb
    · by_cases q2 : lv = vb
      · by_cases q3 : tx = xb
        · exact Or.inr (Or.inr (Or.inr ⟨q1, q2, q3, fun q4 => t3 ⟨q1, q2, q3, by omega⟩⟩))
        · exact Or.inr (Or.inr (Or.inl ⟨q1, q2, fun q => q3 (ba_ext q)⟩))
      · exact Or.inr (Or.inl ⟨q1, q2⟩)
    · exact Or.inl q1
  clear hG hu h hs hS _hM ht hn hw ha eb nb kp kt jb hk2 t3
  rcases hc with hc | ⟨rfl, hc⟩ | ⟨rfl, rfl, hc⟩ | ⟨rfl, rfl, rfl, hc⟩
  all_goals
    clear hlab
    go_enter Tryd.func30, Tryd.ntmps30
    go_wp2_with fail
    refine (unhide HL).mono ?_
    rintro e w3 ⟨rfl, hb3⟩
    have f0 := (hb3.cell (p := ⟨w.heap.size, 0, none⟩) (by simp)).trans (blkA (heap_alloc_new w _) 0)
    have f1 := (hb3.cell (p := ⟨w.heap.size, 1, none⟩) (by simp)).trans (blkA (heap_alloc_new w _) 1)
    have f2 := (hb3.cell (p := ⟨w.heap.size, 2, none⟩) (by simp)).trans (blkA (heap_alloc_new w _) 2)
    have f3 := (hb3.cell (p := ⟨w.heap.size, 3, none⟩) (by simp)).trans (blkA (heap_alloc_new w _) 3)
    simp only [List.getElem?_toArray, List.getElem?_cons_zero, List.getElem?_cons_succ] at f0 f1 f2 f3
    have z3 := hb3.size
    rw [World.size_alloc] at z3
    have z5 : w.heap.size < w3.heap.size := by omega
    have HB3 := hide ((unhide HB).trans (hb3.mono (by rw [World.size_alloc]; omega)))
    have HU3 := hide ((unhide HU).trans (hb3.mono (unhide HU).size))
    have HBX3 := hide ((hb3.block w.heap.size (by simp)).trans (heap_alloc_new w _))
    clear hb3
    go_wp2_with fail
    go_region_with (go_at_call 43; refine (unhide LA _).mono ?_; rintro e w5 ⟨rfl, hb5⟩; have g0 := (hb5.cell (p := ⟨w3.heap.size, 0, none⟩) (lt_new w3 _)).trans (blkA (heap_alloc_new w3 _) 0); have g1 := (hb5.cell (p := ⟨w3.heap.size, 1, none⟩) (lt_new w3 _)).trans (blkA (heap_alloc_new w3 _) 1); have g2 := (hb5.cell (p := ⟨w3.heap.size, 2, none⟩) (lt_new w3 _)).trans (blkA (heap_alloc_new w3 _) 2); have g3 := (hb5.cell (p := ⟨w3.heap.size, 3, none⟩) (lt_new w3 _)).trans (blkA (heap_alloc_new w3 _) 3); simp only [List.getElem?_toArray, List.getElem?_cons_zero, List.getElem?_cons_succ] at g0 g1 g2 g3; have HB5 := hide (((unhide HB3).alloc (by omega) _).trans ((((Below.refl _ _).drew).trans hb5).mono (Nat.le_trans (by omega) (Nat.le_of_lt (lt_new w3 _))))); clear hb5)
    all_goals
      obtain ⟨so, sc, wo, wc, hlo, rfl⟩ := (unhide H).below (unhide HB5)
      have s2 := blkA hlo.blk 2
      have sf := blkX hlo.blk 2
      have sz := blk_lt hlo.blk
      simp only [List.getElem?_toArray, List.getElem?_cons_zero, List.getElem?_cons_succ] at s2
      have HLO := hide hlo
      clear hlo
      go_wp2_with fail
      go_end0
      rw [unhide HS]
      exact ⟨rfl, S, T, _, ⟨so, sc, wo, wc, (unhide HLO).bad.1, rfl⟩, unhide HST, unhide HSL, unhide HT, (FrG.of_below (unhide HB5)).trans (unhide HLO).bad.2⟩

end Go.Proofs.YthfjnfcekeknlaaDoor
namespace Go.Proofs.YthfjnfcekeknlaaDoor
open Go.RowKit

/-- The loop over the arguments. -/
def LMtA (lb : Nat) (D : List Nd) (V : List Nat) (N M : List (List UInt8)) (f : Nat) (p t : Parl.Tm) (l : Parl.Lk) (R : Nat → Prop) (w : World) (C : Array Value) (k : Nat) (iv : Value) (wr : World) : Prop :=
  ∃ (j : Nat) (S' : List Int) (T' : List Nat) (R' : Nat → Prop), k + j = p.args.length ∧ iv = .int .i64 (j : Int) ∧ LoA wr lb S' T' (Parl.two (Parl.matF f) (p.args.take j) (t.args.take j) l).no R' ∧ StA D V N M S' (Parl.two (Parl.matF f) (p.args.take j) (t.args.take j) l).st ∧ S'.length ≤ M.length ∧ WtA V N T' (Parl.two (Parl.matF f) (p.args.take j) (t.args.take j) l).wt ∧ FrG R R' w wr ∧ wr.heap[w.heap.size]? = some (.cells C 52 (0, 0)) ∧ ¬ R' w.heap.size

set_option maxHeartbeats 4000000 in
set_option maxRecDepth 100000 in
theorem matA_args {f : Nat} (IH : MatSaid f) (P : Nat → Prop) (u w : World) (lb sb cb : Nat) (D : List Nd) (V : List Nat) (R0 R : Nat → Prop) (N M : List (List UInt8)) (S : List Int) (T : List Nat) (a : AV) (n : Nat) (p t : Parl.Tm) (l : Parl.Lk) (hG : GrU u lb sb cb D V R0 N) (hu : Below u.heap.size u w) (h : LoA w lb S T l.no R) (hs : StA D V N M S l.st) (hS : S.length ≤ M.length) (hM : M.Nodup) (hML : M.length ≤ 100000) (ht : WtA V N T l.wt) (hr : RA (f + 1) M P u a p) (hn : RN D V N (f + 1) n t) (hw : Parl.wfK (f + 1) t) (hf : f + 1 ≤ 8) (hl : T.length + 13122 * 3 ^ (f + 1) + 13122 ≤ 100000000) (kp : p.kind ≠ 3) (kt : t.kind ≠ 3) (wp : Parl.wfK (f + 1) p) (hk2 : Parl.alike p t = true) :
    Calls Tryd.prog 30 #[.pointer (some ⟨lb, 0, none⟩), .pointer (some ⟨sb, 0, none⟩), .agg #[.int .i64 a.k, .int .i64 a.val, .string a.tx, .slice a.ao a.n a.cap], .int .i64 (n : Int)] w fun e w' => PMt lb D V N M (Parl.matF (f + 1) p t l) R w e w' := by
  obtain ⟨ha, hrow⟩ := hr
  obtain ⟨k, val, tx, ao, m, cp⟩ := a
  have hk : (k == 1) = false := by
    have h1 := ha.1
    dsimp only at h1
    rw [h1]
    rcases ha.2.2.2.2.2.1 with e | e | e <;> first | exact absurd e kp | (rw [e]; decide)
  have HB := hide ((Below.refl w.heap.size w).alloc (Nat.le_refl _) (.cells #[.int .i64 k, .int .i64 val, .string tx, .slice ao m cp] 52))
  have HU := hide (hu.trans ((unhide HB).mono hu.size))
  have HU0 := hide hu
  have HG := hide hG
  have H := hide h
  have HST := hide hs
  have HSL := hide hS
  have HT := hide ht
  obtain ⟨⟨kb, vb, xb, cb', ob, pb, gb⟩, eb, jb, nb⟩ := hn.node
  dsimp only at jb
  have HL := hide (label_at _ sb cb D V R0 n _ (hG.at (unhide HU)) eb)
  dsimp only at HL
  have HS := hide (show Parl.matF (f + 1) p t l = Parl.two (Parl.matF f) p.args t.args l by unfold Parl.matF; rw [if_neg kp, if_neg kt, if_pos hk2])
  have hlab := fun w => lab_any w ⟨k, val, tx, ao, m, cp⟩
  have hal := Parl.alike_args hk2
  obtain ⟨q1, q2, q3, q4⟩ := (alikeP_iff ha hn hw kp kt eb).1 hk2
  have h2 := ha.2.1
  dsimp only at h2 q1 q3 q4 hrow
  have rb := hn.args eb
  dsimp only at rb
  have lb' := rb.length
  have HAb := hide (fun w (hu : Below u.heap.size u w) => args_at w sb cb D V R0 n _ (hG.at hu) eb)
  have HCb := hide (fun q => hG.so.argsAt eb q)
  dsimp only at HAb HCb
  rw [lb', ← hal] at HAb
  generalize labV ⟨k, val, tx, ao, m, cp⟩ = lv at *
  dsimp only at hlab
  subst q1 q2 q3 q4 h2
  have LA := hide hlab
  have HROW := hide hrow
  have HRb := hide rb
  have HLB := hide lb'
  have HAL := hide hal
  have HWp := hide wp.2.2.2
  have HWt := hide hw.2.2.2
  have HW3 := hide wp.2.2.1
  have HLL := hide hl
  have HFF := hide hf
  have HMN := hide hM
  have I := hide IH
  clear hG hu h hs hS hM ht hn hw ha eb nb kp kt jb hk2 hlab hrow rb lb' hal wp hl hf IH
  go_enter Tryd.func30, Tryd.ntmps30
  go_wp2_with fail
  refine (unhide HL).mono ?_
  rintro e w3 ⟨rfl, hb3⟩
  have f0 := (hb3.cell (p := ⟨w.heap.size, 0, none⟩) (by simp)).trans (blkA (heap_alloc_new w _) 0)
  have f1 := (hb3.cell (p := ⟨w.heap.size, 1, none⟩) (by simp)).trans (blkA (heap_alloc_new w _) 1)
  have f2 := (hb3.cell (p := ⟨w.heap.size, 2, none⟩) (by simp)).trans (blkA (heap_alloc_new w _) 2)
  have f3 := (hb3.cell (p := ⟨w.heap.size, 3, none⟩) (by simp)).trans (blkA (heap_alloc_new w _) 3)
  simp only [List.getElem?_toArray, List.getElem?_cons_zero, List.getElem?_cons_succ] at f0 f1 f2 f3
  have z3 := hb3.size
  rw [World.size_alloc] at z3
  have z5 : w.heap.size < w3.heap.size := by omega
  have HB3 := hide ((unhide HB).trans (hb3.mono (by rw [World.size_alloc]; omega)))
  have HU3 := hide ((unhide HU).trans (hb3.mono (unhide HU).size))
  have HBX3 := hide ((hb3.block w.heap.size (by simp)).trans (heap_alloc_new w _))
  clear hb3
  go_wp2_with fail
  have e0 := blkA (heap_alloc_new w3 (.cells #[.int .i64 k, .int .i64 lv, .string tx, .int .i64 (p.args.length : Int)] 92)) 0
  have e1 := blkA (heap_alloc_new w3 (.cells #[.int .i64 k, .int .i64 lv, .string tx, .int .i64 (p.args.length : Int)] 92)) 1
  have e2 := blkA (heap_alloc_new w3 (.cells #[.int .i64 k, .int .i64 lv, .string tx, .int .i64 (p.args.length : Int)] 92)) 2
  have e3 := blkA (heap_alloc_new w3 (.cells #[.int .i64 k, .int .i64 lv, .string tx, .int .i64 (p.args.length : Int)] 92)) 3
  simp only [List.getElem?_toArray, List.getElem?_cons_zero, List.getElem?_cons_succ] at e0 e1 e2 e3
  go_region_held3 (fun w' => w'.cell? ⟨w.heap.size, 0, none⟩ = some (.int .i64 k) ∧ w'.cell? ⟨w.heap.size, 1, none⟩ = some (.int .i64 val) ∧ w'.cell? ⟨w.heap.size, 2, none⟩ = some (.string tx) ∧ w'.cell? ⟨w.heap.size, 3, none⟩ = some (.slice ao p.args.length cp) ∧ w'.cell? ⟨w3.heap.size, 0, none⟩ = some (.int .i64 k) ∧ w'.cell? ⟨w3.heap.size, 1, none⟩ = some (.int .i64 lv) ∧ w'.cell? ⟨w3.heap.size, 2, none⟩ = some (.string tx) ∧ w'.cell? ⟨w3.heap.size, 3, none⟩ = some (.int .i64 (p.args.length : Int))) (go_keep) (first
    | (go_at_call 43; refine (unhide LA _).mono ?_; rintro e w5 ⟨rfl, hb5⟩; have g0 := (hb5.cell (p := ⟨w3.heap.size, 0, none⟩) (lt_new w3 _)).trans e0; have g1 := (hb5.cell (p := ⟨w3.heap.size, 1, none⟩) (lt_new w3 _)).trans e1; have g2 := (hb5.cell (p := ⟨w3.heap.size, 2, none⟩) (lt_new w3 _)).trans e2; have g3 := (hb5.cell (p := ⟨w3.heap.size, 3, none⟩) (lt_new w3 _)).trans e3; have y0 := (hb5.cell (p := ⟨w.heap.size, 0, none⟩) (Nat.lt_trans z5 (lt_new w3 _))).trans ((World.cell?_alloc_past _ _ _ z5).trans f0); have y1 := (hb5.cell (p := ⟨w.heap.size, 1, none⟩) (Nat.lt_trans z5 (lt_new w3 _))).trans ((World.cell?_alloc_past _ _ _ z5).trans f1); have y2 := (hb5.cell (p := ⟨w.heap.size, 2, none⟩) (Nat.lt_trans z5 (lt_new w3 _))).trans ((World.cell?_alloc_past _ _ _ z5).trans f2); have y3 := (hb5.cell (p := ⟨w.heap.size, 3, none⟩) (Nat.lt_trans z5 (lt_new w3 _))).trans ((World.cell?_alloc_past _ _ _ z5).trans f3); have HB5 := hide (((unhide HB3).alloc (by omega) _).trans ((((Below.refl _ _).drew).trans hb5).mono (Nat.le_trans (by omega) (Nat.le_of_lt (lt_new w3 _))))); have HBX5 := hide ((hb5.block w.heap.size (Nat.lt_trans z5 (lt_new w3 _))).trans ((Below.heap_alloc _ _ _ z5).trans (unhide HBX3))); clear hb5))
  go_wp2_with fail
  have HST0 := hide (show LMtA lb D V N M f p t l R w #[.int .i64 k, .int .i64 val, .string tx, .slice ao p.args.length cp] p.args.length (.int .i64 0) w5 from ⟨0, S, T, R, by omega, rfl, by simpa [Parl.two] using (unhide H).below (unhide HB5), by simpa [Parl.two] using unhide HST, unhide HSL, by simpa [Parl.two] using unhide HT, FrG.of_below (unhide HB5), unhide HBX5, fun q => by have := ((unhide H).rows _ q).2; omega⟩)
  refine (unhide HAb _ ((unhide HU0).trans ((unhide HB5).mono (unhide HU0).size))).mono ?_
  rintro e w6 ⟨rfl, rfl⟩
  clear e0 e1 e2 e3 f0 f1 f2 f3 g0 g1 g2 g3 y0 y1 y2 y3 HB HU HL HB3 HU3 HBX3 HB5 HBX5 HAb LA z3 z5 hk
  go_wp2_with fail
  go_loopg [10] p.args.length (fun k' iv wr => LMtA lb D V N M f p t l R w #[.int .i64 k, .int .i64 val, .string tx, .slice ao p.args.length cp] k' iv wr)
  case atStart => exact unhide HST0
  case round =>
    clear HST0
    obtain ⟨j, S', T', R', hkj, rfl, hlo, hst, hsl, hwt, hfr, hbx, hbr⟩ := hrel
    have hur := (unhide H).under hfr (unhide HU0) (unhide HG).lt
    have x3 := blkA hbx 3
    simp only [List.getElem?_toArray, List.getElem?_cons_zero, List.getElem?_cons_succ] at x3
    have zx := blk_lt hbx
    by_cases hlt : j < p.args.length
    · have hjb : j < gb.length := by have := unhide HLB; have := unhide HAL; omega
      have hlt' : j < t.args.length := by have := unhide HAL; omega
      obtain ⟨g, us, ca, hao, _, hca, hta, haa⟩ := unhide HROW (fun q => by rw [q] at hlt; simp at hlt)
      subst hao
      obtain ⟨pB, eB, zB, cB⟩ := unhide HCb (fun q => by rw [q] at hjb; simp at hjb)
      subst eB
      have hju : j < us.length := by have := haa.length; omega
      have fc : ∀ w', Below u.heap.size u w' → ∀ i, i < 4 → w'.cell? ⟨g, j * 4 + i, none⟩ = (avC us[j])[i]? := fun w' hb i hi => by
        rw [hb.cell (p := ⟨g, j * 4 + i, none⟩) (blk_lt hca), blkA hca, ← Array.getElem?_toList, ← avC_at' hju i hi, ← hta, List.getElem?_take_of_lt (by omega)]
      have HF0 := hide (show ∀ w', Below u.heap.size u w' → w'.cell? ⟨g, j * 4, none⟩ = some (.int .i64 us[j].k) ∧ w'.cell? ⟨g, j * 4 + 1, none⟩ = some (.int .i64 us[j].val) ∧ w'.cell? ⟨g, j * 4 + 2, none⟩ = some (.string us[j].tx) ∧ w'.cell? ⟨g, j * 4 + 3, none⟩ = some (.slice us[j].ao us[j].n us[j].cap) ∧ w'.cell? ⟨pB, j, none⟩ = some (.int .i64 (gb[j] : Int)) from fun w' hb => by
        have a0 := fc w' hb 0 (by omega)
        have a1 := fc w' hb 1 (by omega)
        have a2 := fc w' hb 2 (by omega)
        have a3 := fc w' hb 3 (by omega)
        simp only [avC, List.getElem?_cons_zero, List.getElem?_cons_succ, Nat.add_zero] at a0 a1 a2 a3
        exact ⟨a0, a1, a2, a3, (hb.cell (p := ⟨pB, j, none⟩) zB).trans (cB j hjb)⟩)
      have hlen : T'.length ≤ T.length + j * (13122 * 3 ^ f) := by
        have q1 := hwt.length
        have q2 := (unhide HT).length
        have q3 := Parl.two_lenR (g := Parl.matF f) (c := 13122 * 3 ^ f) (p.args.take j) (t.args.take j) l (fun b hb a m => (Parl.matF_len f a b m (unhide HWt b (List.mem_of_mem_take hb)) (by have := unhide HFF; omega)).1)
        rw [List.length_take, Nat.min_eq_left (by omega)] at q3
        omega
      have hcap : T'.length + 13122 * 3 ^ f + 13122 ≤ 100000000 := by
        have q1 := unhide HLL
        have q2 : 3 ^ (f + 1) = 3 * 3 ^ f := by rw [Nat.pow_succ, Nat.mul_comm]
        have q3 : j * (13122 * 3 ^ f) ≤ 2 * (13122 * 3 ^ f) := Nat.mul_le_mul_right _ (by have := unhide HW3; omega)
        omega
      have IC := hide (unhide I u wr.drew lb sb cb D V R0 R' P N M S' T' us[j] gb[j] p.args[j] t.args[j] (Parl.two (Parl.matF f) (p.args.take j) (t.args.take j) l) (unhide HG) hur.drew (hlo.below (Below.refl _ _).drew) hst hsl (unhide HMN) hML hwt (haa.at' j hju hlt) ((unhide HRb).at' j hjb hlt') (unhide HWp _ (List.getElem_mem hlt)) (unhide HWt _ (List.getElem_mem hlt')) (by have := unhide HFF; omega) hcap)
      rw [← Parl.two_step (g := Parl.matF f) p.args t.args j hlt hlt' l] at IC
      obtain ⟨a0, a1, a2, a3, a4⟩ := unhide HF0 wr hur
      have HFR := hide hfr
      have HUR := hide hur
      have HLO := hide hlo
      have HKJ := hide hkj
      have HLT := hide hlt
      have HBX := hide hbx
      have HBR := hide hbr
      generalize us[j] = v6 at *
      generalize gb[j] = nb at *
      have zr : u.heap.size ≤ wr.heap.size := hur.size
      have zA' : g < wr.heap.size := by have := blk_lt hca; omega
      have zB' : pB < wr.heap.size := by omega
      have hj3 : j ≤ 3 := by have := unhide HW3; omega
      have i0 : (0 : Int) ≤ (j : Int) := by omega
      have i1 : (j : Int) < (p.args.length : Int) := by omega
      clear hlo hst hsl hwt hfr hur hkj hlt hlt' hjb hju cB hlen hcap hbx hbr fc hca hta haa
      go_wp2_with fail
      go_region_held3 (fun w' => w'.cell? ⟨w.heap.size, 3, none⟩ = some (.slice (some ⟨g, 0, none⟩) p.args.length cp) ∧ w'.cell? ⟨g, j * 4, none⟩ = some (.int .i64 v6.k) ∧ w'.cell? ⟨g, j * 4 + 1, none⟩ = some (.int .i64 v6.val) ∧ w'.cell? ⟨g, j * 4 + 2, none⟩ = some (.string v6.tx) ∧ w'.cell? ⟨g, j * 4 + 3, none⟩ = some (.slice v6.ao v6.n v6.cap) ∧ w'.cell? ⟨pB, j, none⟩ = some (.int .i64 (nb : Int))) (go_keep) (first
        | (go_at_call 30; refine (unhide IC).mono ?_; rintro e w8 ⟨rfl, S8, T8, R8, h8, s8, l8, t8, fr8⟩; have HFR8 := hide ((unhide HFR).trans ((FrG.of_below (Below.refl _ _).drew).trans fr8)); obtain ⟨k0, k1, k2, k3, k4⟩ := unhide HF0 w8 ((unhide HLO).under ((FrG.of_below (Below.refl _ _).drew).trans fr8) (unhide HUR) (unhide HG).lt); have k9 := (fr8.cell (p := ⟨w.heap.size, 3, none⟩) zx (unhide HBR)).trans x3; have HBX8 := hide ((fr8.block w.heap.size zx (unhide HBR)).trans (unhide HBX)); have HBR8 := hide (fr8.not (k := w.heap.size) zx (unhide HBR)); have H8 := hide h8; have HS8 := hide s8; have HL8 := hide l8; have HT8 := hide t8; clear h8 s8 l8 t8 fr8))
      all_goals
        go_wp2_with fail
        go_roundg (gk - 1)
        case measure => have := unhide HKJ; have := unhide HLT; omega
        case rel => exact ⟨j + 1, S8, T8, R8, by have := unhide HKJ; have := unhide HLT; omega, by go_num, unhide H8, unhide HS8, unhide HL8, unhide HT8, unhide HFR8, unhide HBX8, unhide HBR8⟩
    · obtain rfl : j = p.args.length := by omega
      have HLO := hide hlo
      have HSTT := hide hst
      have HSLL := hide hsl
      have HWT := hide hwt
      have HFR := hide hfr
      clear hlo hst hsl hwt hfr hur hkj hbx hbr
      go_wp2_with fail
      go_end0
      rw [unhide HS]
      have q1 := unhide HLO
      have q2 := unhide HWT
      have q3 := unhide HSTT
      rw [List.take_length, List.take_of_length_le (by have := unhide HAL; omega)] at q1 q2 q3
      exact ⟨rfl, S', T', R', q1, q3, unhide HSLL, q2, unhide HFR⟩
theorem matA_all : ∀ f, MatSaid f
  | 0 => fun _ _ _ _ _ _ _ _ _ _ _ _ _ _ _ _ _ _ _ _ _ _ _ _ _ _ _ h => h.elim
  | f + 1 => fun u w lb sb cb D V R0 R P N M S T a n p t l hG hu h hs hS hM hML ht hr hn wp hw hf hl => by
    by_cases kp : p.kind = 3
    · exact matA_meet f u w lb sb cb D V R0 R N M S T a n p t l hG hu h hs hS hM hML ht hr.1 hn hw hf hl kp
    · by_cases kt : t.kind = 3
      · exact matA_wait f u w lb sb cb D V R0 R N M S T a n p t l hG hu h hs hS hM hML ht hr.1 hn hw hf hl kp kt
      · cases hk : Parl.alike p t
        · exact matA_bad f u w lb sb cb D V R0 R N M S T a n p t l hG hu h hs hS hM hML ht hr.1 hn hw hf hl kp kt hk
        · exact matA_args (matA_all f) P u w lb sb cb D V R0 R N M S T a n p t l hG hu h hs hS hM hML ht hr hn hw hf hl kp kt wp hk
end Go.Proofs.YthfjnfcekeknlaaDoor
namespace Go.Proofs.YthfjnfcekeknlaaDoor
open Go.RowKit

set_option maxHeartbeats 1000000 in
theorem waitsFor_gen (w : World) (lb b0 : Nat) (W : List Nat) (sv nv : Value) (wo : Option Addr) (wc : Nat) (n : Nat) (hblk : w.heap[lb]? = some (.cells #[sv, .slice wo W.length wc, nv] 72 (0, 0))) (hown : w.ownsRow b0 3 1 (.slice wo W.length wc) W.length (W.map intV)) (hl : W.length ≤ 100000000) :
    Calls Tryd.prog 53 #[.pointer (some ⟨lb, 0, none⟩), .int .i64 (n : Int)] w fun e w' => e = .returned (.bool (decide (n ∈ W))) ∧ w' = w := by
  have s1 := blkA hblk 1
  have sz := blk_lt hblk
  simp only [List.getElem?_toArray, List.getElem?_cons_zero, List.getElem?_cons_succ] at s1
  have H := hide hown
  clear hblk hown
  go_enter Tryd.func53, Tryd.ntmps53
  go_wp2_with fail
  go_loopg [12] W.length (fun k iv wr => ∃ j : Nat, k + j = W.length ∧ iv = .int .i64 (j : Int) ∧ wr = w ∧ n ∉ W.take j)
  case atStart => exact ⟨0, by omega, rfl, rfl, by simp⟩
  case round =>
    obtain ⟨j, hkj, rfl, rfl, hno⟩ := hrel
    by_cases hlt : j < W.length
    · obtain ⟨g, hg⟩ : ∃ g, wo = some ⟨g, 0, none⟩ := by
        rcases (unhide H).2 with ⟨q, q2⟩ | ⟨g, cp, cur, q, _⟩
        · omega
        · simp only [Value.slice.injEq] at q
          exact ⟨g, q.1⟩
      subst hg
      have f0 : wr.cell? ⟨g, j, none⟩ = some (.int .i64 (W[j] : Int)) := by
        rw [(unhide H).cellAt j (by omega), List.getElem?_map, List.getElem?_eq_getElem hlt]
        rfl
      have gz := ((unhide H).lt g rfl).2
      have i0 : (0 : Int) ≤ (j : Int) := by omega
      have i1 : (j : Int) < (W.length : Int) := by omega
      by_cases he : W[j] = n
      · have HIN := hide (show n ∈ W from he ▸ List.getElem_mem hlt)
        rw [he] at f0
        clear he hno hkj
        go_wp2_with fail
        go_ret
        exact ⟨by rw [decide_eq_true (unhide HIN)]; rfl, rfl⟩
      · have HNO := hide hno
        have HE := hide he
        have HLT := hide hlt
        have HKJ := hide hkj
        have t1 : (((W[j] : Nat) : Int) == ((n : Nat) : Int)) = false := by simp; omega
        have HM := hide (show W.take (j + 1) = W.take j ++ [W[j]] by rw [List.take_add_one, List.getElem?_eq_getElem hlt]; rfl)
        generalize hm : W[j] = m at *
        clear he hno hkj hm
        go_wp2_with fail
        go_roundg (gk - 1)
        case measure => have := unhide HKJ; have := unhide HLT; omega
        case rel =>
          refine ⟨j + 1, by have := unhide HKJ; have := unhide HLT; omega, by go_num, rfl, ?_⟩
          rw [unhide HM]
          simp only [List.mem_append, List.mem_singleton, not_or]
          exact ⟨unhide HNO, fun q => unhide HE q.symm⟩
    · have hno' : n ∉ W := by rwa [List.take_of_length_le (by omega)] at hno
      have HNO := hide hno'
      clear hno hno'
      obtain rfl : j = W.length := by omega
      go_wp2_with fail
      go_ret
      exact ⟨by rw [decide_eq_false (unhide HNO)]; rfl, rfl⟩

end Go.Proofs.YthfjnfcekeknlaaDoor
namespace Go.Proofs.YthfjnfcekeknlaaDoor
open Go.RowKit

/-- The names of those that are waited for. -/
def wtd (T : List Nat) : List Nat → List ByteArray → List ByteArray
  | v :: V, x :: ns => if v ∈ T then x :: wtd T V ns else wtd T V ns
  | _, _ => []

theorem wtd_len (T : List Nat) : ∀ (V : List Nat) (ns : List ByteArray), (wtd T V ns).length ≤ V.length
  | [], _ => by simp [wtd]
  | _ :: _, [] => by simp [wtd]
  | v :: V, x :: ns => by
    have := wtd_len T V ns
    unfold wtd
    split <;> simp <;> omega
theorem wtd_step (T : List Nat) : ∀ (V : List Nat) (ns : List ByteArray) (j : Nat) (h : j < V.length) (h' : j < ns.length), wtd T (V.take (j + 1)) (ns.take (j + 1)) = wtd T (V.take j) (ns.take j) ++ (if V[j] ∈ T then [ns[j]] else [])
  | [], _, _, h, _ => by simp at h
  | _ :: _, [], _, _, h => by simp at h
  | v :: V, x :: ns, 0, _, _ => by simp [wtd]
  | v :: V, x :: ns, j + 1, h, h' => by
    have := wtd_step T V ns j (by simpa using h) (by simpa using h')
    simp only [List.take_succ_cons, wtd, this, List.getElem_cons_succ]
    split <;> simp
/-- The loop over the variables. -/
def LWf (w : World) (T V : List Nat) (ns : List ByteArray) (C : Array Value) (k : Nat) (av iv : Value) (wr : World) : Prop :=
  ∃ j : Nat, k + j = V.length ∧ iv = .int .i64 (j : Int) ∧ wr.ownsRow (w.heap.size + 2) 9 1 av (wtd T (V.take j) (ns.take j)).length ((wtd T (V.take j) (ns.take j)).map Value.string) ∧ Below w.heap.size w wr ∧ wr.heap[w.heap.size]? = some (.cells C 72 (0, 0))

set_option maxHeartbeats 4000000 in
set_option maxRecDepth 100000 in
theorem waitedFor_any (w : World) (b0 b1 b2 : Nat) (T V : List Nat) (ns : List ByteArray) (so wo vo no : Option Addr) (sl sc wc vc nc : Nat) (fl : Bool) (hown : w.ownsRow b0 3 1 (.slice wo T.length wc) T.length (T.map intV)) (hv : w.ownsRow b1 3 1 (.slice vo V.length vc) V.length (V.map intV)) (hn : w.ownsRow b2 9 1 (.slice no ns.length nc) ns.length (ns.map Value.string)) (hl : T.length ≤ 100000000) (hvl : V.length ≤ 1000000) (hvn : V.length = ns.length) (hnl : ns.length ≤ 1000000) :
    Calls Tryd.prog 32 #[.agg #[.slice so sl sc, .slice wo T.length wc, .bool fl], .agg #[.slice vo V.length vc], .slice no ns.length nc] w fun e w' => ∃ ov, e = .returned ov ∧ w'.ownsRow w.heap.size 9 1 ov (wtd T V ns).length ((wtd T V ns).map Value.string) ∧ Below w.heap.size w w' := by
  have HO := hide hown
  have HV := hide hv
  have HN := hide hn
  have HL := hide hl
  have HVL := hide hvl
  have HNL := hide hnl
  have HVN := hide hvn
  obtain ⟨ti, hi, hzz0, hzz1, hzz2⟩ := info_parts infoStrS
  clear hown hv hn hl hvl hnl hvn
  go_enter Tryd.func32, Tryd.ntmps32
  go_wp2_with fail
  go_loopg [7, 13] V.length (fun k av iv wr => LWf w T V ns #[.slice so sl sc, .slice wo T.length wc, .bool fl] k av iv wr)
  case atStart => exact ⟨0, by omega, rfl, by simpa [wtd] using World.ownsRow_nil _ _ _ _, ((Below.refl _ _).alloc (Nat.le_refl _) _).alloc (by simp) _, (Below.heap_alloc _ _ _ (by simp)).trans (heap_alloc_new w _)⟩
  case round =>
    obtain ⟨j, hkj, rfl, how, hbe, hbx⟩ := hrel
    obtain ⟨oo, oc, rfl⟩ := own_shapeT how
    have zx := blk_lt hbx
    by_cases hlt : j < V.length
    · have hlt' : j < ns.length := by have := unhide HVN; omega
      obtain ⟨g, hg⟩ : ∃ g, vo = some ⟨g, 0, none⟩ := by
        rcases (unhide HV).2 with ⟨q, q2⟩ | ⟨g, cp, cur, q, _⟩
        · omega
        · simp only [Value.slice.injEq] at q
          exact ⟨g, q.1⟩
      subst hg
      obtain ⟨g2, hg2⟩ : ∃ g, no = some ⟨g, 0, none⟩ := by
        rcases (unhide HN).2 with ⟨q, q2⟩ | ⟨g, cp, cur, q, _⟩
        · omega
        · simp only [Value.slice.injEq] at q
          exact ⟨g, q.1⟩
      subst hg2
      have gz := ((unhide HV).lt g rfl).2
      have gz2 := ((unhide HN).lt g2 rfl).2
      have zz := hbe.size
      have f0 : wr.cell? ⟨g, j, none⟩ = some (.int .i64 (V[j] : Int)) := by
        rw [hbe.cell (p := ⟨g, j, none⟩) gz, (unhide HV).cellAt j (by omega), List.getElem?_map, List.getElem?_eq_getElem hlt]
        rfl
      have f1 : wr.cell? ⟨g2, j, none⟩ = some (.string ns[j]) := by
        rw [hbe.cell (p := ⟨g2, j, none⟩) gz2, (unhide HN).cellAt j (by omega), List.getElem?_map, List.getElem?_eq_getElem hlt']
        rfl
      have gz' : g < wr.heap.size := by omega
      have gz2' : g2 < wr.heap.size := by omega
      have i0 : (0 : Int) ≤ (j : Int) := by omega
      have i1 : (j : Int) < (V.length : Int) := by omega
      have i2 : (j : Int) < (ns.length : Int) := by omega
      have t2 : decide ((j : Int) < (ns.length : Int)) = true := by simp; omega
      have hj3 : j ≤ 1000000 := by have := unhide HVL; omega
      have HSTEP := hide (wtd_step T V ns j hlt hlt')
      have WF := hide (waitsFor_gen wr w.heap.size b0 T (.slice so sl sc) (.bool fl) wo wc V[j] hbx (own_keepG (unhide HO) (fun k q => hbe.block k ((unhide HO).lt k q).2)) (unhide HL))
      have HOW := hide how
      have HBE := hide hbe
      have HBX := hide hbx
      have HKJ := hide hkj
      have HLT := hide hlt
      have hle := (show (wtd T (V.take j) (ns.take j)).length ≤ 1000000 from by have q := wtd_len T (V.take j) (ns.take j); rw [List.length_take] at q; omega)
      generalize ns[j] = x at *
      generalize V[j] = v at *
      generalize wtd T (V.take j) (ns.take j) = Z at *
      clear how hbe hbx hkj hlt hlt'
      by_cases hm : v ∈ T
      · rw [decide_eq_true hm] at WF
        rw [if_pos hm] at HSTEP
        clear hm
        go_wp2_with fail
        refine (unhide WF).mono ?_
        rintro e w5 ⟨rfl, rfl⟩
        go_wp2_with (at_builtin; go_must (refine wpList_append_own_at _ rfl (.tmp 26) (.tmp 31) 37 rfl (w.heap.size + 2) 9 ti (.string ⟨#[]⟩) 1 16 Tryd.underlying37 hi hzz0 hzz1 hzz2 rfl (by decide) _ Z.length (Z.map Value.string) rfl ((unhide HOW).alloc _) ⟨w5.heap.size, 0, none⟩ 1 1 [.string x] rfl rfl (new1T _ _ _ _ rfl) (by simp [Value.oneCell']) (by unfold maxLen; omega) (by omega) (by simp; omega) ?_); go_must (intro v' w7 hown' hgrow _ _; have HO7 := hide hown'; have HB7 := hide (((unhide HBE).alloc (unhide HBE).size _).grown hgrow (by simp; omega) (fun k q => by have := ((unhide HOW).lt k q).1; omega)); have HX7 := hide ((hgrow.block w.heap.size (by simp; omega) (fun q => by have := ((unhide HOW).lt _ q.symm).1; omega)).trans ((Below.heap_alloc _ _ _ zx).trans (unhide HBX))); clear hown' hgrow))
        go_roundg (gk - 1)
        case measure => have := unhide HKJ; have := unhide HLT; omega
        case rel => exact ⟨j + 1, by have := unhide HKJ; have := unhide HLT; omega, by go_num, by rw [unhide HSTEP]; have := unhide HO7; simpa using this, unhide HB7, unhide HX7⟩
      · rw [decide_eq_false hm] at WF
        rw [if_neg hm, List.append_nil] at HSTEP
        clear hm
        go_wp2_with fail
        refine (unhide WF).mono ?_
        rintro e w5 ⟨rfl, rfl⟩
        go_wp2_with fail
        go_roundg (gk - 1)
        case measure => have := unhide HKJ; have := unhide HLT; omega
        case rel => exact ⟨j + 1, by have := unhide HKJ; have := unhide HLT; omega, by go_num, by rw [unhide HSTEP]; exact unhide HOW, unhide HBE, unhide HBX⟩
    · obtain rfl : j = V.length := by omega
      have HE := hide (show wtd T V ns = wtd T (V.take V.length) (ns.take V.length) by rw [List.take_length, List.take_of_length_le (by have := unhide HVN; omega)])
      have HOW := hide how
      have HBE := hide hbe
      clear how hbe hbx hkj
      go_wp2_with fail
      go_ret
      rw [unhide HE]
      exact ⟨_, rfl, ⟨(unhide HOW).1, (unhide HOW).2.imp id fun ⟨g, cap, cur, a, b, c⟩ => ⟨g, cap, cur, a, by omega, c⟩⟩, unhide HBE⟩
end Go.Proofs.YthfjnfcekeknlaaDoor
