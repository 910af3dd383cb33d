import Derived.Test.YthfjnfcekeknlaaDoorF18
namespace Go.Proofs.YthfjnfcekeknlaaDoor
open Go.RowKit

section
variable {P : Nat → Prop} {w : World} {sb so : Nat} {cs : Array Value} {T : TypeId} {cb : Nat} {D : List Ng} {V : List Nat} {no : Option Addr} {nc : Nat} {vo : Option Addr} {vc : Nat}
/-- A row of its own grows beside them. -/
theorem AdB.grown {w7 : World} {X : Obj} {o o' : Option Addr} {n cap b : Nat} {xs : List Value} (h : AdB (fun g => P g ∧ ¬ rowOf o g) w sb so cs T cb D V no nc vo vc) (ho : w.ownsRow b 3 1 (.slice o n cap) n xs) (hnv : ∀ g, rowOf o g → ¬ rowOf vo g) (hg : (w.alloc X).grownBy w7 (Value.slice o n cap).ownBlock) (hat : ∀ g, rowOf o' g → rowOf o g ∨ w.heap.size < g) : AdB (fun g => P g ∧ ¬ rowOf o' g) w7 sb so cs T cb D V no nc vo vc := by
  have keep : ∀ k, k < w.heap.size → ¬ rowOf o k → w7.heap[k]? = w.heap[k]? := fun k h1 h2 => by
    rw [hg.block k (by simp; omega) (row_own h2), Below.heap_alloc _ _ _ h1]
  have keepT : ∀ (k : Nat) (ys : Array Value) (S : TypeId), w.heap[k]? = some (.cells ys S (0, 0)) → S ≠ 3 → w7.heap[k]? = some (.cells ys S (0, 0)) := fun k ys S hk h2 => (keep k (blk_lt hk) (row_ty ho hk h2)).trans hk
  refine ⟨⟨keepT sb _ _ h.st.blk h.t2, h.st.cel, own_keepG h.st.own fun k q => ?_, h.st.ty⟩, ⟨keepT cb _ _ h.sc.blk (by decide), own_keepG h.sc.own fun k q => ?_⟩, h.t1, h.t2, fun d hd hne => ?_⟩
  · obtain ⟨cur, hc⟩ := own_at_ty h.st.own (own_row q)
    exact (keepT k _ _ hc (by decide)).trans hc.symm
  · exact keep k (h.sc.own.lt k q).2 (fun r => hnv k r (own_row q))
  · obtain ⟨r, ys, h1, ⟨⟨h2, h3⟩, h4⟩, h5, h6⟩ := h.args d hd hne
    refine ⟨r, ys, h1, ⟨⟨h2, fun q => ?_⟩, h4⟩, (keep r (blk_lt h5) h3).trans h5, h6⟩
    rcases hat r q with q | q
    · exact h3 q
    · have := blk_lt h5; omega
/-- Rows of terms stay. -/
theorem AdB.ra {w' : World} {R' : Nat → Prop} {f : Nat} {N : List (List UInt8)} {Q : Nat → Prop} {a : AV} {t : Parl.Tm} (h : AdB P w sb so cs T cb D V no nc vo vc) (hT : T ≠ 52) (hf : FrG (rowsC sb no cb vo) R' w w') (hr : RA f N Q w a t) : RA f N Q w' a t :=
  hr.keep fun g _ hp hg _ => ⟨(hf.block g (blk_lt hg) (by
    rintro (e | e | e | e)
    · rw [e, h.st.blk] at hg
      simp only [Option.some.injEq, Obj.cells.injEq] at hg
      exact hT hg.2.1
    · exact row_ty h.st.own hg (by decide) e
    · rw [e, h.sc.blk] at hg
      simp only [Option.some.injEq, Obj.cells.injEq] at hg
      exact absurd hg.2.1 (by decide)
    · exact row_ty h.sc.own hg (by decide) e)).trans hg, hp⟩
theorem AdB.blk {w' : World} {R' : Nat → Prop} {g : Nat} {ys : Array Value} {S : TypeId} (h : AdB P w sb so cs T cb D V no nc vo vc) (hf : FrG (rowsC sb no cb vo) R' w w') (hg : w.heap[g]? = some (.cells ys S (0, 0))) (h1 : S ≠ T) (h2 : S ≠ 95) (h3 : S ≠ 63) (h4 : S ≠ 3) : w'.heap[g]? = some (.cells ys S (0, 0)) :=
  (hf.block g (blk_lt hg) (by
    rintro (e | e | e | e)
    · rw [e, h.st.blk] at hg
      simp only [Option.some.injEq, Obj.cells.injEq] at hg
      exact h1 hg.2.1.symm
    · exact row_ty h.st.own hg h2 e
    · rw [e, h.sc.blk] at hg
      simp only [Option.some.injEq, Obj.cells.injEq] at hg
      exact h3 hg.2.1.symm
    · exact row_ty h.sc.own hg h4 e)).trans hg
end
theorem set_set (cs : Array Value) (so : Nat) (u v : Value) : (cs.setIfInBounds so u).setIfInBounds so v = cs.setIfInBounds so v := by simp
theorem set_id {cs : Array Value} {so : Nat} {v : Value} (q : cs[so]? = some v) : cs.setIfInBounds so v = cs := by
  apply Array.ext (by simp)
  intro i h1 h2
  rw [Array.getElem_setIfInBounds]
  split
  · rename_i e
    subst e
    exact (Array.getElem?_eq_some_iff.1 q).2.symm
  · rfl
/-- The loop over the arguments. -/
def LAg (P : Nat → Prop) (w : World) (sb so : Nat) (cs : Array Value) (T : TypeId) (cb : Nat) (D : List Ng) (V : List Nat) (no : Option Addr) (vo : Option Addr) (N ns : List (List UInt8)) (f : Nat) (t : Parl.Tm) (C : Array Value) (k : Nat) (av iv : Value) (wr : World) : Prop :=
  ∃ (j : Nat) (E : List Ng) (F : List Nat) (no1 : Option Addr) (nc1 : Nat) (vo1 : Option Addr) (vc1 : Nat) (gs : List Nat) (oo : Option Addr) (cp : Nat), k + j = t.args.length ∧ iv = .int .i64 (j : Int) ∧ av = .slice oo j cp ∧ AdB (fun g => P g ∧ ¬ rowOf oo g) wr sb so (cs.setIfInBounds so (.slice no1 (D ++ E).length nc1)) T cb (D ++ E) (V ++ F) no1 nc1 vo1 vc1 ∧ NewD D.length E ∧ NewV D.length E F ∧ (V ++ F).length = ((t.args.take j).foldl (Parl.namesF f) ns).length ∧
    wr.ownsRow (w.heap.size + 1) 3 1 (.slice oo j cp) j (gs.map intV) ∧ (∀ g, rowOf oo g → ¬ rowOf vo1 g) ∧ gs.length = j ∧ All2 (RNg (D ++ E) (V ++ F) N f) gs (t.args.take j) ∧ (∀ g ∈ gs, g < (D ++ E).length) ∧ E.length + j ≤ j * 3 ^ f ∧ FrG (rowsC sb no cb vo) (rowsC sb no1 cb vo1) w wr ∧ wr.heap[w.heap.size]? = some (.cells C 52 (0, 0)) ∧ (∀ n ∈ V ++ F, n < (D ++ E).length)

set_option maxHeartbeats 8000000 in
set_option maxRecDepth 100000 in
theorem ag_node {f : Nat} (IH : AgSaid f) (P : Nat → Prop) (w : World) (sb so : Nat) (cs : Array Value) (T : TypeId) (cb : Nat) (D : List Ng) (V : List Nat) (no : Option Addr) (nc : Nat) (vo : Option Addr) (vc : Nat) (N ns : List (List UInt8)) (Q : Nat → Prop) (a : AV) (t : Parl.Tm) (h : AdB P w sb so cs T cb D V no nc vo vc) (hP : ∀ g, w.heap.size ≤ g → P g) (hT : T ≠ 52) (hV : ∀ n ∈ V, n < D.length) (hr : RA (f + 1) N Q w a t) (hw : Parl.wfK (f + 1) t) (ka : t.kind ≠ 3) (hv : V.length = ns.length) (hN : ∃ M, N = Parl.namesF (f + 1) ns t ++ M) (hd : D.length + 3 ^ (f + 1) ≤ 1000000000) (hvl : V.length + 3 ^ (f + 1) ≤ 1000000000) :
    Calls Tryd.prog 25 #[.pointer (some ⟨sb, so, none⟩), .agg #[.int .i64 a.k, .int .i64 a.val, .string a.tx, .slice a.ao a.n a.cap], .pointer (some ⟨cb, 0, none⟩)] w fun e w' => PAg P sb so cs T cb D V no vo N ns (f + 1) t w e w' := by
  obtain ⟨⟨h1, h2, h3, h4, h5, h6, h7, h8⟩, hrow⟩ := hr
  have hnf : Parl.namesF (f + 1) ns t = t.args.foldl (Parl.namesF f) ns := by
    unfold Parl.namesF
    rw [if_neg ka]
    by_cases k4 : t.kind = 4
    · rw [if_pos k4, hw.2.1 (by omega)]; rfl
    · rw [if_neg k4]
  rw [hnf] at hN
  have hso : so < cs.size := (Array.getElem?_eq_some_iff.1 h.st.cel).1
  have hrows := h.rows
  obtain ⟨ki, val, tx, ao, n, cp⟩ := a
  dsimp only at h1 h2 h4 h5 hrow ⊢
  subst h2
  have hk1 : (ki == 1) = false := by rw [h1]; rcases h6 with e | e | e <;> first | (exact absurd e ka) | (rw [e]; decide)
  have hB := (Below.refl w.heap.size w).alloc (Nat.le_refl _) (.cells #[.int .i64 ki, .int .i64 val, .string tx, .slice ao t.args.length cp] 52)
  have HST := hide (show LAg P w sb so cs T cb D V no vo N ns f t #[.int .i64 ki, .int .i64 val, .string tx, .slice ao t.args.length cp] t.args.length (.slice none 0 0) (.int .i64 0) (w.alloc (.cells #[.int .i64 ki, .int .i64 val, .string tx, .slice ao t.args.length cp] 52)) from by
    refine ⟨0, [], [], no, nc, vo, vc, [], none, 0, by omega, rfl, rfl, ?_, (fun i d hd => by simp at hd), NewV.nil _ _, by simpa using hv, World.ownsRow_nil _ _ _ _, (fun g ⟨p, q, _⟩ => by cases q), rfl, trivial, (fun g hg => by cases hg), by simp, FrG.of_below hB, heap_alloc_new w _, by simpa using hV⟩
    simp only [List.append_nil]
    rw [set_id h.st.cel]
    have := h.below hB
    exact ⟨this.st, this.sc, this.t1, this.t2, this.args.keep fun g cs hp hg => ⟨hg, ⟨hp.1, fun ⟨p, q, _⟩ => by cases q⟩, hp.2⟩⟩)
  have HROW := hide hrow
  have HRO := hide hrows
  have HW := hide hw
  have HNN := hide hN
  have HNF := hide hnf
  have HD := hide hd
  have HVL := hide hvl
  have HVE := hide hv
  have H4 := hide h4
  have H5 := hide h5
  have H1 := hide h1
  have H7 := hide h7
  have HKA := hide ka
  have HP := hide hP
  have HT := hide hT
  have HAD := hide h
  have HSO := hide hso
  have HPO := hide (show 3 ^ (f + 1) = 3 * 3 ^ f by rw [Nat.pow_succ, Nat.mul_comm])
  have HP1 := hide (show 1 ≤ 3 ^ f from Nat.one_le_pow _ _ (by omega))
  have I := hide IH
  obtain ⟨tj, hj, hy0, hy1, hy2⟩ := info_parts infoIn
  clear h hrow hw ka hv hN hd hnf hrows h3 h4 h5 h6 h7 h1 IH hP hT hV hso hvl hB
  go_enter Tryd.func25, Tryd.ntmps25
  go_wp2_with fail
  go_loopg [7, 23] t.args.length (fun k av iv wr => LAg P w sb so cs T cb D V no vo N ns f t #[.int .i64 ki, .int .i64 val, .string tx, .slice ao t.args.length cp] k av iv wr)
  case atStart => exact unhide HST
  case round =>
    clear HST
    obtain ⟨j, E, F, no1, nc1, vo1, vc1, gs, oo, cp1, hkj, rfl, rfl, had, hnd, hnv, hlen, hown, hfree, hgl, hall, hgs, hel, hfr, hbx, hVF⟩ := hrel
    have hz := hfr.size
    have z4 := blk_lt hbx
    by_cases hlt : j < t.args.length
    · obtain ⟨g, vs, ca, hao, hga, hca, hta, haa⟩ := unhide HROW (fun q => by rw [q] at hlt; simp at hlt)
      subst hao
      have hjv : j < vs.length := by have := haa.length; omega
      have hcw : wr.heap[g]? = some (.cells ca 52 (0, 0)) := (unhide HAD).blk hfr hca (Ne.symm (unhide HT)) (by decide) (by decide) (by decide)
      have fc : ∀ i, i < 4 → wr.cell? ⟨g, j * 4 + i, none⟩ = (avC vs[j])[i]? := fun i hi => by
        rw [blkA hcw, ← Array.getElem?_toList, ← avC_atG hjv i hi, ← hta, List.getElem?_take_of_lt (by omega)]
      have f0 := fc 0 (by omega)
      have f1 := fc 1 (by omega)
      have f2 := fc 2 (by omega)
      have f3 := fc 3 (by omega)
      simp only [avC, List.getElem?_cons_zero, List.getElem?_cons_succ, Nat.add_zero] at f0 f1 f2 f3
      have hfold : (t.args.take (j + 1)).foldl (Parl.namesF f) ns = Parl.namesF f ((t.args.take j).foldl (Parl.namesF f) ns) t.args[j] := by
        rw [List.take_add_one, List.getElem?_eq_getElem hlt, List.foldl_append]; rfl
      have hpre : ∃ M, N = Parl.namesF f ((t.args.take j).foldl (Parl.namesF f) ns) t.args[j] ++ M := by
        obtain ⟨M, hM⟩ := unhide HNN
        rw [← hfold]
        obtain ⟨K, hK⟩ := Parl.namesW_ext f (t.args.drop (j + 1)) ((t.args.take (j + 1)).foldl (Parl.namesF f) ns)
        refine ⟨K ++ M, ?_⟩
        rw [hM, ← List.append_assoc, ← hK, ← List.foldl_append, List.take_append_drop]
      have hq3 : j * 3 ^ f ≤ 2 * 3 ^ f := Nat.mul_le_mul_right _ (by omega)
      have hDl : (D ++ E).length + 3 ^ f ≤ 1000000000 := by
        have q1 := unhide HD
        have q2 := unhide HPO
        rw [List.length_append]
        omega
      have hFl : F.length ≤ E.length := by
        have h1 : ∀ n ∈ F, n - D.length ∈ List.range E.length := fun n hn => by
          obtain ⟨q1, d, q2, _⟩ := hnv.var n hn
          exact List.mem_range.2 (List.getElem?_eq_some_iff.1 q2).1
        have h2 : (F.map (fun n => n - D.length)).Nodup := by
          unfold List.Nodup
          rw [List.pairwise_map]
          refine hnv.ord.imp_of_mem fun {a b} ha hb hab => ?_
          have := (hnv.var a ha).1
          omega
        have := h2.length_le_of_subset (l₂ := List.range E.length) (fun x hx => by
          obtain ⟨n, hn, rfl⟩ := List.mem_map.1 hx
          exact h1 n hn)
        simpa using this
      have hVl : (V ++ F).length + 3 ^ f ≤ 1000000000 := by
        have q1 := unhide HVL
        have q2 := unhide HPO
        rw [List.length_append]
        omega
      have hbA := (Below.refl wr.heap.size wr).alloc (Nat.le_refl _) (.cells #[.int .i64 vs[j].k, .int .i64 vs[j].val, .string vs[j].tx, .slice vs[j].ao vs[j].n vs[j].cap] 52)
      have hPn : ∀ g, (wr.alloc (.cells #[.int .i64 vs[j].k, .int .i64 vs[j].val, .string vs[j].tx, .slice vs[j].ao vs[j].n vs[j].cap] 52)).heap.size ≤ g → P g ∧ ¬ rowOf oo g := fun g hg => by
        rw [World.size_alloc] at hg
        refine ⟨unhide HP g (by omega), fun ⟨p, q, e⟩ => ?_⟩
        have := (hown.lt p.block (by rw [q]; rfl)).2
        omega
      have IC := hide (unhide I (fun g => P g ∧ ¬ rowOf oo g) (wr.alloc (.cells #[.int .i64 vs[j].k, .int .i64 vs[j].val, .string vs[j].tx, .slice vs[j].ao vs[j].n vs[j].cap] 52)) sb so (cs.setIfInBounds so (.slice no1 (D ++ E).length nc1)) T cb (D ++ E) (V ++ F) no1 nc1 vo1 vc1 N ((t.args.take j).foldl (Parl.namesF f) ns) Q vs[j] t.args[j] (had.below hbA) hPn (unhide HT) hVF ((RA.keep (fun g _ hp hg _ => ⟨(hbA.block g (blk_lt hg)).trans hg, hp⟩)) ((unhide HAD).ra (unhide HT) hfr (atAll haa j hjv hlt))) ((unhide HW).2.2.2 _ (List.getElem_mem hlt)) hlen hpre hDl hVl)
      have HOWN := hide (hown.alloc (.cells #[.int .i64 vs[j].k, .int .i64 vs[j].val, .string vs[j].tx, .slice vs[j].ao vs[j].n vs[j].cap] 52))
      have HFREE := hide hfree
      have HGL := hide hgl
      have HALL := hide hall
      have HGS := hide hgs
      have HEL := hide hel
      have HND := hide hnd
      have HNV := hide hnv
      have HFR := hide (hfr.trans (FrG.of_below hbA))
      have HAD1 := hide (had.below hbA)
      have HBX := hide (blk_alloc hbx (.cells #[.int .i64 vs[j].k, .int .i64 vs[j].val, .string vs[j].tx, .slice vs[j].ao vs[j].n vs[j].cap] 52))
      have HFO := hide hfold
      have HVF := hide hVF
      have hgw : g < wr.heap.size := blk_lt hcw
      have i0 : (0 : Int) ≤ (j : Int) := by omega
      have i1 : (j : Int) < (t.args.length : Int) := by omega
      have HLT := hide hlt
      have HKJ := hide hkj
      have hj3 : j ≤ 3 := by omega
      clear had hnd hnv hlen hown hfree hgl hall hgs hel hfr hbx hca hta haa hcw fc hfold hpre hDl hFl hVl hkj hVF hPn hbA hq3 hga
      go_wp2_with fail
      refine (unhide IC).mono ?_
      rintro e w2 ⟨m, E2, F2, no2, nc2, vo2, vc2, rfl, hs2, hd2, hv2, hl2, hr2, hm2, he2, hf2⟩
      rw [set_set] at hs2
      have HOW2 := hide (own_keepG (unhide HOWN) (fun g q => hf2.block g ((unhide HOWN).lt g q).2 (by
        have hro := own_row q
        rintro (e | e | e | e)
        · obtain ⟨cur, hc⟩ := own_at_ty (unhide HOWN) hro
          rw [e, (unhide HAD1).st.blk] at hc
          simp only [Option.some.injEq, Obj.cells.injEq] at hc
          exact (unhide HAD1).t2 hc.2.1
        · obtain ⟨cur, hc⟩ := own_at_ty (unhide HOWN) hro
          exact row_ty (unhide HAD1).st.own hc (by decide) e
        · obtain ⟨cur, hc⟩ := own_at_ty (unhide HOWN) hro
          rw [e, (unhide HAD1).sc.blk] at hc
          simp only [Option.some.injEq, Obj.cells.injEq] at hc
          exact absurd hc.2.1 (by decide)
        · exact unhide HFREE g hro e)))
      have hzz := hf2.size
      rw [World.size_alloc] at hzz
      have HS2 := hide hs2
      have HD2 := hide hd2
      have HV2 := hide hv2
      have HL2 := hide hl2
      have HR2 := hide hr2
      have HM2 := hide hm2
      have HE2 := hide he2
      have HF2 := hide hf2
      clear hs2 hd2 hv2 hl2 hr2 hm2 he2 hf2 f0 f1 f2 f3 IC
      unfold intV
      go_wp2_with (first | (at_builtin; go_must (refine wpList_append_own_at _ rfl (.tmp 31) (.tmp 33) 22 rfl (w.heap.size + 1) 3 tj (.int .i64 0) 1 8 Tryd.underlying22 hj hy0 hy1 hy2 rfl (by decide) _ j (gs.map intV) rfl ((unhide HOW2).alloc _) ⟨w2.heap.size, 0, none⟩ 1 1 [.int .i64 (m : Int)] rfl rfl (new1T _ _ _ _ rfl) (by simp [Value.oneCell']) (by unfold maxLen; omega) (by omega) (by simp; omega) ?_); go_must (intro v' w7 hown' hgrow _ hat; obtain ⟨g', cap', hv', -⟩ := own_some hown'; subst hv'; have HO7 := hide hown'; have HG := hide hgrow; have HAT := hide (show ∀ g, rowOf (some ⟨g', 0, none⟩) g → rowOf oo g ∨ w2.heap.size < g from (fun g hg => by obtain ⟨p, q, e⟩ := hg; cases q; dsimp only at e; subst e; rcases hat with q | q; exact Or.inl (own_row q.symm); right; have q2 : g = w2.heap.size + 1 := (by simpa [Value.ownBlock] using q); omega)); clear hown' hgrow hat)))
      go_roundg (gk - 1)
      case measure => have := unhide HKJ; have := unhide HLT; omega
      case rel =>
        have hfree2 : ∀ g, rowOf oo g → ¬ rowOf vo2 g := fun g q r => by
          have q3 := ((unhide HOWN).lt g (by obtain ⟨p, e1, e2⟩ := q; rw [e1, e2]; rfl)).2
          rcases (unhide HF2).row g (Or.inr (Or.inr (Or.inr r))) with (e | e | e | e) | e
          · obtain ⟨cur, hc⟩ := own_at_ty (unhide HOWN) q
            rw [e, (unhide HAD1).st.blk] at hc
            simp only [Option.some.injEq, Obj.cells.injEq] at hc
            exact (unhide HAD1).t2 hc.2.1
          · obtain ⟨cur, hc⟩ := own_at_ty (unhide HOWN) q
            exact row_ty (unhide HAD1).st.own hc (by decide) e
          · obtain ⟨cur, hc⟩ := own_at_ty (unhide HOWN) q
            rw [e, (unhide HAD1).sc.blk] at hc
            simp only [Option.some.injEq, Obj.cells.injEq] at hc
            exact absurd hc.2.1 (by decide)
          · exact unhide HFREE g q e
          · omega
        have hS7 := (unhide HS2).grown (unhide HOW2) hfree2 (unhide HG) (unhide HAT)
        have hgz := (unhide HG).size
        simp only [World.size_alloc] at hgz
        have hlowO : ∀ g, rowOf oo g → w.heap.size + 1 ≤ g := fun g ⟨p, q, e⟩ => by rw [e]; exact ((unhide HOWN).lt p.block (by rw [q]; rfl)).1
        have keep7 : ∀ k, k ≤ w.heap.size → k < w2.heap.size → w7.heap[k]? = w2.heap[k]? := fun k h1 h2 => by
          rw [(unhide HG).block k (by simp; omega) (row_own fun q => by have := hlowO k q; omega), Below.heap_alloc _ _ _ h2]
        have hF7 : FrG (rowsC sb no cb vo) (rowsC sb no2 cb vo2) w w7 := by
          have q := (unhide HFR).trans (unhide HF2)
          refine ⟨(unhide HG).os.trans q.os, (unhide HG).tape.trans q.tape, (unhide HG).output.trans q.output, by have := q.size; omega, fun k h1 h2 => ?_, q.row⟩
          rw [keep7 k (by omega) (by have := q.size; omega)]
          exact q.block k h1 h2
        refine ⟨j + 1, E ++ E2, F ++ F2, no2, nc2, vo2, vc2, gs ++ [m], some ⟨g', 0, none⟩, cap', by have := unhide HKJ; have := unhide HLT; omega, by go_num, rfl, by rw [← List.append_assoc, ← List.append_assoc]; exact hS7, (unhide HND).app (by have := unhide HD2; rwa [List.length_append] at this), (unhide HNV).app (by have := unhide HV2; rwa [List.length_append] at this), by rw [unhide HFO, ← List.append_assoc]; exact unhide HL2, ?_, ?_, by simp [unhide HGL], ?_, ?_, ?_, hF7, ?_, ?_⟩
        · have := unhide HO7
          simpa [intV] using this
        · intro g q r
          rcases unhide HAT g q with e | e
          · exact hfree2 g e r
          · have := (unhide HS2).rows g (Or.inr (Or.inr (Or.inr r)))
            omega
        · rw [List.take_add_one, List.getElem?_eq_getElem (unhide HLT), ← List.append_assoc, ← List.append_assoc]
          exact All2.snoc (unhide HR2) ((unhide HALL).imp fun _ _ r => r.more)
        · intro g hg
          rw [← List.append_assoc]
          rcases List.mem_append.1 hg with q | q
          · have := unhide HGS g q
            rw [List.length_append]
            omega
          · obtain rfl : g = m := by simpa using q
            exact unhide HM2
        · have q1 := unhide HEL
          have q2 := unhide HE2
          rw [List.length_append, Nat.add_mul]
          omega
        · rw [keep7 w.heap.size (Nat.le_refl _) (by omega)]
          exact (unhide HAD1).blk (unhide HF2) (unhide HBX) (Ne.symm (unhide HT)) (by decide) (by decide) (by decide)
        · intro n hn
          rw [← List.append_assoc] at hn ⊢
          rcases List.mem_append.1 hn with q | q
          · have := unhide HVF n q
            rw [List.length_append]
            omega
          · obtain ⟨q1, d, q2, _⟩ := (unhide HV2).var n q
            have := (List.getElem?_eq_some_iff.1 q2).1
            rw [List.length_append]
            omega
    · obtain rfl : j = t.args.length := by omega
      rw [List.take_length] at hlen hall
      have hdl : (D ++ E).length + 1 ≤ 1000000000 := by
        have q1 := unhide HD
        have q2 := unhide HPO
        have q4 := unhide HP1
        have q5 : E.length + 2 ≤ 3 * 3 ^ f := by
          obtain q | q | q | q : t.args.length = 0 ∨ t.args.length = 1 ∨ t.args.length = 2 ∨ t.args.length = 3 := by omega
          all_goals rw [q] at hel; omega
        rw [List.length_append]
        omega
      have HE2 := hide (show (E.length + 1) + 1 ≤ 3 ^ (f + 1) by
        have q2 := unhide HPO
        have q4 := unhide HP1
        obtain q | q | q | q : t.args.length = 0 ∨ t.args.length = 1 ∨ t.args.length = 2 ∨ t.args.length = 3 := by omega
        all_goals rw [q] at hel; omega)
      have s0 := had.st.cell
      have b0 := blkA hbx 0
      have b1 := blkA hbx 1
      have b2 := blkA hbx 2
      have b3 := blkA hbx 3
      simp only [List.getElem?_toArray, List.getElem?_cons_zero, List.getElem?_cons_succ] at b0 b1 b2 b3
      have sz := blk_lt had.st.blk
      have hlab := lab_any (wr.drew) ⟨ki, val, tx, ao, t.args.length, cp⟩
      have hlvv : labV ⟨ki, val, tx, ao, t.args.length, cp⟩ = if ki = 2 then val else 0 := rfl
      generalize hlv : labV ⟨ki, val, tx, ao, t.args.length, cp⟩ = lv at *
      dsimp only at hlab
      have LB := hide hlab
      have HLV := hide hlvv
      have hsb' : sb ≠ w.heap.size := fun e => by
        have := had.st.blk
        rw [e, hbx] at this
        simp only [Option.some.injEq, Obj.cells.injEq] at this
        exact unhide HT this.2.1.symm
      have HNS := hide (show some sb ≠ (Value.slice no1 (D ++ E).length nc1).ownBlock from row_own (row_ty had.st.own had.st.blk had.st.ty))
      have HNB := hide (show some w.heap.size ≠ (Value.slice no1 (D ++ E).length nc1).ownBlock from row_own (row_ty had.st.own hbx (by decide)))
      have HSO1 := hide (show so < (cs.setIfInBounds so (.slice no1 (D ++ E).length nc1)).size by simp; exact unhide HSO)
      have had' : AdB P wr sb so (cs.setIfInBounds so (.slice no1 (D ++ E).length nc1)) T cb (D ++ E) (V ++ F) no1 nc1 vo1 vc1 := ⟨had.st, had.sc, had.t1, had.t2, had.args.keep fun g cs hp hg => ⟨hg, hp.1.1, hp.2⟩⟩
      have HAD2 := hide had'
      have hdnd : ki = 2 → (0 ≤ val ∧ val ≤ 1000000000) := fun q => by
        have k4 : t.kind = 4 := by
          have := unhide H1
          rw [q] at this
          unfold ak at this
          split at this
          · cases this
          · split at this
            · assumption
            · cases this
        obtain ⟨q1, q2, _⟩ := unhide H4 k4
        have := Parl.numL_le t.text.toList (by rw [Parl.bytes_len]; exact q2)
        rw [q1]
        unfold Parl.numOf
        omega
      have hkinds : ki = 2 ∨ ki = 3 := by
        have := unhide H1
        unfold ak at this
        rcases (unhide HW).1 with q | q | q
        · rw [if_neg (by omega), if_neg (by omega)] at this; exact Or.inr this
        · exact absurd q (unhide HKA)
        · rw [if_neg (by omega), if_pos q] at this; exact Or.inl this
      have hk4 : ki = 2 → t.kind = 4 := fun q => by
        have := unhide H1
        rw [q] at this
        unfold ak at this
        split at this
        · cases this
        · split at this
          · assumption
          · cases this
      have hk2 : ki = 3 → t.kind = 2 := fun q => by
        rcases (unhide HW).1 with r | r | r
        · exact r
        · exact absurd r (unhide HKA)
        · have := unhide H1
          rw [q, r] at this
          exact absurd this (by decide)
      have hnok : NdOk (D.length + E.length) ⟨ki, lv, tx, t.args.length, oo, cp1, gs, D.length + E.length, 0⟩ := by
        refine ⟨by rcases hkinds with q | q; exact Or.inr (Or.inl q); exact Or.inr (Or.inr q), fun q => by rcases hkinds with r | r <;> (dsimp only at q; omega), fun q => ?_, fun q => ?_, fun a ha => ?_⟩
        · have k4 := hk4 q
          have ha0 : t.args = [] := (unhide HW).2.1 (by omega)
          exact ⟨(unhide H4 k4).2.2, by rw [ha0]; rfl, List.length_eq_zero_iff.1 (by rw [hgl, ha0]; rfl)⟩
        · refine ⟨?_, hgl.symm, by show gs.length ≤ 3; omega⟩
          show lv = 0
          rw [hlvv, if_neg]
          intro r
          dsimp only at q
          omega
        · have := hgs a ha
          rwa [List.length_append] at this
      have hsmall : tx.size ≤ 240 ∧ 0 ≤ lv ∧ lv ≤ 1000000000 := by
        refine ⟨?_, ?_⟩
        · rcases hkinds with q | q
          · rw [(unhide H4 (hk4 q)).2.2]; exact Nat.zero_le _
          · rw [unhide H5 (hk2 q)]; exact unhide H7
        · rw [hlvv]
          split
          · rename_i q; exact hdnd q
          · omega
      have HDA := hide (show ∀ w2, Below wr.heap.size wr w2 → gs ≠ [] → ∃ (q : Nat) (cs : Array Value), oo = some ⟨q, 0, none⟩ ∧ P q ∧ ¬ rowOf vo1 q ∧ q < w2.heap.size ∧ w2.heap[q]? = some (.cells cs 3 (0, 0)) ∧ cs.toList.take gs.length = gs.map intV from fun w2 hb2 hne => by
        rcases hown.2 with ⟨q, q0⟩ | ⟨g, cap, cur, q1, q2, q3, q4⟩
        · exact absurd (List.length_eq_zero_iff.1 (hgl.trans q0)) hne
        · simp only [Value.slice.injEq] at q1
          obtain ⟨rfl, _, _⟩ := q1
          have q5 := blk_lt q3
          refine ⟨g, cur, rfl, unhide HP g (by omega), hfree g ⟨_, rfl, rfl⟩, Nat.lt_of_lt_of_le q5 hb2.size, (hb2.block g q5).trans q3, ?_⟩
          have q6 := q4.2.2.2
          rw [hgl]
          simpa using q6)
      have HFIN := hide (show ∀ (g cap' : Nat) (w2 w8 : World), AdB P w8 sb so ((cs.setIfInBounds so (.slice no1 (D ++ E).length nc1)).setIfInBounds so (.slice (some ⟨g, 0, none⟩) ((D ++ E).length + 1) cap')) T cb ((D ++ E) ++ [⟨ki, lv, tx, t.args.length, oo, cp1, gs, D.length + E.length, 0⟩]) (V ++ F) (some ⟨g, 0, none⟩) cap' vo1 vc1 → FrG (rowsC sb no1 cb vo1) (rowsC sb (some ⟨g, 0, none⟩) cb vo1) w2 w8 → Below wr.heap.size wr w2 → PAg P sb so cs T cb D V no vo N ns (f + 1) t w (.returned (.int .i64 ((D ++ E).length : Int))) w8 from fun g cap' w2 w8 k1 k2 k3 => by
        rw [set_set] at k1
        refine ⟨(D ++ E).length, E ++ [⟨ki, lv, tx, t.args.length, oo, cp1, gs, D.length + E.length, 0⟩], F, some ⟨g, 0, none⟩, cap', vo1, vc1, rfl, ?_, hnd.app (NewD.one ⟨rfl, rfl, hnok, hsmall⟩), hnv.last _, ?_, ?_, ?_, ?_, (hfr.trans (FrG.of_below k3)).trans k2⟩
        · have e : ((D ++ E) ++ [(⟨ki, lv, tx, t.args.length, oo, cp1, gs, D.length + E.length, 0⟩ : Ng)]).length = (D ++ E).length + 1 := by rw [List.length_append]; rfl
          rw [← List.append_assoc, e]
          exact k1
        · rw [unhide HNF, hlen]
        · rw [← List.append_assoc]
          refine ⟨fun q => absurd q (unhide HKA), fun _ => ⟨⟨ki, lv, tx, t.args.length, oo, cp1, gs, D.length + E.length, 0⟩, by simp, by simp, unhide H1, fun q => ?_, fun q => ?_, hall.imp fun _ _ r => ?_⟩⟩
          · obtain ⟨q1, q2, q3⟩ := unhide H4 q
            show lv = _
            rw [hlvv, if_pos, q1]
            rw [unhide H1, q]
            rfl
          · exact unhide H5 q
          · have := r.more (E := [⟨ki, lv, tx, t.args.length, oo, cp1, gs, D.length + E.length, 0⟩]) (F := [])
            rwa [List.append_nil] at this
        · rw [← List.append_assoc]; simp
        · rw [List.length_append]
          exact unhide HE2)
      have HGL := hide hgl
      obtain ⟨ti, hi, hzz0, hzz1, hzz2⟩ := info_parts infoNd
      have HDL := hide (show D.length + E.length = (D ++ E).length by rw [List.length_append])
      rw [unhide HDL] at HFIN
      generalize hDE : D ++ E = DE at *
      generalize hVF' : V ++ F = VF at *
      clear had had' hnd hnv hlen hown hfree hgl hall hgs hel hfr hbx hkj hlab hlv hVF hlvv hdnd hkinds hk4 hk2 hnok hsmall hDE hVF' HDL
      go_wp2_with fail
      go_region_law (first
        | (go_simp; go_at_call 43; refine (unhide LB).mono ?_; rintro e w2 ⟨rfl, hb⟩; have HB2 := hide (((Below.refl _ wr).drew).trans hb); have k0 := (hb.cell (p := ⟨sb, so, none⟩) sz).trans s0; have k1 := (hb.cell (p := ⟨w.heap.size, 0, none⟩) z4).trans b0; have k2 := (hb.cell (p := ⟨w.heap.size, 1, none⟩) z4).trans b1; have k3 := (hb.cell (p := ⟨w.heap.size, 2, none⟩) z4).trans b2; have k4 := (hb.cell (p := ⟨w.heap.size, 3, none⟩) z4).trans b3; have hz2 : wr.heap.size ≤ w2.heap.size := hb.size; have k0' : ∀ o, (w2.alloc o).cell? ⟨sb, so, none⟩ = some (.slice no1 DE.length nc1) := (fun o => (World.cell?_alloc_past _ _ _ (by omega)).trans k0); clear hb)
        | (refine step_append_lies _ (by rfl) _ _ _ (by rfl) 0 95 ti _ 7 80 Tryd.underlying57 hi hzz0 hzz1 hzz2 rfl (by omega) (.slice no1 DE.length nc1) DE.length (ngsC DE) (by rfl) (((unhide HAD2).below (unhide HB2)).st.own.alloc _) ⟨w2.heap.size, 0, none⟩ 1 1 [.int .i64 ki, .int .i64 lv, .string tx, .int .i64 (t.args.length : Int), .slice oo t.args.length cp1, .int .i64 (DE.length : Int), .int .i64 0] (by rfl) (by rfl) (World.news_of_block (cs := #[.int .i64 ki, .int .i64 lv, .string tx, .int .i64 (t.args.length : Int), .slice oo t.args.length cp1, .int .i64 (DE.length : Int), .int .i64 0]) (t := 95) (fr := (0, 0)) (heap_alloc_new w2 _)) (by simp [Value.oneCell']) (by omega) (by unfold maxLen; omega) (by omega) (Nat.zero_le _) (w2.heap.size + 1) (by simp) ?_; intro g cap' w7 hown1 hgrow hat hlg; have m0 := (hgrow.cell_far ⟨sb, so, none⟩ (by simp; omega) (unhide HNS)).trans ((World.cell?_alloc_past _ _ _ (by omega)).trans k0); have m1 := (hgrow.cell_far ⟨w.heap.size, 0, none⟩ (by simp; omega) (unhide HNB)).trans ((World.cell?_alloc_past _ _ _ (by omega)).trans k1); have m2 := (hgrow.cell_far ⟨w.heap.size, 1, none⟩ (by simp; omega) (unhide HNB)).trans ((World.cell?_alloc_past _ _ _ (by omega)).trans k2); have m3 := (hgrow.cell_far ⟨w.heap.size, 2, none⟩ (by simp; omega) (unhide HNB)).trans ((World.cell?_alloc_past _ _ _ (by omega)).trans k3); have m4 := (hgrow.cell_far ⟨w.heap.size, 3, none⟩ (by simp; omega) (unhide HNB)).trans ((World.cell?_alloc_past _ _ _ (by omega)).trans k4); have HN := hide (((unhide HAD2).below (unhide HB2)).node (fun g q => unhide HP g (by omega)) (unhide HSO1) ((Below.refl _ _).alloc (Nat.le_refl _) _) (d := ⟨ki, lv, tx, t.args.length, oo, cp1, gs, DE.length, 0⟩) (show w7.ownsRow _ _ _ _ _ (_ ++ [_, _, _, _, _, _, _]) from by rw [unhide HGL]; exact hown1) hgrow (by rcases hat with q | q; exact Or.inl (own_row q); (right; omega)) (fun q => by have := unhide HDA w2 (unhide HB2) q; exact this)); have k9 : w7.frozen? ⟨sb, so, none⟩ = false := (by have := blkX (unhide HN).1.st.blk so; rwa [World.frozen?_setCell] at this); have zz7 : sb < w7.heap.size := (by have := blk_lt (unhide HN).1.st.blk; rwa [zset] at this); clear hown1 hgrow hat hlg))
      all_goals (go_wp2_with fail; go_ret; exact unhide HFIN _ _ _ _ (unhide HN).1 (unhide HN).2 (unhide HB2))
theorem ag_all : ∀ f, AgSaid f
  | 0 => fun _ _ _ _ _ _ _ _ _ _ _ _ _ _ _ _ _ _ _ _ _ _ h => absurd h (fun q => q)
  | f + 1 => fun P w sb so cs T cb D V no nc vo vc N ns Q a t h hP hT hV hr hw hv hN hd hvl => by
    by_cases ka : t.kind = 3
    · exact ag_var f P w sb so cs T cb D V no nc vo vc N ns a t h hP hV hr.1 hw ka hv hN hd hvl
    · exact ag_node (ag_all f) P w sb so cs T cb D V no nc vo vc N ns Q a t h hP hT hV hr hw ka hv hN hd hvl
end Go.Proofs.YthfjnfcekeknlaaDoor
namespace Go.Proofs.YthfjnfcekeknlaaDoor
open Go.RowKit

theorem NdOk.mono {l l' : Nat} {d : Ng} (h : NdOk l d) (hl : l ≤ l') : NdOk l' d := ⟨h.ks, h.v, h.m, h.c, fun a ha => Nat.lt_of_lt_of_le (h.inn a ha) hl⟩
theorem gl_app {D : List Ng} {n : Nat} (h : n < D.length) (E : List Ng) : Parl.gl (gOf (D ++ E)) n = Parl.gl (gOf D) n := by
  rw [gl_of (show n < (D ++ E).length by rw [List.length_append]; omega), gl_of h, List.getElem_append_left h]
theorem ga_app {D : List Ng} {n : Nat} (h : n < D.length) (E : List Ng) : Parl.ga (gOf (D ++ E)) n = Parl.ga (gOf D) n := by
  rw [ga_of (show n < (D ++ E).length by rw [List.length_append]; omega), ga_of h, List.getElem_append_left h]
theorem ga_out {D : List Ng} {n : Nat} (h : D.length ≤ n) : Parl.ga (gOf D) n = [] := by
  unfold Parl.ga gOf
  rw [List.getElem?_map, List.getElem?_eq_none h]
  rfl
theorem NewD.at {D E : List Ng} (h : NewD D.length E) {n : Nat} (h1 : D.length ≤ n) (h2 : n < (D ++ E).length) : (D ++ E)[n].nx = n ∧ (D ++ E)[n].mrk = 0 ∧ NdOk n (D ++ E)[n] ∧ (D ++ E)[n].tx.size ≤ 240 ∧ 0 ≤ (D ++ E)[n].val ∧ (D ++ E)[n].val ≤ 1000000000 := by
  rw [List.getElem_append_right h1]
  rw [List.length_append] at h2
  have := h (n - D.length) E[n - D.length] (List.getElem?_eq_getElem (by omega))
  rwa [show D.length + (n - D.length) = n by omega] at this
theorem OkD.more {D E : List Ng} {fr : Nat → Nat} (h : OkD D fr) (hE : NewD D.length E) : OkD (D ++ E) fr := by
  refine ⟨fun n hn => ?_, fun n hn => ?_, fun n hn => h.out n (by rw [List.length_append] at hn; omega)⟩
  · by_cases q : n < D.length
    · rw [List.getElem_append_left q]
      exact (h.nd n q).mono (by rw [List.length_append]; omega)
    · exact (hE.at (by omega) hn).2.2.1.mono (by omega)
  · by_cases q : n < D.length
    · obtain ⟨k, hk⟩ := h.hop n q
      have key : ∀ {n m k}, Hop D n m k → Hop (D ++ E) n m k := by
        intro n m k hk
        induction hk with
        | stop q e => exact .stop (by rw [List.length_append]; omega) (by rw [List.getElem_append_left q]; exact e)
        | go q e _ ih => exact .go (by rw [List.length_append]; omega) (by rw [List.getElem_append_left q]; exact e) (by rw [List.getElem_append_left q]; exact ih)
      exact ⟨k, key hk⟩
    · rw [h.out n (by omega)]
      exact ⟨0, .stop hn (hE.at (by omega) hn).1⟩
theorem Tr_more {D E : List Ng} {fr : Nat → Nat} (h : OkD D fr) {n : Nat} {u : Parl.U} (ht : Parl.Tr (gOf D) fr n u) : n < D.length → Parl.Tr (gOf (D ++ E)) fr n u := by
  induction ht with
  | @var n hg ha => exact fun hn => .var (by rw [gl_app (h.lt hn)]; exact hg) (by rw [ga_app (h.lt hn)]; exact ha)
  | @node n k tx num us hg hl _ ih =>
    intro hn
    refine .node (by rw [gl_app (h.lt hn)]; exact hg) (by rw [ga_app (h.lt hn)]; exact hl) fun i a v ha hv => ?_
    rw [ga_app (h.lt hn)] at ha
    refine ih i a v ha hv ?_
    rw [ga_of (h.lt hn)] at ha
    exact (h.nd _ (h.lt hn)).inn a (List.mem_of_getElem? ha)
/-- The new nodes stand for terms, too. -/
theorem sto_more {D E : List Ng} {fr : Nat → Nat} {T : Nat → Parl.U} (h : OkD D fr) (hS : Parl.Sto (gOf D) fr T) (hE : NewD D.length E) : ∃ T', Parl.Sto (gOf (D ++ E)) fr T' ∧ ∀ n, n < D.length → T' n = T n := by
  have ho := h.more hE
  have hplain : Parl.Plain (gOf (D ++ E)) := fun n hg => by
    by_cases q : n < (D ++ E).length
    · rw [gl_of q] at hg
      rw [ga_of q]
      exact ((ho.nd n q).v ((ho.nd n q).lab.1 hg)).2.2.2
    · exact ga_out (by omega)
  have htr : ∀ n, ∃ u, Parl.Tr (gOf (D ++ E)) fr n u := by
    intro n
    induction n using Nat.strongRecOn with
    | _ n ih =>
      by_cases q : n < D.length
      · exact ⟨_, Tr_more h (hS.tr n) q⟩
      · have hf : fr n = n := h.out n (by omega)
        refine Parl.tr_of_args hplain fun a ha => ih a ?_
        rw [hf] at ha
        by_cases r : n < (D ++ E).length
        · rw [ga_of r] at ha
          exact (hE.at (by omega) r).2.2.1.inn a ha
        · rw [ga_out (by omega)] at ha
          cases ha
  refine ⟨fun n => Classical.choose (htr n), ⟨⟨ho.idem, fun n hn => ?_⟩, ⟨fun n hn => ?_, fun n hn i x y hx hy => ?_⟩, fun n => Classical.choose_spec (htr n), hplain, fun n hg => ?_⟩, fun n hn => ?_⟩
  · by_cases q : n < D.length
    · rw [gl_app q] at hn
      rw [gl_app (h.lt q)]
      exact hS.fronts.lab n hn
    · rw [h.out n (by omega)]; exact hn
  · by_cases q : n < D.length
    · rw [gl_app q] at hn
      have := hS.cong.lab n hn
      unfold Parl.same3 at this ⊢
      rw [gl_app q, gl_app (h.lt q), ga_app q, ga_app (h.lt q)]
      exact this
    · rw [h.out n (by omega)]; exact ⟨rfl, rfl⟩
  · by_cases q : n < D.length
    · rw [gl_app q] at hn
      rw [ga_app q] at hx
      rw [ga_app (h.lt q)] at hy
      exact hS.cong.args n hn i x y hx hy
    · rw [h.out n (by omega), hx] at hy
      obtain rfl := Option.some.inj hy
      exact .fr rfl
  · by_cases q : n < D.length
    · rw [gl_app (h.lt q)] at hg
      exact hS.vmin n hg
    · rw [h.out n (by omega)]; exact Nat.le_refl _
  · exact (Classical.choose_spec (htr n)).one (Tr_more h (hS.tr n) hn)
/-- What a node stands for that a term was laid into. -/
theorem RNg.is {D : List Ng} {fr : Nat → Nat} {T : Nat → Parl.U} (h : OkD D fr) (hS : Parl.Sto (gOf D) fr T) {V : List Nat} {N : List (List UInt8)} : ∀ {f n : Nat} {t : Parl.Tm}, RNg D V N f n t → Parl.wfK f t → T n = Parl.tmU (fun x => T ((V[N.idxOf x]?).getD 0)) f t
  | f + 1, n, t, ⟨h1, h2⟩, ⟨k1, k2, k3, k4⟩ => by
    unfold Parl.tmU
    by_cases k : t.kind = 3
    · rw [if_pos k, h1 k]; rfl
    · rw [if_neg k]
      obtain ⟨d, q1, q2, q3, q4, q5, q6⟩ := h2 k
      have hn := (List.getElem?_eq_some_iff.1 q1).1
      have hdn : D[n] = d := (List.getElem?_eq_some_iff.1 q1).2
      have hf : fr n = n := (h.self hn).2 (by rw [hdn]; exact q2)
      have key : ∀ kk tx num, Parl.gl (gOf D) n = some (kk, tx, num) → T n = .n kk tx num (t.args.map (Parl.tmU (fun x => T ((V[N.idxOf x]?).getD 0)) f)) := fun kk tx num hg => by
        rw [hS.reads.node n kk tx num hg, ga_of hn, hdn]
        congr 1
        have : ∀ (xs : List Nat) (ts : List Parl.Tm), All2 (RNg D V N f) xs ts → (∀ a ∈ ts, Parl.wfK f a) → xs.map T = ts.map (Parl.tmU (fun x => T ((V[N.idxOf x]?).getD 0)) f) := by
          intro xs
          induction xs with
          | nil => intro ts ha _; cases ts with
            | nil => rfl
            | cons t ts => exact ha.elim
          | cons x xs ih => intro ts ha hw; cases ts with
            | nil => exact ha.elim
            | cons t ts => rw [List.map_cons, List.map_cons, RNg.is h hS ha.1 (hw t (by simp)), ih ts ha.2 (fun a ha => hw a (by simp [ha]))]
        exact this d.args t.args q6 k4
      have hlab : Parl.gl (gOf D) n = labN d := by rw [gl_of hn, hdn]
      by_cases kk : t.kind = 4
      · rw [if_pos kk]
        have hk : d.k = 2 := by rw [q3, kk]; rfl
        have := key 3 [] d.val (by rw [hlab]; unfold labN; rw [if_neg (by omega), if_pos hk])
        rw [this, q4 kk, k2 (by omega)]
        rfl
      · rw [if_neg kk]
        have kt : t.kind = 2 := by omega
        have hk : d.k = 3 := by rw [q3, kt]; rfl
        have := key 1 d.tx.toList 0 (by rw [hlab]; unfold labN; rw [if_neg (by omega), if_neg (by omega)])
        rw [this, q5 kt]
end Go.Proofs.YthfjnfcekeknlaaDoor
