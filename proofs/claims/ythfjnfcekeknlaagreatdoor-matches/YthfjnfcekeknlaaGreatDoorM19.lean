import Derived.Test.YthfjnfcekeknlaaGreatDoorM01
import Derived.Test.YthfjnfcekeknlaaGreatDoorM06
import Derived.Test.YthfjnfcekeknlaaGreatDoorM18
namespace Parl
theorem mtW_len (a b : ByteArray) (la lb : List Tok) : (mtW a b la lb).length ≤ 6561 := by
  unfold mtW mtL
  by_cases hs : 64 < a.size ∨ 64 < b.size
  · rw [if_pos hs]; simp
  · rw [if_neg hs]
    rcases hp : whole la with e | ⟨p, l1⟩
    · simp
    · rcases ht : whole lb with e | ⟨t, l2⟩
      · simp
      · dsimp only
        split
        · have h1 := namesK_len 8 t [] (wfK_term 8 _ _ _ (whole_is ht).1)
          have h2 := List.length_filter_le (fun x => decide (x ∈ (matF 8 p t Lk.none).wt)) (namesF 8 [] t)
          unfold Lk.waits
          simp only [List.length_nil] at h1
          omega
        · simp
end Parl
namespace Go.Proofs.YthfjnfcekeknlaaGreatDoor
open Go.RowKit

set_option maxHeartbeats 2000000 in
theorem same_any (w : World) (b0 b1 : Nat) (xs : List ByteArray) (oa ob : Option Addr) (ca cb : Nat) (ha : w.ownsRow b0 9 1 (.slice oa xs.length ca) xs.length (xs.map Value.string)) (hb : w.ownsRow b1 9 1 (.slice ob xs.length cb) xs.length (xs.map Value.string)) (hl : xs.length ≤ 1000000) :
    Calls Tryz.prog 66 #[.slice oa xs.length ca, .slice ob xs.length cb] w fun e w' => e = .returned (.bool true) ∧ Below w.heap.size w w' := by
  have HA := hide ha
  have HB := hide hb
  clear ha hb
  go_enter Tryz.func66, Tryz.ntmps66
  go_wp2_with fail
  go_loopg [5] xs.length (fun k iv wr => ∃ j : Nat, k + j = xs.length ∧ iv = .int .i64 (j : Int) ∧ Below w.heap.size w wr)
  case atStart => exact ⟨0, by omega, rfl, Below.refl _ _⟩
  case round =>
    obtain ⟨j, hkj, rfl, hbe⟩ := hrel
    have HBE := hide hbe
    have zz := hbe.size
    by_cases hlt : j < xs.length
    · obtain ⟨g, hg⟩ : ∃ g, oa = some ⟨g, 0, none⟩ := by
        rcases (unhide HA).2 with ⟨q, q2⟩ | ⟨g, cp, cur, q, _⟩
        · omega
        · simp only [Value.slice.injEq] at q
          exact ⟨g, q.1⟩
      subst hg
      obtain ⟨g2, hg2⟩ : ∃ g, ob = some ⟨g, 0, none⟩ := by
        rcases (unhide HB).2 with ⟨q, q2⟩ | ⟨g, cp, cur, q, _⟩
        · omega
        · simp only [Value.slice.injEq] at q
          exact ⟨g, q.1⟩
      subst hg2
      have gz := ((unhide HA).lt g rfl).2
      have gz2 := ((unhide HB).lt g2 rfl).2
      have f0 : wr.cell? ⟨g, j, none⟩ = some (.string xs[j]) := by
        rw [hbe.cell (p := ⟨g, j, none⟩) gz, (unhide HA).cellAt j (by omega), List.getElem?_map, List.getElem?_eq_getElem hlt]
        rfl
      have f1 : wr.cell? ⟨g2, j, none⟩ = some (.string xs[j]) := by
        rw [hbe.cell (p := ⟨g2, j, none⟩) gz2, (unhide HB).cellAt j (by omega), List.getElem?_map, List.getElem?_eq_getElem hlt]
        rfl
      have i0 : (0 : Int) ≤ (j : Int) := by omega
      have i1 : (j : Int) < (xs.length : Int) := by omega
      have gy : g < wr.heap.size := by omega
      have gy2 : g2 < wr.heap.size := by omega
      generalize xs[j] = x at *
      clear hbe
      go_wp2_with fail
      go_big_region
      go_wp2_with fail
      go_roundg (gk - 1)
      case measure => omega
      case rel => exact ⟨j + 1, by omega, by go_num, (unhide HBE).drew⟩
    · obtain rfl : j = xs.length := by omega
      clear hbe
      go_wp2_with fail
      go_ret
      exact ⟨rfl, unhide HBE⟩
theorem own_str {w : World} {b : Nat} {T : TypeId} {v : Value} {n : Nat} {ys : List (List UInt8)} (h : w.ownsRow b T 1 v n (ys.map fun x => Value.string ⟨x.toArray⟩)) : ∃ xs : List ByteArray, xs = (ys.map fun x => (⟨x.toArray⟩ : ByteArray)) ∧ w.ownsRow b T 1 v n (xs.map Value.string) := ⟨_, rfl, by rw [List.map_map]; exact h⟩

set_option maxHeartbeats 4000000 in
set_option maxRecDepth 100000 in
theorem matches_call (w : World) (K : Int) (a b : ByteArray) (o : Option Addr) (n c : Nat) (he : EnvM w) :
    Calls Tryz.prog 36 #[.agg #[.int .i64 K, .string a, .string b, .slice o n c]] w fun e w' => e = .returned (.bool true) ∧ Below w.heap.size w w' := by
  obtain ⟨la, hLa, hha, hla⟩ := Parl.toks_of a
  obtain ⟨lb, hLb, hhb, hlb⟩ := Parl.toks_of b
  have IA := hide (fun W (q : EnvM W) => maA_any W a b la lb hLa hha (fun h => hla (by omega)) hLb hhb (fun h => hlb (by omega)) q.sg q.pos)
  have IB := hide (fun W => ma_any W a b la lb hLa hha hLb hhb)
  have HLEN := hide (Parl.mtW_len a b la lb)
  have HE := hide he
  clear he hLa hha hla hLb hhb hlb
  unfold PMa at IA IB
  generalize Parl.mtN a b la lb = vn at *
  generalize Parl.mtE a b la lb = ve at *
  generalize Parl.mtW a b la lb = vs at *
  go_enter Tryz.func36, Tryz.ntmps36
  go_wp2_with fail
  refine (unhide IA _ ((unhide HE).alloc _)).mono ?_
  rintro e w1 ⟨ov, rfl, ho1, hb1⟩
  obtain ⟨xs, hxs, ho1⟩ := own_str ho1
  obtain ⟨oa, ca, rfl⟩ := own_shapeT ho1
  have HB1 := hide hb1
  have HO1 := hide ho1
  have c1 := (hb1.cell (p := ⟨w.heap.size, 1, none⟩) (by simp)).trans (blkA (heap_alloc_new w _) 1)
  have c2 := (hb1.cell (p := ⟨w.heap.size, 2, none⟩) (by simp)).trans (blkA (heap_alloc_new w _) 2)
  simp only [List.getElem?_toArray, List.getElem?_cons_zero, List.getElem?_cons_succ] at c1 c2
  have hz1 : w.heap.size < w1.heap.size := by have := hb1.size; simp at this; omega
  clear hb1 ho1
  go_wp2_with fail
  refine (unhide IB w1).mono ?_
  rintro e w2 ⟨ov, rfl, ho2, hb2⟩
  obtain ⟨xs', hxs', ho2⟩ := own_str ho2
  obtain ⟨ob, cb, rfl⟩ := own_shapeT ho2
  obtain rfl : xs' = xs := hxs'.trans hxs.symm
  have hlx : vs.length = xs'.length := by rw [hxs]; simp
  have HLX := hide (show xs'.length ≤ 6561 by have := unhide HLEN; omega)
  rw [hlx] at HO1 ho2 ⊢
  have HO1' := hide (own_keepG (unhide HO1) (fun g q => hb2.block g ((unhide HO1).lt g q).2))
  have HO2 := hide ho2
  have HB2 := hide hb2
  clear hb2 ho2 c1 c2 hxs hxs' hlx
  go_wp2_with fail
  refine (same_any w2 _ _ xs' oa ob ca cb (unhide HO1') (unhide HO2) (by have := unhide HLX; omega)).mono ?_
  rintro e w3 ⟨rfl, hb3⟩
  have HB3 := hide (((((Below.refl w.heap.size w).alloc (Nat.le_refl _) _).trans ((unhide HB1).mono (by simp))).trans ((unhide HB2).mono (by omega))).trans (hb3.mono (by have := (unhide HB2).size; omega)))
  clear hb3
  go_wp2_with fail
  go_ret
  exact ⟨rfl, unhide HB3⟩

set_option maxHeartbeats 4000000 in
set_option maxRecDepth 100000 in
theorem plays_match : PlaysM 4 := by
  intro w a b o n c he
  have I := hide (fun W (q : EnvM W) => matches_call W 4 a b o n c q)
  have HE := hide he
  clear he
  go_enter Tryz.func25, Tryz.ntmps25
  go_wp2_with fail
  refine (unhide I _ ((unhide HE).alloc _)).mono ?_
  rintro e w1 ⟨rfl, hb1⟩
  have HB1 := hide hb1
  clear hb1
  go_wp2_with fail
  go_ret
  exact ⟨rfl, ((Below.refl _ _).alloc (Nat.le_refl _) _).trans ((unhide HB1).mono (by simp))⟩

set_option maxHeartbeats 1000000 in
theorem matches_walk (w : World) (v : Value) (h : Calls Tryz.prog 12 #[v, .int .i64 4, .int .i64 4] w fun e w' => e = .returned (.int .i64 (-1)) ∧ Below w.heap.size w w') :
    Calls Tryz.prog 6 #[v] w fun e w' => e = .returned (.bool true) ∧ Below w.heap.size w w' := by
  have H := hide h
  clear h
  go_enter Tryz.func6, Tryz.ntmps6
  go_wp2_with fail
  refine (unhide H).mono ?_
  rintro e w1 ⟨rfl, hb⟩
  have HB := hide hb
  clear hb
  go_wp2_with fail
  go_ret
  exact ⟨rfl, unhide HB⟩
end Go.Proofs.YthfjnfcekeknlaaGreatDoor
namespace Go.Proofs.YthfjnfcekeknlaaGreatDoor
open Go.ChangeShapes Go.WideShapes Go.ChangeAt Go.RowKit

set_option maxRecDepth 100000 in
theorem matches_contract (H : Type) (enc : TypeId × Value → H) (W : World) (base : Nat) (args : Array Value) (ds gs : List (DataW H)) (before : List MemPlace)
    (hval : ∀ (j : Nat) t v, Tryz.f6.params[j]? = some t → args[j]? = some v → Value.okWide Tryz.prog W .any base t v)
    (hW : DataW.Whole enc Tryz.prog Tryz.f6.params.toList Rows.matchesSpec.vars false W args.toList ds gs before) (hL : laidMetH Tryz.prog Rows.matchesRow.laid W) :
    Calls Tryz.prog 6 args W fun e W' => ∃ v, e = .returned v ∧ Rows.matchesSpec.post enc Tryz.prog Tryz.f6 false true false false W args v W' := by
  have hW' := hW
  obtain ⟨p, q, hA0, hV, rfl, _, _⟩ := hW
  have hA : DataW.TrodAll enc Tryz.prog W 0 (fun _ => true) true Tryz.f6.params.toList args.toList ds p := hA0
  rw [Tryz.params6] at hA hval
  obtain ⟨v0, d0, rfl, rfl, h0⟩ := trodAll_one hA
  obtain ⟨rfl, rfl⟩ := trodVars_none hV
  obtain ⟨a0, len, cap, rfl⟩ := okWide_slice Tryz.underlying22 (hval 0 22 v0 rfl rfl)
  have h0k := h0
  obtain ⟨fuel, hf⟩ := h0
  clear hA0
  simp only [List.append_nil] at hW'
  have hlt : ∀ x ∈ p, x.block < W.heap.size := fun x hx => by simpa using hW'.lt x hx
  have he := (show EnvM W from ⟨(signs_of hL).1, (signs_of hL).2⟩)
  have walk : Calls Tryz.prog 6 #[.slice a0 len cap] W fun e w' => e = .returned (.bool true) ∧ Below W.heap.size W w' := by
    refine matches_walk W _ ?_
    rcases script_of hf hlt with rfl | ⟨b, off, rfl, hb, hl, hops⟩
    · exact (upTo_nil W _ a0 cap).mono fun e w' ⟨he, hw⟩ => ⟨he, hw ▸ Below.refl _ _⟩
    · exact upTo_kindM 4 plays_match W b off len cap hops hb hl he
  refine walk.mono fun e W' ⟨he, hb⟩ => ?_
  subst he
  exact ⟨_, rfl, _, _, _, [], p, [], hW', trodAll_mk1 (shut_bool Tryz.underlying4 _), trodAll_mk1 (Below.trod lawLaid (by kernel_rfl) (of_decide_eq_true (by kernel_rfl)) h0k hb hlt), rfl, hb.frame _, fun h => by cases h⟩

theorem matches_reads (os : Os) {H : Type} (enc : TypeId × Value → H) : ∃ places, DataW.whole enc Tryz.prog ((laidWorld os).forCall (fun _ _ => 0) ⟨#[], #[.slice Option.none 0 0], []⟩).memory Tryz.f6.params.toList Rows.matchesSpec.vars false #[Value.slice Option.none 0 0].toList 8 = some ([.nil], [], places) :=
  ⟨[], by kernel_rfl⟩

set_option maxRecDepth 100000 in
theorem matches_lifted (os : Os) (started : os.Started) (H : Type) (enc : TypeId × Value → H) (F : Stop.Interp) :
    ReturnsInHanded {} Tryz.checked os 6 .any ((OpenSpec.ofChange Rows.matchesSpec).preRow enc Tryz.prog Tryz.f6 Rows.matchesRow.domain false Rows.matchesRow.laid) (((OpenSpec.ofChange Rows.matchesSpec).at F).post enc Tryz.prog Tryz.f6 false true false false) := by
  obtain ⟨places, hx⟩ := matches_reads os enc
  refine returnsInHanded_of_row (C := Tryz.checked) (s := OpenSpec.ofChange Rows.matchesSpec) lawOwn started (by kernel_rfl) Tryz.func6
    (witness_row_at (enc := enc) (C := Tryz.checked) false (laidWorld os) #[.slice Option.none 0 0] rfl (by kernel_rfl) (by kernel_rfl) (by kernel_rfl)
      (OpenSpec.preRow_of_cond 8 hx (by kernel_rfl) (fun k hk => by cases hk) (by kernel_rfl) (laid_met os))) ?_
  intro W base args ds gs before hval hW _ _ _ hL _ _
  exact matches_contract H enc W base args ds gs before hval hW hL

theorem matches_said : Rows.MatchesSaid :=
  OpenClaim.holds_of_cond 6 Tryz.f6 rfl rfl rfl rfl rfl rfl rfl ⟨rfl, rfl, rfl, rfl, rfl⟩ rfl rfl rfl rfl rfl (by kernel_rfl) Tryz.func6 (by kernel_rfl)
    (of_decide_eq_true (by kernel_rfl)) (by unfold Func.isWrapper; first | (rw [if_pos (by decide +kernel)]; kernel_rfl) | (rw [if_neg (by decide +kernel)]; exact ⟨rfl, rfl⟩))
    (fun os started H enc _ F => by rw [OpenClaim.pre_eq_preRow]; exact matches_lifted os started H enc F)

theorem matches_plain (f : FuncId) (fn : Func) (hf : Tryz.pinned.checked.prog.funcNamed "parley/parleylaw.Matches" = some f) (hfn : Tryz.pinned.checked.prog.funcs[f]? = some fn) :
    false = Tryz.pinned.checked.prog.looks [] ∧ ∀ (j : Nat) t, fn.params[j]? = some t → Tryz.pinned.checked.prog.wantsStandIn t = false := by
  obtain rfl : f = 6 := Option.some.inj ((show Tryz.prog.funcNamed "parley/parleylaw.Matches" = some 6 by kernel_rfl).symm.trans hf) |>.symm
  obtain rfl : fn = Tryz.f6 := (Option.some.inj (Tryz.func6.symm.trans hfn)).symm
  refine ⟨by kernel_rfl, fun j t ht => ?_⟩
  rw [Tryz.params6] at ht
  obtain rfl : t = 22 := by simpa using Array.mem_of_getElem? ht
  exact (show Tryz.prog.wantsStandIn 22 = false by kernel_rfl)

theorem matches_holds : Rows.MatchesCardSaid :=
  Claim7.holds_tied_plain_at .later [] _ _ _ _ matches_said (fun _ h => by cases h) (by kernel_rfl) (fun _ h => by cases h) matches_row_tie rfl ⟨rfl, rfl⟩ (by kernel_rfl) rfl matches_plain (by kernel_rfl)
end Go.Proofs.YthfjnfcekeknlaaGreatDoor
