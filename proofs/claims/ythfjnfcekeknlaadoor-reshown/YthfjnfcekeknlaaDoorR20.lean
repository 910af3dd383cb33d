import Derived.Test.YthfjnfcekeknlaaDoorR18
import Derived.Test.YthfjnfcekeknlaaDoorR19
namespace Parl
open Go
def c0 : Cls := ⟨⟨2, ⟨#[112]⟩, [⟨3, ⟨#[88]⟩, []⟩]⟩, [⟨⟨3, ⟨#[88]⟩, []⟩, [60], some ⟨4, ⟨#[49]⟩, []⟩, [], none⟩], [⟨⟨2, ⟨#[113]⟩, [⟨3, ⟨#[88]⟩, []⟩]⟩, [], none, [], none⟩]⟩
theorem leafX : gLeaf ⟨3, ⟨#[88]⟩, []⟩ := leafs_ok _ (by simp [leafs])
theorem leaf1 : gLeaf ⟨4, ⟨#[49]⟩, []⟩ := leafs_ok _ (by simp [leafs])
theorem c0_ok : gC c0 := by
  refine ⟨⟨rfl, Or.inr ⟨by simp [c0, gFuns], Or.inr (Or.inl ⟨_, rfl, Or.inl leafX⟩)⟩⟩, Or.inr ⟨_, rfl, .rel _ _ [60] leafX leaf1 (by simp)⟩, fun x hx => ?_, by simp [c0], fun h => by cases h⟩
  obtain rfl := List.mem_singleton.1 hx
  exact .call _ ⟨rfl, Or.inr ⟨by simp [gFuns], Or.inr (Or.inl ⟨_, rfl, Or.inl leafX⟩)⟩⟩
theorem c0_made : (⟨#[112, 40, 88, 41, 58, 45, 88, 60, 49, 124, 113, 40, 88, 41, 46]⟩ : ByteArray).toList = prP (fun _ => idS) false [c0] := by
  rw [ByteArray.toList_eq]
  simp only [prP, List.flatMap_cons, List.flatMap_nil, c0, prC, prL, prI, prT, List.append_nil]
  simp [arS, idS, ByteArray.toList_eq, sp, nl]
theorem c0_shown : strP [c0] = [112, 40, 86, 48, 41, 32, 58, 45, 32, 86, 48, 60, 49, 32, 124, 32, 113, 40, 86, 48, 41, 46, 10] := by
  have hN : NG c0 = [[88]] := by
    simp [NG, NT, NH, namesL, namesI, nameO, namesF, c0, addN, ByteArray.toList_eq]
  have d0 : Lib.decDigits 0 = [48] := Lib.decDigits_one (by omega)
  have d1 : Lib.decDigits 1 = [49] := Lib.decDigits_one (by omega)
  have n1 : numOf ⟨#[49]⟩ = 1 := by unfold numOf numL; rw [ByteArray.toList_eq]; decide
  unfold strP
  rw [List.flatMap_cons, List.flatMap_nil, List.append_nil]
  unfold strC
  rw [hN]
  simp [c0, strF, midC, guardC, strL, joinC, strI, argS, n1, d0, d1, ByteArray.toList_eq]
end Parl
namespace Go.Proofs.YthfjnfcekeknlaaDoor
open Go.RowKit

set_option maxHeartbeats 4000000 in
theorem reads_any (w : World) (he : Env w) :
    Calls Tryd.prog 6 #[] w fun e w' => e = .returned (.bool true) ∧ Below w.heap.size w w' := by
  obtain ⟨L, hL, hh, hl⟩ := Parl.toks_of ⟨#[112, 40, 88, 41, 58, 45, 88, 60, 49, 124, 113, 40, 88, 41, 46]⟩
  obtain ⟨q1, q2, q3⟩ := Parl.made_read (cs := [Parl.c0]) (fun c hc => by rw [List.mem_singleton.1 hc]; exact Parl.c0_ok) (by simp) Parl.c0_made hL hh
  have IC := hide (fun W (q : Env W) => ckA_any W _ L hL hh hl q.sg q.pos)
  have IS := hide (fun W (q : Env W) => shA_any W _ L hL hh hl q.sg q.pos q.pow)
  rw [q1, q2] at IC
  rw [q1, q3, Parl.c0_shown] at IS
  have HE := hide he
  clear he hL hh hl q1 q2 q3
  go_enter Tryd.func6, Tryd.ntmps6
  go_wp2_with fail
  refine (unhide IC _ (unhide HE)).mono ?_
  rintro e w1 ⟨rfl, hb1⟩
  have HB1 := hide hb1
  clear hb1
  go_wp2_with fail
  refine (unhide IS _ ((unhide HE).below (unhide HB1))).mono ?_
  rintro e w2 ⟨rfl, hb2⟩
  have HB2 := hide ((unhide HB1).trans (hb2.mono (unhide HB1).size))
  clear hb2
  go_wp2_with fail
  go_ret
  exact ⟨rfl, unhide HB2⟩
/-- What is made, and what is shown of it. -/
theorem both_read {cs : List Parl.Cls} (h : Parl.gCs cs) : ∃ L1 L2, Parl.Chain ⟨(Parl.madeP cs).toArray⟩ L1 ∧ Parl.hd L1 = Parl.next ⟨(Parl.madeP cs).toArray⟩ 0 ∧ (L1.length ≤ 1000) ∧ Parl.Chain ⟨(Parl.strP cs).toArray⟩ L2 ∧ Parl.hd L2 = Parl.next ⟨(Parl.strP cs).toArray⟩ 0 ∧ L2.length ≤ 1000 := by
  obtain ⟨L1, h1, h2, h3⟩ := Parl.toks_of ⟨(Parl.madeP cs).toArray⟩
  obtain ⟨L2, k1, k2, k3⟩ := Parl.toks_of ⟨(Parl.strP cs).toArray⟩
  refine ⟨L1, L2, h1, h2, h3 (by have := progK_size h; omega), k1, k2, k3 ?_⟩
  have e := Parl.shown_read h.2 h.1 rfl k1 k2
  rcases Nat.lt_or_ge 240 (⟨(Parl.strP cs).toArray⟩ : ByteArray).size with q | q
  · have := e.1
    unfold Parl.ckE at this
    rw [if_pos q] at this
    omega
  · exact q

theorem RawA.wide {w : World} {xb yb : Nat} {o : Option Addr} {n : Nat} (h : RawA w xb o n) (hy : xb ≤ yb) : RawA w yb o n := ⟨h.1, h.2.imp id fun ⟨b, off, h1, h2, h3⟩ => ⟨b, off, h1, by omega, h3⟩⟩
theorem src_start {w : World} {o : Option Addr} {n c : Nat} (h : RawA w w.heap.size o n) : SrcA (w.alloc (.cells #[.slice o n c, .int .i64 0] 26)) w.heap.size :=
  ⟨o, n, c, 0, heap_alloc_new w _, h.keep fun _ q => Below.heap_alloc _ _ _ q, Nat.zero_le _⟩

set_option maxHeartbeats 4000000 in
set_option maxRecDepth 100000 in
theorem reshown_walk (w : World) (o : Option Addr) (n c : Nat) (he : Env w) (hr : RawA w w.heap.size o n) :
    Calls Tryd.prog 3 #[.slice o n c] w fun e w' => e = .returned (.bool true) ∧ Below w.heap.size w w' := by
  have HR := hide (reads_any w he)
  have HE := hide he
  have HRAW := hide hr
  clear he hr
  go_enter Tryd.func3, Tryd.ntmps3
  go_wp2_with fail
  refine (unhide HR).mono ?_
  rintro e w1 ⟨rfl, hb1⟩
  have HB1 := hide hb1
  have z1 := hb1.size
  clear hb1
  go_wp2_with fail
  have HB1a := hide ((unhide HB1).alloc z1 (.cells #[.slice o n c, .int .i64 0] 26))
  refine (programK_any _ _ (src_start (((unhide HRAW).keep fun b q => (unhide HB1).block b q).wide z1))).mono ?_
  rintro e w2 ⟨⟨cs, hcs, rfl⟩, -, fr⟩
  have HB2 := hide ((unhide HB1a).trans (fr.down (b := w.heap.size) (by simp; omega) (fun k q => by have : k = w1.heap.size := q; omega)))
  have HE2 := hide ((unhide HE).below (unhide HB2))
  clear fr
  obtain ⟨L1, L2, h1, h2, h3, k1, k2, k3⟩ := both_read hcs
  obtain ⟨a1, a2, a3⟩ := Parl.made_read hcs.2 hcs.1 (s := ⟨(Parl.madeP cs).toArray⟩) (Parl.ba_list _) h1 h2
  obtain ⟨b1, b2, b3⟩ := Parl.shown_read hcs.2 hcs.1 rfl k1 k2
  have IC1 := hide (fun W (q : Env W) => ckA_any W _ L1 h1 h2 (fun _ => h3) q.sg q.pos)
  have IS1 := hide (fun W (q : Env W) => shA_any W _ L1 h1 h2 (fun _ => h3) q.sg q.pos q.pow)
  have IC2 := hide (fun W (q : Env W) => ckA_any W _ L2 k1 k2 (fun _ => k3) q.sg q.pos)
  have IS2 := hide (fun W (q : Env W) => shA_any W _ L2 k1 k2 (fun _ => k3) q.sg q.pos q.pow)
  rw [a1, a2] at IC1
  rw [a1, a3] at IS1
  rw [b1, b2] at IC2
  rw [b1, b3] at IS2
  have hnil := Parl.both_nil hcs.2
  have t9 : ((⟨(Parl.madeP cs).toArray⟩ : ByteArray).toList.isEmpty == (⟨(Parl.strP cs).toArray⟩ : ByteArray).toList.isEmpty) = true := by
    have e1 := Parl.ba_list (Parl.madeP cs)
    have e2 := Parl.ba_list (Parl.strP cs)
    rw [e1, e2, beq_iff_eq, Bool.eq_iff_iff, List.isEmpty_iff, List.isEmpty_iff]
    exact hnil
  clear h1 h2 h3 k1 k2 k3 a1 a2 a3 b1 b2 b3 hnil hcs
  generalize (⟨(Parl.madeP cs).toArray⟩ : ByteArray) = pt at *
  generalize (⟨(Parl.strP cs).toArray⟩ : ByteArray) = st at *
  go_wp2_with fail
  refine (unhide IC1 _ (unhide HE2)).mono ?_
  rintro e w3 ⟨rfl, hb3⟩
  have HB3 := hide ((unhide HB2).trans (hb3.mono (unhide HB2).size))
  have HE3 := hide ((unhide HE2).below hb3)
  clear hb3
  go_wp2_with fail
  refine (unhide IS1 _ (unhide HE3)).mono ?_
  rintro e w4 ⟨rfl, hb4⟩
  have HB4 := hide ((unhide HB3).trans (hb4.mono (unhide HB3).size))
  have HE4 := hide ((unhide HE3).below hb4)
  clear hb4
  go_wp2_with fail
  refine (unhide IC2 _ (unhide HE4)).mono ?_
  rintro e w5 ⟨rfl, hb5⟩
  have HB5 := hide ((unhide HB4).trans (hb5.mono (unhide HB4).size))
  have HE5 := hide ((unhide HE4).below hb5)
  clear hb5
  go_wp2_with fail
  refine (unhide IS2 _ (unhide HE5)).mono ?_
  rintro e w6 ⟨rfl, hb6⟩
  have HB6 := hide ((unhide HB5).trans (hb6.mono (unhide HB5).size))
  clear hb6
  go_wp2_with fail
  go_ret
  exact ⟨rfl, unhide HB6⟩
end Go.Proofs.YthfjnfcekeknlaaDoor
namespace Go.Proofs.YthfjnfcekeknlaaDoor
open Go.ChangeShapes Go.WideShapes Go.ChangeAt Go.RowKit

set_option maxRecDepth 100000 in
theorem reshown_contract (H : Type) (enc : TypeId × Value → H) (W : World) (base : Nat) (args : Array Value) (ds gs : List (DataW H)) (before : List MemPlace)
    (hval : ∀ (j : Nat) t v, Tryd.f3.params[j]? = some t → args[j]? = some v → Value.okWide Tryd.prog W .any base t v)
    (hW : DataW.Whole enc Tryd.prog Tryd.f3.params.toList Rows.reshownSpec.vars false W args.toList ds gs before) (hL : laidMetH Tryd.prog Rows.reshownRow.laid W) :
    Calls Tryd.prog 3 args W fun e W' => ∃ v, e = .returned v ∧ Rows.reshownSpec.post enc Tryd.prog Tryd.f3 false true false false W args v W' := by
  have hW' := hW
  obtain ⟨p, q, hA0, hV, rfl, _, _⟩ := hW
  have hA : DataW.TrodAll enc Tryd.prog W 0 (fun _ => true) true Tryd.f3.params.toList args.toList ds p := hA0
  rw [Tryd.params3] at hA hval
  obtain ⟨v0, d0, rfl, rfl, h0⟩ := trodAll_one hA
  obtain ⟨rfl, rfl⟩ := trodVars_none hV
  obtain ⟨a0, len, cap, rfl⟩ := okWide_slice Tryd.underlying22 (hval 0 22 v0 rfl rfl)
  have h0k := h0
  obtain ⟨fuel, hf⟩ := h0
  clear hA0
  simp only [List.append_nil] at hW'
  have hlt : ∀ x ∈ p, x.block < W.heap.size := fun x hx => by simpa using hW'.lt x hx
  have he := env_of hL
  have walk : Calls Tryd.prog 3 #[.slice a0 len cap] W fun e w' => e = .returned (.bool true) ∧ Below W.heap.size W w' := reshown_walk W a0 len cap he (raw_of hf hlt)
  refine walk.mono fun e W' ⟨he, hb⟩ => ?_
  subst he
  exact ⟨_, rfl, _, _, _, [], p, [], hW', trodAll_mk1 (shut_bool Tryd.underlying4 _), trodAll_mk1 (Below.trod lawLaid (by kernel_rfl) (of_decide_eq_true (by kernel_rfl)) h0k hb hlt), rfl, hb.frame _, fun h => by cases h⟩

theorem reshown_reads (os : Os) {H : Type} (enc : TypeId × Value → H) : ∃ places, DataW.whole enc Tryd.prog ((laidWorld os).forCall (fun _ _ => 0) ⟨#[], #[.slice Option.none 0 0], []⟩).memory Tryd.f3.params.toList Rows.reshownSpec.vars false #[Value.slice Option.none 0 0].toList 8 = some ([.nil], [], places) :=
  ⟨[], by kernel_rfl⟩

set_option maxRecDepth 100000 in
theorem reshown_lifted (os : Os) (started : os.Started) (H : Type) (enc : TypeId × Value → H) (F : Stop.Interp) :
    ReturnsInHanded {} Tryd.checked os 3 .any ((OpenSpec.ofChange Rows.reshownSpec).preRow enc Tryd.prog Tryd.f3 Rows.reshownRow.domain false Rows.reshownRow.laid) (((OpenSpec.ofChange Rows.reshownSpec).at F).post enc Tryd.prog Tryd.f3 false true false false) := by
  obtain ⟨places, hx⟩ := reshown_reads os enc
  refine returnsInHanded_of_row (C := Tryd.checked) (s := OpenSpec.ofChange Rows.reshownSpec) lawOwn started (by kernel_rfl) Tryd.func3
    (witness_row_at (enc := enc) (C := Tryd.checked) false (laidWorld os) #[.slice Option.none 0 0] rfl (by kernel_rfl) (by kernel_rfl) (by kernel_rfl)
      (OpenSpec.preRow_of_cond 8 hx (by kernel_rfl) (fun k hk => by cases hk) (by kernel_rfl) (laid_met os))) ?_
  intro W base args ds gs before hval hW _ _ _ hL _ _
  exact reshown_contract H enc W base args ds gs before hval hW hL

theorem reshown_said : Rows.ReshownSaid :=
  OpenClaim.holds_of_cond 3 Tryd.f3 rfl rfl rfl rfl rfl rfl rfl ⟨rfl, rfl, rfl, rfl, rfl⟩ rfl rfl rfl rfl rfl (by kernel_rfl) Tryd.func3 (by kernel_rfl)
    (of_decide_eq_true (by kernel_rfl)) (by unfold Func.isWrapper; first | (rw [if_pos (by decide +kernel)]; kernel_rfl) | (rw [if_neg (by decide +kernel)]; exact ⟨rfl, rfl⟩))
    (fun os started H enc _ F => by rw [OpenClaim.pre_eq_preRow]; exact reshown_lifted os started H enc F)

theorem reshown_plain (f : FuncId) (fn : Func) (hf : Tryd.pinned.checked.prog.funcNamed "parley/parleykeep.Reshown" = some f) (hfn : Tryd.pinned.checked.prog.funcs[f]? = some fn) :
    false = Tryd.pinned.checked.prog.looks [] ∧ ∀ (j : Nat) t, fn.params[j]? = some t → Tryd.pinned.checked.prog.wantsStandIn t = false := by
  obtain rfl : f = 3 := Option.some.inj ((show Tryd.prog.funcNamed "parley/parleykeep.Reshown" = some 3 by kernel_rfl).symm.trans hf) |>.symm
  obtain rfl : fn = Tryd.f3 := (Option.some.inj (Tryd.func3.symm.trans hfn)).symm
  refine ⟨by kernel_rfl, fun j t ht => ?_⟩
  rw [Tryd.params3] at ht
  obtain rfl : t = 22 := by simpa using Array.mem_of_getElem? ht
  exact (show Tryd.prog.wantsStandIn 22 = false by kernel_rfl)

theorem reshown_holds : Rows.ReshownCardSaid :=
  Claim7.holds_tied_plain_at .later [] _ _ _ _ reshown_said (fun _ h => by cases h) (by kernel_rfl) (fun _ h => by cases h) reshown_row_tie rfl ⟨rfl, rfl⟩ (by kernel_rfl) rfl reshown_plain (by kernel_rfl)
end Go.Proofs.YthfjnfcekeknlaaDoor
