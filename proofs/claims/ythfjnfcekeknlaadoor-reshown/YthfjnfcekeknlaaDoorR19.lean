import Derived.Test.YthfjnfcekeknlaaDoorR02
namespace Parl
def gCs (cs : List Cls) : Prop := cs.length ≤ 2 ∧ ∀ c ∈ cs, gC c
def madeP (cs : List Cls) : List UInt8 := prP (fun _ => idS) false cs
theorem madeP_more (cs : List Cls) (c : Cls) : madeP (cs ++ [c]) = madeP cs ++ prC idS false c := by simp [madeP, prP]
theorem madeC_len {c : Cls} (h : gC c) : (prC idS false c).length ≤ 87 := by
  have := (gC_ok (b := false) idS_ok h).2
  simpa [sp] using this
theorem madeP_len {cs : List Cls} (h : gCs cs) : (madeP cs).length ≤ 174 := by
  have h1 := prP_len (σ := fun _ => idS) (b := false) (k := 87) (cs := cs) (fun c hc => madeC_len (h.2 c hc))
  have h2 : cs.length * 87 ≤ 2 * 87 := Nat.mul_le_mul_right _ h.1
  unfold madeP
  omega
end Parl
namespace Go.Proofs.YthfjnfcekeknlaaDoor
open Go.RowKit

theorem cl0_text (t : Parl.Tm) : (⟨(Parl.tx t).toArray⟩ : ByteArray) ++ ⟨#[46]⟩ = ⟨(Parl.prC Parl.idS false ⟨t, [], []⟩).toArray⟩ := by
  rw [ba_lit 46, ba_app]
  simp [Parl.prC, Parl.tx, Parl.nl]
theorem cl1_text (t : Parl.Tm) (xs : List Parl.Itm) (h : xs ≠ []) : (⟨(Parl.tx t).toArray⟩ : ByteArray) ++ ⟨#[58, 45]⟩ ++ ⟨(Parl.prL Parl.idS false xs).toArray⟩ ++ ⟨#[46]⟩ = ⟨(Parl.prC Parl.idS false ⟨t, [], xs⟩).toArray⟩ := by
  cases xs with
  | nil => exact absurd rfl h
  | cons g gs =>
    rw [ba_lit 46, show (⟨#[58, 45]⟩ : ByteArray) = ⟨[58, 45].toArray⟩ from rfl, ba_app, ba_app, ba_app]
    simp [Parl.prC, Parl.tx, Parl.nl, Parl.sp]
theorem cl2_text (t : Parl.Tm) (x : Parl.Itm) (xs : List Parl.Itm) (h : xs ≠ []) : (⟨(Parl.tx t).toArray⟩ : ByteArray) ++ ⟨#[58, 45]⟩ ++ ⟨(Parl.prI Parl.idS x).toArray⟩ ++ ⟨#[124]⟩ ++ ⟨(Parl.prL Parl.idS false xs).toArray⟩ ++ ⟨#[46]⟩ = ⟨(Parl.prC Parl.idS false ⟨t, [x], xs⟩).toArray⟩ := by
  cases xs with
  | nil => exact absurd rfl h
  | cons g gs =>
    rw [ba_lit 46, ba_lit 124, show (⟨#[58, 45]⟩ : ByteArray) = ⟨[58, 45].toArray⟩ from rfl, ba_app, ba_app, ba_app, ba_app, ba_app]
    simp [Parl.prC, Parl.tx, Parl.nl, Parl.sp]
theorem test_size {x : Parl.Itm} (h : Parl.gTs x) : (⟨(Parl.prI Parl.idS x).toArray⟩ : ByteArray).size ≤ 7 := by
  have := (Parl.gTs_ok Parl.idS_ok h).2
  show (Parl.prI Parl.idS x).toArray.size ≤ 7
  simpa using this

set_option maxHeartbeats 4000000 in
theorem clauseK_any (w : World) (xb : Nat) (h : SrcA w xb) :
    Calls Tryd.prog 18 #[.pointer (some ⟨xb, 0, none⟩)] w fun e w' => Made Parl.gC (Parl.prC Parl.idS false) xb w e w' := by
  have HN := hide (fun W (q : SrcA W xb) => nextK_any W xb 3 q (by omega) (by omega))
  have HC := hide (fun W (q : SrcA W xb) => call_any W xb q)
  have HT := hide (fun W (q : SrcA W xb) => test_any W xb q)
  have HGS := hide (fun W (q : SrcA W xb) => goals_any W xb q)
  have H := hide h
  clear h
  go_enter Tryd.func18, Tryd.ntmps18
  go_wp2_with fail
  refine (unhide HC _ (unhide H)).mono ?_
  rintro e w2 ⟨⟨t, ht, rfl⟩, hs, fr⟩
  have HH := hide ht
  have HS := hide hs
  have HF := hide fr
  have zt := call_size ht
  have HT0 := hide (cl0_text t)
  have HT1 := hide (cl1_text t)
  have HT2 := hide (cl2_text t)
  clear ht hs fr
  generalize (⟨(Parl.tx t).toArray⟩ : ByteArray) = ta at *
  go_wp2_with fail
  refine (unhide HN _ (unhide HS)).mono ?_
  rintro e w3 ⟨⟨m, hm, rfl⟩, hs, fr⟩
  have HS3 := hide hs
  have HF3 := hide ((unhide HF).trans fr)
  clear hs fr
  rcases (show m = 0 ∨ m = 1 ∨ m = 2 by omega) with rfl | rfl | rfl
  · clear hm
    go_wp2_with fail
    go_ret
    exact ⟨⟨⟨t, [], []⟩, ⟨unhide HH, Or.inl rfl, by simp, by simp, fun _ => rfl⟩, by rw [← unhide HT0]; rfl⟩, unhide HS3, unhide HF3⟩
  · clear hm
    go_wp2_with fail
    refine (unhide HT _ (unhide HS3)).mono ?_
    rintro e w4 ⟨⟨x, hx, rfl⟩, hs, fr⟩
    have HX := hide hx
    have HS4 := hide hs
    have HF4 := hide ((unhide HF3).trans fr)
    have zx := test_size hx
    have HT3 := hide (unhide HT2 x)
    clear hx hs fr
    generalize (⟨(Parl.prI Parl.idS x).toArray⟩ : ByteArray) = tx at *
    go_wp2_with fail
    refine (unhide HGS _ (unhide HS4)).mono ?_
    rintro e w5 ⟨⟨xs, hxs, rfl⟩, hs, fr⟩
    have HXS := hide hxs
    have HS5 := hide hs
    have HF5 := hide ((unhide HF4).trans fr)
    have zg := goals_size hxs
    have HTX := hide (unhide HT3 xs hxs.1)
    clear hxs hs fr
    generalize (⟨(Parl.prL Parl.idS false xs).toArray⟩ : ByteArray) = tg at *
    go_wp2_with fail
    go_ret
    exact ⟨⟨⟨t, [x], xs⟩, ⟨unhide HH, Or.inr ⟨x, rfl, unhide HX⟩, (unhide HXS).2.2, (unhide HXS).2.1, fun q => absurd q (unhide HXS).1⟩, by rw [← unhide HTX]; rfl⟩, unhide HS5, unhide HF5⟩
  · clear hm
    go_wp2_with fail
    refine (unhide HGS _ (unhide HS3)).mono ?_
    rintro e w5 ⟨⟨xs, hxs, rfl⟩, hs, fr⟩
    have HXS := hide hxs
    have HS5 := hide hs
    have HF5 := hide ((unhide HF3).trans fr)
    have zg := goals_size hxs
    have HTX := hide (unhide HT1 xs hxs.1)
    clear hxs hs fr
    generalize (⟨(Parl.prL Parl.idS false xs).toArray⟩ : ByteArray) = tg at *
    go_wp2_with fail
    go_ret
    exact ⟨⟨⟨t, [], xs⟩, ⟨unhide HH, Or.inl rfl, (unhide HXS).2.2, (unhide HXS).2.1, fun q => absurd q (unhide HXS).1⟩, by rw [← unhide HTX]; rfl⟩, unhide HS5, unhide HF5⟩
theorem clauseK_size {c : Parl.Cls} (h : Parl.gC c) : (⟨(Parl.prC Parl.idS false c).toArray⟩ : ByteArray).size ≤ 87 := by
  have := Parl.madeC_len h
  show (Parl.prC Parl.idS false c).toArray.size ≤ 87
  simpa using this
theorem progK_size {cs : List Parl.Cls} (h : Parl.gCs cs) : (⟨(Parl.madeP cs).toArray⟩ : ByteArray).size ≤ 174 := by
  have := Parl.madeP_len h
  show (Parl.madeP cs).toArray.size ≤ 174
  simpa using this
theorem prog_text (cs : List Parl.Cls) (c : Parl.Cls) : (⟨(Parl.madeP cs).toArray⟩ : ByteArray) ++ ⟨(Parl.prC Parl.idS false c).toArray⟩ = ⟨(Parl.madeP (cs ++ [c])).toArray⟩ := by
  rw [Parl.madeP_more, ba_app]
/-- The loop over the clauses. -/
def LCs (w : World) (xb : Nat) (k : Nat) (sv iv : Value) (wr : World) : Prop :=
  ∃ cs : List Parl.Cls, cs.length + k ≤ 2 ∧ (∀ c ∈ cs, Parl.gC c) ∧ sv = .string ⟨(Parl.madeP cs).toArray⟩ ∧ iv = .int .i64 (k : Int) ∧ SrcA wr xb ∧ FrG (OnX xb) (OnX xb) w wr

set_option maxHeartbeats 4000000 in
theorem programK_any (w : World) (xb : Nat) (h : SrcA w xb) :
    Calls Tryd.prog 7 #[.pointer (some ⟨xb, 0, none⟩), .int .i64 2] w fun e w' => Made Parl.gCs Parl.madeP xb w e w' := by
  have HN := hide (nextK_any w xb 3 h (by omega) (by omega))
  have HC := hide (fun W (q : SrcA W xb) => clauseK_any W xb q)
  clear h
  go_enter Tryd.func7, Tryd.ntmps7
  go_wp2_with fail
  refine (unhide HN).mono ?_
  rintro e w3 ⟨⟨m, hm, rfl⟩, hs, fr⟩
  have HST := hide (show LCs w xb m (.string ⟨#[]⟩) (.int .i64 (m : Int)) w3 from ⟨[], by simp; omega, (fun c hc => by cases hc), rfl, rfl, hs, fr⟩)
  clear hs fr
  go_wp2_with fail
  go_loopg [5, 6] m (fun k sv iv wr => LCs w xb k sv iv wr)
  case atStart => exact unhide HST
  case round =>
    clear HST
    obtain ⟨cs, h2, hg, rfl, rfl, hs, fr⟩ := hrel
    have HG := hide hg
    have HS := hide hs
    have HF := hide fr
    have zz := progK_size (cs := cs) ⟨by omega, hg⟩
    clear hs fr hg
    have HTX0 := hide (prog_text cs)
    generalize hta : (⟨(Parl.madeP cs).toArray⟩ : ByteArray) = tb at *
    have HTB := hide hta
    clear hta
    rcases (show gk = 0 ∨ 0 < gk by omega) with rfl | hk0
    · go_wp2_with fail
      go_ret
      exact ⟨⟨cs, ⟨by omega, unhide HG⟩, by rw [unhide HTB]; rfl⟩, unhide HS, unhide HF⟩
    · have t1 : decide (0 < gk) = true := by simp; omega
      go_wp2_with fail
      refine (unhide HC _ (unhide HS)).mono ?_
      rintro e w5 ⟨⟨y, hy, rfl⟩, hs, fr⟩
      have HY := hide hy
      have HS5 := hide hs
      have HF5 := hide ((unhide HF).trans fr)
      have zy := clauseK_size hy
      have HTX := hide (unhide HTX0 y)
      clear hy hs fr HTX0
      generalize (⟨(Parl.prC Parl.idS false y).toArray⟩ : ByteArray) = ty at *
      go_wp2_with fail
      go_roundg (gk - 1)
      case measure => omega
      case rel => exact ⟨cs ++ [y], by simp; omega, fun z hz => by
        rcases List.mem_append.1 hz with q | q
        · exact unhide HG z q
        · rw [List.mem_singleton.1 q]; exact unhide HY, by rw [← unhide HTX], by go_num, unhide HS5, unhide HF5⟩
end Go.Proofs.YthfjnfcekeknlaaDoor
