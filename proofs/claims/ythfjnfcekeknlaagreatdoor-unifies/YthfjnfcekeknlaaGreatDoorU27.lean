import Derived.Test.YthfjnfcekeknlaaGreatDoorU25
import Derived.Test.YthfjnfcekeknlaaGreatDoorU26
namespace Go.Proofs.YthfjnfcekeknlaaGreatDoor
open Go.RowKit

/-- A list of variables lies in the block xb, at the cell xo of what is there (cs). -/
structure XV (w : World) (xb xo : Nat) (T : TypeId) (cs : Array Value) (N : List Parl.Vr) (us : List BV) (o : Option Addr) (cap : Nat) : Prop where
  blk : w.heap[xb]? = some (.cells cs T (0, 0))
  here : cs[xo]? = some (.slice o us.length cap)
  own : w.ownsRow (xb + 1) 109 4 (.slice o us.length cap) us.length (us.flatMap bvC)
  vr : All2 IsVr us N
theorem XV.lt {w : World} {xb xo : Nat} {T : TypeId} {cs : Array Value} {N : List Parl.Vr} {us : List BV} {o : Option Addr} {cap : Nat} (h : XV w xb xo T cs N us o cap) : xb < w.heap.size := blk_lt' h.blk
theorem XV.cell {w : World} {xb xo : Nat} {T : TypeId} {cs : Array Value} {N : List Parl.Vr} {us : List BV} {o : Option Addr} {cap : Nat} (h : XV w xb xo T cs N us o cap) : w.cell? ⟨xb, xo, none⟩ = some (.slice o us.length cap) := (blkA' h.blk xo).trans h.here
theorem XV.froz {w : World} {xb xo : Nat} {T : TypeId} {cs : Array Value} {N : List Parl.Vr} {us : List BV} {o : Option Addr} {cap : Nat} (h : XV w xb xo T cs N us o cap) : w.frozen? ⟨xb, xo, none⟩ = false := blkX' h.blk xo
theorem XV.below {w w' : World} {xb xo : Nat} {T : TypeId} {cs : Array Value} {N : List Parl.Vr} {us : List BV} {o : Option Addr} {cap : Nat} (h : XV w xb xo T cs N us o cap) (hb : Below w.heap.size w w') : XV w' xb xo T cs N us o cap :=
  ⟨(hb.block xb h.lt).trans h.blk, h.here, own_below h.own hb, h.vr⟩
theorem XV.past {w : World} {xb xo : Nat} {T : TypeId} {cs : Array Value} {N : List Parl.Vr} {us : List BV} {o : Option Addr} {cap : Nat} (h : XV w xb xo T cs N us o cap) : ∀ p, o = some p → xb < p.block := fun p q => by
  have := h.own.lt p.block (by rw [q]; rfl)
  omega
theorem same_dec {u a : BV} {y x : Parl.Vr} (hu : IsVr u y) (ha : IsVr a x) : decide (u.nm.toList = a.nm.toList ∧ u.num = a.num) = decide (y = x) := by
  rw [decide_eq_decide, hu.1, hu.2, ha.1, ha.2]
  constructor
  · rintro ⟨e1, e2⟩; exact Prod.ext e1 (by omega)
  · rintro rfl; exact ⟨rfl, rfl⟩
theorem vr_idx {N : List Parl.Vr} {k : Nat} {x : Parl.Vr} (h : k < N.length) (he : N[k] = x) (hno : ∀ j (hj : j < N.length), j < k → N[j] ≠ x) : N.idxOf x = k := by
  induction N generalizing k with
  | nil => simp at h
  | cons u us ih =>
    cases k with
    | zero => rw [List.idxOf_cons]; simp at he; simp [he]
    | succ k =>
      have h0 : u ≠ x := hno 0 (by simp) (by omega)
      rw [List.idxOf_cons]
      simp only [beq_iff_eq, h0, cond_eq_ite, if_false]
      have := ih (k := k) (by simpa using h) (by simpa using he) (fun j hj q => by have := hno (j + 1) (by simpa using hj) (by omega); simpa using this)
      rw [this]
theorem vr_in {N : List Parl.Vr} {k : Nat} {x : Parl.Vr} (h : k < N.length) (he : N[k] = x) : Parl.addU N x = N := by
  unfold Parl.addU
  rw [if_pos]
  subst he
  exact List.getElem_mem h
theorem vr_out {N : List Parl.Vr} {x : Parl.Vr} (hno : ∀ j (hj : j < N.length), N[j] ≠ x) : x ∉ N := by
  intro q
  obtain ⟨j, hj, rfl⟩ := List.getElem_of_mem q
  exact hno j hj rfl
theorem vplace_ret {us : List BV} {N : List Parl.Vr} {x : Parl.Vr} (hl : us.length = N.length) (h : x ∉ N) : (Ending.returned (.int .i64 (us.length : Int))) = Ending.returned (.int .i64 (N.idxOf x : Int)) := by
  rw [List.idxOf_eq_length h, hl]
theorem xv_put1 {w1 : World} {xb xo g cap : Nat} {T : TypeId} {cs : Array Value} {N : List Parl.Vr} {us : List BV} {v : BV} {x : Parl.Vr} (h : w1.ownsRow (xb + 1) 109 4 (.slice (some ⟨g, 0, none⟩) (us.length + 1) cap) (us.length + 1) (us.flatMap bvC ++ [.int .i64 0, .string ⟨#[]⟩, .int .i64 0, .slice none 0 0])) (hc : w1.heap[xb]? = some (.cells cs T (0, 0))) (hx : xo < cs.size) (hne : g ≠ xb) (hz : All2 IsVr us N) (hv : IsVr v x) (hout : x ∉ N) :
    XV (((((w1.setCell ⟨g, us.length * 4, none⟩ (.int .i64 v.k)).setCell ⟨g, us.length * 4 + 1, none⟩ (.string v.nm)).setCell ⟨g, us.length * 4 + 2, none⟩ (.int .i64 v.num)).setCell ⟨g, us.length * 4 + 3, none⟩ (.slice v.ao v.n v.cap)).setCell ⟨xb, xo, none⟩ (.slice (some ⟨g, 0, none⟩) (us.length + 1) cap)) xb xo T (cs.setIfInBounds xo (.slice (some ⟨g, 0, none⟩) (us.length + 1) cap)) (Parl.addU N x) (us ++ [v]) (some ⟨g, 0, none⟩) cap := by
  have hr := row_put v h
  refine ⟨blk_set (blk_other (blk_other (blk_other (blk_other hc (fun e => hne e.symm) _ _) (fun e => hne e.symm) _ _) (fun e => hne e.symm) _ _) (fun e => hne e.symm) _ _) xo _, ?_, ownsRow_setCell_below hr (by show xb < xb + 1; omega) _, ?_⟩
  · simp [hx]
  · unfold Parl.addU
    rw [if_neg hout]
    exact All2.snoc hv hz
theorem xv_put2 {w1 : World} {xb xo g cap : Nat} {T : TypeId} {cs : Array Value} {N : List Parl.Vr} {us : List BV} {v : BV} {x : Parl.Vr} (h : w1.ownsRow (xb + 1) 109 4 (.slice (some ⟨g, 0, none⟩) (us.length + 1) cap) (us.length + 1) (us.flatMap bvC ++ [.int .i64 0, .string ⟨#[]⟩, .int .i64 0, .slice none 0 0])) (hc : w1.heap[xb]? = some (.cells cs T (0, 0))) (hx : xo < cs.size) (hne : g ≠ xb) (hz : All2 IsVr us N) (hv : IsVr v x) (hout : x ∉ N) :
    XV (((((w1.setCell ⟨xb, xo, none⟩ (.slice (some ⟨g, 0, none⟩) (us.length + 1) cap)).setCell ⟨g, us.length * 4, none⟩ (.int .i64 v.k)).setCell ⟨g, us.length * 4 + 1, none⟩ (.string v.nm)).setCell ⟨g, us.length * 4 + 2, none⟩ (.int .i64 v.num)).setCell ⟨g, us.length * 4 + 3, none⟩ (.slice v.ao v.n v.cap)) xb xo T (cs.setIfInBounds xo (.slice (some ⟨g, 0, none⟩) (us.length + 1) cap)) (Parl.addU N x) (us ++ [v]) (some ⟨g, 0, none⟩) cap := by
  have := xv_put1 h hc hx hne hz hv hout
  rw [set_swap _ _ _ _ _ hne, set_swap _ _ _ _ _ hne, set_swap _ _ _ _ _ hne, set_swap _ _ _ _ _ hne] at this
  exact this
set_option maxHeartbeats 2000000 in
set_option maxRecDepth 100000 in
theorem placeV (w : World) (xb xo : Nat) (T : TypeId) (cs : Array Value) (N : List Parl.Vr) (us : List BV) (o : Option Addr) (cap : Nat) (a : BV) (x : Parl.Vr) (h : XV w xb xo T cs N us o cap) (h0 : IsVr a x) (hlen : us.length ≤ 1000000000) :
    Calls Tryz.prog 91 #[.pointer (some ⟨xb, xo, none⟩), .agg #[.int .i64 a.k, .string a.nm, .int .i64 a.num, .slice a.ao a.n a.cap]] w fun e w' => ∃ cs' us' o' cap', e = .returned (.int .i64 (N.idxOf x : Int)) ∧ XV w' xb xo T cs' (Parl.addU N x) us' o' cap' ∧ (∀ i, i ≠ xo → cs'[i]? = cs[i]?) ∧ FrX xb o o' w w' := by
  have H := hide h
  have hlt := h.lt
  have c0 := h.cell
  have HNL := hide h.vr.length
  have HVR := hide h.vr
  have H0 := hide h0
  clear h h0
  go_enter Tryz.func91, Tryz.ntmps91
  go_wp2_with fail
  go_loopw [5] (fun i wr => ∃ k : Nat, k ≤ us.length ∧ i = .int .i64 k ∧ (∀ j (hj : j < N.length), j < k → N[j] ≠ x) ∧ Below (w.heap.size + 1) (w.alloc (.cells #[.int .i64 a.k, .string a.nm, .int .i64 a.num, .slice a.ao a.n a.cap] 109)) wr) (fun i _ => us.length - (intOf i).toNat)
  case atStart => exact ⟨0, by omega, rfl, fun j hj q => by omega, Below.refl _ _⟩
  case round =>
    obtain ⟨k, hk, rfl, hno, hB⟩ := hrel
    have HNO := hide hno
    have HB := hide hB
    have hz := hB.size
    have d0 := (hB.cell (p := ⟨xb, xo, none⟩) (by show xb < w.heap.size + 1; omega)).trans ((World.cell?_alloc_past _ _ _ hlt).trans c0)
    have e0 := fun i => (hB.cell (p := ⟨w.heap.size, i, none⟩) (by show w.heap.size < w.heap.size + 1; omega)).trans (blkA' (heap_alloc_new w (.cells #[.int .i64 a.k, .string a.nm, .int .i64 a.num, .slice a.ao a.n a.cap] 109)) i)
    have XR := hide (((unhide H).below ((Below.refl _ _).alloc (Nat.le_refl _) (.cells #[.int .i64 a.k, .string a.nm, .int .i64 a.num, .slice a.ao a.n a.cap] 109))).below (hB.mono (by simp)))
    clear hno hB
    simp at hz
    by_cases hlk : k < us.length
    · obtain ⟨m, hm⟩ : ∃ m, us.length = m + 1 := ⟨us.length - 1, by omega⟩
      have hg : ∃ g, o = some ⟨g, 0, none⟩ := by
        rcases (unhide H).own.2 with ⟨q, q2⟩ | ⟨g, cp, cur, q, _⟩
        · omega
        · simp only [Value.slice.injEq] at q
          exact ⟨g, q.1⟩
      obtain ⟨g, rfl⟩ := hg
      have f0 : wr.cell? ⟨g, k * 4, none⟩ = some (.int .i64 us[k].k) := by have := (unhide XR).own.cellAt (k * 4) (by omega); rw [this]; have := bvC_at hlk 0 (by omega); simpa [bvC] using this
      have f1 : wr.cell? ⟨g, k * 4 + 1, none⟩ = some (.string us[k].nm) := by have := (unhide XR).own.cellAt (k * 4 + 1) (by omega); rw [this]; have := bvC_at hlk 1 (by omega); simpa [bvC] using this
      have f2 : wr.cell? ⟨g, k * 4 + 2, none⟩ = some (.int .i64 us[k].num) := by have := (unhide XR).own.cellAt (k * 4 + 2) (by omega); rw [this]; have := bvC_at hlk 2 (by omega); simpa [bvC] using this
      have f3 : wr.cell? ⟨g, k * 4 + 3, none⟩ = some (.slice us[k].ao us[k].n us[k].cap) := by have := (unhide XR).own.cellAt (k * 4 + 3) (by omega); rw [this]; have := bvC_at hlk 3 (by omega); simpa [bvC] using this
      have e1 := e0 0
      have e2 := e0 1
      have e3 := e0 2
      have e4 := e0 3
      simp at e1 e2 e3 e4
      clear e0 hm
      have i0 : (0 : Int) ≤ (k : Int) := by omega
      have i1 : (k : Int) < (us.length : Int) := by omega
      have hkN : k < N.length := by have := unhide HNL; omega
      have SV := hide (fun W => sameVarU us[k] a W)
      rw [same_dec ((unhide HVR).at k hlk hkN) (unhide H0)] at SV
      have hnw : wr.heap.size = wr.heap.size := rfl
      go_wp2_with fail
      go_region_held3 (fun w' => w'.cell? ⟨xb, xo, none⟩ = some (.slice (some ⟨g, 0, none⟩) us.length cap) ∧ w'.cell? ⟨g, k * 4, none⟩ = some (.int .i64 us[k].k) ∧ w'.cell? ⟨g, k * 4 + 1, none⟩ = some (.string us[k].nm) ∧ w'.cell? ⟨g, k * 4 + 2, none⟩ = some (.int .i64 us[k].num) ∧ w'.cell? ⟨g, k * 4 + 3, none⟩ = some (.slice us[k].ao us[k].n us[k].cap) ∧ w'.cell? ⟨w.heap.size, 0, none⟩ = some (.int .i64 a.k) ∧ w'.cell? ⟨w.heap.size, 1, none⟩ = some (.string a.nm) ∧ w'.cell? ⟨w.heap.size, 2, none⟩ = some (.int .i64 a.num) ∧ w'.cell? ⟨w.heap.size, 3, none⟩ = some (.slice a.ao a.n a.cap)) (first | go_keep | (refine ⟨?_, ?_, ?_, ?_, ?_, ?_, ?_, ?_, ?_⟩ <;> exact cell_drew (unhide HB2) (by assumption))) ((go_at_call 106; refine (unhide SV _).mono ?_; rintro e w2 ⟨rfl, hb2⟩; have HB2 := hide hb2; clear hb2))
      have XR2 := hide (((unhide XR).below (Below.refl _ _).drew).below (unhide HB2))
      have HBR := hide (((unhide HB).drew).trans ((unhide HB2).mono (show w.heap.size + 1 ≤ wr.drew.heap.size by show w.heap.size + 1 ≤ wr.heap.size; omega)))
      clear d0 f0 f1 f2 f3 e1 e2 e3 e4 SV
      cases hq : decide (N[k] = x)
      · go_wp2_with fail
        go_roundw
        case rel =>
          refine ⟨k + 1, by omega, by go_num, fun j hj q => ?_, unhide HBR⟩
          rcases (show j < k ∨ j = k by omega) with h | rfl
          · exact unhide HNO j hj h
          · intro e; rw [decide_eq_true e] at hq; cases hq
        case measure => simp [intOf]; omega
      · go_wp2_with fail
        go_ret
        have hi := vr_idx hkN (of_decide_eq_true hq) (unhide HNO)
        have hin := vr_in hkN (of_decide_eq_true hq)
        exact ⟨cs, us, _, cap, by rw [hi]; rfl, by rw [hin]; exact unhide XR2, fun _ _ => rfl, FrX.of_below (((Below.refl _ _).alloc (Nat.le_refl _) _).trans ((unhide HBR).mono (by omega)))⟩
    · obtain rfl : k = us.length := by omega
      have e1 := e0 0
      have e2 := e0 1
      have e3 := e0 2
      have e4 := e0 3
      simp at e1 e2 e3 e4
      clear e0
      have fz := (unhide XR).froz
      have hwr : w.heap.size < wr.heap.size := by omega
      have nx : xb ≠ w.heap.size := by omega
      have nx' : w.heap.size ≠ xb := by omega
      have hxr := (unhide XR).lt
      have j0 : (0 : Int) ≤ (us.length : Int) := by omega
      have j1 : (us.length : Int) < (us.length : Int) + 1 := by omega
      have fz' : ((wr.alloc (.cells #[.int .i64 0, .string ⟨#[]⟩, .int .i64 0, .slice none 0 0] 109)).drew).frozen? ⟨xb, xo, none⟩ = false := (World.frozen?_alloc_past _ _ _ hxr).trans fz
      have hxr' : xb < ((wr.alloc (.cells #[.int .i64 0, .string ⟨#[]⟩, .int .i64 0, .slice none 0 0] 109)).drew).heap.size := by simp; omega
      obtain ⟨ti, hi, hz0', hz1', hz2'⟩ := info_parts Tryz.info109
      have bex := hide (show ((wr.alloc (.cells #[.int .i64 0, .string ⟨#[]⟩, .int .i64 0, .slice none 0 0] 109)).drew).cell? ⟨xb, xo, none⟩ = some (.slice o us.length cap) from (World.cell?_alloc_past _ _ _ hxr).trans d0)
      have be0 := hide (show ((wr.alloc (.cells #[.int .i64 0, .string ⟨#[]⟩, .int .i64 0, .slice none 0 0] 109)).drew).cell? ⟨w.heap.size, 0, none⟩ = some (.int .i64 a.k) from (World.cell?_alloc_past _ _ _ (by show w.heap.size < wr.heap.size; omega)).trans e1)
      have be1 := hide (show ((wr.alloc (.cells #[.int .i64 0, .string ⟨#[]⟩, .int .i64 0, .slice none 0 0] 109)).drew).cell? ⟨w.heap.size, 1, none⟩ = some (.string a.nm) from (World.cell?_alloc_past _ _ _ (by show w.heap.size < wr.heap.size; omega)).trans e2)
      have be2 := hide (show ((wr.alloc (.cells #[.int .i64 0, .string ⟨#[]⟩, .int .i64 0, .slice none 0 0] 109)).drew).cell? ⟨w.heap.size, 2, none⟩ = some (.int .i64 a.num) from (World.cell?_alloc_past _ _ _ (by show w.heap.size < wr.heap.size; omega)).trans e3)
      have be3 := hide (show ((wr.alloc (.cells #[.int .i64 0, .string ⟨#[]⟩, .int .i64 0, .slice none 0 0] 109)).drew).cell? ⟨w.heap.size, 3, none⟩ = some (.slice a.ao a.n a.cap) from (World.cell?_alloc_past _ _ _ (by show w.heap.size < wr.heap.size; omega)).trans e4)
      have hxo : some xb ≠ (Value.slice o us.length cap).ownBlock := fun q => by have := ((unhide XR).own.lt xb q.symm).1; omega
      have HXO := hide hxo
      have hwo : some w.heap.size ≠ (Value.slice o us.length cap).ownBlock := fun q => by have h1 := ((unhide H).own.lt w.heap.size q.symm).2; omega
      have HWO := hide hwo
      clear hxo hwo
      go_wp2_with fail
      go_region_law (refine step_append_lies _ (by rfl) _ _ _ (by rfl) (xb + 1) 109 ti _ 4 56 Tryz.underlying104 hi hz0' hz1' hz2' rfl (by omega) (.slice o us.length cap) us.length (us.flatMap bvC) (by rfl) (((unhide XR).own.alloc _).drew) ⟨wr.heap.size, 0, none⟩ 1 1 [.int .i64 0, .string ⟨#[]⟩, .int .i64 0, .slice none 0 0] (by rfl) (by rfl) (World.news_of_block (cs := #[.int .i64 0, .string ⟨#[]⟩, .int .i64 0, .slice none 0 0]) (t := 109) (fr := (0, 0)) (heap_alloc_new wr _)) (by simp [Value.oneCell']) (by omega) (by unfold maxLen; omega) (by omega) (by simp; omega) (wr.heap.size + 1) (by simp) ?_; intro g cap' w1 hown1 hgrow hat hlg; obtain ⟨q0, q1, q2, q3, qf⟩ := put_facts hown1; have fx := (hgrow.frozen_far ⟨xb, xo, none⟩ (by simp; omega) (unhide HXO)).trans fz'; have hxw := Nat.lt_of_lt_of_le hxr' hgrow.size; have ng : g ≠ xb := (by rintro rfl; rcases hat with q | q; exact unhide HXO q.symm; omega); have ng' : g ≠ w.heap.size := (by rintro rfl; rcases hat with q | q; exact unhide HWO q.symm; omega); have gx : xb ≤ g := (by rcases ownB_some hown1 with ⟨g9, c9, hv9, -⟩; have := (hown1.lt g rfl).1; omega); have ng2 := Ne.symm ng; have ng3 := Ne.symm ng'; have dx := (hgrow.cell_far ⟨xb, xo, none⟩ (by simp; omega) (unhide HXO)).trans (unhide bex); have b0 := (hgrow.cell_far ⟨w.heap.size, 0, none⟩ (by simp; omega) (unhide HWO)).trans (unhide be0); have b1 := (hgrow.cell_far ⟨w.heap.size, 1, none⟩ (by simp; omega) (unhide HWO)).trans (unhide be1); have b2 := (hgrow.cell_far ⟨w.heap.size, 2, none⟩ (by simp; omega) (unhide HWO)).trans (unhide be2); have b3 := (hgrow.cell_far ⟨w.heap.size, 3, none⟩ (by simp; omega) (unhide HWO)).trans (unhide be3))
      all_goals have HW1 := hide (FrX.append (xb := xb) (unhide HB) hgrow hat)
      all_goals have HBK := hide (show w1.heap[xb]? = some (.cells cs T (0, 0)) from (hgrow.block xb (by simp; omega) (unhide HXO)).trans ((Below.heap_alloc _ _ _ hxr).trans (unhide XR).blk))
      all_goals have HXS := hide (show xo < cs.size from (Array.getElem?_eq_some_iff.1 (unhide H).here).1)
      all_goals have HG1 := hide (FrX.apart (w := w) (unhide HB) hat)
      all_goals have HO1 := hide hown1
      all_goals clear hown1 hgrow hat q0 q1 q2 q3 b0 b1 b2 b3
      all_goals go_wp2_with fail
      all_goals go_ret
      all_goals have hout := vr_out (fun j hj => unhide HNO j hj (by have := unhide HNL; omega))
      all_goals refine ⟨cs.setIfInBounds xo (.slice (some ⟨g, 0, none⟩) (us.length + 1) cap'), us ++ [a], some ⟨g, 0, none⟩, cap', ?_, ?_, fun i hi => set_ne cs _ hi, ?_⟩
      all_goals first
        | exact vplace_ret (unhide HNL) hout
        | (with_reducible exact xv_put1 (unhide HO1) (unhide HBK) (unhide HXS) ng (unhide HVR) (unhide H0) hout)
        | (with_reducible exact xv_put2 (unhide HO1) (unhide HBK) (unhide HXS) ng (unhide HVR) (unhide H0) hout)
        | (repeat (refine FrX.set ?_ (by first | exact Or.inl rfl | exact Or.inr (unhide HG1)) _)
           exact unhide HW1)
end Go.Proofs.YthfjnfcekeknlaaGreatDoor
