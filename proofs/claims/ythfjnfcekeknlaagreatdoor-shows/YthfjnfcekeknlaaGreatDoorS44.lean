import Derived.Test.YthfjnfcekeknlaaGreatDoorS01
import Derived.Test.YthfjnfcekeknlaaGreatDoorS24
import Derived.Test.YthfjnfcekeknlaaGreatDoorS40
import Derived.Test.YthfjnfcekeknlaaGreatDoorS43
namespace Go.Proofs.YthfjnfcekeknlaaGreatDoor
open Go.RowKit

theorem VB.top {w : World} {a : BV} {t : Parl.Tm} (h : VB anyB w a t) (hw : Parl.wfD 8 t) : RB 8 (fun g => g < w.heap.size) w a t := by
  obtain ⟨f, hf⟩ := h.imp (Q := fun g => g < w.heap.size) fun _ _ q => q
  exact hf.cut hw
theorem ItemX.of {w : World} {v : IV} {x : Parl.Itm} (h : ItemR w v x) (hw : Parl.wfI x) : ItemX w.heap.size w v x := by
  obtain ⟨h1, h2, h3, h4, h5⟩ := h
  exact ⟨h1.top hw.1.1, h2, fun r q => (h3 r q).top (hw.1.2.1 r q), h4, fun z q => (h5 z q).top (hw.1.2.2 z q)⟩
theorem ItemsX.of {w : World} {o : Option Addr} {n : Nat} {ys : List Parl.Itm} (h : ItemsB w o n ys) (hw : ∀ x ∈ ys, Parl.wfI x) : ItemsX w.heap.size w o n ys :=
  ⟨h.1, fun q => by
    obtain ⟨g, vs, cs, h1, h2, h3, h4⟩ := h.2 q
    exact ⟨g, vs, cs, h1, blk_lt' h2, h2, h3, h4.impM fun _ b hb q => ItemX.of q (hw b hb)⟩⟩
theorem RB.mono {f xb yb : Nat} {w : World} {a : BV} {t : Parl.Tm} (h : RB f (fun g => g < xb) w a t) (hx : xb ≤ yb) : RB f (fun g => g < yb) w a t := h.keep fun _ _ hp hc _ => ⟨hc, Nat.lt_of_lt_of_le hp hx⟩
theorem ItemX.mono {xb yb : Nat} {w : World} {v : IV} {x : Parl.Itm} (h : ItemX xb w v x) (hx : xb ≤ yb) : ItemX yb w v x := ⟨h.left.mono hx, h.op, fun r q => (h.right r q).mono hx, h.sg, fun z q => (h.last z q).mono hx⟩
theorem ItemsX.mono {xb yb : Nat} {w : World} {lo : Option Addr} {n : Nat} {ys : List Parl.Itm} (h : ItemsX xb w lo n ys) (hx : xb ≤ yb) : ItemsX yb w lo n ys :=
  ⟨h.1, fun q => by
    obtain ⟨g, vs, cs, h1, h2, h3, h4, h5⟩ := h.2 q
    exact ⟨g, vs, cs, h1, Nat.lt_of_lt_of_le h2 hx, h3, h4, h5.imp fun _ _ q => q.mono hx⟩⟩
theorem ItemsX.ok {xb : Nat} {w : World} {lo : Option Addr} {n : Nat} {ys : List Parl.Itm} (h : ItemsX xb w lo n ys) : ∀ x ∈ ys, Parl.okI x := fun x hx => by
  obtain ⟨g, vs, cs, h1, h2, h3, h4, h5⟩ := h.2 (fun e => by rw [e] at hx; cases hx)
  obtain ⟨i, hi, rfl⟩ := List.getElem_of_mem hx
  exact (h5.at i (by have := h5.length; omega) hi).ok
/-- A clause lies there, ahead of block xb. -/
structure ClauseX (xb : Nat) (w : World) (v : CV) (c : Parl.Cls) : Prop where
  head : RB 8 (fun g => g < xb) w v.a c.head
  tests : ItemsX xb w v.o1 v.n1 c.tests
  goals : ItemsX xb w v.o2 v.n2 c.goals
theorem ClauseX.of {w : World} {v : CV} {c : Parl.Cls} (h : ClauseR w v c) (hw : Parl.wfC c) : ClauseX w.heap.size w v c :=
  ⟨h.1.top hw.1, ItemsX.of h.2.1 hw.2.1, ItemsX.of h.2.2 hw.2.2.2.1⟩
theorem ClauseX.blw {xb yb : Nat} {w w' : World} {v : CV} {c : Parl.Cls} (h : ClauseX xb w v c) (hb : Below xb w w') (hx : xb ≤ yb) : ClauseX yb w' v c :=
  ⟨(h.head.blw hb).mono hx, (h.tests.blw hb).mono hx, (h.goals.blw hb).mono hx⟩
theorem ClauseX.ok {xb : Nat} {w : World} {v : CV} {c : Parl.Cls} (h : ClauseX xb w v c) : Parl.okC c := ⟨h.head.ok3, h.tests.ok, h.goals.ok⟩
theorem cvC_at {us : List CV} {i : Nat} (h : i < us.length) (j : Nat) (hj : j < 6) : (us.flatMap cvC)[i * 6 + j]? = (cvC us[i])[j]? := by
  induction us generalizing i with
  | nil => simp at h
  | cons t r ih =>
    cases i with
    | zero => rw [List.flatMap_cons, List.getElem?_append_left (by simp [cvC]; omega)]; simp
    | succ i =>
      rw [List.flatMap_cons, List.getElem?_append_right (by simp [cvC]; omega)]
      simp only [show (cvC t).length = 6 from rfl]
      rw [show (i + 1) * 6 + j - 6 = i * 6 + j by omega]
      simpa using ih (by simpa using h)
/-- The list as it stands first. -/
theorem XL.first (w : World) : XL (w.alloc (.cells #[.slice none 0 0] 106)) w.heap.size [] none 0 := by
  have hb := heap_alloc_new w (.cells #[.slice none 0 0] 106)
  exact ⟨by rw [blkA' hb]; rfl, blkX' hb 0, World.ownsRow_nil _ _ _ _, by simp, by simp⟩
end Go.Proofs.YthfjnfcekeknlaaGreatDoor
namespace Go.Proofs.YthfjnfcekeknlaaGreatDoor
open Go.RowKit

set_option maxHeartbeats 8000000 in
set_option maxRecDepth 100000 in
theorem shB_ok (w : World) (s : ByteArray) (L : List Parl.Tok) (hs : s.size ≤ 240) (hL : Parl.Chain s L) (hh : Parl.hd L = Parl.next s 0) (ys : List Parl.Cls) (l1 : List Parl.Tok) (hp : Parl.prog 12 L = .inr (ys, l1)) :
    Calls Tryz.prog 33 #[.string s] w fun e w' => e = .returned (.tuple #[.string ⟨(Parl.strP ys).toArray⟩, .int .i64 0]) ∧ Below w.heap.size w w' := by
  have CK := hide (ckB_any w s L hL hh)
  have PR := hide (fun W => prB_any W s L hs hL hh)
  have HE := hide (show Parl.ckE s L = 0 by unfold Parl.ckE; rw [if_neg (by omega), hp]; rfl)
  have HP := hide hp
  have HWF := hide (Parl.wf_prog 12 L ys l1 hp)
  clear hL hh hp
  go_enter Tryz.func33, Tryz.ntmps33
  go_wp2_with fail
  refine (unhide CK).mono ?_
  rintro e w0 ⟨rfl, hb0⟩
  rw [unhide HE]
  have HB0 := hide hb0
  generalize Parl.ckP s L = pz
  clear CK HE hb0
  go_wp2_with fail
  refine (unhide PR w0).mono ?_
  rintro e w1 ⟨o, n, cp, rfl, hb1, hv⟩
  rw [unhide HP] at hv ⊢
  obtain ⟨rfl, hcl⟩ := hv
  have HB1 := hide ((unhide HB0).trans (hb1.mono (unhide HB0).size))
  have HCL := hide hcl
  have hl13 : ys.length ≤ 13 := (unhide HWF).2
  have HL := hide (show LS w1 ys ys.length (.string ⟨#[]⟩) (.int .i64 0) w1 from ⟨0, by omega, rfl, by simp [Parl.strP], Below.refl _ _⟩)
  clear hb1 hcl PR HP HB0
  generalize (Parl.errOf (.inr (ys, l1) : Parl.Res (List Parl.Cls)) : Int) = q1
  generalize (Parl.posOf (.inr (ys, l1) : Parl.Res (List Parl.Cls)) : Int) = q2
  go_wp2_with fail
  go_loopg [9, 10] ys.length (fun k s i wr => LS w1 ys k s i wr)
  case atStart => exact unhide HL
  case round =>
    clear HL
    obtain ⟨j, hkj, rfl, rfl, hB⟩ := hrel
    have HB := hide hB
    have hsz := hB.size
    clear hB
    by_cases hlt : j < ys.length
    · have hne : ys ≠ [] := fun q => by rw [q] at hlt; simp at hlt
      obtain ⟨g, vs, cs, rfl, hcs, htk, hall⟩ := unhide HCL hne
      have hjv : j < vs.length := by have := hall.length; omega
      have hgw := blk_lt' hcs
      have hwc := (unhide HWF).1 ys[j] (List.getElem_mem hlt)
      have hx0 := ClauseX.of (hall.at j hjv hlt) hwc
      have FC := hide (show ∀ W, Below w1.heap.size w1 W → ∀ i, i < 6 → W.cell? ⟨g, j * 6 + i, none⟩ = (cvC vs[j])[i]? from fun W hW i hi => by
        rw [blkA' ((hW.block g hgw).trans hcs), ← Array.getElem?_toList, ← cvC_at hjv i hi, ← htk, List.getElem?_take_of_lt (by omega)])
      have hSl : (Parl.strP (ys.take j)).length ≤ 910000000 := by
        have h1 := Parl.strP_len (ys.take j) (fun c hc => by
          have hm := List.mem_of_mem_take hc
          obtain ⟨i, hi, rfl⟩ := List.getElem_of_mem hm
          have hw' := (unhide HWF).1 ys[i] hm
          exact Parl.strC_len _ (ClauseX.of (hall.at i (by have := hall.length; omega) hi) hw').ok hw' (fun N hN t ht => str_all hN t ht))
        have h2 : (ys.take j).length ≤ 13 := by simp; omega
        have h3 := Nat.mul_le_mul_right 70000000 h2
        omega
      have HMORE := hide (Parl.strP_more hlt)
      clear hcs htk hall hne HCL
      generalize vs[j] = v at *
      generalize ys[j] = c at *
      generalize hSS : Parl.strP (ys.take j) = S at *
      clear hSS
      obtain ⟨⟨ak, anm, anum, aao, an, acap⟩, o1, n1, c1, o2, n2, c2⟩ := v
      have HOK := hide hx0.ok
      have HWC := hide hwc
      have hn1 : n1 = c.tests.length := hx0.tests.1
      have hn2 : n2 = c.goals.length := hx0.goals.1
      have B2 : Below w1.heap.size w1 (wr.alloc (.cells #[.slice none 0 0] 106)) := (unhide HB).alloc hsz _
      have HX := hide (hx0.blw B2 hsz)
      have HB2 := hide B2
      have fc := unhide FC _ B2
      have f0 := fc 0 (by omega)
      have f1 := fc 1 (by omega)
      have f2 := fc 2 (by omega)
      have f3 := fc 3 (by omega)
      simp only [cvC, List.getElem?_cons_zero, List.getElem?_cons_succ, Nat.add_zero] at f0 f1 f2 f3
      have IC := hide (sh_all 8 _ wr.heap.size [] none 0 ⟨ak, anm, anum, aao, an, acap⟩ c.head (XL.first wr) (unhide HX).head (by simp) (by omega))
      have hgr : g < wr.heap.size := by omega
      have HLT := hide hlt
      have HKJ := hide hkj
      have i0 : (0 : Int) ≤ (j : Int) := by omega
      have i1 : (j : Int) < (ys.length : Int) := by omega
      have hj13 : j ≤ 13 := by omega
      clear fc B2 hx0 hwc hkj
      have hcase : (n2 = 0 ∧ n1 = 0) ∨ (n2 = 0 ∧ n1 ≠ 0) ∨ (n2 ≠ 0 ∧ n1 = 0) ∨ (n2 ≠ 0 ∧ n1 ≠ 0) := by omega
      rcases hcase with ⟨hz2, hz1⟩ | ⟨hz2, hz1⟩ | ⟨hz2, hz1⟩ | ⟨hz2, hz1⟩
      · have HG := hide (show c.goals.length = 0 by omega)
        have HT := hide (show c.tests.length = 0 by omega)
        obtain rfl : n2 = 0 := by omega
        obtain rfl : n1 = 0 := by omega
        clear hn1 hn2
        go_wp2_with fail
        refine (unhide IC).mono ?_
        rintro e w2 ⟨us1, p1, cap1, rfl, hxl, hnm, hfr⟩
        have hc1 : us1.length ≤ 0 + 6561 := cnt_next hnm (unhide HOK).1 (by simp)
        have hA1 := str8_len (us := us1) (unhide HOK).1 (by omega)
        have hb3 := hfr.below (XL.first wr).past (by simp)
        have HBX3 := hide hb3
        have HB3 := hide ((unhide HB2).trans (hb3.mono hsz))
        have HXL1 := hide hxl
        have HNM1 := hide (show nmsB us1 = Parl.NH c from hnm)
        have hs2 : wr.heap.size + 1 ≤ w2.heap.size := by have := hfr.size; simpa using this
        have f4 := unhide FC w2 (unhide HB3) 4 (by omega)
        have f5 := unhide FC w2 (unhide HB3) 5 (by omega)
        simp only [cvC, List.getElem?_cons_zero, List.getElem?_cons_succ] at f4 f5
        clear hxl hnm hfr hb3 f0 f1 f2 f3 IC
        generalize hAA1 : Parl.strF 8 (nmsB us1) c.head = A1 at *
        have HA1 := hide hAA1
        clear hAA1
        have HBX4 := HBX3
        have HB4 := HB3
        have HXL2 := HXL1
        have HNM2 := hide (show nmsB us1 = Parl.NT c by rw [unhide HNM1]; unfold Parl.NT; rw [List.length_eq_zero_iff.1 (unhide HT)]; rfl)
        go_wp2_with fail
        refine (shL_any w2 wr.heap.size us1 p1 cap1 o2 _ c2 c.goals (unhide HXL2) ((unhide HX).goals.blw (unhide HBX4)) (unhide HWC).2.2.2.1 (unhide HWC).2.2.2.2 (by omega)).mono ?_
        rintro e w4 ⟨us3, p3, cap3, rfl, hxl, hnm, hfr⟩
        have HB5 := hide ((unhide HB4).trans ((hfr.below (unhide HXL2).past (by omega)).mono hsz))
        have HNM3 := hide (show nmsB us3 = Parl.NG c by rw [hnm, unhide HNM2]; rfl)
        have hc3 : us3.length ≤ us1.length + 120000 := by
          have h1 := nms_len us3
          have h2 := nms_len us1
          have h3 := Parl.namesL_len c.goals (unhide HOK).2.2 (unhide HWC).2.2.2.2 (nmsB us1)
          rw [← hnm] at h3
          omega
        have hA3 := Parl.strL_len c.goals (nmsB us3) (unhide HOK).2.2 (unhide HWC).2.2.2.1 (unhide HWC).2.2.2.2 (fun t ht => str8_len ht (by omega))
        clear hxl hnm hfr
        generalize hAA3 : Parl.strL (nmsB us3) c.goals = A3 at *
        have HA3 := hide hAA3
        clear hAA3
        go_wp2_with fail
        go_roundg (gk - 1)
        case measure => have := unhide HKJ; have := unhide HLT; omega
        case rel =>
          refine ⟨j + 1, by have := unhide HKJ; have := unhide HLT; omega, by go_num, ?_, unhide HB5⟩
          rw [unhide HMORE, Parl.strC_eq c (unhide HOK) (unhide HNM1) (unhide HNM2) (unhide HNM3), if_pos (unhide HT), show Parl.midC c = [] from if_pos (unhide HG), unhide HA1, unhide HA3]
          exact congrArg Value.string (sc_00 S A1 A3)
      · have HG := hide (show c.goals.length = 0 by omega)
        have HT := hide (show ¬ c.tests.length = 0 by omega)
        obtain rfl : n2 = 0 := by omega
        have ht2 : decide (0 < (n1 : Int)) = true := by simp; omega
        clear hn1 hn2
        go_wp2_with fail
        refine (unhide IC).mono ?_
        rintro e w2 ⟨us1, p1, cap1, rfl, hxl, hnm, hfr⟩
        have hc1 : us1.length ≤ 0 + 6561 := cnt_next hnm (unhide HOK).1 (by simp)
        have hA1 := str8_len (us := us1) (unhide HOK).1 (by omega)
        have hb3 := hfr.below (XL.first wr).past (by simp)
        have HBX3 := hide hb3
        have HB3 := hide ((unhide HB2).trans (hb3.mono hsz))
        have HXL1 := hide hxl
        have HNM1 := hide (show nmsB us1 = Parl.NH c from hnm)
        have hs2 : wr.heap.size + 1 ≤ w2.heap.size := by have := hfr.size; simpa using this
        have f4 := unhide FC w2 (unhide HB3) 4 (by omega)
        have f5 := unhide FC w2 (unhide HB3) 5 (by omega)
        simp only [cvC, List.getElem?_cons_zero, List.getElem?_cons_succ] at f4 f5
        clear hxl hnm hfr hb3 f0 f1 f2 f3 IC
        generalize hAA1 : Parl.strF 8 (nmsB us1) c.head = A1 at *
        have HA1 := hide hAA1
        clear hAA1
        go_wp2_with fail
        refine (shL_any w2 wr.heap.size us1 p1 cap1 o1 _ c1 c.tests (unhide HXL1) ((unhide HX).tests.blw (unhide HBX3)) (unhide HWC).2.1 (unhide HWC).2.2.1 (by omega)).mono ?_
        rintro e w3 ⟨us2, p2, cap2, rfl, hxl, hnm, hfr⟩
        have hb4 := hfr.below (unhide HXL1).past (by omega)
        have HBX4 := hide ((unhide HBX3).trans hb4)
        have HB4 := hide ((unhide HB3).trans (hb4.mono hsz))
        have HXL2 := hide hxl
        have HNM2 := hide (show nmsB us2 = Parl.NT c by rw [hnm, unhide HNM1]; rfl)
        have hc2 : us2.length ≤ us1.length + 120000 := by
          have h1 := nms_len us2
          have h2 := nms_len us1
          have h3 := Parl.namesL_len c.tests (unhide HOK).2.1 (unhide HWC).2.2.1 (nmsB us1)
          rw [← hnm] at h3
          omega
        have hA2 := Parl.strL_len c.tests (nmsB us2) (unhide HOK).2.1 (unhide HWC).2.1 (unhide HWC).2.2.1 (fun t ht => str8_len ht (by omega))
        have hs3 : wr.heap.size + 1 ≤ w3.heap.size := by have := hfr.size; omega
        have f6 := unhide FC w3 (unhide HB4) 5 (by omega)
        simp only [cvC, List.getElem?_cons_zero, List.getElem?_cons_succ] at f6
        clear hxl hnm hfr hb4 f4 f5
        generalize hAA2 : Parl.strL (nmsB us2) c.tests = A2 at *
        have HA2 := hide hAA2
        clear hAA2
        go_wp2_with fail
        refine (shL_any w3 wr.heap.size us2 p2 cap2 o2 _ c2 c.goals (unhide HXL2) ((unhide HX).goals.blw (unhide HBX4)) (unhide HWC).2.2.2.1 (unhide HWC).2.2.2.2 (by omega)).mono ?_
        rintro e w4 ⟨us3, p3, cap3, rfl, hxl, hnm, hfr⟩
        have HB5 := hide ((unhide HB4).trans ((hfr.below (unhide HXL2).past (by omega)).mono hsz))
        have HNM3 := hide (show nmsB us3 = Parl.NG c by rw [hnm, unhide HNM2]; rfl)
        have hc3 : us3.length ≤ us2.length + 120000 := by
          have h1 := nms_len us3
          have h2 := nms_len us2
          have h3 := Parl.namesL_len c.goals (unhide HOK).2.2 (unhide HWC).2.2.2.2 (nmsB us2)
          rw [← hnm] at h3
          omega
        have hA3 := Parl.strL_len c.goals (nmsB us3) (unhide HOK).2.2 (unhide HWC).2.2.2.1 (unhide HWC).2.2.2.2 (fun t ht => str8_len ht (by omega))
        clear hxl hnm hfr
        generalize hAA3 : Parl.strL (nmsB us3) c.goals = A3 at *
        have HA3 := hide hAA3
        clear hAA3
        go_wp2_with fail
        go_roundg (gk - 1)
        case measure => have := unhide HKJ; have := unhide HLT; omega
        case rel =>
          refine ⟨j + 1, by have := unhide HKJ; have := unhide HLT; omega, by go_num, ?_, unhide HB5⟩
          rw [unhide HMORE, Parl.strC_eq c (unhide HOK) (unhide HNM1) (unhide HNM2) (unhide HNM3), if_neg (unhide HT), show Parl.midC c = [] from if_pos (unhide HG), unhide HA1, unhide HA3, unhide HA2]
          exact congrArg Value.string (sc_01 S A1 A2 A3)
      · have HG := hide (show ¬ c.goals.length = 0 by omega)
        have HT := hide (show c.tests.length = 0 by omega)
        have hg2 : decide (0 < (n2 : Int)) = true := by simp; omega
        obtain rfl : n1 = 0 := by omega
        clear hn1 hn2
        go_wp2_with fail
        refine (unhide IC).mono ?_
        rintro e w2 ⟨us1, p1, cap1, rfl, hxl, hnm, hfr⟩
        have hc1 : us1.length ≤ 0 + 6561 := cnt_next hnm (unhide HOK).1 (by simp)
        have hA1 := str8_len (us := us1) (unhide HOK).1 (by omega)
        have hb3 := hfr.below (XL.first wr).past (by simp)
        have HBX3 := hide hb3
        have HB3 := hide ((unhide HB2).trans (hb3.mono hsz))
        have HXL1 := hide hxl
        have HNM1 := hide (show nmsB us1 = Parl.NH c from hnm)
        have hs2 : wr.heap.size + 1 ≤ w2.heap.size := by have := hfr.size; simpa using this
        have f4 := unhide FC w2 (unhide HB3) 4 (by omega)
        have f5 := unhide FC w2 (unhide HB3) 5 (by omega)
        simp only [cvC, List.getElem?_cons_zero, List.getElem?_cons_succ] at f4 f5
        clear hxl hnm hfr hb3 f0 f1 f2 f3 IC
        generalize hAA1 : Parl.strF 8 (nmsB us1) c.head = A1 at *
        have HA1 := hide hAA1
        clear hAA1
        have HBX4 := HBX3
        have HB4 := HB3
        have HXL2 := HXL1
        have HNM2 := hide (show nmsB us1 = Parl.NT c by rw [unhide HNM1]; unfold Parl.NT; rw [List.length_eq_zero_iff.1 (unhide HT)]; rfl)
        go_wp2_with fail
        refine (shL_any w2 wr.heap.size us1 p1 cap1 o2 _ c2 c.goals (unhide HXL2) ((unhide HX).goals.blw (unhide HBX4)) (unhide HWC).2.2.2.1 (unhide HWC).2.2.2.2 (by omega)).mono ?_
        rintro e w4 ⟨us3, p3, cap3, rfl, hxl, hnm, hfr⟩
        have HB5 := hide ((unhide HB4).trans ((hfr.below (unhide HXL2).past (by omega)).mono hsz))
        have HNM3 := hide (show nmsB us3 = Parl.NG c by rw [hnm, unhide HNM2]; rfl)
        have hc3 : us3.length ≤ us1.length + 120000 := by
          have h1 := nms_len us3
          have h2 := nms_len us1
          have h3 := Parl.namesL_len c.goals (unhide HOK).2.2 (unhide HWC).2.2.2.2 (nmsB us1)
          rw [← hnm] at h3
          omega
        have hA3 := Parl.strL_len c.goals (nmsB us3) (unhide HOK).2.2 (unhide HWC).2.2.2.1 (unhide HWC).2.2.2.2 (fun t ht => str8_len ht (by omega))
        clear hxl hnm hfr
        generalize hAA3 : Parl.strL (nmsB us3) c.goals = A3 at *
        have HA3 := hide hAA3
        clear hAA3
        go_wp2_with fail
        go_roundg (gk - 1)
        case measure => have := unhide HKJ; have := unhide HLT; omega
        case rel =>
          refine ⟨j + 1, by have := unhide HKJ; have := unhide HLT; omega, by go_num, ?_, unhide HB5⟩
          rw [unhide HMORE, Parl.strC_eq c (unhide HOK) (unhide HNM1) (unhide HNM2) (unhide HNM3), if_pos (unhide HT), show Parl.midC c = [32, 58, 45, 32] from if_neg (unhide HG), unhide HA1, unhide HA3]
          exact congrArg Value.string (sc_10 S A1 A3)
      · have HG := hide (show ¬ c.goals.length = 0 by omega)
        have HT := hide (show ¬ c.tests.length = 0 by omega)
        have hg2 : decide (0 < (n2 : Int)) = true := by simp; omega
        have ht2 : decide (0 < (n1 : Int)) = true := by simp; omega
        clear hn1 hn2
        go_wp2_with fail
        refine (unhide IC).mono ?_
        rintro e w2 ⟨us1, p1, cap1, rfl, hxl, hnm, hfr⟩
        have hc1 : us1.length ≤ 0 + 6561 := cnt_next hnm (unhide HOK).1 (by simp)
        have hA1 := str8_len (us := us1) (unhide HOK).1 (by omega)
        have hb3 := hfr.below (XL.first wr).past (by simp)
        have HBX3 := hide hb3
        have HB3 := hide ((unhide HB2).trans (hb3.mono hsz))
        have HXL1 := hide hxl
        have HNM1 := hide (show nmsB us1 = Parl.NH c from hnm)
        have hs2 : wr.heap.size + 1 ≤ w2.heap.size := by have := hfr.size; simpa using this
        have f4 := unhide FC w2 (unhide HB3) 4 (by omega)
        have f5 := unhide FC w2 (unhide HB3) 5 (by omega)
        simp only [cvC, List.getElem?_cons_zero, List.getElem?_cons_succ] at f4 f5
        clear hxl hnm hfr hb3 f0 f1 f2 f3 IC
        generalize hAA1 : Parl.strF 8 (nmsB us1) c.head = A1 at *
        have HA1 := hide hAA1
        clear hAA1
        go_wp2_with fail
        refine (shL_any w2 wr.heap.size us1 p1 cap1 o1 _ c1 c.tests (unhide HXL1) ((unhide HX).tests.blw (unhide HBX3)) (unhide HWC).2.1 (unhide HWC).2.2.1 (by omega)).mono ?_
        rintro e w3 ⟨us2, p2, cap2, rfl, hxl, hnm, hfr⟩
        have hb4 := hfr.below (unhide HXL1).past (by omega)
        have HBX4 := hide ((unhide HBX3).trans hb4)
        have HB4 := hide ((unhide HB3).trans (hb4.mono hsz))
        have HXL2 := hide hxl
        have HNM2 := hide (show nmsB us2 = Parl.NT c by rw [hnm, unhide HNM1]; rfl)
        have hc2 : us2.length ≤ us1.length + 120000 := by
          have h1 := nms_len us2
          have h2 := nms_len us1
          have h3 := Parl.namesL_len c.tests (unhide HOK).2.1 (unhide HWC).2.2.1 (nmsB us1)
          rw [← hnm] at h3
          omega
        have hA2 := Parl.strL_len c.tests (nmsB us2) (unhide HOK).2.1 (unhide HWC).2.1 (unhide HWC).2.2.1 (fun t ht => str8_len ht (by omega))
        have hs3 : wr.heap.size + 1 ≤ w3.heap.size := by have := hfr.size; omega
        have f6 := unhide FC w3 (unhide HB4) 5 (by omega)
        simp only [cvC, List.getElem?_cons_zero, List.getElem?_cons_succ] at f6
        clear hxl hnm hfr hb4 f4 f5
        generalize hAA2 : Parl.strL (nmsB us2) c.tests = A2 at *
        have HA2 := hide hAA2
        clear hAA2
        go_wp2_with fail
        refine (shL_any w3 wr.heap.size us2 p2 cap2 o2 _ c2 c.goals (unhide HXL2) ((unhide HX).goals.blw (unhide HBX4)) (unhide HWC).2.2.2.1 (unhide HWC).2.2.2.2 (by omega)).mono ?_
        rintro e w4 ⟨us3, p3, cap3, rfl, hxl, hnm, hfr⟩
        have HB5 := hide ((unhide HB4).trans ((hfr.below (unhide HXL2).past (by omega)).mono hsz))
        have HNM3 := hide (show nmsB us3 = Parl.NG c by rw [hnm, unhide HNM2]; rfl)
        have hc3 : us3.length ≤ us2.length + 120000 := by
          have h1 := nms_len us3
          have h2 := nms_len us2
          have h3 := Parl.namesL_len c.goals (unhide HOK).2.2 (unhide HWC).2.2.2.2 (nmsB us2)
          rw [← hnm] at h3
          omega
        have hA3 := Parl.strL_len c.goals (nmsB us3) (unhide HOK).2.2 (unhide HWC).2.2.2.1 (unhide HWC).2.2.2.2 (fun t ht => str8_len ht (by omega))
        clear hxl hnm hfr
        generalize hAA3 : Parl.strL (nmsB us3) c.goals = A3 at *
        have HA3 := hide hAA3
        clear hAA3
        go_wp2_with fail
        go_roundg (gk - 1)
        case measure => have := unhide HKJ; have := unhide HLT; omega
        case rel =>
          refine ⟨j + 1, by have := unhide HKJ; have := unhide HLT; omega, by go_num, ?_, unhide HB5⟩
          rw [unhide HMORE, Parl.strC_eq c (unhide HOK) (unhide HNM1) (unhide HNM2) (unhide HNM3), if_neg (unhide HT), show Parl.midC c = [32, 58, 45, 32] from if_neg (unhide HG), unhide HA1, unhide HA3, unhide HA2]
          exact congrArg Value.string (sc_11 S A1 A2 A3)
    · obtain rfl : j = ys.length := by omega
      rw [List.take_length]
      generalize hSS : Parl.strP ys = S at *
      have HSS := hide hSS
      clear hkj hSS
      go_wp2_with fail
      go_ret2
      exact ⟨by rw [unhide HSS]; rfl, (unhide HB1).trans ((unhide HB).mono (unhide HB1).size)⟩

set_option maxHeartbeats 2000000 in
theorem shB_bad (w : World) (s : ByteArray) (L : List Parl.Tok) (hL : Parl.Chain s L) (hh : Parl.hd L = Parl.next s 0) (h0 : Parl.ckE s L ≠ 0) :
    Calls Tryz.prog 33 #[.string s] w fun e w' => e = .returned (.tuple #[.string ⟨#[]⟩, .int .i64 (Parl.ckE s L : Int)]) ∧ Below w.heap.size w w' := by
  have CK := hide (ckB_any w s L hL hh)
  have he : ((Parl.ckE s L : Int) != 0) = true := by simpa using h0
  clear hL hh h0
  go_enter Tryz.func33, Tryz.ntmps33
  go_wp2_with fail
  refine (unhide CK).mono ?_
  rintro e w0 ⟨rfl, hb0⟩
  have HB0 := hide hb0
  clear CK hb0
  generalize hEE : Parl.ckE s L = er at *
  have HEE := hide hEE
  clear hEE
  generalize Parl.ckP s L = pz
  go_wp2_with fail
  go_ret2
  exact ⟨by rw [unhide HEE]; rfl, unhide HB0⟩
set_option maxHeartbeats 2000000 in
theorem shB_no (w : World) (s : ByteArray) (L : List Parl.Tok) (hs : s.size ≤ 240) (hL : Parl.Chain s L) (hh : Parl.hd L = Parl.next s 0) (ps : Nat) (hp : Parl.prog 12 L = .inl (0, ps)) (Q : Ending → World → Prop) :
    Calls Tryz.prog 33 #[.string s] w Q := by
  have CK := hide (ckB_any w s L hL hh)
  have PR := hide (fun W => prB_any W s L hs hL hh)
  have HE := hide (show Parl.ckE s L = 0 by unfold Parl.ckE; rw [if_neg (by omega), hp]; rfl)
  have HP := hide hp
  clear hL hh hp
  go_enter Tryz.func33, Tryz.ntmps33
  go_wp2_with fail
  refine (unhide CK).mono ?_
  rintro e w0 ⟨rfl, hb0⟩
  rw [unhide HE]
  generalize Parl.ckP s L = pz
  clear CK HE hb0
  go_wp2_with fail
  refine (unhide PR w0).mono ?_
  rintro e w1 ⟨o, n, cp, rfl, hb1, hv⟩
  rw [unhide HP] at hv
  exact absurd rfl hv
theorem shB_any (w : World) (s : ByteArray) (L : List Parl.Tok) (hL : Parl.Chain s L) (hh : Parl.hd L = Parl.next s 0) :
    Calls Tryz.prog 33 #[.string s] w fun e w' => e = .returned (.tuple #[.string ⟨(Parl.shS s L).toArray⟩, .int .i64 (Parl.ckE s L : Int)]) ∧ Below w.heap.size w w' := by
  by_cases hs : 240 < s.size
  · have h := shB_bad w s L hL hh (by unfold Parl.ckE; rw [if_pos hs]; omega)
    rw [show Parl.shS s L = [] by unfold Parl.shS; rw [if_pos hs]]
    exact h
  · rcases hp : Parl.prog 12 L with ⟨er, ps⟩ | ⟨ys, l1⟩
    · by_cases h0 : er = 0
      · subst h0
        exact shB_no w s L (by omega) hL hh ps hp _
      · have h := shB_bad w s L hL hh (by unfold Parl.ckE; rw [if_neg hs, hp]; exact h0)
        rw [show Parl.shS s L = [] by unfold Parl.shS; rw [if_neg hs, hp]]
        exact h
    · have h := shB_ok w s L (by omega) hL hh ys l1 hp
      rw [show Parl.shS s L = Parl.strP ys by unfold Parl.shS; rw [if_neg hs, hp], show Parl.ckE s L = 0 by unfold Parl.ckE; rw [if_neg hs, hp]; rfl]
      exact h
end Go.Proofs.YthfjnfcekeknlaaGreatDoor
