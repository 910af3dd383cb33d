import Derived.Test.YthfjnfcekeknlaaGreatDoorU01
import Derived.Test.YthfjnfcekeknlaaGreatDoorU02
import Derived.Test.YthfjnfcekeknlaaGreatDoorU11
import Derived.Test.YthfjnfcekeknlaaGreatDoorU28
import Derived.Test.YthfjnfcekeknlaaGreatDoorU29
import Derived.Deep.LoopGhost
namespace Go.Proofs.YthfjnfcekeknlaaGreatDoor
open Go.RowKit

/-- The loop over the arguments. -/
def LTu (W0 : World) (b : Nat) (xb : Nat) (o : Option Addr) (N : List Parl.Vr) (tx : List UInt8) (ss : List Parl.U) (cs0 : Array Value) (k : Nat) (sv iv : Value) (wr : World) : Prop :=
  ∃ (j : Nat) (N1 : List Parl.Vr) (cs' : Array Value) (us' : List BV) (o' : Option Addr) (cap' : Nat), k + j = ss.length ∧ iv = .int .i64 (j : Int) ∧ sv = .string ⟨(tx ++ Parl.argP ((ss.take j).map (Parl.strU Lib.itoa N1))).toArray⟩ ∧ XV wr xb 0 106 cs' N1 us' o' cap' ∧
    N1 = (ss.take j).foldl Parl.namesU N ∧ FrX xb o o' W0 wr ∧ wr.heap[b]? = some (.cells cs0 109 (0, 0))

set_option maxHeartbeats 4000000 in
set_option maxRecDepth 100000 in
theorem tu_name {f : Nat} (IH : TuSaid f) (w : World) (xb : Nat) (cs : Array Value) (N : List Parl.Vr) (us : List BV) (o : Option Addr) (cap : Nat) (a : BV) (tx : List UInt8) (nu : Int) (ss : List Parl.U) (h : XV w xb 0 106 cs N us o cap) (hr : RU (f + 1) (fun g => g < xb) w a (.n 1 tx nu ss)) (hne : ss ≠ []) (hgd : Parl.gdU (.n 1 tx nu ss)) (hl : N.length + Parl.size (.n 1 tx nu ss) ≤ 1000000) :
    Calls Tryz.prog 50 #[.pointer (some ⟨xb, 0, none⟩), .agg #[.int .i64 a.k, .string a.nm, .int .i64 a.num, .slice a.ao a.n a.cap]] w fun e w' => PTu xb o (Parl.strU Lib.itoa (Parl.namesU N (.n 1 tx nu ss)) (.n 1 tx nu ss)) (Parl.namesU N (.n 1 tx nu ss)) w e w' := by
  obtain ⟨hlf, hrow⟩ := hr
  obtain ⟨h1, h2, h3, h4, h5, h6⟩ := hlf
  obtain ⟨g, vs, rs, hao, hgx, hcs, htk, hall⟩ := hrow hne
  have hall : All2 (RU f (fun g => g < xb) w) vs ss := hall
  obtain ⟨ak, nm, num, ao, an, acp⟩ := a
  dsimp only at h1 h3 h4 h5 hao
  have e1 : ak = 1 := h1
  subst e1 h4 h5 hao
  obtain rfl : tx = nm.toList := h3.symm
  have hlt := h.lt
  have HNE := hide hne
  have HGD := hide hgd
  have hul : N.length + 1 + Parl.sizeL ss ≤ 1000000 := by rw [Parl.size] at hl; omega
  have HUL := hide hul
  have htx : nm.toList.length ≤ 240 := hgd.1.own.1
  have hpast := hide h.past
  have hold : ∀ p, o = some p → p.block < w.heap.size := fun p q => (h.own.lt p.block (by rw [q]; rfl)).2
  have HOLD := hide hold
  have HL := hide (show LTu (w.alloc (.cells #[.int .i64 1, .string nm, .int .i64 num, .slice (some ⟨g, 0, none⟩) ss.length acp] 109)) w.heap.size xb o N nm.toList ss #[.int .i64 1, .string nm, .int .i64 num, .slice (some ⟨g, 0, none⟩) ss.length acp] ss.length (.string nm) (.int .i64 0) (w.alloc (.cells #[.int .i64 1, .string nm, .int .i64 num, .slice (some ⟨g, 0, none⟩) ss.length acp] 109)) from
    ⟨0, N, cs, us, o, cap, by omega, rfl, by simp [Parl.argP, ba_self], h.below ((Below.refl _ _).alloc (Nat.le_refl _) _), by simp, FrX.of_below (Below.refl _ _), heap_alloc_new w _⟩)
  have HGX := hide hgx
  have HCS := hide hcs
  have HTK := hide htk
  have HALL := hide (show All2 (RU f (fun g => g < xb) w) vs ss from hall)
  have H6 := hide h6
  have HEND := hide (show ∀ M, Parl.strU Lib.itoa M (.n 1 nm.toList num ss) = nm.toList ++ Parl.argS (ss.map (Parl.strU Lib.itoa M)) from fun M => by rw [Parl.strU_n, if_neg (by decide)])
  have HNN := hide (show Parl.namesU N (.n 1 nm.toList num ss) = ss.foldl Parl.namesU N from Parl.namesU_n ..)
  rw [unhide HNN, unhide HEND]
  have I := hide IH
  clear h h1 h2 h3 h6 hrow hl hul hold IH hgx hcs htk hall hne hgd HNN HEND
  go_enter Tryz.func50, Tryz.ntmps50
  go_wp2_with fail
  go_loopg [6, 7] ss.length (fun k s i wr => LTu (w.alloc (.cells #[.int .i64 1, .string nm, .int .i64 num, .slice (some ⟨g, 0, none⟩) ss.length acp] 109)) w.heap.size xb o N nm.toList ss #[.int .i64 1, .string nm, .int .i64 num, .slice (some ⟨g, 0, none⟩) ss.length acp] k s i wr)
  case atStart => exact unhide HL
  case round =>
    clear HL
    obtain ⟨j, N1, cs1, us1, o1, cap1, hkj, rfl, rfl, hxl, hnm, hfr, hbx⟩ := hrel
    have h6 := unhide H6
    have r0 := blkA' hbx
    have hz0 := blk_lt' hbx
    have HXL := hide hxl
    have HNM := hide hnm
    have HFR := hide hfr
    have HBX := hide hbx
    have hj3 : j ≤ 3 := by omega
    have hcnt : N1.length ≤ N.length + 1 + Parl.sizeL (ss.take j) := by rw [hnm]; exact Parl.fold_len _ _
    have HCN := hide hcnt
    clear hxl hnm hfr hbx hcnt
    have hlS : (nm.toList ++ Parl.argP ((ss.take j).map (Parl.strU Lib.itoa N1))).length ≤ 1000000000 := by
      have h3 := Parl.argP_len (c := 300000000) ((ss.take j).map (Parl.strU Lib.itoa N1)) (fun x hx => by
        obtain ⟨u, hu, rfl⟩ := List.mem_map.1 hx
        have hu' := List.mem_of_mem_take hu
        have h9 := unhide HCN
        have h10 := unhide HUL
        have h11 := Parl.sizeL_take_le ss j
        have h12 := Parl.sizeL_mem hu'
        have := Parl.strU_len (N := N1) (by omega) u ((unhide HGD).1.arg hu')
        omega)
      have h4 : ((ss.take j).map (Parl.strU Lib.itoa N1)).length ≤ 3 := by simp; omega
      have h5 := Nat.mul_le_mul_right (300000000 + 1) h4
      rw [List.length_append]
      omega
    have HAP := hide (show ∀ p, o1 = some p → w.heap.size ≠ p.block from fun p q => by
      rcases (unhide HFR).row p q with ⟨r, hr, hb⟩ | hb
      · have := unhide HOLD r hr; omega
      · simp at hb; omega)
    by_cases hlt' : j < ss.length
    · have hgx := unhide HGX
      have hcs := unhide HCS
      have htk := unhide HTK
      have hall := unhide HALL
      have hvl := hall.length
      have hjv : j < vs.length := by omega
      have BW : Below xb w wr := ((Below.refl _ _).alloc (by omega) _).trans ((unhide HFR).below (unhide hpast) (by simp; omega))
      have hcw : wr.heap[g]? = some (.cells rs 109 (0, 0)) := (BW.block g hgx).trans hcs
      have fc : ∀ i, i < 4 → wr.cell? ⟨g, j * 4 + i, none⟩ = (bvC vs[j])[i]? := fun i hi => by
        rw [blkA' hcw, ← Array.getElem?_toList, ← bvC_at hjv i hi, ← htk, List.getElem?_take_of_lt (by omega)]
      have f0 := fc 0 (by omega)
      have f1 := fc 1 (by omega)
      have f2 := fc 2 (by omega)
      have f3 := fc 3 (by omega)
      simp [bvC] at f0 f1 f2 f3
      have hgdj : Parl.gdU ss[j] := (unhide HGD).arg (List.getElem_mem hlt')
      have hcj : N1.length + Parl.size ss[j] ≤ 1000000 := by
        have h9 := unhide HCN
        have h10 := unhide HUL
        have h11 := Parl.sizeL_take ss hlt'
        have h12 := Parl.sizeL_take_le ss (j + 1)
        omega
      have IC := hide (unhide I wr xb cs1 N1 us1 o1 cap1 vs[j] ss[j] (unhide HXL) ((hall.at j hjv hlt').keep fun g cs hp hc => ⟨(BW.block g hp).trans hc, hp⟩) hgdj hcj)
      have hA : (Parl.strU Lib.itoa (Parl.namesU N1 ss[j]) ss[j]).length ≤ 300000000 := by
        have := Parl.strU_len (N := Parl.namesU N1 ss[j]) (by have := Parl.namesU_len0 ss[j] N1; omega) ss[j] hgdj.1
        omega
      have HST := hide (Parl.str_step Lib.itoa hlt' (unhide HNM))
      have hgw : g < wr.heap.size := blk_lt' hcw
      have i0 : (0 : Int) ≤ (j : Int) := by omega
      have i1 : (j : Int) < (ss.length : Int) := by omega
      have HKJ := hide hkj
      have HLT := hide hlt'
      clear fc hcw hcs htk hall BW hgx hvl hkj h6 hgdj hcj
      generalize vs[j] = vj at *
      generalize hAA : Parl.strU Lib.itoa (Parl.namesU N1 ss[j]) ss[j] = A at *
      generalize hN2 : Parl.namesU N1 ss[j] = N2 at *
      generalize hSS : nm.toList ++ Parl.argP ((ss.take j).map (Parl.strU Lib.itoa N1)) = S at *
      have HSS := hide hSS
      clear hSS hAA hN2 hlt' hjv
      by_cases hj0 : j = 0
      · subst hj0
        go_wp2_with fail
        refine (unhide IC).mono ?_
        rintro e w2 ⟨cs2, us2, o2, cap2, rfl, hxl2, hfr2⟩
        have HXL2 := hide hxl2
        have HBX2 := hide ((hfr2.block w.heap.size hz0 (by omega) (unhide HAP)).trans (unhide HBX))
        have HFR2 := hide ((unhide HFR).trans hfr2)
        clear hxl2 hfr2
        go_wp2_with fail
        go_roundg (gk - 1)
        case measure => have := unhide HKJ; have := unhide HLT; omega
        case rel => exact ⟨0 + 1, N2, cs2, us2, o2, cap2, by have := unhide HKJ; have := unhide HLT; omega, by go_num, by rw [(unhide HST).2, ← unhide HSS]; exact congrArg Value.string (lt_str0 _ _ _ (by simp)), unhide HXL2, (unhide HST).1, unhide HFR2, unhide HBX2⟩
      · have hj0' : ((j : Int) == 0) = false := by simp; omega
        go_wp2_with fail
        refine (unhide IC).mono ?_
        rintro e w2 ⟨cs2, us2, o2, cap2, rfl, hxl2, hfr2⟩
        have HXL2 := hide hxl2
        have HBX2 := hide ((hfr2.block w.heap.size hz0 (by omega) (unhide HAP)).trans (unhide HBX))
        have HFR2 := hide ((unhide HFR).trans hfr2)
        clear hxl2 hfr2
        go_wp2_with fail
        go_roundg (gk - 1)
        case measure => have := unhide HKJ; have := unhide HLT; omega
        case rel => exact ⟨j + 1, N2, cs2, us2, o2, cap2, by have := unhide HKJ; have := unhide HLT; omega, by go_num, by rw [(unhide HST).2, ← unhide HSS]; exact congrArg Value.string (lt_str1 _ _ _ (fun q => by have h1 := unhide HLT; rw [List.map_eq_nil_iff, List.take_eq_nil_iff] at q; rcases q with q | q; omega; rw [q] at h1; simp at h1)), unhide HXL2, (unhide HST).1, unhide HFR2, unhide HBX2⟩
    · obtain rfl : j = ss.length := by omega
      have hpos : (0 : Int) < (ss.length : Int) := by have := unhide HNE; have : ss.length ≠ 0 := fun q => this (List.length_eq_zero_iff.1 q); omega
      have HN9 := hide (show ss.foldl Parl.namesU N = N1 by rw [unhide HNM, List.take_length])
      rw [List.take_length] at hlS ⊢
      generalize hSS : nm.toList ++ Parl.argP (ss.map (Parl.strU Lib.itoa N1)) = S at *
      have HSS := hide hSS
      clear hSS hkj hj3 h6
      go_wp2_with fail
      go_ret
      rw [unhide HN9]
      refine ⟨cs1, us1, o1, cap1, ?_, unhide HXL, (FrX.of_below ((Below.refl _ _).alloc (Nat.le_refl _) _)).trans (unhide HFR)⟩
      rw [← lt_strE _ _ (by have := unhide HNE; simpa using this), unhide HSS]
      rfl
theorem tu_all : ∀ f, TuSaid f
  | 0 => fun _ _ _ _ _ _ _ _ _ _ hr => hr.elim
  | f + 1 => fun w xb cs N us o cap a u h hr hg hl => by
    cases u with
    | v x => exact tu_var w xb cs N us o cap a x h hr.1 (by omega)
    | n k tx nu ss =>
      obtain ⟨k1, k2⟩ := hg.2.own
      rcases k1 with rfl | rfl
      · by_cases hs : ss = []
        · subst hs
          exact tu_atom w xb cs N us o cap a tx nu h hr.1
        · exact tu_name (tu_all f) w xb cs N us o cap a tx nu ss h hr hs hg hl
      · obtain rfl := k2 rfl
        obtain ⟨_, b1, b2, _⟩ := hg.1.own
        exact tu_num w xb cs N us o cap a tx nu h hr.1 b1 b2
end Go.Proofs.YthfjnfcekeknlaaGreatDoor
