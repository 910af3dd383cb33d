import Derived.Test.YthfjnfcekeknlaaGreatDoorS01
import Derived.Test.YthfjnfcekeknlaaGreatDoorS40
import Derived.Test.YthfjnfcekeknlaaGreatDoorS41
import Derived.Deep.LoopGhost
namespace Go.Proofs.YthfjnfcekeknlaaGreatDoor
open Go.RowKit

/-- The loop over the arguments. -/
def LT (w : World) (b : Nat) (xb : Nat) (o : Option Addr) (us : List BV) (t : Parl.Tm) (cs0 : Array Value) (f : Nat) (k : Nat) (sv iv : Value) (wr : World) : Prop :=
  ∃ (j : Nat) (us' : List BV) (o' : Option Addr) (cap' : Nat), k + j = t.args.length ∧ iv = .int .i64 (j : Int) ∧ sv = .string ⟨(t.text.toList ++ Parl.argP ((t.args.take j).map (Parl.strF f (nmsB us')))).toArray⟩ ∧ XL wr xb us' o' cap' ∧
    nmsB us' = (t.args.take j).foldl (Parl.namesF f) (nmsB us) ∧ FrX xb o o' w wr ∧ wr.heap[b]? = some (.cells cs0 109 (0, 0))

theorem nms_bound {f : Nat} {us1 us2 : List BV} {t : Parl.Tm} (h : nmsB us2 = Parl.namesF f (nmsB us1) t) (ho : Parl.ok3 f t) (hc : us1.length + 3 ^ f ≤ 1000000) : (nmsB us2).length ≤ 100000000 := by
  obtain ⟨M, hM, hl⟩ := Parl.namesF_ext f t ho (nmsB us1)
  rw [h, hM, List.length_append]
  have : (nmsB us1).length = us1.length := by simp [nmsB]
  omega
set_option maxHeartbeats 4000000 in
set_option maxRecDepth 100000 in
theorem sh_name {f : Nat} (IH : ShSaid f) (w : World) (xb : Nat) (us : List BV) (o : Option Addr) (cap : Nat) (a : BV) (t : Parl.Tm) (h : XL w xb us o cap) (hr : RB (f + 1) (fun g => g < xb) w a t) (hne : t.args ≠ []) (hk3 : t.kind ≠ 3) (hk4 : t.kind ≠ 4) (hl : us.length + 3 ^ (f + 1) ≤ 1000000) (hf : f + 1 ≤ 8) :
    Calls Tryz.prog 50 #[.pointer (some ⟨xb, 0, none⟩), .agg #[.int .i64 a.k, .string a.nm, .int .i64 a.num, .slice a.ao a.n a.cap]] w fun e w' => PStr (f + 1) xb o us t w e w' := by
  have hok := RB.ok3 hr
  obtain ⟨⟨h1, h2, h3, h4, h5, h6⟩, hrow⟩ := hr
  obtain ⟨h7, h8⟩ := h3 hk4
  obtain ⟨g, vs, cs, hao, hgx, hcs, htk, hall⟩ := hrow hne
  obtain ⟨ak, nm, num, ao, an, acp⟩ := a
  dsimp only at h1 h2 h7 h8 hao
  subst h2 h7 hao h8
  obtain ⟨_, _, _, hoks⟩ := hok
  have hLS := lenS_le f (by omega)
  have hk2 : (ak == 2) = false := by rw [h1]; simp; unfold bk; split <;> (try split) <;> omega
  have hk3' : (ak == 3) = false := by rw [h1]; simp; unfold bk; split <;> (try split) <;> omega
  have hlt := h.lt
  have HOK := hide hoks
  have HNE := hide hne
  have HK3 := hide hk3
  have HK4 := hide hk4
  have hul : us.length + 3 * 3 ^ f ≤ 1000000 := by rw [Nat.pow_succ] at hl; omega
  have HUL := hide hul
  have hpast := hide h.past
  have hold : ∀ p, o = some p → p.block < w.heap.size := fun p q => (h.own.lt p.block (by rw [q]; rfl)).2
  have HOLD := hide hold
  have HL := hide (show LT (w.alloc (.cells #[.int .i64 ak, .string t.text, .int .i64 0, .slice (some ⟨g, 0, none⟩) t.args.length acp] 109)) w.heap.size xb o us t #[.int .i64 ak, .string t.text, .int .i64 0, .slice (some ⟨g, 0, none⟩) t.args.length acp] f t.args.length (.string t.text) (.int .i64 0) (w.alloc (.cells #[.int .i64 ak, .string t.text, .int .i64 0, .slice (some ⟨g, 0, none⟩) t.args.length acp] 109)) from
    ⟨0, us, o, cap, by omega, rfl, by simp [Parl.argP, ba_self], h.below ((Below.refl _ _).alloc (Nat.le_refl _) _), by simp, FrX.of_below (Below.refl _ _), heap_alloc_new w _⟩)
  have HGX := hide hgx
  have HCS := hide hcs
  have HTK := hide htk
  have HALL := hide hall
  have H6 := hide h6
  have HT5 := hide h5
  have I := hide IH
  clear h h1 h3 h4 h5 h6 hoks hrow hl hul hold IH hgx hcs htk hall hne
  go_enter Tryz.func50, Tryz.ntmps50
  go_wp2_with fail
  go_loopg [6, 7] t.args.length (fun k s i wr => LT (w.alloc (.cells #[.int .i64 ak, .string t.text, .int .i64 0, .slice (some ⟨g, 0, none⟩) t.args.length acp] 109)) w.heap.size xb o us t #[.int .i64 ak, .string t.text, .int .i64 0, .slice (some ⟨g, 0, none⟩) t.args.length acp] f k s i wr)
  case atStart => exact unhide HL
  case round =>
    clear HL
    obtain ⟨j, us1, o1, cap1, hkj, rfl, rfl, hxl, hnm, hfr, hbx⟩ := hrel
    have h6 := unhide H6
    have r0 := blkA' hbx
    have hz0 := blk_lt' hbx
    have HXL := hide hxl
    have HNM := hide hnm
    have HFR := hide hfr
    have HBX := hide hbx
    have hj3 : j ≤ 3 := by omega
    have hcnt : us1.length ≤ us.length + j * 3 ^ f := by have := lt_count (f := f) (j := j) (ts := t.args) (ns := nmsB us) (unhide HOK) hj3; rw [← hnm] at this; simpa [nmsB] using this
    have HCN := hide hcnt
    clear hxl hnm hfr hbx hcnt
    have hlS : (t.text.toList ++ Parl.argP ((t.args.take j).map (Parl.strF f (nmsB us1)))).length ≤ 5000000 := by
      have h3 := Parl.argP_len (c := Parl.lenS f) ((t.args.take j).map (Parl.strF f (nmsB us1))) (fun x hx => by
        obtain ⟨u, hu, rfl⟩ := List.mem_map.1 hx
        exact Parl.strF_len f u _ (unhide HOK u (List.mem_of_mem_take hu)) (by have h9 := unhide HCN; have h10 := unhide HUL; have h11 := Nat.mul_le_mul_right (3 ^ f) hj3; simp [nmsB]; omega) dec9)
      have h4 : ((t.args.take j).map (Parl.strF f (nmsB us1))).length ≤ 3 := by simp; omega
      have h5 := Nat.mul_le_mul_right (Parl.lenS f + 1) h4
      have h6 := Parl.bytes_len t.text
      have h7 := unhide HT5
      rw [List.length_append]
      omega
    have HAP := hide (show ∀ p, o1 = some p → w.heap.size ≠ p.block from fun p q => by
      rcases (unhide HFR).row p q with ⟨r, hr, hb⟩ | hb
      · have := unhide HOLD r hr; omega
      · simp at hb; omega)
    by_cases hlt' : j < t.args.length
    · have hgx := unhide HGX
      have hcs := unhide HCS
      have htk := unhide HTK
      have hall := unhide HALL
      have hvl := hall.length
      have hjv : j < vs.length := by omega
      have BW : Below xb w wr := ((Below.refl _ _).alloc (by omega) _).trans ((unhide HFR).below (unhide hpast) (by simp; omega))
      have hcw : wr.heap[g]? = some (.cells cs 109 (0, 0)) := (BW.block g hgx).trans hcs
      have fc : ∀ i, i < 4 → wr.cell? ⟨g, j * 4 + i, none⟩ = (bvC vs[j])[i]? := fun i hi => by
        rw [blkA' hcw, ← Array.getElem?_toList, ← bvC_at hjv i hi, ← htk, List.getElem?_take_of_lt (by omega)]
      have f0 := fc 0 (by omega)
      have f1 := fc 1 (by omega)
      have f2 := fc 2 (by omega)
      have f3 := fc 3 (by omega)
      simp [bvC] at f0 f1 f2 f3
      have hrb := RB.keep (Q := fun g => g < xb) (w' := wr) (fun g cs hp hc _ => ⟨(BW.block g hp).trans hc, hp⟩) (hall.at j hjv hlt')
      have hc2 : us1.length + 3 ^ f ≤ 1000000 := by
        have h9 := unhide HCN
        have h10 := unhide HUL
        have h11 := Nat.mul_le_mul_right (3 ^ f) (show j ≤ 2 by omega)
        generalize 3 ^ f = q at *
        generalize j * q = z at *
        omega
      have HC2 := hide hc2
      have IC := hide (unhide I wr xb us1 o1 cap1 vs[j] t.args[j] (unhide HXL) hrb hc2 (by omega))
      have hgw : g < wr.heap.size := blk_lt' hcw
      have i0 : (0 : Int) ≤ (j : Int) := by omega
      have i1 : (j : Int) < (t.args.length : Int) := by omega
      have HKJ := hide hkj
      have HJ3 := hide hj3
      have HLT := hide hlt'
      have HJV := hide hjv
      clear hrb hc2 fc hcw hcs htk hall BW hgx hvl hkj hj3 h6
      generalize hSS : t.text.toList ++ Parl.argP ((t.args.take j).map (Parl.strF f (nmsB us1))) = S at *
      have HSS := hide hSS
      clear hSS
      by_cases hj0 : j = 0
      · subst hj0
        go_wp2_with fail
        refine (unhide IC).mono ?_
        rintro e w2 ⟨us2, o2, cap2, rfl, hxl2, hnm2, hfr2⟩
        have hA : (Parl.strF f (nmsB us2) t.args[0]).length ≤ 1000000 := Nat.le_trans (Parl.strF_len f _ _ (unhide HOK _ (List.getElem_mem hlt')) (nms_bound hnm2 (unhide HOK _ (List.getElem_mem hlt')) (unhide HC2)) dec9) hLS
        have HST := hide (lt_step hlt' (unhide HOK) (unhide HNM) hnm2)
        have HXL2 := hide hxl2
        have HBX2 := hide ((hfr2.block w.heap.size hz0 (by omega) (unhide HAP)).trans (unhide HBX))
        have HFR2 := hide ((unhide HFR).trans hfr2)
        clear hxl2 hnm2 hfr2
        generalize hAA : Parl.strF f (nmsB us2) t.args[0] = A at *
        clear hAA
        go_wp2_with fail
        go_roundg (gk - 1)
        case measure => have := unhide HKJ; have := unhide HLT; omega
        case rel => exact ⟨0 + 1, us2, o2, cap2, by have := unhide HKJ; have := unhide HLT; omega, by go_num, by rw [(unhide HST).2, ← unhide HSS]; exact congrArg Value.string (lt_str0 _ _ _ (by simp)), unhide HXL2, (unhide HST).1, unhide HFR2, unhide HBX2⟩
      · have hj0' : ((j : Int) == 0) = false := by simp; omega
        go_wp2_with fail
        refine (unhide IC).mono ?_
        rintro e w2 ⟨us2, o2, cap2, rfl, hxl2, hnm2, hfr2⟩
        have hA : (Parl.strF f (nmsB us2) t.args[j]).length ≤ 1000000 := Nat.le_trans (Parl.strF_len f _ _ (unhide HOK _ (List.getElem_mem hlt')) (nms_bound hnm2 (unhide HOK _ (List.getElem_mem hlt')) (unhide HC2)) dec9) hLS
        have HST := hide (lt_step hlt' (unhide HOK) (unhide HNM) hnm2)
        have HXL2 := hide hxl2
        have HBX2 := hide ((hfr2.block w.heap.size hz0 (by omega) (unhide HAP)).trans (unhide HBX))
        have HFR2 := hide ((unhide HFR).trans hfr2)
        clear hxl2 hnm2 hfr2
        generalize hAA : Parl.strF f (nmsB us2) t.args[j] = A at *
        clear hAA
        go_wp2_with fail
        go_roundg (gk - 1)
        case measure => have := unhide HKJ; have := unhide HLT; omega
        case rel => exact ⟨j + 1, us2, o2, cap2, by have := unhide HKJ; have := unhide HLT; omega, by go_num, by rw [(unhide HST).2, ← unhide HSS]; exact congrArg Value.string (lt_str1 _ _ _ (fun q => by have h1 := unhide HLT; rw [List.map_eq_nil_iff, List.take_eq_nil_iff] at q; rcases q with q | q; omega; rw [q] at h1; simp at h1)), unhide HXL2, (unhide HST).1, unhide HFR2, unhide HBX2⟩
    · obtain rfl : j = t.args.length := by omega
      have hpos : (0 : Int) < (t.args.length : Int) := by have := unhide HNE; have : t.args.length ≠ 0 := fun q => this (List.length_eq_zero_iff.1 q); omega
      have HEND := hide (show Parl.strF (f + 1) (nmsB us1) t = t.text.toList ++ Parl.argS ((t.args.take t.args.length).map (Parl.strF f (nmsB us1))) by unfold Parl.strF; rw [if_neg (unhide HK3), if_neg (unhide HK4), List.take_length])
      have HNN := hide (show nmsB us1 = Parl.namesF (f + 1) (nmsB us) t by unfold Parl.namesF; rw [if_neg (unhide HK3), if_neg (unhide HK4), unhide HNM, List.take_length])
      generalize hSS : t.text.toList ++ Parl.argP ((t.args.take t.args.length).map (Parl.strF f (nmsB us1))) = S at *
      have HSS := hide hSS
      clear hSS hkj hj3 h6
      go_wp2_with fail
      go_ret
      refine ⟨us1, o1, cap1, ?_, unhide HXL, unhide HNN, (FrX.of_below ((Below.refl _ _).alloc (Nat.le_refl _) _)).trans (unhide HFR)⟩
      rw [unhide HEND, ← lt_strE _ _ (by have := unhide HNE; simpa using this), unhide HSS]
      rfl

set_option maxHeartbeats 2000000 in
set_option maxRecDepth 100000 in
theorem sh_atom (f : Nat) (w : World) (xb : Nat) (us : List BV) (o : Option Addr) (cap : Nat) (a : BV) (t : Parl.Tm) (h : XL w xb us o cap) (hr : LeafB a t) (hk3 : t.kind ≠ 3) (hk4 : t.kind ≠ 4) (ha : t.args = []) :
    Calls Tryz.prog 50 #[.pointer (some ⟨xb, 0, none⟩), .agg #[.int .i64 a.k, .string a.nm, .int .i64 a.num, .slice a.ao a.n a.cap]] w fun e w' => PStr (f + 1) xb o us t w e w' := by
  obtain ⟨k, nm, num, ao, n, cp⟩ := a
  obtain ⟨h1, h2, h3, h4, h5, h6⟩ := hr
  obtain ⟨h7, h8⟩ := h3 hk4
  dsimp only at h1 h2 h7 h8 ⊢
  rw [ha] at h2
  have hk2 : (k == 2) = false := by rw [h1]; simp; unfold bk; split <;> (try split) <;> omega
  have hk3' : (k == 3) = false := by rw [h1]; simp; unfold bk; split <;> (try split) <;> omega
  have HS := hide (show ∀ N, Parl.strF (f + 1) N t = t.text.toList from fun N => by unfold Parl.strF; rw [if_neg hk3, if_neg hk4, ha]; simp [Parl.argS])
  have HN := hide (show Parl.namesF (f + 1) (nmsB us) t = nmsB us by unfold Parl.namesF; rw [if_neg hk3, if_neg hk4, ha]; rfl)
  have HX := hide h
  have hlt := h.lt
  subst h2 h7 h8
  clear h h4 h5 h6 h3 h1 hk3 hk4 ha
  go_enter Tryz.func50, Tryz.ntmps50
  go_wp2_with fail
  refine wp_loop_rounds 1 ?_
  rw [rounds_succ]
  go_wp2_with fail
  go_ret
  refine ⟨us, o, cap, ?_, (unhide HX).below ((Below.refl _ _).alloc (Nat.le_refl _) _), (unhide HN).symm, FrX.of_below ((Below.refl _ _).alloc (Nat.le_refl _) _)⟩
  rw [unhide HS, ba_self]
  rfl

theorem sh_all : ∀ f, ShSaid f
  | 0 => fun _ _ _ _ _ _ _ _ hr => hr.elim
  | f + 1 => fun w xb us o cap a t h hr hl hf => by
    by_cases hk3 : t.kind = 3
    · exact sh_var f w xb us o cap a t h hr.1 hk3 hl
    · by_cases hk4 : t.kind = 4
      · exact sh_num f w xb us o cap a t h hr.1 hk4
      · by_cases ha : t.args = []
        · exact sh_atom f w xb us o cap a t h hr.1 hk3 hk4 ha
        · exact sh_name (sh_all f) w xb us o cap a t h hr ha hk3 hk4 hl hf
end Go.Proofs.YthfjnfcekeknlaaGreatDoor
