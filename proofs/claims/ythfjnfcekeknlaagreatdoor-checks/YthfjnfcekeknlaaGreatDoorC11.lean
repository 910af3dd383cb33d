import Derived.Test.YthfjnfcekeknlaaGreatDoorC01
import Derived.Test.YthfjnfcekeknlaaGreatDoorC08
namespace Go.Proofs.YthfjnfcekeknlaaGreatDoor
open Go.RowKit

set_option maxHeartbeats 8000000 in
set_option maxRecDepth 100000 in
theorem itB_t0 (w : World) (rb tb cap : Nat) (s : ByteArray) (L : List Parl.Tok) (i : Nat) (p0 : Int) (_tests goals : Bool) (h : SB w rb tb cap s L i 0 p0) (t : Parl.Tm) (l1 : List Parl.Tok) (hT : Parl.term 8 (L.drop i) = .inr (t, l1)) (hg : Parl.sees l1 [61] = false) (hm : Parl.sees l1 [58, 61] = false) (hm0 : Parl.sees l1 [61, 61] = true) (hm1 : Parl.sees l1 [92, 61] = false) (hm2 : Parl.sees l1 [61, 60] = false) (hm3 : Parl.sees l1 [60] = false) :
    Calls Tryz.prog 186 #[.pointer (some ⟨rb, 0, none⟩), .agg #[.bool true, .bool goals]] w fun e w' => PUniW rb tb cap s L p0 (Parl.item0 true goals (L.drop i)) w e w' := by
  have hlt := h.hlt
  have htl := h.tblt
  obtain ⟨hS, hK, hB0, hB1, hB2⟩ := itm_boxes true goals h
  unfold bxZ wyB at hS hK hB0 hB1 hB2
  have HS := hide hS
  have HK := hide hK
  have HB0 := hide hB0
  have HB1 := hide hB1
  have HB2 := hide hB2
  clear hS hK hB0 hB1 hB2 h
  have I := hide (fun W (hW : SB W rb tb cap s L i 0 p0) => trm_all 8 W rb tb cap s L i p0 1 rfl hW)
  rw [hT] at I
  rw [Parl.item0_test hT (show Parl.testSign l1 = true by simp [Parl.testSign, hm0])]
  go_enter Tryz.func186, Tryz.ntmps186
  go_wp2_with fail
  refine (unhide I _ (unhide HS)).mono ?_
  rintro e w2 ⟨nm, num, ao, cp, j, rfl, hnm, hj, hs2, hk2, hv2⟩
  have HV2 := hide (hv2.imp (Q := fun g => w.heap.size + 3 ≤ g ∧ g < w2.heap.size) (fun g q h => ⟨by simp at q; omega, h⟩))
  clear hv2
  subst hj
  have HNM := hide hnm
  clear hnm
  have HK2 := hide ((unhide HK).trans hk2)
  have hb0 := blk_kb hk2 (unhide HB0) (by simp; omega)
  have hb1 := blk_kb hk2 (unhide HB1) (by simp; omega)
  have hb2 := blk_kb hk2 (unhide HB2) (by simp; omega)
  have hz0 : w.heap.size < w2.heap.size := blk_lt' hb0
  have hz1 : w.heap.size + 1 < w2.heap.size := blk_lt' hb1
  have hz2 : w.heap.size + 1 + 1 < w2.heap.size := blk_lt' hb2
  have r0 := blkA' hb0
  have x0 := blkX' hb0
  have r1 := blkA' hb1
  have x1 := blkX' hb1
  have r2 := blkA' hb2
  have x2 := blkX' hb2
  have HB02 := hide hb0
  have HB12 := hide hb1
  have HB22 := hide hb2
  have c2 := hs2.c2
  have hrw : rb < w2.heap.size := hs2.hlt
  have HS2 := hide hs2
  clear hs2 hk2 hb0 hb1 hb2
  generalize bk t.kind = q at *
  have hkj := hide (show (Parl.hd (L.drop j)).kind ≠ 0 by rw [Parl.sees_kind hm0]; omega)
  go_wp2_with fail
  refine (is_any _ rb tb cap s L j 0 _ _ ((unhide HS2).below ((Below.refl _ _).alloc (Nat.le_refl _) _))).mono ?_
  rintro e wn ⟨rfl, n0, rfl⟩
  simp only [ByteArray.toList_mk]
  rw [hg]
  go_wp2_with fail
  refine (is_any _ rb tb cap s L j 0 _ _ (((unhide HS2).below ((Below.refl _ _).alloc (Nat.le_refl _) _)).draws _)).mono ?_
  rintro e wn ⟨rfl, n1, rfl⟩
  simp only [ByteArray.toList_mk]
  rw [hm]
  go_wp2_with fail
  refine wp_loop_rounds 5 ?_
  rw [rounds_succ]
  go_wp2_with fail
  refine (is_any _ rb tb cap s L j 0 _ _ (((((unhide HS2).below ((Below.refl _ _).alloc (Nat.le_refl _) _)).draws _).below ((Below.refl _ _).alloc (Nat.le_refl _) _)))).mono ?_
  rintro e wn ⟨rfl, m0, rfl⟩
  simp only [ByteArray.toList_mk]
  rw [hm0]
  go_wp2_with fail
  rw [rounds_succ]
  go_wp2_with fail
  refine (is_any _ rb tb cap s L j 0 _ _ (((((unhide HS2).below ((Below.refl _ _).alloc (Nat.le_refl _) _)).draws _).below ((Below.refl _ _).alloc (Nat.le_refl _) _)).draws _)).mono ?_
  rintro e wn ⟨rfl, m1, rfl⟩
  simp only [ByteArray.toList_mk]
  rw [hm1]
  go_wp2_with fail
  rw [rounds_succ]
  go_wp2_with fail
  refine (is_any _ rb tb cap s L j 0 _ _ (((((unhide HS2).below ((Below.refl _ _).alloc (Nat.le_refl _) _)).draws _).below ((Below.refl _ _).alloc (Nat.le_refl _) _)).draws _)).mono ?_
  rintro e wn ⟨rfl, m2, rfl⟩
  simp only [ByteArray.toList_mk]
  rw [hm2]
  go_wp2_with fail
  rw [rounds_succ]
  go_wp2_with fail
  refine (is_any _ rb tb cap s L j 0 _ _ (((((unhide HS2).below ((Below.refl _ _).alloc (Nat.le_refl _) _)).draws _).below ((Below.refl _ _).alloc (Nat.le_refl _) _)).draws _)).mono ?_
  rintro e wn ⟨rfl, m3, rfl⟩
  simp only [ByteArray.toList_mk]
  rw [hm3]
  go_wp2_with fail
  rw [rounds_succ]
  go_wp2_with fail
  have HBU0 := hide (show ((((w2.alloc (.cells #[.int .i64 q, .string nm, .int .i64 num, .slice ao t.args.length cp] 109)).drewN (n0 + n1)).alloc (.cells #[.string ⟨#[61, 61]⟩, .string ⟨#[92, 61]⟩, .string ⟨#[61, 60]⟩, .string ⟨#[60]⟩] 9)).drewN (m0 + m1 + m2 + m3)).heap[w.heap.size]? = _ from blk_alloc' (blk_alloc' (unhide HB02) _) _)
  have HBU1 := hide (show ((((w2.alloc (.cells #[.int .i64 q, .string nm, .int .i64 num, .slice ao t.args.length cp] 109)).drewN (n0 + n1)).alloc (.cells #[.string ⟨#[61, 61]⟩, .string ⟨#[92, 61]⟩, .string ⟨#[61, 60]⟩, .string ⟨#[60]⟩] 9)).drewN (m0 + m1 + m2 + m3)).heap[w.heap.size + 1]? = _ from blk_alloc' (blk_alloc' (unhide HB12) _) _)
  have HBU2 := hide (show ((((w2.alloc (.cells #[.int .i64 q, .string nm, .int .i64 num, .slice ao t.args.length cp] 109)).drewN (n0 + n1)).alloc (.cells #[.string ⟨#[61, 61]⟩, .string ⟨#[92, 61]⟩, .string ⟨#[61, 60]⟩, .string ⟨#[60]⟩] 9)).drewN (m0 + m1 + m2 + m3)).heap[w.heap.size + 1 + 1]? = _ from blk_alloc' (blk_alloc' (unhide HB22) _) _)
  have HBUa := hide (show ((((w2.alloc (.cells #[.int .i64 q, .string nm, .int .i64 num, .slice ao t.args.length cp] 109)).drewN (n0 + n1)).alloc (.cells #[.string ⟨#[61, 61]⟩, .string ⟨#[92, 61]⟩, .string ⟨#[61, 60]⟩, .string ⟨#[60]⟩] 9)).drewN (m0 + m1 + m2 + m3)).heap[w2.heap.size]? = some (.cells #[.int .i64 q, .string nm, .int .i64 num, .slice ao t.args.length cp] 109 (0, 0)) from blk_alloc' (heap_alloc_new w2 _) _)
  have HSU := hide (show SB ((((w2.alloc (.cells #[.int .i64 q, .string nm, .int .i64 num, .slice ao t.args.length cp] 109)).drewN (n0 + n1)).alloc (.cells #[.string ⟨#[61, 61]⟩, .string ⟨#[92, 61]⟩, .string ⟨#[61, 60]⟩, .string ⟨#[60]⟩] 9)).drewN (m0 + m1 + m2 + m3)) rb tb cap s L j 0 p0 from ((((unhide HS2).below ((Below.refl _ _).alloc (Nat.le_refl _) _)).draws _).below ((Below.refl _ _).alloc (Nat.le_refl _) _)).draws _)
  have HKU := hide (show KB [rb] w ((((w2.alloc (.cells #[.int .i64 q, .string nm, .int .i64 num, .slice ao t.args.length cp] 109)).drewN (n0 + n1)).alloc (.cells #[.string ⟨#[61, 61]⟩, .string ⟨#[92, 61]⟩, .string ⟨#[61, 60]⟩, .string ⟨#[60]⟩] 9)).drewN (m0 + m1 + m2 + m3)) from (((((unhide HK2).alloc _).drewN _).alloc _).drewN _))
  have hy2 : w.heap.size + 1 + 1 < w2.heap.size := hz2
  have hyr : rb < w2.heap.size := hrw
  have hyt : tb < w2.heap.size := by omega
  have RO := fun W => (OnB.refl w.heap.size W).set 1 (.bool false)
  have HSV := hide ((unhide HSU).onb (RO _) (by omega) (by omega))
  have HKV := hide ((unhide HKU).onb (RO _) (Nat.le_refl _))
  have HVV := hide ((show VB (fun g => w.heap.size + 3 ≤ g ∧ g < w2.heap.size) ((((w2.alloc (.cells #[.int .i64 q, .string nm, .int .i64 num, .slice ao t.args.length cp] 109)).drewN (n0 + n1)).alloc (.cells #[.string ⟨#[61, 61]⟩, .string ⟨#[92, 61]⟩, .string ⟨#[61, 60]⟩, .string ⟨#[60]⟩] 9)).drewN (m0 + m1 + m2 + m3)) ⟨q, nm, num, ao, t.args.length, cp⟩ t from (unhide HV2).kb (((((KB.refl [] w2).alloc _).drewN _).alloc _).drewN _) (by simp)).onb (RO _) (fun g q => by omega))
  clear HV2
  have HBV0 := hide (set2C (.bool false) (unhide HBU0))
  have HBV1 := hide (blk_other (unhide HBU1) (show w.heap.size + 1 ≠ w.heap.size by omega) 1 (.bool false))
  have HBV2 := hide (blk_other (unhide HBU2) (show w.heap.size + 1 + 1 ≠ w.heap.size by omega) 1 (.bool false))
  have HBVa := hide (blk_other (unhide HBUa) (show w2.heap.size ≠ w.heap.size by omega) 1 (.bool false))
  generalize (((((w2.alloc (.cells #[.int .i64 q, .string nm, .int .i64 num, .slice ao t.args.length cp] 109)).drewN (n0 + n1)).alloc (.cells #[.string ⟨#[61, 61]⟩, .string ⟨#[92, 61]⟩, .string ⟨#[61, 60]⟩, .string ⟨#[60]⟩] 9)).drewN (m0 + m1 + m2 + m3))).setCell ⟨w.heap.size, 1, none⟩ (.bool false) = w4 at HSV HKV HVV HBV0 HBV1 HBV2 HBVa ⊢
  clear RO HBU0 HBU1 HBU2 HBUa HSU HKU HS2 HK2 HB02 HB12 HB22 r0 x0 r1 x1 r2 x2 hz0 hz1 hz2 c2 hrw
  have hz0 := blk_lt' (unhide HBV0)
  have hz1 := blk_lt' (unhide HBV1)
  have hz2 := blk_lt' (unhide HBV2)
  have hza := blk_lt' (unhide HBVa)
  have HZA := hide hza
  have ra := blkA' (unhide HBVa)
  have hrw := (unhide HSV).hlt
  have htw := (unhide HSV).tblt
  obtain ⟨k0, k1, k2⟩ := (unhide HSV).tok
  have c0 := (unhide HSV).c0
  have c1 := (unhide HSV).c1
  have lt := (unhide HSV).lt
  have few := (unhide HSV).few
  clear k0 k2
  generalize htx : (Parl.hd (L.drop j)).text = tx at k1
  have HTX := hide htx
  clear htx
  go_big_region
  go_wp2_with fail
  have HBWi := hide (show ((w4.alloc (.cells #[.string tx, .string ⟨#[]⟩, .int .i64 q, .string nm, .int .i64 num, .slice ao t.args.length cp, .int .i64 0, .string ⟨#[]⟩, .int .i64 0, .slice none 0 0, .int .i64 0, .string ⟨#[]⟩, .int .i64 0, .slice none 0 0] 173)).drew).heap[w4.heap.size]? = some (.cells #[.string tx, .string ⟨#[]⟩, .int .i64 q, .string nm, .int .i64 num, .slice ao t.args.length cp, .int .i64 0, .string ⟨#[]⟩, .int .i64 0, .slice none 0 0, .int .i64 0, .string ⟨#[]⟩, .int .i64 0, .slice none 0 0] 173 (0, 0)) from heap_alloc_new w4 _)
  have HBW0 := hide (show ((w4.alloc (.cells #[.string tx, .string ⟨#[]⟩, .int .i64 q, .string nm, .int .i64 num, .slice ao t.args.length cp, .int .i64 0, .string ⟨#[]⟩, .int .i64 0, .slice none 0 0, .int .i64 0, .string ⟨#[]⟩, .int .i64 0, .slice none 0 0] 173)).drew).heap[w.heap.size]? = _ from blk_alloc' (unhide HBV0) _)
  have HBW1 := hide (show ((w4.alloc (.cells #[.string tx, .string ⟨#[]⟩, .int .i64 q, .string nm, .int .i64 num, .slice ao t.args.length cp, .int .i64 0, .string ⟨#[]⟩, .int .i64 0, .slice none 0 0, .int .i64 0, .string ⟨#[]⟩, .int .i64 0, .slice none 0 0] 173)).drew).heap[w.heap.size + 1]? = _ from blk_alloc' (unhide HBV1) _)
  have HBW2 := hide (show ((w4.alloc (.cells #[.string tx, .string ⟨#[]⟩, .int .i64 q, .string nm, .int .i64 num, .slice ao t.args.length cp, .int .i64 0, .string ⟨#[]⟩, .int .i64 0, .slice none 0 0, .int .i64 0, .string ⟨#[]⟩, .int .i64 0, .slice none 0 0] 173)).drew).heap[w.heap.size + 1 + 1]? = _ from blk_alloc' (unhide HBV2) _)
  have HSW := hide ((unhide HSV).below (((Below.refl _ _).alloc (Nat.le_refl _) (.cells #[.string tx, .string ⟨#[]⟩, .int .i64 q, .string nm, .int .i64 num, .slice ao t.args.length cp, .int .i64 0, .string ⟨#[]⟩, .int .i64 0, .slice none 0 0, .int .i64 0, .string ⟨#[]⟩, .int .i64 0, .slice none 0 0] 173)).drew))
  have HVW := hide ((unhide HVV).below (((Below.refl _ _).alloc (Nat.le_refl _) (.cells #[.string tx, .string ⟨#[]⟩, .int .i64 q, .string nm, .int .i64 num, .slice ao t.args.length cp, .int .i64 0, .string ⟨#[]⟩, .int .i64 0, .slice none 0 0, .int .i64 0, .string ⟨#[]⟩, .int .i64 0, .slice none 0 0] 173)).drew))
  have HKW := hide (((unhide HKV).alloc (.cells #[.string tx, .string ⟨#[]⟩, .int .i64 q, .string nm, .int .i64 num, .slice ao t.args.length cp, .int .i64 0, .string ⟨#[]⟩, .int .i64 0, .slice none 0 0, .int .i64 0, .string ⟨#[]⟩, .int .i64 0, .slice none 0 0] 173)).drew)
  have hyb : w.heap.size + 1 + 1 < w4.heap.size := hz2
  have hya : rb < w4.heap.size := hrw
  have hyc : tb < w4.heap.size := htw
  clear hz0 hz1 hz2 hza ra hrw htw c0 c1 lt few k1
  have TR := hide (fun W (hW : SB W rb tb cap s L (j + 1) 0 p0) => trm_uni (trm_all 8) W rb tb cap s L (j + 1) p0 1 rfl hW)
  rw [show L.drop (j + 1) = (L.drop j).tail by simp] at TR
  refine (pass_on _ rb tb cap s L j 0 _ (unhide HSW) (unhide hkj)).mono ?_
  rintro e w5 ⟨rfl, hs5, hk5⟩
  have HV5 := hide ((unhide HVW).kbs (unhide HSW) hk5)
  clear HVW HVV
  have HS5 := hide hs5
  have HK5 := hide ((unhide HKW).trans hk5)
  have HB50 := hide (blk_kb hk5 (unhide HBW0) (by simp; omega))
  have HB51 := hide (blk_kb hk5 (unhide HBW1) (by simp; omega))
  have HB52 := hide (blk_kb hk5 (unhide HBW2) (by simp; omega))
  have HB5i := hide (blk_kb hk5 (unhide HBWi) (by simp; omega))
  clear hs5 hk5 HBW0 HBW1 HBW2 HBWi HSW HKW HBV0 HBV1 HBV2 HBVa HSV HKV
  go_wp2_with fail
  refine (unhide TR _ (unhide HS5)).mono ?_
  rintro e w6 ⟨b, j2, e1, p1, rfl, hs6, hk6, hu, hvb⟩
  have HV6 := hide ((unhide HV5).kbs (unhide HS5) hk6)
  have HVB := hide hvb
  have HZ45 := hide (blk_lt' (unhide HB5i))
  clear hvb HV5
  have HU := hide hu
  clear hu
  have HS6 := hide hs6
  have HK6 := hide ((unhide HK5).trans hk6)
  have hb0 := blk_kb hk6 (unhide HB50) (by simp; omega)
  have hb1 := blk_kb hk6 (unhide HB51) (by simp; omega)
  have hb2 := blk_kb hk6 (unhide HB52) (by simp; omega)
  have hz0 : w.heap.size < w6.heap.size := blk_lt' hb0
  have hz1 : w.heap.size + 1 < w6.heap.size := blk_lt' hb1
  have hz2 : w.heap.size + 1 + 1 < w6.heap.size := blk_lt' hb2
  have r0 := blkA' hb0
  have x0 := blkX' hb0
  have r1 := blkA' hb1
  have x1 := blkX' hb1
  have r2 := blkA' hb2
  have x2 := blkX' hb2
  have hbi := blk_kb hk6 (unhide HB5i) (by simp; omega)
  have hzi : w4.heap.size < w6.heap.size := blk_lt' hbi
  have ri := blkA' hbi
  have xi := blkX' hbi
  clear hs6 hk6 hb0 hb1 hb2 hbi HB50 HB51 HB52 HB5i HS5 HK5
  go_wp2_with fail
  go_big_region
  go_wp2_with fail
  refine bodyPost_ret (v := .tuple #[.agg #[.string tx, .string ⟨#[]⟩, .int .i64 q, .string nm, .int .i64 num, .slice ao t.args.length cp, .int .i64 b.k, .string b.nm, .int .i64 b.num, .slice b.ao b.n b.cap, .int .i64 0, .string ⟨#[]⟩, .int .i64 0, .slice none 0 0], .agg #[.bool true, .bool false]]) (by simp [results, Tryz.results186, go_sem, r1, r2]) rfl ?_
  have RM := OnB.m4 w4.heap.size w6 (.int .i64 b.k) (.string b.nm) (.int .i64 b.num) (.slice b.ao b.n b.cap)
  have RP := fun W => OnB.c14 (w.heap.size + 1) W (.string tx) (.string ⟨#[]⟩) (.int .i64 q) (.string nm) (.int .i64 num) (.slice ao t.args.length cp) (.int .i64 b.k) (.string b.nm) (.int .i64 b.num) (.slice b.ao b.n b.cap) (.int .i64 0) (.string ⟨#[]⟩) (.int .i64 0) (.slice none 0 0)
  have RQ := fun W => OnB.c2 (w.heap.size + 1 + 1) W (.bool true) (.bool false)
  exact ⟨⟨q, nm, num, ao, t.args.length, cp⟩, b, ⟨0, ⟨#[]⟩, 0, none, 0, 0⟩, tx, ⟨#[]⟩, true, false, j2, e1, p1, rfl, ((((unhide HS6).onb RM (by omega) (by omega)).onb (RP _) (by omega) (by omega)).onb (RQ _) (by omega) (by omega)).below (Below.refl _ _).drew, ((((unhide HK6).onb RM (by omega)).onb (RP _) (by omega)).onb (RQ _) (by omega)).drew, uni_wayed (uni_sides t (unhide HU)), way_wayed _ _ _, val_sides (((((unhide HV6).onb RM (fun g q => by have := unhide HZA; omega)).onb (RP _) (fun g q => by omega)).onb (RQ _) (fun g q => by omega)).below (Below.refl _ _).drew) (by rw [unhide HTX]) (fun r l2 e => by have hvb := unhide HVB; rw [e] at hvb; have h45 := unhide HZ45; exact ((((show VB (fun g => w5.heap.size ≤ g) w6 b r from hvb).onb RM (fun g q => by omega)).onb (RP _) (fun g q => by omega)).onb (RQ _) (fun g q => by omega)).below (Below.refl _ _).drew)⟩

end Go.Proofs.YthfjnfcekeknlaaGreatDoor
