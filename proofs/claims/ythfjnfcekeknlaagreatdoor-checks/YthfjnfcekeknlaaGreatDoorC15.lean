import Derived.Test.YthfjnfcekeknlaaGreatDoorC01
import Derived.Test.YthfjnfcekeknlaaGreatDoorC08
namespace Go.Proofs.YthfjnfcekeknlaaGreatDoor
open Go.RowKit

set_option maxHeartbeats 8000000 in
set_option maxRecDepth 100000 in
theorem itB_u0 (w : World) (rb tb cap : Nat) (s : ByteArray) (L : List Parl.Tok) (i : Nat) (p0 : Int) (_tests goals : Bool) (h : SB w rb tb cap s L i 0 p0) (t : Parl.Tm) (l1 : List Parl.Tok) (hT : Parl.term 8 (L.drop i) = .inr (t, l1)) (hg : Parl.sees l1 [61] = false) (hm : Parl.sees l1 [58, 61] = false) (hm0 : Parl.sees l1 [61, 61] = true) (hm1 : Parl.sees l1 [92, 61] = false) (hm2 : Parl.sees l1 [61, 60] = false) (hm3 : Parl.sees l1 [60] = false) :
    Calls Tryz.prog 186 #[.pointer (some ⟨rb, 0, none⟩), .agg #[.bool false, .bool goals]] w fun e w' => PErrW rb tb cap s L 2 ((Parl.hd l1).pos : Int) w e w' := by
  have hlt := h.hlt
  have htl := h.tblt
  obtain ⟨hS, hK, hB0, hB1, hB2⟩ := itm_boxes false goals h
  unfold bxZ wyB at hS hK hB0 hB1 hB2
  have HS := hide hS
  have HK := hide hK
  have HB0 := hide hB0
  have HB1 := hide hB1
  have HB2 := hide hB2
  clear hS hK hB0 hB1 hB2 h
  have I := hide (fun W (hW : SB W rb tb cap s L i 0 p0) => trm_all 8 W rb tb cap s L i p0 1 rfl hW)
  rw [hT] at I
  go_enter Tryz.func186, Tryz.ntmps186
  go_wp2_with fail
  refine (unhide I _ (unhide HS)).mono ?_
  rintro e w2 ⟨nm, num, ao, cp, j, rfl, hnm, hj, hs2, hk2, -⟩
  subst hj
  have HNM := hide hnm
  clear hnm
  have HK2 := hide ((unhide HK).trans hk2)
  have hb0 := blk_kb hk2 (unhide HB0) (by simp; omega)
  have hb1 := blk_kb hk2 (unhide HB1) (by simp; omega)
  have hb2 := blk_kb hk2 (unhide HB2) (by simp; omega)
  have hz0 : w.heap.size < w2.heap.size := blk_lt' hb0
  have hz1 : w.heap.size + 1 < w2.heap.size := blk_lt' hb1
  have hz2 : w.heap.size + 1 + 1 < w2.heap.size := blk_lt' hb2
  have r0 := blkA' hb0
  have x0 := blkX' hb0
  have r1 := blkA' hb1
  have x1 := blkX' hb1
  have r2 := blkA' hb2
  have x2 := blkX' hb2
  have HB02 := hide hb0
  have HB12 := hide hb1
  have HB22 := hide hb2
  have c2 := hs2.c2
  have hrw : rb < w2.heap.size := hs2.hlt
  have HS2 := hide hs2
  clear hs2 hk2 hb0 hb1 hb2
  generalize bk t.kind = q at *
  have hkj := hide (show (Parl.hd (L.drop j)).kind ≠ 0 by rw [Parl.sees_kind hm0]; omega)
  go_wp2_with fail
  refine (is_any _ rb tb cap s L j 0 _ _ ((unhide HS2).below ((Below.refl _ _).alloc (Nat.le_refl _) _))).mono ?_
  rintro e wn ⟨rfl, n0, rfl⟩
  simp only [ByteArray.toList_mk]
  rw [hg]
  go_wp2_with fail
  refine (is_any _ rb tb cap s L j 0 _ _ (((unhide HS2).below ((Below.refl _ _).alloc (Nat.le_refl _) _)).draws _)).mono ?_
  rintro e wn ⟨rfl, n1, rfl⟩
  simp only [ByteArray.toList_mk]
  rw [hm]
  go_wp2_with fail
  refine wp_loop_rounds 5 ?_
  rw [rounds_succ]
  go_wp2_with fail
  refine (is_any _ rb tb cap s L j 0 _ _ (((((unhide HS2).below ((Below.refl _ _).alloc (Nat.le_refl _) _)).draws _).below ((Below.refl _ _).alloc (Nat.le_refl _) _)))).mono ?_
  rintro e wn ⟨rfl, m0, rfl⟩
  simp only [ByteArray.toList_mk]
  rw [hm0]
  go_wp2_with fail
  rw [rounds_succ]
  go_wp2_with fail
  refine (is_any _ rb tb cap s L j 0 _ _ (((((unhide HS2).below ((Below.refl _ _).alloc (Nat.le_refl _) _)).draws _).below ((Below.refl _ _).alloc (Nat.le_refl _) _)).draws _)).mono ?_
  rintro e wn ⟨rfl, m1, rfl⟩
  simp only [ByteArray.toList_mk]
  rw [hm1]
  go_wp2_with fail
  rw [rounds_succ]
  go_wp2_with fail
  refine (is_any _ rb tb cap s L j 0 _ _ (((((unhide HS2).below ((Below.refl _ _).alloc (Nat.le_refl _) _)).draws _).below ((Below.refl _ _).alloc (Nat.le_refl _) _)).draws _)).mono ?_
  rintro e wn ⟨rfl, m2, rfl⟩
  simp only [ByteArray.toList_mk]
  rw [hm2]
  go_wp2_with fail
  rw [rounds_succ]
  go_wp2_with fail
  refine (is_any _ rb tb cap s L j 0 _ _ (((((unhide HS2).below ((Below.refl _ _).alloc (Nat.le_refl _) _)).draws _).below ((Below.refl _ _).alloc (Nat.le_refl _) _)).draws _)).mono ?_
  rintro e wn ⟨rfl, m3, rfl⟩
  simp only [ByteArray.toList_mk]
  rw [hm3]
  go_wp2_with fail
  rw [rounds_succ]
  go_wp2_with fail
  have HBU0 := hide (show ((((w2.alloc (.cells #[.int .i64 q, .string nm, .int .i64 num, .slice ao t.args.length cp] 109)).drewN (n0 + n1)).alloc (.cells #[.string ⟨#[61, 61]⟩, .string ⟨#[92, 61]⟩, .string ⟨#[61, 60]⟩, .string ⟨#[60]⟩] 9)).drewN (m0 + m1 + m2 + m3)).heap[w.heap.size]? = _ from blk_alloc' (blk_alloc' (unhide HB02) _) _)
  have HBU1 := hide (show ((((w2.alloc (.cells #[.int .i64 q, .string nm, .int .i64 num, .slice ao t.args.length cp] 109)).drewN (n0 + n1)).alloc (.cells #[.string ⟨#[61, 61]⟩, .string ⟨#[92, 61]⟩, .string ⟨#[61, 60]⟩, .string ⟨#[60]⟩] 9)).drewN (m0 + m1 + m2 + m3)).heap[w.heap.size + 1]? = _ from blk_alloc' (blk_alloc' (unhide HB12) _) _)
  have HBU2 := hide (show ((((w2.alloc (.cells #[.int .i64 q, .string nm, .int .i64 num, .slice ao t.args.length cp] 109)).drewN (n0 + n1)).alloc (.cells #[.string ⟨#[61, 61]⟩, .string ⟨#[92, 61]⟩, .string ⟨#[61, 60]⟩, .string ⟨#[60]⟩] 9)).drewN (m0 + m1 + m2 + m3)).heap[w.heap.size + 1 + 1]? = _ from blk_alloc' (blk_alloc' (unhide HB22) _) _)
  have HBUa := hide (show ((((w2.alloc (.cells #[.int .i64 q, .string nm, .int .i64 num, .slice ao t.args.length cp] 109)).drewN (n0 + n1)).alloc (.cells #[.string ⟨#[61, 61]⟩, .string ⟨#[92, 61]⟩, .string ⟨#[61, 60]⟩, .string ⟨#[60]⟩] 9)).drewN (m0 + m1 + m2 + m3)).heap[w2.heap.size]? = some (.cells #[.int .i64 q, .string nm, .int .i64 num, .slice ao t.args.length cp] 109 (0, 0)) from blk_alloc' (heap_alloc_new w2 _) _)
  have HSU := hide (show SB ((((w2.alloc (.cells #[.int .i64 q, .string nm, .int .i64 num, .slice ao t.args.length cp] 109)).drewN (n0 + n1)).alloc (.cells #[.string ⟨#[61, 61]⟩, .string ⟨#[92, 61]⟩, .string ⟨#[61, 60]⟩, .string ⟨#[60]⟩] 9)).drewN (m0 + m1 + m2 + m3)) rb tb cap s L j 0 p0 from ((((unhide HS2).below ((Below.refl _ _).alloc (Nat.le_refl _) _)).draws _).below ((Below.refl _ _).alloc (Nat.le_refl _) _)).draws _)
  have HKU := hide (show KB [rb] w ((((w2.alloc (.cells #[.int .i64 q, .string nm, .int .i64 num, .slice ao t.args.length cp] 109)).drewN (n0 + n1)).alloc (.cells #[.string ⟨#[61, 61]⟩, .string ⟨#[92, 61]⟩, .string ⟨#[61, 60]⟩, .string ⟨#[60]⟩] 9)).drewN (m0 + m1 + m2 + m3)) from (((((unhide HK2).alloc _).drewN _).alloc _).drewN _))
  have hy2 : w.heap.size + 1 + 1 < w2.heap.size := hz2
  have hyr : rb < w2.heap.size := hrw
  have hyt : tb < w2.heap.size := by omega
  clear r0 x0 r1 x1 r2 x2 hz0 hz1 hz2 c2 hrw
  refine (bad_first _ rb tb cap s L j _ 2 (unhide HSU)).mono ?_
  rintro e w7 ⟨rfl, hs7, hk7⟩
  have HK7 := hide ((unhide HKU).trans hk7)
  have HS7 := hide hs7
  have hb0 := blk_kb hk7 (unhide HBU0) (by simp; omega)
  have HB70 := hide hb0
  have hb1 := blk_kb hk7 (unhide HBU1) (by simp; omega)
  have HB71 := hide hb1
  have hb2 := blk_kb hk7 (unhide HBU2) (by simp; omega)
  have HB72 := hide hb2
  have hba := blk_kb hk7 (unhide HBUa) (by simp; omega)
  have HB7a := hide hba
  have hz0 : w.heap.size < w7.heap.size := blk_lt' hb0
  have hrw : rb < w7.heap.size := hs7.hlt
  have r0 := blkA' hb0
  have x0 := blkX' hb0
  clear hs7 hk7 hb0 hb1 hb2 hba
  go_wp2_with fail
  have RO := fun W => (OnB.refl w.heap.size W).set 1 (.bool false)
  have HSV := hide ((unhide HS7).onb (RO _) (by omega) (by omega))
  have HKV := hide ((unhide HK7).onb (RO _) (Nat.le_refl _))
  have HBV0 := hide (set2C (.bool false) (unhide HB70))
  have HBV1 := hide (blk_other (unhide HB71) (show w.heap.size + 1 ≠ w.heap.size by omega) 1 (.bool false))
  have HBV2 := hide (blk_other (unhide HB72) (show w.heap.size + 1 + 1 ≠ w.heap.size by omega) 1 (.bool false))
  have HBVa := hide (blk_other (unhide HB7a) (show w2.heap.size ≠ w.heap.size by omega) 1 (.bool false))
  generalize (w7).setCell ⟨w.heap.size, 1, none⟩ (.bool false) = w4 at HSV HKV HBV0 HBV1 HBV2 HBVa ⊢
  clear RO HBU0 HBU1 HBU2 HBUa HSU HKU HS2 HK2 HB02 HB12 HB22 r0 x0 hz0 hrw HS7 HK7 HB70 HB71 HB72 HB7a
  have hz0 := blk_lt' (unhide HBV0)
  have hz1 := blk_lt' (unhide HBV1)
  have hz2 := blk_lt' (unhide HBV2)
  have hza := blk_lt' (unhide HBVa)
  have ra := blkA' (unhide HBVa)
  have hrw := (unhide HSV).hlt
  have htw := (unhide HSV).tblt
  obtain ⟨k0, k1, k2⟩ := (unhide HSV).tok
  have c0 := (unhide HSV).c0
  have c1 := (unhide HSV).c1
  have lt := (unhide HSV).lt
  have few := (unhide HSV).few
  clear k0 k2
  generalize (Parl.hd (L.drop j)).text = tx at k1
  go_big_region
  go_wp2_with fail
  have HBWi := hide (show ((w4.alloc (.cells #[.string tx, .string ⟨#[]⟩, .int .i64 q, .string nm, .int .i64 num, .slice ao t.args.length cp, .int .i64 0, .string ⟨#[]⟩, .int .i64 0, .slice none 0 0, .int .i64 0, .string ⟨#[]⟩, .int .i64 0, .slice none 0 0] 173)).drew).heap[w4.heap.size]? = some (.cells #[.string tx, .string ⟨#[]⟩, .int .i64 q, .string nm, .int .i64 num, .slice ao t.args.length cp, .int .i64 0, .string ⟨#[]⟩, .int .i64 0, .slice none 0 0, .int .i64 0, .string ⟨#[]⟩, .int .i64 0, .slice none 0 0] 173 (0, 0)) from heap_alloc_new w4 _)
  have HBW0 := hide (show ((w4.alloc (.cells #[.string tx, .string ⟨#[]⟩, .int .i64 q, .string nm, .int .i64 num, .slice ao t.args.length cp, .int .i64 0, .string ⟨#[]⟩, .int .i64 0, .slice none 0 0, .int .i64 0, .string ⟨#[]⟩, .int .i64 0, .slice none 0 0] 173)).drew).heap[w.heap.size]? = _ from blk_alloc' (unhide HBV0) _)
  have HBW1 := hide (show ((w4.alloc (.cells #[.string tx, .string ⟨#[]⟩, .int .i64 q, .string nm, .int .i64 num, .slice ao t.args.length cp, .int .i64 0, .string ⟨#[]⟩, .int .i64 0, .slice none 0 0, .int .i64 0, .string ⟨#[]⟩, .int .i64 0, .slice none 0 0] 173)).drew).heap[w.heap.size + 1]? = _ from blk_alloc' (unhide HBV1) _)
  have HBW2 := hide (show ((w4.alloc (.cells #[.string tx, .string ⟨#[]⟩, .int .i64 q, .string nm, .int .i64 num, .slice ao t.args.length cp, .int .i64 0, .string ⟨#[]⟩, .int .i64 0, .slice none 0 0, .int .i64 0, .string ⟨#[]⟩, .int .i64 0, .slice none 0 0] 173)).drew).heap[w.heap.size + 1 + 1]? = _ from blk_alloc' (unhide HBV2) _)
  have HSW := hide ((unhide HSV).below (((Below.refl _ _).alloc (Nat.le_refl _) (.cells #[.string tx, .string ⟨#[]⟩, .int .i64 q, .string nm, .int .i64 num, .slice ao t.args.length cp, .int .i64 0, .string ⟨#[]⟩, .int .i64 0, .slice none 0 0, .int .i64 0, .string ⟨#[]⟩, .int .i64 0, .slice none 0 0] 173)).drew))
  have HKW := hide (((unhide HKV).alloc (.cells #[.string tx, .string ⟨#[]⟩, .int .i64 q, .string nm, .int .i64 num, .slice ao t.args.length cp, .int .i64 0, .string ⟨#[]⟩, .int .i64 0, .slice none 0 0, .int .i64 0, .string ⟨#[]⟩, .int .i64 0, .slice none 0 0] 173)).drew)
  have hyb : w.heap.size + 1 + 1 < w4.heap.size := hz2
  have hya : rb < w4.heap.size := hrw
  have hyc : tb < w4.heap.size := htw
  clear hz0 hz1 hz2 hza ra hrw htw c0 c1 lt few k1
  refine (pass_any _ rb tb cap s L 2 _ ⟨j, unhide HSW⟩).mono ?_
  rintro e w5 ⟨rfl, hs5, hk5⟩
  have HS5 := hide hs5
  have HK5 := hide ((unhide HKW).trans hk5)
  have HB50 := hide (blk_kb hk5 (unhide HBW0) (by simp; omega))
  have HB51 := hide (blk_kb hk5 (unhide HBW1) (by simp; omega))
  have HB52 := hide (blk_kb hk5 (unhide HBW2) (by simp; omega))
  have HB5i := hide (blk_kb hk5 (unhide HBWi) (by simp; omega))
  clear hs5 hk5 HBW0 HBW1 HBW2 HBWi HSW HKW HBV0 HBV1 HBV2 HBVa HSV HKV
  go_wp2_with fail
  refine (trm_err _ rb tb cap s L 2 _ 1 (unhide HS5) (by omega)).mono ?_
  rintro e w6 ⟨b, rfl, ⟨j2, hs6⟩, hk6⟩
  have HS6 := hide hs6
  have HK6 := hide ((unhide HK5).trans hk6)
  have hb0 := blk_kb hk6 (unhide HB50) (by simp; omega)
  have hb1 := blk_kb hk6 (unhide HB51) (by simp; omega)
  have hb2 := blk_kb hk6 (unhide HB52) (by simp; omega)
  have hz0 : w.heap.size < w6.heap.size := blk_lt' hb0
  have hz1 : w.heap.size + 1 < w6.heap.size := blk_lt' hb1
  have hz2 : w.heap.size + 1 + 1 < w6.heap.size := blk_lt' hb2
  have r0 := blkA' hb0
  have x0 := blkX' hb0
  have r1 := blkA' hb1
  have x1 := blkX' hb1
  have r2 := blkA' hb2
  have x2 := blkX' hb2
  have hbi := blk_kb hk6 (unhide HB5i) (by simp; omega)
  have hzi : w4.heap.size < w6.heap.size := blk_lt' hbi
  have ri := blkA' hbi
  have xi := blkX' hbi
  clear hs6 hk6 hb0 hb1 hb2 hbi HB50 HB51 HB52 HB5i HS5 HK5
  go_wp2_with fail
  go_big_region
  go_wp2_with fail
  refine bodyPost_ret (v := .tuple #[.agg #[.string tx, .string ⟨#[]⟩, .int .i64 q, .string nm, .int .i64 num, .slice ao t.args.length cp, .int .i64 b.k, .string b.nm, .int .i64 b.num, .slice b.ao b.n b.cap, .int .i64 0, .string ⟨#[]⟩, .int .i64 0, .slice none 0 0], .agg #[.bool false, .bool false]]) (by simp [results, Tryz.results186, go_sem, r1, r2]) rfl ?_
  have RM := OnB.m4 w4.heap.size w6 (.int .i64 b.k) (.string b.nm) (.int .i64 b.num) (.slice b.ao b.n b.cap)
  have RP := fun W => OnB.c14 (w.heap.size + 1) W (.string tx) (.string ⟨#[]⟩) (.int .i64 q) (.string nm) (.int .i64 num) (.slice ao t.args.length cp) (.int .i64 b.k) (.string b.nm) (.int .i64 b.num) (.slice b.ao b.n b.cap) (.int .i64 0) (.string ⟨#[]⟩) (.int .i64 0) (.slice none 0 0)
  have RQ := fun W => OnB.c2 (w.heap.size + 1 + 1) W (.bool false) (.bool false)
  exact ⟨⟨q, nm, num, ao, t.args.length, cp⟩, b, ⟨0, ⟨#[]⟩, 0, none, 0, 0⟩, tx, ⟨#[]⟩, false, false, rfl, ⟨j2, ((((unhide HS6).onb RM (by omega) (by omega)).onb (RP _) (by omega) (by omega)).onb (RQ _) (by omega) (by omega)).below (Below.refl _ _).drew⟩, ((((unhide HK6).onb RM (by omega)).onb (RP _) (by omega)).onb (RQ _) (by omega)).drew⟩

end Go.Proofs.YthfjnfcekeknlaaGreatDoor
namespace Go.Proofs.YthfjnfcekeknlaaGreatDoor
open Go.RowKit

set_option maxHeartbeats 8000000 in
set_option maxRecDepth 100000 in
theorem itB_q2 (w : World) (rb tb cap : Nat) (s : ByteArray) (L : List Parl.Tok) (i : Nat) (p0 : Int) (tests goals : Bool) (h : SB w rb tb cap s L i 0 p0) (t : Parl.Tm) (l1 : List Parl.Tok) (hT : Parl.term 8 (L.drop i) = .inr (t, l1)) (hg : Parl.sees l1 [61] = false) (hm : Parl.sees l1 [58, 61] = true) (hm0 : Parl.sees l1 [61, 61] = false) (hm1 : Parl.sees l1 [92, 61] = false) (hm2 : Parl.sees l1 [61, 60] = false) (hm3 : Parl.sees l1 [60] = false) (hk3 : t.kind ≠ 3) (_hk5 : t.kind ≤ 5) (hk2 : t.kind = 2) (hin : t.text.toList = [105, 110, 116]) (hone : t.args.length ≠ 1) :
    Calls Tryz.prog 186 #[.pointer (some ⟨rb, 0, none⟩), .agg #[.bool tests, .bool goals]] w fun e w' => PUniW rb tb cap s L p0 (Parl.item0 tests goals (L.drop i)) w e w' := by
  have hlt := h.hlt
  have htl := h.tblt
  obtain ⟨hS, hK, hB0, hB1, hB2⟩ := itm_boxes tests goals h
  unfold bxZ wyB at hS hK hB0 hB1 hB2
  have HS := hide hS
  have HK := hide hK
  have HB0 := hide hB0
  have HB1 := hide hB1
  have HB2 := hide hB2
  clear hS hK hB0 hB1 hB2 h
  have I := hide (fun W (hW : SB W rb tb cap s L i 0 p0) => trm_all 8 W rb tb cap s L i p0 1 rfl hW)
  rw [hT] at I
  rw [Parl.item0_plain hT (show Parl.testSign l1 = false by simp [Parl.testSign, hm0, hm1, hm2, hm3]) hg (by exact fun c => hk3 c.1), if_pos hk2, show (tests && Parl.isInt t) = false by simp [Parl.isInt, hk2, hin, hone]]
  go_enter Tryz.func186, Tryz.ntmps186
  go_wp2_with fail
  refine (unhide I _ (unhide HS)).mono ?_
  rintro e w2 ⟨nm, num, ao, cp, j, rfl, hnm, hj, hs2, hk2, hv2⟩
  have HV2 := hide (hv2.imp (Q := fun g => w.heap.size + 3 ≤ g ∧ g < w2.heap.size) (fun g q h => ⟨by simp at q; omega, h⟩))
  clear hv2
  subst hj
  have HNM := hide hnm
  clear hnm
  have HK2 := hide ((unhide HK).trans hk2)
  have hb0 := blk_kb hk2 (unhide HB0) (by simp; omega)
  have hb1 := blk_kb hk2 (unhide HB1) (by simp; omega)
  have hb2 := blk_kb hk2 (unhide HB2) (by simp; omega)
  have hz0 : w.heap.size < w2.heap.size := blk_lt' hb0
  have hz1 : w.heap.size + 1 < w2.heap.size := blk_lt' hb1
  have hz2 : w.heap.size + 1 + 1 < w2.heap.size := blk_lt' hb2
  have r0 := blkA' hb0
  have x0 := blkX' hb0
  have r1 := blkA' hb1
  have x1 := blkX' hb1
  have r2 := blkA' hb2
  have x2 := blkX' hb2
  have HB02 := hide hb0
  have HB12 := hide hb1
  have HB22 := hide hb2
  have c2 := hs2.c2
  have hrw : rb < w2.heap.size := hs2.hlt
  have HS2 := hide hs2
  clear hs2 hk2 hb0 hb1 hb2
  obtain rfl : nm = t.text := unhide HNM (by omega)
  have hq : bk t.kind = 1 := by rw [hk2]; rfl
  rw [hq]
  rw [hq] at HV2
  have hnt : t.text = ⟨#[105, 110, 116]⟩ := by
    generalize t.text = b at hin
    rcases b with ⟨d⟩
    rw [ByteArray.toList_mk] at hin
    rw [show d = #[105, 110, 116] from Array.toList_inj.1 hin]
  rw [hnt]
  rw [hnt] at HV2
  clear HNM hin hT hk2 _hk5 hq hk3
  have hone' : (((t.args.length : Nat) : Int) != 1) = true := by simp only [bne_iff_ne, ne_eq]; omega
  generalize t.args.length = na at *
  go_wp2_with fail
  refine (is_any _ rb tb cap s L j 0 _ _ ((unhide HS2).below ((Below.refl _ _).alloc (Nat.le_refl _) _))).mono ?_
  rintro e wn ⟨rfl, n0, rfl⟩
  simp only [ByteArray.toList_mk]
  rw [hg]
  go_wp2_with fail
  refine (is_any _ rb tb cap s L j 0 _ _ (((unhide HS2).below ((Below.refl _ _).alloc (Nat.le_refl _) _)).draws _)).mono ?_
  rintro e wn ⟨rfl, n1, rfl⟩
  simp only [ByteArray.toList_mk]
  rw [hm]
  go_wp2_with fail
  refine wp_loop_rounds 5 ?_
  rw [rounds_succ]
  go_wp2_with fail
  refine (is_any _ rb tb cap s L j 0 _ _ (((((unhide HS2).below ((Below.refl _ _).alloc (Nat.le_refl _) _)).draws _).below ((Below.refl _ _).alloc (Nat.le_refl _) _)))).mono ?_
  rintro e wn ⟨rfl, m0, rfl⟩
  simp only [ByteArray.toList_mk]
  rw [hm0]
  go_wp2_with fail
  rw [rounds_succ]
  go_wp2_with fail
  refine (is_any _ rb tb cap s L j 0 _ _ (((((unhide HS2).below ((Below.refl _ _).alloc (Nat.le_refl _) _)).draws _).below ((Below.refl _ _).alloc (Nat.le_refl _) _)).draws _)).mono ?_
  rintro e wn ⟨rfl, m1, rfl⟩
  simp only [ByteArray.toList_mk]
  rw [hm1]
  go_wp2_with fail
  rw [rounds_succ]
  go_wp2_with fail
  refine (is_any _ rb tb cap s L j 0 _ _ (((((unhide HS2).below ((Below.refl _ _).alloc (Nat.le_refl _) _)).draws _).below ((Below.refl _ _).alloc (Nat.le_refl _) _)).draws _)).mono ?_
  rintro e wn ⟨rfl, m2, rfl⟩
  simp only [ByteArray.toList_mk]
  rw [hm2]
  go_wp2_with fail
  rw [rounds_succ]
  go_wp2_with fail
  refine (is_any _ rb tb cap s L j 0 _ _ (((((unhide HS2).below ((Below.refl _ _).alloc (Nat.le_refl _) _)).draws _).below ((Below.refl _ _).alloc (Nat.le_refl _) _)).draws _)).mono ?_
  rintro e wn ⟨rfl, m3, rfl⟩
  simp only [ByteArray.toList_mk]
  rw [hm3]
  go_wp2_with fail
  rw [rounds_succ]
  go_wp2_with fail
  have HBU0 := hide (show ((((w2.alloc (.cells #[.int .i64 1, .string ⟨#[105, 110, 116]⟩, .int .i64 num, .slice ao na cp] 109)).drewN (n0 + n1)).alloc (.cells #[.string ⟨#[61, 61]⟩, .string ⟨#[92, 61]⟩, .string ⟨#[61, 60]⟩, .string ⟨#[60]⟩] 9)).drewN (m0 + m1 + m2 + m3)).heap[w.heap.size]? = _ from blk_alloc' (blk_alloc' (unhide HB02) _) _)
  have HBU1 := hide (show ((((w2.alloc (.cells #[.int .i64 1, .string ⟨#[105, 110, 116]⟩, .int .i64 num, .slice ao na cp] 109)).drewN (n0 + n1)).alloc (.cells #[.string ⟨#[61, 61]⟩, .string ⟨#[92, 61]⟩, .string ⟨#[61, 60]⟩, .string ⟨#[60]⟩] 9)).drewN (m0 + m1 + m2 + m3)).heap[w.heap.size + 1]? = _ from blk_alloc' (blk_alloc' (unhide HB12) _) _)
  have HBU2 := hide (show ((((w2.alloc (.cells #[.int .i64 1, .string ⟨#[105, 110, 116]⟩, .int .i64 num, .slice ao na cp] 109)).drewN (n0 + n1)).alloc (.cells #[.string ⟨#[61, 61]⟩, .string ⟨#[92, 61]⟩, .string ⟨#[61, 60]⟩, .string ⟨#[60]⟩] 9)).drewN (m0 + m1 + m2 + m3)).heap[w.heap.size + 1 + 1]? = _ from blk_alloc' (blk_alloc' (unhide HB22) _) _)
  have HBUa := hide (show ((((w2.alloc (.cells #[.int .i64 1, .string ⟨#[105, 110, 116]⟩, .int .i64 num, .slice ao na cp] 109)).drewN (n0 + n1)).alloc (.cells #[.string ⟨#[61, 61]⟩, .string ⟨#[92, 61]⟩, .string ⟨#[61, 60]⟩, .string ⟨#[60]⟩] 9)).drewN (m0 + m1 + m2 + m3)).heap[w2.heap.size]? = some (.cells #[.int .i64 1, .string ⟨#[105, 110, 116]⟩, .int .i64 num, .slice ao na cp] 109 (0, 0)) from blk_alloc' (heap_alloc_new w2 _) _)
  have HSU := hide (show SB ((((w2.alloc (.cells #[.int .i64 1, .string ⟨#[105, 110, 116]⟩, .int .i64 num, .slice ao na cp] 109)).drewN (n0 + n1)).alloc (.cells #[.string ⟨#[61, 61]⟩, .string ⟨#[92, 61]⟩, .string ⟨#[61, 60]⟩, .string ⟨#[60]⟩] 9)).drewN (m0 + m1 + m2 + m3)) rb tb cap s L j 0 p0 from ((((unhide HS2).below ((Below.refl _ _).alloc (Nat.le_refl _) _)).draws _).below ((Below.refl _ _).alloc (Nat.le_refl _) _)).draws _)
  have HKU := hide (show KB [rb] w ((((w2.alloc (.cells #[.int .i64 1, .string ⟨#[105, 110, 116]⟩, .int .i64 num, .slice ao na cp] 109)).drewN (n0 + n1)).alloc (.cells #[.string ⟨#[61, 61]⟩, .string ⟨#[92, 61]⟩, .string ⟨#[61, 60]⟩, .string ⟨#[60]⟩] 9)).drewN (m0 + m1 + m2 + m3)) from (((((unhide HK2).alloc _).drewN _).alloc _).drewN _))
  have HVU := hide (show VB (fun g => w.heap.size + 3 ≤ g ∧ g < w2.heap.size) ((((w2.alloc (.cells #[.int .i64 1, .string ⟨#[105, 110, 116]⟩, .int .i64 num, .slice ao na cp] 109)).drewN (n0 + n1)).alloc (.cells #[.string ⟨#[61, 61]⟩, .string ⟨#[92, 61]⟩, .string ⟨#[61, 60]⟩, .string ⟨#[60]⟩] 9)).drewN (m0 + m1 + m2 + m3)) ⟨1, ⟨#[105, 110, 116]⟩, num, ao, na, cp⟩ t from (unhide HV2).kb (((((KB.refl [] w2).alloc _).drewN _).alloc _).drewN _) (by simp))
  clear HV2
  have hy2 : w.heap.size + 1 + 1 < w2.heap.size := hz2
  have hyr : rb < w2.heap.size := hrw
  have hyt : tb < w2.heap.size := by omega
  clear r0 x0 r1 x1 r2 x2 hz0 hz1 hz2 c2 hrw HS2 HK2 HB02 HB12 HB22
  have RO := fun W => (OnB.refl w.heap.size W).set 0 (.bool false)
  have HSV := hide ((unhide HSU).onb (RO _) (by omega) (by omega))
  have HKV := hide ((unhide HKU).onb (RO _) (Nat.le_refl _))
  have HVV := hide ((unhide HVU).onb (RO _) (fun g q => by omega))
  clear HVU
  have HBV0 := hide (set2B (.bool false) (unhide HBU0))
  have HBV1 := hide (blk_other (unhide HBU1) (show w.heap.size + 1 ≠ w.heap.size by omega) 0 (.bool false))
  have HBV2 := hide (blk_other (unhide HBU2) (show w.heap.size + 1 + 1 ≠ w.heap.size by omega) 0 (.bool false))
  have HBVa := hide (blk_other (unhide HBUa) (show w2.heap.size ≠ w.heap.size by omega) 0 (.bool false))
  generalize ((((w2.alloc (.cells #[.int .i64 1, .string ⟨#[105, 110, 116]⟩, .int .i64 num, .slice ao na cp] 109)).drewN (n0 + n1)).alloc (.cells #[.string ⟨#[61, 61]⟩, .string ⟨#[92, 61]⟩, .string ⟨#[61, 60]⟩, .string ⟨#[60]⟩] 9)).drewN (m0 + m1 + m2 + m3)).setCell ⟨w.heap.size, 0, none⟩ (.bool false) = w4 at HSV HKV HVV HBV0 HBV1 HBV2 HBVa ⊢
  have hz0 := blk_lt' (unhide HBV0)
  have hz1 := blk_lt' (unhide HBV1)
  have hz2 := blk_lt' (unhide HBV2)
  have hza := blk_lt' (unhide HBVa)
  have ra := blkA' (unhide HBVa)
  have r0 := blkA' (unhide HBV0)
  have x0 := blkX' (unhide HBV0)
  have r1 := blkA' (unhide HBV1)
  have x1 := blkX' (unhide HBV1)
  have r2 := blkA' (unhide HBV2)
  have x2 := blkX' (unhide HBV2)
  go_big_region
  go_wp2_with fail
  refine bodyPost_ret (v := .tuple #[.agg #[.string ⟨#[]⟩, .string ⟨#[]⟩, .int .i64 1, .string ⟨#[105, 110, 116]⟩, .int .i64 num, .slice ao na cp, .int .i64 0, .string ⟨#[]⟩, .int .i64 0, .slice none 0 0, .int .i64 0, .string ⟨#[]⟩, .int .i64 0, .slice none 0 0], .agg #[.bool false, .bool goals]]) (by simp [results, Tryz.results186, go_sem, r1, r2]) rfl ?_
  have RP := OnB.c14 (w.heap.size + 1) w4 (.string ⟨#[]⟩) (.string ⟨#[]⟩) (.int .i64 1) (.string ⟨#[105, 110, 116]⟩) (.int .i64 num) (.slice ao na cp) (.int .i64 0) (.string ⟨#[]⟩) (.int .i64 0) (.slice none 0 0) (.int .i64 0) (.string ⟨#[]⟩) (.int .i64 0) (.slice none 0 0)
  have RQ := fun W => OnB.c2 (w.heap.size + 1 + 1) W (.bool false) (.bool goals)
  exact ⟨⟨1, ⟨#[105, 110, 116]⟩, num, ao, na, cp⟩, ⟨0, ⟨#[]⟩, 0, none, 0, 0⟩, ⟨0, ⟨#[]⟩, 0, none, 0, 0⟩, ⟨#[]⟩, ⟨#[]⟩, false, goals, j, 0, _, rfl, (((unhide HSV).onb RP (by omega) (by omega)).onb (RQ _) (by omega) (by omega)).below (Below.refl _ _).drew, (((unhide HKV).onb RP (by omega)).onb (RQ _) (by omega)).drew, ⟨rfl, rfl, rfl⟩, ⟨rfl, rfl⟩, val_plain ((((unhide HVV).onb RP (fun g q => by omega)).onb (RQ _) (fun g q => by omega)).below (Below.refl _ _).drew)⟩

end Go.Proofs.YthfjnfcekeknlaaGreatDoor
