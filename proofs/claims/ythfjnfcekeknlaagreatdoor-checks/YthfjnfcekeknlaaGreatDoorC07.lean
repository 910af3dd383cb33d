import Derived.Test.YthfjnfcekeknlaaGreatDoorC05
namespace Go.Proofs.YthfjnfcekeknlaaGreatDoor
open Go.RowKit

set_option maxHeartbeats 8000000 in
set_option maxRecDepth 100000 in
theorem asB_hit1 (w : World) (rb tb cap : Nat) (s : ByteArray) (L : List Parl.Tok) (i : Nat) (p0 : Int) (a : BV) (_left : Parl.Tm) (h : SB w rb tb cap s L i 0 p0) (hk0 : (Parl.hd (L.drop i)).kind ≠ 0) (t : Parl.Tm) (l2 : List Parl.Tok) (hO : Parl.operand (L.drop (i + 1)) = .inr (t, l2)) (hm0 : Parl.sees l2 [43] = false) (hm1 : Parl.sees l2 [45] = true) (r2 : Parl.Res Parl.Tm) (hO2 : Parl.operand l2.tail = r2) (xx : Parl.Tm → Parl.Itm) (hxx : ∀ z, (xx z).sign = [58, 61] ∧ (xx z).right = some t ∧ (xx z).op = [45] ∧ (xx z).last = some z) :
    Calls Tryz.prog 200 #[.pointer (some ⟨rb, 0, none⟩), .agg #[.int .i64 a.k, .string a.nm, .int .i64 a.num, .slice a.ao a.n a.cap]] w fun e w' => PUniI rb tb cap s L p0 a (asgR xx r2) w e w' := by
  have hlt := h.hlt
  have htl := h.tblt
  obtain ⟨hS, hK, hB1, hB2⟩ := ass_boxes a h
  unfold bxA bxZ bxX at hS hK hB1 hB2
  have HS := hide hS
  have HK := hide hK
  have HB1 := hide hB1
  have HB2 := hide hB2
  clear hS hK hB1 hB2 h
  have hk0' := hide hk0
  have OPU := hide (fun W (hW : SB W rb tb cap s L (i + 1) 0 p0) => opB_uni W rb tb cap s L (i + 1) p0 hW)
  rw [hO] at OPU
  have HO2 := hide hO2
  clear hO2
  go_enter Tryz.func200, Tryz.ntmps200
  go_wp2_with fail
  refine (pass_on _ rb tb cap s L i 0 p0 (unhide HS) (unhide hk0')).mono ?_
  rintro e w2 ⟨rfl, hs2, hk2⟩
  have HK2 := hide ((unhide HK).trans hk2)
  have HB12 := hide (blk_kb hk2 (unhide HB1) (by simp; omega))
  have HB22 := hide (blk_kb hk2 (unhide HB2) (by simp; omega))
  have HS2 := hide hs2
  clear hs2 hk2
  go_wp2_with fail
  refine (unhide OPU _ (unhide HS2)).mono ?_
  rintro e w3 ⟨b, j, e1, p1, rfl, hs3, hk3, ⟨rfl, rfl, hj⟩, hvb⟩
  have hz2w : w.heap.size + 1 + 1 < w2.heap.size := blk_lt' (unhide HB22)
  have HVB := hide ((show VB (fun g => w2.heap.size ≤ g) w3 b t from hvb).imp (Q := fun g => w.heap.size + 3 ≤ g) (fun g q _ => by omega))
  clear hvb hz2w
  subst hj
  have hkj := hide (show (Parl.hd (L.drop j)).kind ≠ 0 by rw [Parl.sees_kind hm1]; omega)
  have OP2 := hide (fun W (hW : SB W rb tb cap s L (j + 1) 0 p1) => opB_uni W rb tb cap s L (j + 1) p1 hW)
  rw [show L.drop (j + 1) = (L.drop j).tail by simp, unhide HO2] at OP2
  have HK3 := hide ((unhide HK2).trans hk3)
  have hb1 := blk_kb hk3 (unhide HB12) (by simp; omega)
  have hb2 := blk_kb hk3 (unhide HB22) (by simp; omega)
  have hz1 : w.heap.size + 1 < w3.heap.size := blk_lt' hb1
  have hz2 : w.heap.size + 1 + 1 < w3.heap.size := blk_lt' hb2
  have r := blkA' hb1
  have x := blkX' hb1
  have q := blkA' hb2
  have y := blkX' hb2
  have HB13 := hide hb1
  have HB23 := hide hb2
  have HS3 := hide hs3
  have c2 := hs3.c2
  have hrw : rb < w3.heap.size := hs3.hlt
  clear hs3 hk3 hb1 hb2
  go_wp2_with fail
  refine wp_loop_rounds 4 ?_
  rw [rounds_succ]
  go_wp2_with fail
  refine (is_any _ rb tb cap s L j 0 _ _ (((unhide HS3).onb ((((((OnB.refl (w.heap.size + 1 + 1) w3).set 6 (.int .i64 b.k)).set 7 (.string b.nm)).set 8 (.int .i64 b.num)).set 9 (.slice b.ao b.n b.cap))) (by omega) (by omega)).below ((Below.refl _ _).alloc (Nat.le_refl _) _))).mono ?_
  rintro e wn ⟨rfl, n0, rfl⟩
  simp only [ByteArray.toList_mk]
  rw [hm0]
  go_wp2_with fail
  rw [rounds_succ]
  go_wp2_with fail
  refine (is_any _ rb tb cap s L j 0 _ _ (SB.draws (((unhide HS3).onb ((((((OnB.refl (w.heap.size + 1 + 1) w3).set 6 (.int .i64 b.k)).set 7 (.string b.nm)).set 8 (.int .i64 b.num)).set 9 (.slice b.ao b.n b.cap))) (by omega) (by omega)).below ((Below.refl _ _).alloc (Nat.le_refl _) _)) (n0))).mono ?_
  rintro e wn ⟨rfl, n1, rfl⟩
  simp only [ByteArray.toList_mk]
  rw [hm1]
  go_wp2_with fail
  have RO := (((((OnB.refl (w.heap.size + 1 + 1) w3).set 6 (.int .i64 b.k)).set 7 (.string b.nm)).set 8 (.int .i64 b.num)).set 9 (.slice b.ao b.n b.cap))
  have RQ := (OnB.refl (w.heap.size + 1 + 1) ((((((w3.setCell ⟨w.heap.size + 1 + 1, 6, none⟩ (.int .i64 b.k)).setCell ⟨w.heap.size + 1 + 1, 7, none⟩ (.string b.nm)).setCell ⟨w.heap.size + 1 + 1, 8, none⟩ (.int .i64 b.num)).setCell ⟨w.heap.size + 1 + 1, 9, none⟩ (.slice b.ao b.n b.cap)).alloc (.cells #[.string ⟨#[43]⟩, .string ⟨#[45]⟩, .string ⟨#[42]⟩] 9)).drewN (n0 + n1))).set 1 (.string ⟨#[45]⟩)
  have HSH := hide (((((unhide HS3).onb RO (by omega) (by omega)).below ((Below.refl _ _).alloc (Nat.le_refl _) _)).draws _).onb RQ (by omega) (by omega))
  have HVH := hide ((((unhide HVB).onb RO (fun g q => by omega)).below (((Below.refl _ _).alloc (Nat.le_refl _) _))).kb ((KB.refl [] _).drewN _) (by simp) |>.onb RQ (fun g q => by omega))
  have HKH := hide (((((unhide HK3).onb RO (by omega)).alloc _).drewN _).onb RQ (by omega))
  have HBH2 : Hid ((((((((w3.setCell ⟨w.heap.size + 1 + 1, 6, none⟩ (.int .i64 b.k)).setCell ⟨w.heap.size + 1 + 1, 7, none⟩ (.string b.nm)).setCell ⟨w.heap.size + 1 + 1, 8, none⟩ (.int .i64 b.num)).setCell ⟨w.heap.size + 1 + 1, 9, none⟩ (.slice b.ao b.n b.cap)).alloc (.cells #[.string ⟨#[43]⟩, .string ⟨#[45]⟩, .string ⟨#[42]⟩] 9)).drewN (n0 + n1)).setCell ⟨w.heap.size + 1 + 1, 1, none⟩ (.string ⟨#[45]⟩)).heap[w.heap.size + 1 + 1]? = some (.cells #[.string ⟨#[58, 61]⟩, .string ⟨#[45]⟩, .int .i64 a.k, .string a.nm, .int .i64 a.num, .slice a.ao a.n a.cap, .int .i64 b.k, .string b.nm, .int .i64 b.num, .slice b.ao b.n b.cap, .int .i64 0, .string ⟨#[]⟩, .int .i64 0, .slice none 0 0] 173 (0, 0))) := set1B _ (show ((((((w3.setCell ⟨w.heap.size + 1 + 1, 6, none⟩ (.int .i64 b.k)).setCell ⟨w.heap.size + 1 + 1, 7, none⟩ (.string b.nm)).setCell ⟨w.heap.size + 1 + 1, 8, none⟩ (.int .i64 b.num)).setCell ⟨w.heap.size + 1 + 1, 9, none⟩ (.slice b.ao b.n b.cap)).alloc (.cells #[.string ⟨#[43]⟩, .string ⟨#[45]⟩, .string ⟨#[42]⟩] 9)).drewN (n0 + n1)).heap[w.heap.size + 1 + 1]? = _ from blk_alloc' (set4B _ _ _ _ (unhide HB23)) _)
  have HBH1 : Hid ((((((((w3.setCell ⟨w.heap.size + 1 + 1, 6, none⟩ (.int .i64 b.k)).setCell ⟨w.heap.size + 1 + 1, 7, none⟩ (.string b.nm)).setCell ⟨w.heap.size + 1 + 1, 8, none⟩ (.int .i64 b.num)).setCell ⟨w.heap.size + 1 + 1, 9, none⟩ (.slice b.ao b.n b.cap)).alloc (.cells #[.string ⟨#[43]⟩, .string ⟨#[45]⟩, .string ⟨#[42]⟩] 9)).drewN (n0 + n1)).setCell ⟨w.heap.size + 1 + 1, 1, none⟩ (.string ⟨#[45]⟩)).heap[w.heap.size + 1]? = some (.cells #[.string ⟨#[]⟩, .string ⟨#[]⟩, .int .i64 0, .string ⟨#[]⟩, .int .i64 0, .slice none 0 0, .int .i64 0, .string ⟨#[]⟩, .int .i64 0, .slice none 0 0, .int .i64 0, .string ⟨#[]⟩, .int .i64 0, .slice none 0 0] 173 (0, 0))) := blk_other (show ((((((w3.setCell ⟨w.heap.size + 1 + 1, 6, none⟩ (.int .i64 b.k)).setCell ⟨w.heap.size + 1 + 1, 7, none⟩ (.string b.nm)).setCell ⟨w.heap.size + 1 + 1, 8, none⟩ (.int .i64 b.num)).setCell ⟨w.heap.size + 1 + 1, 9, none⟩ (.slice b.ao b.n b.cap)).alloc (.cells #[.string ⟨#[43]⟩, .string ⟨#[45]⟩, .string ⟨#[42]⟩] 9)).drewN (n0 + n1)).heap[w.heap.size + 1]? = _ from blk_alloc' (oth4B _ _ _ _ (unhide HB13) (by omega)) _) (by omega) _ _
  clear RO RQ
  refine (pass_on _ rb tb cap s L j 0 _ (unhide HSH) (unhide hkj)).mono ?_
  rintro e w5 ⟨rfl, hs5, hk5⟩
  have HV5 := hide ((unhide HVH).kbs (unhide HSH) hk5)
  have HS5 := hide hs5
  have HK5 := hide ((unhide HKH).trans hk5)
  have HB15 := hide (blk_kb hk5 (unhide HBH1) (by simp; omega))
  have HB25 := hide (blk_kb hk5 (unhide HBH2) (by simp; omega))
  clear hs5 hk5 r x q y c2 hrw hz1 hz2 HSH HKH HBH1 HBH2 HS3 HK3 HB13 HB23
  go_wp2_with fail
  refine (unhide OP2 _ (unhide HS5)).mono ?_
  rintro e w6 ⟨c, j2, e2, p2, rfl, hs6, hk6, hu, hvc⟩
  have HV6 := hide ((unhide HV5).kbs (unhide HS5) hk6)
  have HVC := hide hvc
  have HZ5 := hide (blk_lt' (unhide HB25))
  clear hvc
  have HU := hide hu
  have HS6 := hide hs6
  have HK6 := hide ((unhide HK5).trans hk6)
  have hb1 := blk_kb hk6 (unhide HB15) (by simp; omega)
  have hb2 := blk_kb hk6 (unhide HB25) (by simp; omega)
  have r := blkA' hb1
  have x := blkX' hb1
  have q := blkA' hb2
  have y := blkX' hb2
  clear hs6 hk6 hb1 hb2 hu
  go_wp2_with fail
  rw [rounds_succ]
  go_wp2_with fail
  have RO := (((((OnB.refl (w.heap.size + 1 + 1) w6).set 10 (.int .i64 c.k)).set 11 (.string c.nm)).set 12 (.int .i64 c.num)).set 13 (.slice c.ao c.n c.cap))
  have RP := (((((((((((((((OnB.refl (w.heap.size + 1) ((((w6.setCell ⟨w.heap.size + 1 + 1, 10, none⟩ (.int .i64 c.k)).setCell ⟨w.heap.size + 1 + 1, 11, none⟩ (.string c.nm)).setCell ⟨w.heap.size + 1 + 1, 12, none⟩ (.int .i64 c.num)).setCell ⟨w.heap.size + 1 + 1, 13, none⟩ (.slice c.ao c.n c.cap))).set 0 (.string ⟨#[58, 61]⟩)).set 1 (.string ⟨#[45]⟩)).set 2 (.int .i64 a.k)).set 3 (.string a.nm)).set 4 (.int .i64 a.num)).set 5 (.slice a.ao a.n a.cap)).set 6 (.int .i64 b.k)).set 7 (.string b.nm)).set 8 (.int .i64 b.num)).set 9 (.slice b.ao b.n b.cap)).set 10 (.int .i64 c.k)).set 11 (.string c.nm)).set 12 (.int .i64 c.num)).set 13 (.slice c.ao c.n c.cap))
  refine bodyPost_ret (v := .agg #[.string ⟨#[58, 61]⟩, .string ⟨#[45]⟩, .int .i64 a.k, .string a.nm, .int .i64 a.num, .slice a.ao a.n a.cap, .int .i64 b.k, .string b.nm, .int .i64 b.num, .slice b.ao b.n b.cap, .int .i64 c.k, .string c.nm, .int .i64 c.num, .slice c.ao c.n c.cap]) (by simp [results, Tryz.results200, go_sem, r]) rfl ?_
  exact ⟨a, b, c, ⟨#[58, 61]⟩, ⟨#[45]⟩, j2, e2, p2, rfl, ((unhide HS6).onb RO (by omega) (by omega)).onb RP (by omega) (by omega), ((unhide HK6).onb RO (by omega)).onb RP (by omega), uni_asg xx (unhide HU), val_asg hxx (by simp) (by simp) ((((unhide HV6).onb RO (fun g q => by omega)).onb RP (fun g q => by omega)).imp (fun g q _ => by omega)) (fun z l3 q => by subst q; have hz5 := unhide HZ5; exact (((show VB (fun g => w5.heap.size ≤ g) w6 c z from unhide HVC).imp (Q := fun g => w.heap.size + 3 ≤ g) (fun g q _ => by omega)).onb RO (fun g q => by omega)).onb RP (fun g q => by omega) |>.imp (fun g q _ => by omega))⟩

end Go.Proofs.YthfjnfcekeknlaaGreatDoor
namespace Go.Proofs.YthfjnfcekeknlaaGreatDoor
open Go.RowKit

set_option maxHeartbeats 8000000 in
set_option maxRecDepth 100000 in
theorem asB_hit2 (w : World) (rb tb cap : Nat) (s : ByteArray) (L : List Parl.Tok) (i : Nat) (p0 : Int) (a : BV) (_left : Parl.Tm) (h : SB w rb tb cap s L i 0 p0) (hk0 : (Parl.hd (L.drop i)).kind ≠ 0) (t : Parl.Tm) (l2 : List Parl.Tok) (hO : Parl.operand (L.drop (i + 1)) = .inr (t, l2)) (hm0 : Parl.sees l2 [43] = false) (hm1 : Parl.sees l2 [45] = false) (hm2 : Parl.sees l2 [42] = true) (r2 : Parl.Res Parl.Tm) (hO2 : Parl.operand l2.tail = r2) (xx : Parl.Tm → Parl.Itm) (hxx : ∀ z, (xx z).sign = [58, 61] ∧ (xx z).right = some t ∧ (xx z).op = [42] ∧ (xx z).last = some z) :
    Calls Tryz.prog 200 #[.pointer (some ⟨rb, 0, none⟩), .agg #[.int .i64 a.k, .string a.nm, .int .i64 a.num, .slice a.ao a.n a.cap]] w fun e w' => PUniI rb tb cap s L p0 a (asgR xx r2) w e w' := by
  have hlt := h.hlt
  have htl := h.tblt
  obtain ⟨hS, hK, hB1, hB2⟩ := ass_boxes a h
  unfold bxA bxZ bxX at hS hK hB1 hB2
  have HS := hide hS
  have HK := hide hK
  have HB1 := hide hB1
  have HB2 := hide hB2
  clear hS hK hB1 hB2 h
  have hk0' := hide hk0
  have OPU := hide (fun W (hW : SB W rb tb cap s L (i + 1) 0 p0) => opB_uni W rb tb cap s L (i + 1) p0 hW)
  rw [hO] at OPU
  have HO2 := hide hO2
  clear hO2
  go_enter Tryz.func200, Tryz.ntmps200
  go_wp2_with fail
  refine (pass_on _ rb tb cap s L i 0 p0 (unhide HS) (unhide hk0')).mono ?_
  rintro e w2 ⟨rfl, hs2, hk2⟩
  have HK2 := hide ((unhide HK).trans hk2)
  have HB12 := hide (blk_kb hk2 (unhide HB1) (by simp; omega))
  have HB22 := hide (blk_kb hk2 (unhide HB2) (by simp; omega))
  have HS2 := hide hs2
  clear hs2 hk2
  go_wp2_with fail
  refine (unhide OPU _ (unhide HS2)).mono ?_
  rintro e w3 ⟨b, j, e1, p1, rfl, hs3, hk3, ⟨rfl, rfl, hj⟩, hvb⟩
  have hz2w : w.heap.size + 1 + 1 < w2.heap.size := blk_lt' (unhide HB22)
  have HVB := hide ((show VB (fun g => w2.heap.size ≤ g) w3 b t from hvb).imp (Q := fun g => w.heap.size + 3 ≤ g) (fun g q _ => by omega))
  clear hvb hz2w
  subst hj
  have hkj := hide (show (Parl.hd (L.drop j)).kind ≠ 0 by rw [Parl.sees_kind hm2]; omega)
  have OP2 := hide (fun W (hW : SB W rb tb cap s L (j + 1) 0 p1) => opB_uni W rb tb cap s L (j + 1) p1 hW)
  rw [show L.drop (j + 1) = (L.drop j).tail by simp, unhide HO2] at OP2
  have HK3 := hide ((unhide HK2).trans hk3)
  have hb1 := blk_kb hk3 (unhide HB12) (by simp; omega)
  have hb2 := blk_kb hk3 (unhide HB22) (by simp; omega)
  have hz1 : w.heap.size + 1 < w3.heap.size := blk_lt' hb1
  have hz2 : w.heap.size + 1 + 1 < w3.heap.size := blk_lt' hb2
  have r := blkA' hb1
  have x := blkX' hb1
  have q := blkA' hb2
  have y := blkX' hb2
  have HB13 := hide hb1
  have HB23 := hide hb2
  have HS3 := hide hs3
  have c2 := hs3.c2
  have hrw : rb < w3.heap.size := hs3.hlt
  clear hs3 hk3 hb1 hb2
  go_wp2_with fail
  refine wp_loop_rounds 4 ?_
  rw [rounds_succ]
  go_wp2_with fail
  refine (is_any _ rb tb cap s L j 0 _ _ (((unhide HS3).onb ((((((OnB.refl (w.heap.size + 1 + 1) w3).set 6 (.int .i64 b.k)).set 7 (.string b.nm)).set 8 (.int .i64 b.num)).set 9 (.slice b.ao b.n b.cap))) (by omega) (by omega)).below ((Below.refl _ _).alloc (Nat.le_refl _) _))).mono ?_
  rintro e wn ⟨rfl, n0, rfl⟩
  simp only [ByteArray.toList_mk]
  rw [hm0]
  go_wp2_with fail
  rw [rounds_succ]
  go_wp2_with fail
  refine (is_any _ rb tb cap s L j 0 _ _ (SB.draws (((unhide HS3).onb ((((((OnB.refl (w.heap.size + 1 + 1) w3).set 6 (.int .i64 b.k)).set 7 (.string b.nm)).set 8 (.int .i64 b.num)).set 9 (.slice b.ao b.n b.cap))) (by omega) (by omega)).below ((Below.refl _ _).alloc (Nat.le_refl _) _)) (n0))).mono ?_
  rintro e wn ⟨rfl, n1, rfl⟩
  simp only [ByteArray.toList_mk]
  rw [hm1]
  go_wp2_with fail
  rw [rounds_succ]
  go_wp2_with fail
  refine (is_any _ rb tb cap s L j 0 _ _ (SB.draws (((unhide HS3).onb ((((((OnB.refl (w.heap.size + 1 + 1) w3).set 6 (.int .i64 b.k)).set 7 (.string b.nm)).set 8 (.int .i64 b.num)).set 9 (.slice b.ao b.n b.cap))) (by omega) (by omega)).below ((Below.refl _ _).alloc (Nat.le_refl _) _)) (n0 + n1))).mono ?_
  rintro e wn ⟨rfl, n2, rfl⟩
  simp only [ByteArray.toList_mk]
  rw [hm2]
  go_wp2_with fail
  have RO := (((((OnB.refl (w.heap.size + 1 + 1) w3).set 6 (.int .i64 b.k)).set 7 (.string b.nm)).set 8 (.int .i64 b.num)).set 9 (.slice b.ao b.n b.cap))
  have RQ := (OnB.refl (w.heap.size + 1 + 1) ((((((w3.setCell ⟨w.heap.size + 1 + 1, 6, none⟩ (.int .i64 b.k)).setCell ⟨w.heap.size + 1 + 1, 7, none⟩ (.string b.nm)).setCell ⟨w.heap.size + 1 + 1, 8, none⟩ (.int .i64 b.num)).setCell ⟨w.heap.size + 1 + 1, 9, none⟩ (.slice b.ao b.n b.cap)).alloc (.cells #[.string ⟨#[43]⟩, .string ⟨#[45]⟩, .string ⟨#[42]⟩] 9)).drewN (n0 + n1 + n2))).set 1 (.string ⟨#[42]⟩)
  have HSH := hide (((((unhide HS3).onb RO (by omega) (by omega)).below ((Below.refl _ _).alloc (Nat.le_refl _) _)).draws _).onb RQ (by omega) (by omega))
  have HVH := hide ((((unhide HVB).onb RO (fun g q => by omega)).below (((Below.refl _ _).alloc (Nat.le_refl _) _))).kb ((KB.refl [] _).drewN _) (by simp) |>.onb RQ (fun g q => by omega))
  have HKH := hide (((((unhide HK3).onb RO (by omega)).alloc _).drewN _).onb RQ (by omega))
  have HBH2 : Hid ((((((((w3.setCell ⟨w.heap.size + 1 + 1, 6, none⟩ (.int .i64 b.k)).setCell ⟨w.heap.size + 1 + 1, 7, none⟩ (.string b.nm)).setCell ⟨w.heap.size + 1 + 1, 8, none⟩ (.int .i64 b.num)).setCell ⟨w.heap.size + 1 + 1, 9, none⟩ (.slice b.ao b.n b.cap)).alloc (.cells #[.string ⟨#[43]⟩, .string ⟨#[45]⟩, .string ⟨#[42]⟩] 9)).drewN (n0 + n1 + n2)).setCell ⟨w.heap.size + 1 + 1, 1, none⟩ (.string ⟨#[42]⟩)).heap[w.heap.size + 1 + 1]? = some (.cells #[.string ⟨#[58, 61]⟩, .string ⟨#[42]⟩, .int .i64 a.k, .string a.nm, .int .i64 a.num, .slice a.ao a.n a.cap, .int .i64 b.k, .string b.nm, .int .i64 b.num, .slice b.ao b.n b.cap, .int .i64 0, .string ⟨#[]⟩, .int .i64 0, .slice none 0 0] 173 (0, 0))) := set1B _ (show ((((((w3.setCell ⟨w.heap.size + 1 + 1, 6, none⟩ (.int .i64 b.k)).setCell ⟨w.heap.size + 1 + 1, 7, none⟩ (.string b.nm)).setCell ⟨w.heap.size + 1 + 1, 8, none⟩ (.int .i64 b.num)).setCell ⟨w.heap.size + 1 + 1, 9, none⟩ (.slice b.ao b.n b.cap)).alloc (.cells #[.string ⟨#[43]⟩, .string ⟨#[45]⟩, .string ⟨#[42]⟩] 9)).drewN (n0 + n1 + n2)).heap[w.heap.size + 1 + 1]? = _ from blk_alloc' (set4B _ _ _ _ (unhide HB23)) _)
  have HBH1 : Hid ((((((((w3.setCell ⟨w.heap.size + 1 + 1, 6, none⟩ (.int .i64 b.k)).setCell ⟨w.heap.size + 1 + 1, 7, none⟩ (.string b.nm)).setCell ⟨w.heap.size + 1 + 1, 8, none⟩ (.int .i64 b.num)).setCell ⟨w.heap.size + 1 + 1, 9, none⟩ (.slice b.ao b.n b.cap)).alloc (.cells #[.string ⟨#[43]⟩, .string ⟨#[45]⟩, .string ⟨#[42]⟩] 9)).drewN (n0 + n1 + n2)).setCell ⟨w.heap.size + 1 + 1, 1, none⟩ (.string ⟨#[42]⟩)).heap[w.heap.size + 1]? = some (.cells #[.string ⟨#[]⟩, .string ⟨#[]⟩, .int .i64 0, .string ⟨#[]⟩, .int .i64 0, .slice none 0 0, .int .i64 0, .string ⟨#[]⟩, .int .i64 0, .slice none 0 0, .int .i64 0, .string ⟨#[]⟩, .int .i64 0, .slice none 0 0] 173 (0, 0))) := blk_other (show ((((((w3.setCell ⟨w.heap.size + 1 + 1, 6, none⟩ (.int .i64 b.k)).setCell ⟨w.heap.size + 1 + 1, 7, none⟩ (.string b.nm)).setCell ⟨w.heap.size + 1 + 1, 8, none⟩ (.int .i64 b.num)).setCell ⟨w.heap.size + 1 + 1, 9, none⟩ (.slice b.ao b.n b.cap)).alloc (.cells #[.string ⟨#[43]⟩, .string ⟨#[45]⟩, .string ⟨#[42]⟩] 9)).drewN (n0 + n1 + n2)).heap[w.heap.size + 1]? = _ from blk_alloc' (oth4B _ _ _ _ (unhide HB13) (by omega)) _) (by omega) _ _
  clear RO RQ
  refine (pass_on _ rb tb cap s L j 0 _ (unhide HSH) (unhide hkj)).mono ?_
  rintro e w5 ⟨rfl, hs5, hk5⟩
  have HV5 := hide ((unhide HVH).kbs (unhide HSH) hk5)
  have HS5 := hide hs5
  have HK5 := hide ((unhide HKH).trans hk5)
  have HB15 := hide (blk_kb hk5 (unhide HBH1) (by simp; omega))
  have HB25 := hide (blk_kb hk5 (unhide HBH2) (by simp; omega))
  clear hs5 hk5 r x q y c2 hrw hz1 hz2 HSH HKH HBH1 HBH2 HS3 HK3 HB13 HB23
  go_wp2_with fail
  refine (unhide OP2 _ (unhide HS5)).mono ?_
  rintro e w6 ⟨c, j2, e2, p2, rfl, hs6, hk6, hu, hvc⟩
  have HV6 := hide ((unhide HV5).kbs (unhide HS5) hk6)
  have HVC := hide hvc
  have HZ5 := hide (blk_lt' (unhide HB25))
  clear hvc
  have HU := hide hu
  have HS6 := hide hs6
  have HK6 := hide ((unhide HK5).trans hk6)
  have hb1 := blk_kb hk6 (unhide HB15) (by simp; omega)
  have hb2 := blk_kb hk6 (unhide HB25) (by simp; omega)
  have r := blkA' hb1
  have x := blkX' hb1
  have q := blkA' hb2
  have y := blkX' hb2
  clear hs6 hk6 hb1 hb2 hu
  go_wp2_with fail
  rw [rounds_succ]
  go_wp2_with fail
  have RO := (((((OnB.refl (w.heap.size + 1 + 1) w6).set 10 (.int .i64 c.k)).set 11 (.string c.nm)).set 12 (.int .i64 c.num)).set 13 (.slice c.ao c.n c.cap))
  have RP := (((((((((((((((OnB.refl (w.heap.size + 1) ((((w6.setCell ⟨w.heap.size + 1 + 1, 10, none⟩ (.int .i64 c.k)).setCell ⟨w.heap.size + 1 + 1, 11, none⟩ (.string c.nm)).setCell ⟨w.heap.size + 1 + 1, 12, none⟩ (.int .i64 c.num)).setCell ⟨w.heap.size + 1 + 1, 13, none⟩ (.slice c.ao c.n c.cap))).set 0 (.string ⟨#[58, 61]⟩)).set 1 (.string ⟨#[42]⟩)).set 2 (.int .i64 a.k)).set 3 (.string a.nm)).set 4 (.int .i64 a.num)).set 5 (.slice a.ao a.n a.cap)).set 6 (.int .i64 b.k)).set 7 (.string b.nm)).set 8 (.int .i64 b.num)).set 9 (.slice b.ao b.n b.cap)).set 10 (.int .i64 c.k)).set 11 (.string c.nm)).set 12 (.int .i64 c.num)).set 13 (.slice c.ao c.n c.cap))
  refine bodyPost_ret (v := .agg #[.string ⟨#[58, 61]⟩, .string ⟨#[42]⟩, .int .i64 a.k, .string a.nm, .int .i64 a.num, .slice a.ao a.n a.cap, .int .i64 b.k, .string b.nm, .int .i64 b.num, .slice b.ao b.n b.cap, .int .i64 c.k, .string c.nm, .int .i64 c.num, .slice c.ao c.n c.cap]) (by simp [results, Tryz.results200, go_sem, r]) rfl ?_
  exact ⟨a, b, c, ⟨#[58, 61]⟩, ⟨#[42]⟩, j2, e2, p2, rfl, ((unhide HS6).onb RO (by omega) (by omega)).onb RP (by omega) (by omega), ((unhide HK6).onb RO (by omega)).onb RP (by omega), uni_asg xx (unhide HU), val_asg hxx (by simp) (by simp) ((((unhide HV6).onb RO (fun g q => by omega)).onb RP (fun g q => by omega)).imp (fun g q _ => by omega)) (fun z l3 q => by subst q; have hz5 := unhide HZ5; exact (((show VB (fun g => w5.heap.size ≤ g) w6 c z from unhide HVC).imp (Q := fun g => w.heap.size + 3 ≤ g) (fun g q _ => by omega)).onb RO (fun g q => by omega)).onb RP (fun g q => by omega) |>.imp (fun g q _ => by omega))⟩

end Go.Proofs.YthfjnfcekeknlaaGreatDoor
