import Derived.Test.YthfjnfcekeknlaaGreatDoorC05
namespace Go.Proofs.YthfjnfcekeknlaaGreatDoor
open Go.RowKit

set_option maxHeartbeats 8000000 in
set_option maxRecDepth 100000 in
theorem asB_err (w : World) (rb tb cap : Nat) (s : ByteArray) (L : List Parl.Tok) (i : Nat) (e0 p0 : Int) (a : BV) (_left : Parl.Tm) (h : SB w rb tb cap s L i e0 p0) (he : e0 ≠ 0) :
    Calls Tryz.prog 200 #[.pointer (some ⟨rb, 0, none⟩), .agg #[.int .i64 a.k, .string a.nm, .int .i64 a.num, .slice a.ao a.n a.cap]] w fun e w' => PErrI rb tb cap s L e0 p0 w e w' := by
  have hlt := h.hlt
  have htl := h.tblt
  obtain ⟨hS, hK, hB1, hB2⟩ := ass_boxes a h
  unfold bxA bxZ bxX at hS hK hB1 hB2
  have HS := hide hS
  have HK := hide hK
  have HB1 := hide hB1
  have HB2 := hide hB2
  clear hS hK hB1 hB2 h
  have he' : (e0 == 0) = false := by simpa using he
  go_enter Tryz.func200, Tryz.ntmps200
  go_wp2_with fail
  refine (pass_any _ rb tb cap s L e0 p0 ⟨i, unhide HS⟩).mono ?_
  rintro e w2 ⟨rfl, hs2, hk2⟩
  have HK2 := hide ((unhide HK).trans hk2)
  have HB12 := hide (blk_kb hk2 (unhide HB1) (by simp; omega))
  have HB22 := hide (blk_kb hk2 (unhide HB2) (by simp; omega))
  have HS2 := hide hs2
  clear hs2 hk2
  go_wp2_with fail
  refine (opB_errs _ rb tb cap s L e0 p0 (unhide HS2) he).mono ?_
  rintro e w3 ⟨b, rfl, ⟨j, hs3⟩, hk3⟩
  have HK3 := hide ((unhide HK2).trans hk3)
  have hb1 := blk_kb hk3 (unhide HB12) (by simp; omega)
  have hb2 := blk_kb hk3 (unhide HB22) (by simp; omega)
  have hz1 : w.heap.size + 1 < w3.heap.size := blk_lt' hb1
  have hz2 : w.heap.size + 1 + 1 < w3.heap.size := blk_lt' hb2
  have r := blkA' hb1
  have x := blkX' hb1
  have q := blkA' hb2
  have y := blkX' hb2
  have HB13 := hide hb1
  have HB23 := hide hb2
  have HS3 := hide hs3
  have c2 := hs3.c2
  have hrw : rb < w3.heap.size := hs3.hlt
  clear hs3 hk3 hb1 hb2
  go_wp2_with fail
  refine wp_loop_rounds 4 ?_
  rw [rounds_succ]
  go_wp2_with fail
  have RO := (((((OnB.refl (w.heap.size + 1 + 1) w3).set 6 (.int .i64 b.k)).set 7 (.string b.nm)).set 8 (.int .i64 b.num)).set 9 (.slice b.ao b.n b.cap))
  have RP := (((((((((((((((OnB.refl (w.heap.size + 1) ((((w3.setCell ⟨w.heap.size + 1 + 1, 6, none⟩ (.int .i64 b.k)).setCell ⟨w.heap.size + 1 + 1, 7, none⟩ (.string b.nm)).setCell ⟨w.heap.size + 1 + 1, 8, none⟩ (.int .i64 b.num)).setCell ⟨w.heap.size + 1 + 1, 9, none⟩ (.slice b.ao b.n b.cap))).set 0 (.string ⟨#[58, 61]⟩)).set 1 (.string ⟨#[]⟩)).set 2 (.int .i64 a.k)).set 3 (.string a.nm)).set 4 (.int .i64 a.num)).set 5 (.slice a.ao a.n a.cap)).set 6 (.int .i64 b.k)).set 7 (.string b.nm)).set 8 (.int .i64 b.num)).set 9 (.slice b.ao b.n b.cap)).set 10 (.int .i64 0)).set 11 (.string ⟨#[]⟩)).set 12 (.int .i64 0)).set 13 (.slice none 0 0))
  refine bodyPost_ret (v := .agg #[.string ⟨#[58, 61]⟩, .string ⟨#[]⟩, .int .i64 a.k, .string a.nm, .int .i64 a.num, .slice a.ao a.n a.cap, .int .i64 b.k, .string b.nm, .int .i64 b.num, .slice b.ao b.n b.cap, .int .i64 0, .string ⟨#[]⟩, .int .i64 0, .slice none 0 0]) (by simp [results, Tryz.results200, go_sem, hz1, r]) rfl ?_
  exact ⟨a, b, ⟨0, ⟨#[]⟩, 0, none, 0, 0⟩, ⟨#[58, 61]⟩, ⟨#[]⟩, rfl, ⟨j, (((unhide HS3).onb RO (by omega) (by omega)).onb RP (by omega) (by omega)).below ((Below.refl _ _).alloc (Nat.le_refl _) _)⟩, (((unhide HK3).onb RO (by omega)).onb RP (by omega)).alloc _⟩

set_option maxHeartbeats 8000000 in
set_option maxRecDepth 100000 in
theorem asB_first (w : World) (rb tb cap : Nat) (s : ByteArray) (L : List Parl.Tok) (i : Nat) (p0 : Int) (a : BV) (_left : Parl.Tm) (h : SB w rb tb cap s L i 0 p0) (hk0 : (Parl.hd (L.drop i)).kind ≠ 0) (er ps : Nat) (hO : Parl.operand (L.drop (i + 1)) = .inl (er, ps)) :
    Calls Tryz.prog 200 #[.pointer (some ⟨rb, 0, none⟩), .agg #[.int .i64 a.k, .string a.nm, .int .i64 a.num, .slice a.ao a.n a.cap]] w fun e w' => PErrI rb tb cap s L (er : Int) (ps : Int) w e w' := by
  have hlt := h.hlt
  have htl := h.tblt
  obtain ⟨hS, hK, hB1, hB2⟩ := ass_boxes a h
  unfold bxA bxZ bxX at hS hK hB1 hB2
  have HS := hide hS
  have HK := hide hK
  have HB1 := hide hB1
  have HB2 := hide hB2
  clear hS hK hB1 hB2 h
  have hk0' := hide hk0
  have OPU := hide (fun W (hW : SB W rb tb cap s L (i + 1) 0 p0) => opB_uni W rb tb cap s L (i + 1) p0 hW)
  rw [hO] at OPU
  go_enter Tryz.func200, Tryz.ntmps200
  go_wp2_with fail
  refine (pass_on _ rb tb cap s L i 0 p0 (unhide HS) (unhide hk0')).mono ?_
  rintro e w2 ⟨rfl, hs2, hk2⟩
  have HK2 := hide ((unhide HK).trans hk2)
  have HB12 := hide (blk_kb hk2 (unhide HB1) (by simp; omega))
  have HB22 := hide (blk_kb hk2 (unhide HB2) (by simp; omega))
  have HS2 := hide hs2
  clear hs2 hk2
  go_wp2_with fail
  refine (unhide OPU _ (unhide HS2)).mono ?_
  rintro e w3 ⟨b, j, e1, p1, rfl, hs3, hk3, ⟨rfl, rfl, hne⟩, -⟩
  have he' : ((er : Int) == 0) = false := by simpa using hne
  have HK3 := hide ((unhide HK2).trans hk3)
  have hb1 := blk_kb hk3 (unhide HB12) (by simp; omega)
  have hb2 := blk_kb hk3 (unhide HB22) (by simp; omega)
  have hz1 : w.heap.size + 1 < w3.heap.size := blk_lt' hb1
  have hz2 : w.heap.size + 1 + 1 < w3.heap.size := blk_lt' hb2
  have r := blkA' hb1
  have x := blkX' hb1
  have q := blkA' hb2
  have y := blkX' hb2
  have HB13 := hide hb1
  have HB23 := hide hb2
  have HS3 := hide hs3
  have c2 := hs3.c2
  have hrw : rb < w3.heap.size := hs3.hlt
  clear hs3 hk3 hb1 hb2
  go_wp2_with fail
  refine wp_loop_rounds 4 ?_
  rw [rounds_succ]
  go_wp2_with fail
  have RO := (((((OnB.refl (w.heap.size + 1 + 1) w3).set 6 (.int .i64 b.k)).set 7 (.string b.nm)).set 8 (.int .i64 b.num)).set 9 (.slice b.ao b.n b.cap))
  have RP := (((((((((((((((OnB.refl (w.heap.size + 1) ((((w3.setCell ⟨w.heap.size + 1 + 1, 6, none⟩ (.int .i64 b.k)).setCell ⟨w.heap.size + 1 + 1, 7, none⟩ (.string b.nm)).setCell ⟨w.heap.size + 1 + 1, 8, none⟩ (.int .i64 b.num)).setCell ⟨w.heap.size + 1 + 1, 9, none⟩ (.slice b.ao b.n b.cap))).set 0 (.string ⟨#[58, 61]⟩)).set 1 (.string ⟨#[]⟩)).set 2 (.int .i64 a.k)).set 3 (.string a.nm)).set 4 (.int .i64 a.num)).set 5 (.slice a.ao a.n a.cap)).set 6 (.int .i64 b.k)).set 7 (.string b.nm)).set 8 (.int .i64 b.num)).set 9 (.slice b.ao b.n b.cap)).set 10 (.int .i64 0)).set 11 (.string ⟨#[]⟩)).set 12 (.int .i64 0)).set 13 (.slice none 0 0))
  refine bodyPost_ret (v := .agg #[.string ⟨#[58, 61]⟩, .string ⟨#[]⟩, .int .i64 a.k, .string a.nm, .int .i64 a.num, .slice a.ao a.n a.cap, .int .i64 b.k, .string b.nm, .int .i64 b.num, .slice b.ao b.n b.cap, .int .i64 0, .string ⟨#[]⟩, .int .i64 0, .slice none 0 0]) (by simp [results, Tryz.results200, go_sem, hz1, r]) rfl ?_
  exact ⟨a, b, ⟨0, ⟨#[]⟩, 0, none, 0, 0⟩, ⟨#[58, 61]⟩, ⟨#[]⟩, rfl, ⟨j, (((unhide HS3).onb RO (by omega) (by omega)).onb RP (by omega) (by omega)).below ((Below.refl _ _).alloc (Nat.le_refl _) _)⟩, (((unhide HK3).onb RO (by omega)).onb RP (by omega)).alloc _⟩

end Go.Proofs.YthfjnfcekeknlaaGreatDoor
namespace Go.Proofs.YthfjnfcekeknlaaGreatDoor
open Go.RowKit

set_option maxHeartbeats 8000000 in
set_option maxRecDepth 100000 in
theorem asB_none (w : World) (rb tb cap : Nat) (s : ByteArray) (L : List Parl.Tok) (i : Nat) (p0 : Int) (a : BV) (left : Parl.Tm) (h : SB w rb tb cap s L i 0 p0) (hk0 : (Parl.hd (L.drop i)).kind ≠ 0) (t : Parl.Tm) (l2 : List Parl.Tok) (hO : Parl.operand (L.drop (i + 1)) = .inr (t, l2)) (hsg : (Parl.hd (L.drop i)).text.toList = [58, 61]) (hm0 : Parl.sees l2 [43] = false) (hm1 : Parl.sees l2 [45] = false) (hm2 : Parl.sees l2 [42] = false) :
    Calls Tryz.prog 200 #[.pointer (some ⟨rb, 0, none⟩), .agg #[.int .i64 a.k, .string a.nm, .int .i64 a.num, .slice a.ao a.n a.cap]] w fun e w' => PUniI rb tb cap s L p0 a (.inr (⟨left, (Parl.hd (L.drop i)).text.toList, some t, [], none⟩, l2)) w e w' := by
  have hlt := h.hlt
  have htl := h.tblt
  obtain ⟨hS, hK, hB1, hB2⟩ := ass_boxes a h
  unfold bxA bxZ bxX at hS hK hB1 hB2
  have HS := hide hS
  have HK := hide hK
  have HB1 := hide hB1
  have HB2 := hide hB2
  clear hS hK hB1 hB2 h
  have hk0' := hide hk0
  have OPU := hide (fun W (hW : SB W rb tb cap s L (i + 1) 0 p0) => opB_uni W rb tb cap s L (i + 1) p0 hW)
  rw [hO] at OPU
  go_enter Tryz.func200, Tryz.ntmps200
  go_wp2_with fail
  refine (pass_on _ rb tb cap s L i 0 p0 (unhide HS) (unhide hk0')).mono ?_
  rintro e w2 ⟨rfl, hs2, hk2⟩
  have HK2 := hide ((unhide HK).trans hk2)
  have HB12 := hide (blk_kb hk2 (unhide HB1) (by simp; omega))
  have HB22 := hide (blk_kb hk2 (unhide HB2) (by simp; omega))
  have HS2 := hide hs2
  clear hs2 hk2
  go_wp2_with fail
  refine (unhide OPU _ (unhide HS2)).mono ?_
  rintro e w3 ⟨b, j, e1, p1, rfl, hs3, hk3, ⟨rfl, rfl, hj⟩, hvb⟩
  have hz2w : w.heap.size + 1 + 1 < w2.heap.size := blk_lt' (unhide HB22)
  have HVB := hide ((show VB (fun g => w2.heap.size ≤ g) w3 b t from hvb).imp (Q := fun g => w.heap.size + 3 ≤ g) (fun g q _ => by omega))
  clear hvb hz2w
  have HJ := hide hj
  rw [← hj] at hm0 hm1 hm2
  clear hj
  have HK3 := hide ((unhide HK2).trans hk3)
  have hb1 := blk_kb hk3 (unhide HB12) (by simp; omega)
  have hb2 := blk_kb hk3 (unhide HB22) (by simp; omega)
  have hz1 : w.heap.size + 1 < w3.heap.size := blk_lt' hb1
  have hz2 : w.heap.size + 1 + 1 < w3.heap.size := blk_lt' hb2
  have r := blkA' hb1
  have x := blkX' hb1
  have q := blkA' hb2
  have y := blkX' hb2
  have HB13 := hide hb1
  have HB23 := hide hb2
  have HS3 := hide hs3
  have c2 := hs3.c2
  have hrw : rb < w3.heap.size := hs3.hlt
  clear hs3 hk3 hb1 hb2
  go_wp2_with fail
  refine wp_loop_rounds 4 ?_
  rw [rounds_succ]
  go_wp2_with fail
  refine (is_any _ rb tb cap s L j 0 _ _ (((unhide HS3).onb ((((((OnB.refl (w.heap.size + 1 + 1) w3).set 6 (.int .i64 b.k)).set 7 (.string b.nm)).set 8 (.int .i64 b.num)).set 9 (.slice b.ao b.n b.cap))) (by omega) (by omega)).below ((Below.refl _ _).alloc (Nat.le_refl _) _))).mono ?_
  rintro e wn ⟨rfl, n0, rfl⟩
  simp only [ByteArray.toList_mk]
  rw [hm0]
  go_wp2_with fail
  rw [rounds_succ]
  go_wp2_with fail
  refine (is_any _ rb tb cap s L j 0 _ _ (SB.draws (((unhide HS3).onb ((((((OnB.refl (w.heap.size + 1 + 1) w3).set 6 (.int .i64 b.k)).set 7 (.string b.nm)).set 8 (.int .i64 b.num)).set 9 (.slice b.ao b.n b.cap))) (by omega) (by omega)).below ((Below.refl _ _).alloc (Nat.le_refl _) _)) (n0))).mono ?_
  rintro e wn ⟨rfl, n1, rfl⟩
  simp only [ByteArray.toList_mk]
  rw [hm1]
  go_wp2_with fail
  rw [rounds_succ]
  go_wp2_with fail
  refine (is_any _ rb tb cap s L j 0 _ _ (SB.draws (((unhide HS3).onb ((((((OnB.refl (w.heap.size + 1 + 1) w3).set 6 (.int .i64 b.k)).set 7 (.string b.nm)).set 8 (.int .i64 b.num)).set 9 (.slice b.ao b.n b.cap))) (by omega) (by omega)).below ((Below.refl _ _).alloc (Nat.le_refl _) _)) (n0 + n1))).mono ?_
  rintro e wn ⟨rfl, n2, rfl⟩
  simp only [ByteArray.toList_mk]
  rw [hm2]
  go_wp2_with fail
  rw [rounds_succ]
  go_wp2_with fail
  have RO := (((((OnB.refl (w.heap.size + 1 + 1) w3).set 6 (.int .i64 b.k)).set 7 (.string b.nm)).set 8 (.int .i64 b.num)).set 9 (.slice b.ao b.n b.cap))
  have RP := (((((((((((((((OnB.refl (w.heap.size + 1) ((((((w3.setCell ⟨w.heap.size + 1 + 1, 6, none⟩ (.int .i64 b.k)).setCell ⟨w.heap.size + 1 + 1, 7, none⟩ (.string b.nm)).setCell ⟨w.heap.size + 1 + 1, 8, none⟩ (.int .i64 b.num)).setCell ⟨w.heap.size + 1 + 1, 9, none⟩ (.slice b.ao b.n b.cap)).alloc (.cells #[.string ⟨#[43]⟩, .string ⟨#[45]⟩, .string ⟨#[42]⟩] 9)).drewN (n0 + n1 + n2))).set 0 (.string ⟨#[58, 61]⟩)).set 1 (.string ⟨#[]⟩)).set 2 (.int .i64 a.k)).set 3 (.string a.nm)).set 4 (.int .i64 a.num)).set 5 (.slice a.ao a.n a.cap)).set 6 (.int .i64 b.k)).set 7 (.string b.nm)).set 8 (.int .i64 b.num)).set 9 (.slice b.ao b.n b.cap)).set 10 (.int .i64 0)).set 11 (.string ⟨#[]⟩)).set 12 (.int .i64 0)).set 13 (.slice none 0 0))
  refine bodyPost_ret (v := .agg #[.string ⟨#[58, 61]⟩, .string ⟨#[]⟩, .int .i64 a.k, .string a.nm, .int .i64 a.num, .slice a.ao a.n a.cap, .int .i64 b.k, .string b.nm, .int .i64 b.num, .slice b.ao b.n b.cap, .int .i64 0, .string ⟨#[]⟩, .int .i64 0, .slice none 0 0]) (by simp [results, Tryz.results200, go_sem, hz1, r]) rfl ?_
  exact ⟨a, b, ⟨0, ⟨#[]⟩, 0, none, 0, 0⟩, ⟨#[58, 61]⟩, ⟨#[]⟩, j, 0, _, rfl, ((((unhide HS3).onb RO (by omega) (by omega)).below ((Below.refl _ _).alloc (Nat.le_refl _) _)).draws _).onb RP (by omega) (by omega), ((((unhide HK3).onb RO (by omega)).alloc _).drewN _).onb RP (by omega), ⟨rfl, rfl, unhide HJ⟩, rfl, (by simp [hsg]), (fun r q => by cases q; exact ((((unhide HVB).onb RO (fun g q => by omega)).below (((Below.refl _ _).alloc (Nat.le_refl _) _))).kb ((KB.refl [] _).drewN _) (by simp)).onb RP (fun g q => by omega) |>.imp (fun g q _ => by omega)), (by simp), (fun z q => by cases q)⟩

end Go.Proofs.YthfjnfcekeknlaaGreatDoor
