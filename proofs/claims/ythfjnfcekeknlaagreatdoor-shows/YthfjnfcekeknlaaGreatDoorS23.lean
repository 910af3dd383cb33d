import Derived.Test.YthfjnfcekeknlaaGreatDoorS21
namespace Go.Proofs.YthfjnfcekeknlaaGreatDoor
open Go.RowKit

set_option maxHeartbeats 8000000 in
set_option maxRecDepth 100000 in
theorem clB_bs (w : World) (rb tb cap : Nat) (s : ByteArray) (L : List Parl.Tok) (i : Nat) (p0 : Int) (n : Nat) (h : SB w rb tb cap s L i 0 p0) (hk : (Parl.hd (L.drop i)).kind = 2) (hn : n < 12) (t : Parl.Tm) (l1 : List Parl.Tok) (hT : Parl.term 8 (L.drop i) = .inr (t, l1)) (hnk : Parl.sees l1 [58, 45] = true) (xs : List Parl.Itm) (g5 : Bool) (l5 : List Parl.Tok) (hI : Parl.items 5 true true l1.tail = .inr ((xs, true, g5), l5)) (hb : Parl.sees l5 [124] = true) (ys : List Parl.Itm) (t9 : Bool) (l9 : List Parl.Tok) (hI2 : Parl.items 5 false true l5.tail = .inr ((ys, t9, true), l9)) :
    Calls Tryz.prog 89 #[.pointer (some ⟨rb, 0, none⟩), .int .i64 (n : Int)] w fun e w' => PUniC rb tb cap s L p0 (Parl.clause true (L.drop i)) w e w' := by
  have HC := hide (Parl.clause_body hk hT hnk (Parl.body_bar hI hb hI2))
  have HKN := hide (show (Parl.hd l1).kind ≠ 0 by rw [Parl.sees_kind hnk]; omega)
  have I := hide (fun W (hW : SB W rb tb cap s L i 0 p0) => trm_uni (trm_all 8) W rb tb cap s L i p0 1 rfl hW)
  rw [hT] at I
  have HI := hide hI
  clear hT hI
  have HKB := hide (show (Parl.hd l5).kind ≠ 0 by rw [Parl.sees_kind hb]; omega)
  have HI2 := hide hI2
  clear hI2
  have hlt := h.hlt
  have htl := h.tblt
  have k0 := h.tok.1
  have c0 := h.c0
  have c1 := h.c1
  have hli := h.lt
  have hfew := h.few
  have hk5 := h.kind
  obtain ⟨hS, hK, hB⟩ := cl_start h (.cells #[.int .i64 0, .string ⟨#[]⟩, .int .i64 0, .slice none 0 0, .slice none 0 0, .slice none 0 0] 112)
  have HS := hide hS
  have HK := hide hK
  have HB := hide hB
  have hq : (bk (Parl.hd (L.drop i)).kind != 1) = false := by rw [hk]; rfl
  have hN : decide (12 ≤ (n : Int)) = false := by simp; omega
  have HQ := hide hk
  clear hS hK hB h hk hk5
  generalize bk (Parl.hd (L.drop i)).kind = q at *
  go_enter Tryz.func89, Tryz.ntmps89
  go_wp2_with fail
  go_big_region
  go_wp2_with fail
  have HS' := HS
  have HK' := HK
  have HB' := HB
  refine (unhide I _ (unhide HS')).mono ?_
  rintro e w2 ⟨a, j, e1, p1, rfl, hs2, hk2, ⟨rfl, hp, hj⟩, hv2⟩
  have hp' := hp.symm
  subst hp' hj
  have HV3 := hide ((KeepT.below ((Below.refl _ _).alloc (Nat.le_refl _) (.cells #[.int .i64 a.k, .string a.nm, .int .i64 a.num, .slice a.ao a.n a.cap, .slice none 0 0, .slice none 0 0] 112))).vb (show VB _ w2 a t from hv2))
  clear hv2
  have HB02 := hide (blk_kb hk2 (unhide HB') (by simp; omega))
  have HS3 := hide (hs2.below ((Below.refl _ _).alloc (Nat.le_refl _) (.cells #[.int .i64 a.k, .string a.nm, .int .i64 a.num, .slice a.ao a.n a.cap, .slice none 0 0, .slice none 0 0] 112)))
  have HK3 := hide (((unhide HK').trans hk2).alloc (.cells #[.int .i64 a.k, .string a.nm, .int .i64 a.num, .slice a.ao a.n a.cap, .slice none 0 0, .slice none 0 0] 112))
  have HB03 := hide (blk_alloc' (unhide HB02) (.cells #[.int .i64 a.k, .string a.nm, .int .i64 a.num, .slice a.ao a.n a.cap, .slice none 0 0, .slice none 0 0] 112))
  have HBc3 := hide (heap_alloc_new w2 (.cells #[.int .i64 a.k, .string a.nm, .int .i64 a.num, .slice a.ao a.n a.cap, .slice none 0 0, .slice none 0 0] 112))
  have hz2 : w.heap.size < w2.heap.size := blk_lt' (unhide HB02)
  have htw2 : tb < w2.heap.size := hs2.tblt
  have hrw2 : rb < w2.heap.size := hs2.hlt
  clear hs2 hk2 HB02
  go_wp2_with fail
  generalize hw3 : w2.alloc (.cells #[.int .i64 a.k, .string a.nm, .int .i64 a.num, .slice a.ao a.n a.cap, .slice none 0 0, .slice none 0 0] 112) = w3 at *
  generalize hbc : w2.heap.size = bc at *
  clear hw3 hbc
  refine (is_any _ rb tb cap s L j _ _ _ (unhide HS3)).mono ?_
  rintro e wn ⟨rfl, m, rfl⟩
  simp only [ByteArray.toList_mk]
  have HS4 := hide ((unhide HS3).draws m)
  have HK4 := hide ((unhide HK3).drewN m)
  have HB04 := hide (show (w3.drewN m).heap[w.heap.size]? = _ from unhide HB03)
  have HBc4 := hide (show (w3.drewN m).heap[bc]? = _ from unhide HBc3)
  have c2 := (unhide HS3).c2
  have hrw := (unhide HS3).hlt
  have HV4 := hide ((KeepT.draws w3 m).vb (unhide HV3))
  rw [hnk]
  go_wp2_with fail
  refine (pass_on _ rb tb cap s L j 0 _ (unhide HS4) (unhide HKN)).mono ?_
  rintro e w4 ⟨rfl, hs5, hk5⟩
  have HV5 := hide ((KeepT.kbs (unhide HS4) hk5).vb (unhide HV4))
  clear HV3 HV4
  have HS5 := hide hs5
  have HK5 := hide ((unhide HK4).trans hk5)
  have HB05 := hide (blk_kb hk5 (unhide HB04) (by simp; omega))
  have HBc5 := hide (blk_kb hk5 (unhide HBc4) (by simp; omega))
  clear hs5 hk5 c2 hrw HS4 HK4 HB04 HBc4 HS3 HK3 HB03 HBc3 HS' HK' HB' HS HK HB
  have J := hide (fun W (hW : SB W rb tb cap s L (j + 1) 0 p0) => isB_any W rb tb cap s L (j + 1) p0 true true hW)
  rw [show L.drop (j + 1) = (L.drop j).tail by simp, unhide HI] at J
  go_wp2_with fail
  refine (unhide J _ (unhide HS5)).mono ?_
  rintro e w5 ⟨o1, n1, c1, t1, g1, j5, e5, p5, rfl, hs6, hk6, hu, hw, hvl⟩
  have hb06 := blk_kb hk6 (unhide HB05) (by simp; omega)
  have hbc6 := blk_kb hk6 (unhide HBc5) (by simp; omega)
  have hzw : bc < w5.heap.size := blk_lt' hbc6
  have HS6 := hide (hs6.below ((Below.refl _ _).alloc (Nat.le_refl _) (.cells #[.bool t1, .bool g1] 220)))
  have HK6 := hide (((unhide HK5).trans hk6).alloc (.cells #[.bool t1, .bool g1] 220))
  have HB06 := hide (blk_alloc' hb06 (.cells #[.bool t1, .bool g1] 220))
  have HBc6 := hide (blk_alloc' hbc6 (.cells #[.bool t1, .bool g1] 220))
  have HBw6 := hide (heap_alloc_new w5 (.cells #[.bool t1, .bool g1] 220))
  have HV6 := hide (((KeepT.kbs (unhide HS5) hk6).trans (KeepT.below ((Below.refl _ _).alloc (Nat.le_refl _) (.cells #[.bool t1, .bool g1] 220)))).vb (unhide HV5))
  have HIT6 := hide (ItemsB.keep (show ItemsB w5 o1 n1 xs from hvl) (KeepT.below ((Below.refl _ _).alloc (Nat.le_refl _) (.cells #[.bool t1, .bool g1] 220))) (KeepI.below ((Below.refl _ _).alloc (Nat.le_refl _) (.cells #[.bool t1, .bool g1] 220))))
  clear hvl HV5
  have HU := hide hu
  have HW := hide hw
  clear hs6 hk6 hb06 hbc6 hu hw HS5 HK5 HB05 HBc5 J
  go_wp2_with fail
  generalize hw6 : w5.alloc (.cells #[.bool t1, .bool g1] 220) = w6 at *
  generalize hbw : w5.heap.size = bw at *
  clear hw6 hbw
  refine (is_any _ rb tb cap s L j5 _ _ _ (unhide HS6)).mono ?_
  rintro e wn ⟨rfl, m2, rfl⟩
  simp only [ByteArray.toList_mk]
  have HS7 := hide ((unhide HS6).draws m2)
  have HK7 := hide ((unhide HK6).drewN m2)
  have HB07 := hide (show (w6.drewN m2).heap[w.heap.size]? = _ from unhide HB06)
  have HBc7 := hide (show (w6.drewN m2).heap[bc]? = _ from unhide HBc6)
  have HBw7 := hide (show (w6.drewN m2).heap[bw]? = _ from unhide HBw6)
  have HV7 := hide ((KeepT.draws w6 m2).vb (unhide HV6))
  have HIT7 := hide ((unhide HIT6).keep (KeepT.draws w6 m2) (KeepI.draws w6 m2))
  have c2 := (unhide HS6).c2
  have hrw := (unhide HS6).hlt
  have r6 := blkA' (unhide HBw6)
  have hz6 := blk_lt' (unhide HBw6)
  have rc6 := blkA' (unhide HBc6)
  have xc6 := blkX' (unhide HBc6)
  have hzc6 := blk_lt' (unhide HBc6)
  obtain ⟨rfl, hp5, hj5⟩ := unhide HU
  obtain ⟨ht5, hg5⟩ := unhide HW
  subst hj5 ht5 hg5
  have hp5' := hp5.symm
  subst hp5'
  clear HU HW
  rw [hb]
  go_wp2_with fail
  clear r6 hz6 rc6 xc6 hzc6 c2 hrw
  refine (pass_on _ rb tb cap s L j5 0 _ (unhide HS7) (unhide HKB)).mono ?_
  rintro e w7 ⟨rfl, hs7, hk7⟩
  have HVp := hide ((KeepT.kbs (unhide HS7) hk7).vb (unhide HV7))
  have HITp := hide ((unhide HIT7).keep (KeepT.kbs (unhide HS7) hk7) (KeepI.kbs (unhide HS7) hk7))
  have HSp := hide hs7
  have HKp := hide ((unhide HK7).trans hk7)
  have HB0p := hide (blk_kb hk7 (unhide HB07) (by simp; omega))
  have HBcp := hide (blk_kb hk7 (unhide HBc7) (by simp; omega))
  have HBwp := hide (blk_kb hk7 (unhide HBw7) (by simp; omega))
  clear hs7 hk7 HS7 HK7 HB07 HBc7 HBw7 HS6 HK6 HB06 HBc6 HBw6
  have rcp := blkA' (unhide HBcp)
  have xcp := blkX' (unhide HBcp)
  have hzcp := blk_lt' (unhide HBcp)
  go_wp2_with fail
  clear rcp xcp hzcp
  have RT := fun W => (OnB.refl bc W).set 4 (.slice o1 n1 c1)
  have HSt := hide ((unhide HSp).onb (RT _) (by omega) (by omega))
  have HKt := hide ((unhide HKp).onb (RT _) (by omega))
  have HB0t := hide (blk_other (unhide HB0p) (show w.heap.size ≠ bc by omega) 4 (.slice o1 n1 c1))
  have HBct := hide (set6a (.slice o1 n1 c1) (unhide HBcp))
  have HVt := hide ((KeepT.onb (unhide HBcp) (RT _)).vb (unhide HVp))
  have HITt := hide ((unhide HITp).keep (KeepT.onb (unhide HBcp) (RT _)) (KeepI.onb (unhide HBcp) (RT _)))
  have HBwt := hide (blk_other (unhide HBwp) (show bw ≠ bc by omega) 4 (.slice o1 n1 c1))
  have J2 := hide (fun W (hW : SB W rb tb cap s L (j5 + 1) 0 p0) => isB_any W rb tb cap s L (j5 + 1) p0 false true hW)
  rw [show L.drop (j5 + 1) = (L.drop j5).tail by simp, unhide HI2] at J2
  refine (unhide J2 _ (unhide HSt)).mono ?_
  rintro e w8 ⟨o3, n3, c3, t3, g3, j8, e8, p8, rfl, hs8, hk8, hu8, hw8, hvl8⟩
  have HV8 := hide ((KeepT.kbs (unhide HSt) hk8).vb (unhide HVt))
  have HIT8 := hide ((unhide HITt).keep (KeepT.kbs (unhide HSt) hk8) (KeepI.kbs (unhide HSt) hk8))
  have HVL8 := hide hvl8
  clear hvl8 HVt HITt HVp HITp HV7 HIT7
  have HS8 := hide hs8
  have HK8 := hide ((unhide HKt).trans hk8)
  have HB08 := hide (blk_kb hk8 (unhide HB0t) (by simp; omega))
  have HBc8 := hide (blk_kb hk8 (unhide HBct) (by simp; omega))
  have HBw8 := hide (blk_kb hk8 (unhide HBwt) (by simp; omega))
  clear hs8 hk8 HSp HKp HB0p HBcp HBwp HSt HKt HB0t HBct HBwt J2
  have rc8 := blkA' (unhide HBc8)
  have xc8 := blkX' (unhide HBc8)
  have hzc8 := blk_lt' (unhide HBc8)
  have rw8 := blkA' (unhide HBw8)
  have xw8 := blkX' (unhide HBw8)
  have hzw8 := blk_lt' (unhide HBw8)
  have RX := fun W => OnB.c2 bw W (.bool t3) (.bool g3)
  have HSx := hide ((unhide HS8).onb (RX _) (by omega) (by omega))
  have HKx := hide ((unhide HK8).onb (RX _) (by omega))
  have HB0x := hide (blk_other (blk_other (unhide HB08) (show w.heap.size ≠ bw by omega) 0 (.bool t3)) (show w.heap.size ≠ bw by omega) 1 (.bool g3))
  have HVx := hide ((KeepT.onb (unhide HBw8) (RX _)).vb (unhide HV8))
  have HITx := hide ((unhide HIT8).keep (KeepT.onb (unhide HBw8) (RX _)) (KeepI.onb (unhide HBw8) (RX _)))
  have HBcx := hide (blk_other (blk_other (unhide HBc8) (show bc ≠ bw by omega) 0 (.bool t3)) (show bc ≠ bw by omega) 1 (.bool g3))
  obtain ⟨rfl, hp8, hj8⟩ := hu8
  obtain ⟨ht8, hg8⟩ := hw8
  subst hj8 ht8 hg8
  have hp8' := hp8.symm
  subst hp8'
  have HIGx := hide (ItemsB.keep (show ItemsB w8 o3 n3 ys from unhide HVL8) (KeepT.onb (unhide HBw8) (RX _)) (KeepI.onb (unhide HBw8) (RX _)))
  go_wp2_with fail
  clear rc8 xc8 hzc8 rw8 xw8 hzw8
  have RG := fun W => (OnB.refl bc W).set 5 (.slice o3 n3 c3)
  have HSg := hide ((unhide HSx).onb (RG _) (by omega) (by omega))
  have HKg := hide ((unhide HKx).onb (RG _) (by omega))
  have HB0g := hide (blk_other (unhide HB0x) (show w.heap.size ≠ bc by omega) 5 (.slice o3 n3 c3))
  have HBcg := hide (set6b (.slice o3 n3 c3) (unhide HBcx))
  have HVg := hide ((KeepT.onb (unhide HBcx) (RG _)).vb (unhide HVx))
  have HITg := hide ((unhide HITx).keep (KeepT.onb (unhide HBcx) (RG _)) (KeepI.onb (unhide HBcx) (RG _)))
  have HIGg := hide ((unhide HIGx).keep (KeepT.onb (unhide HBcx) (RG _)) (KeepI.onb (unhide HBcx) (RG _)))
  cases hst : Parl.sees (L.drop j8) [46]
  · have HF := hide (show Parl.clause true (L.drop i) = .inl (2, (Parl.hd (L.drop j8)).pos) by rw [unhide HC, Parl.stop_no hst]; rfl)
    refine (want_no _ rb tb cap s L j8 _ _ (unhide HSg) (by simpa only [ByteArray.toList_mk] using hst)).mono ?_
    rintro e w9 ⟨rfl, ⟨j9, hs9⟩, hk9⟩
    have HS9 := hide hs9
    have HK9 := hide ((unhide HKg).trans hk9)
    have HB09 := hide (blk_kb hk9 (unhide HB0g) (by simp; omega))
    have HBc9 := hide (blk_kb hk9 (unhide HBcg) (by simp; omega))
    clear hs9 hk9
    have r0 := blkA' (unhide HB09)
    have x0 := blkX' (unhide HB09)
    have rc := blkA' (unhide HBc9)
    have hz0 := blk_lt' (unhide HB09)
    have hzc := blk_lt' (unhide HBc9)
    go_wp2_with fail
    refine bodyPost_ret (v := .agg #[.int .i64 a.k, .string a.nm, .int .i64 a.num, .slice a.ao a.n a.cap, .slice o1 n1 c1, .slice o3 n3 c3]) (by simp [results, Tryz.results89, go_sem, r0]) rfl ?_
    rw [unhide HF]
    have RO := fun W => OnB.c6 w.heap.size W (.int .i64 a.k) (.string a.nm) (.int .i64 a.num) (.slice a.ao a.n a.cap) (.slice o1 n1 c1) (.slice o3 n3 c3)
    exact ⟨a, o1, n1, c1, o3, n3, c3, _, _, _, rfl, (unhide HS9).onb (RO _) (by omega) (by omega), (unhide HK9).onb (RO _) (by omega), ⟨rfl, rfl, by omega⟩, trivial⟩
  · have HF := hide (show Parl.clause true (L.drop i) = .inr (_, (L.drop j8).tail) by rw [unhide HC, Parl.stop_yes hst])
    refine (want_yes _ rb tb cap s L j8 0 _ _ (unhide HSg) (by simpa only [ByteArray.toList_mk] using hst)).mono ?_
    rintro e w9 ⟨rfl, hs9, hk9⟩
    have HS9 := hide hs9
    have HK9 := hide ((unhide HKg).trans hk9)
    have HB09 := hide (blk_kb hk9 (unhide HB0g) (by simp; omega))
    have HBc9 := hide (blk_kb hk9 (unhide HBcg) (by simp; omega))
    have HV9 := hide ((KeepT.kbs (unhide HSg) hk9).vb (unhide HVg))
    have HT9 := hide ((unhide HITg).keep (KeepT.kbs (unhide HSg) hk9) (KeepI.kbs (unhide HSg) hk9))
    have HG9 := hide ((unhide HIGg).keep (KeepT.kbs (unhide HSg) hk9) (KeepI.kbs (unhide HSg) hk9))
    clear hs9 hk9
    have r0 := blkA' (unhide HB09)
    have x0 := blkX' (unhide HB09)
    have rc := blkA' (unhide HBc9)
    have hz0 := blk_lt' (unhide HB09)
    have hzc := blk_lt' (unhide HBc9)
    go_wp2_with fail
    refine bodyPost_ret (v := .agg #[.int .i64 a.k, .string a.nm, .int .i64 a.num, .slice a.ao a.n a.cap, .slice o1 n1 c1, .slice o3 n3 c3]) (by simp [results, Tryz.results89, go_sem, r0]) rfl ?_
    rw [unhide HF]
    have RO := fun W => OnB.c6 w.heap.size W (.int .i64 a.k) (.string a.nm) (.int .i64 a.num) (.slice a.ao a.n a.cap) (.slice o1 n1 c1) (.slice o3 n3 c3)
    exact ⟨a, o1, n1, c1, o3, n3, c3, _, _, _, rfl, (unhide HS9).onb (RO _) (by omega) (by omega), (unhide HK9).onb (RO _) (by omega), ⟨rfl, rfl, by simp⟩, (KeepT.onb (unhide HB09) (RO _)).vb (unhide HV9), (unhide HT9).keep (KeepT.onb (unhide HB09) (RO _)) (KeepI.onb (unhide HB09) (RO _)), (unhide HG9).keep (KeepT.onb (unhide HB09) (RO _)) (KeepI.onb (unhide HB09) (RO _))⟩
end Go.Proofs.YthfjnfcekeknlaaGreatDoor
namespace Go.Proofs.YthfjnfcekeknlaaGreatDoor
open Go.RowKit

set_option maxHeartbeats 8000000 in
set_option maxRecDepth 100000 in
theorem clB_bt (w : World) (rb tb cap : Nat) (s : ByteArray) (L : List Parl.Tok) (i : Nat) (p0 : Int) (n : Nat) (h : SB w rb tb cap s L i 0 p0) (hk : (Parl.hd (L.drop i)).kind = 2) (hn : n < 12) (t : Parl.Tm) (l1 : List Parl.Tok) (hT : Parl.term 8 (L.drop i) = .inr (t, l1)) (hnk : Parl.sees l1 [58, 45] = true) (xs : List Parl.Itm) (g5 : Bool) (l5 : List Parl.Tok) (hI : Parl.items 5 true true l1.tail = .inr ((xs, true, g5), l5)) (hb : Parl.sees l5 [124] = true) (ys : List Parl.Itm) (t9 : Bool) (l9 : List Parl.Tok) (hI2 : Parl.items 5 false true l5.tail = .inr ((ys, t9, false), l9)) :
    Calls Tryz.prog 89 #[.pointer (some ⟨rb, 0, none⟩), .int .i64 (n : Int)] w fun e w' => PUniC rb tb cap s L p0 (Parl.clause true (L.drop i)) w e w' := by
  have HC := hide (show Parl.clause true (L.drop i) = .inl (2, (Parl.hd l9).pos) from Parl.clause_berr hk hT hnk (Parl.body_bar_no hI hb hI2))
  have HKN := hide (show (Parl.hd l1).kind ≠ 0 by rw [Parl.sees_kind hnk]; omega)
  have I := hide (fun W (hW : SB W rb tb cap s L i 0 p0) => trm_uni (trm_all 8) W rb tb cap s L i p0 1 rfl hW)
  rw [hT] at I
  have HI := hide hI
  clear hT hI
  have HKB := hide (show (Parl.hd l5).kind ≠ 0 by rw [Parl.sees_kind hb]; omega)
  have HI2 := hide hI2
  clear hI2
  have hlt := h.hlt
  have htl := h.tblt
  have k0 := h.tok.1
  have c0 := h.c0
  have c1 := h.c1
  have hli := h.lt
  have hfew := h.few
  have hk5 := h.kind
  obtain ⟨hS, hK, hB⟩ := cl_start h (.cells #[.int .i64 0, .string ⟨#[]⟩, .int .i64 0, .slice none 0 0, .slice none 0 0, .slice none 0 0] 112)
  have HS := hide hS
  have HK := hide hK
  have HB := hide hB
  have hq : (bk (Parl.hd (L.drop i)).kind != 1) = false := by rw [hk]; rfl
  have hN : decide (12 ≤ (n : Int)) = false := by simp; omega
  have HQ := hide hk
  clear hS hK hB h hk hk5
  generalize bk (Parl.hd (L.drop i)).kind = q at *
  go_enter Tryz.func89, Tryz.ntmps89
  go_wp2_with fail
  go_big_region
  go_wp2_with fail
  have HS' := HS
  have HK' := HK
  have HB' := HB
  refine (unhide I _ (unhide HS')).mono ?_
  rintro e w2 ⟨a, j, e1, p1, rfl, hs2, hk2, ⟨rfl, hp, hj⟩, hv2⟩
  have hp' := hp.symm
  subst hp' hj
  have HV3 := hide ((KeepT.below ((Below.refl _ _).alloc (Nat.le_refl _) (.cells #[.int .i64 a.k, .string a.nm, .int .i64 a.num, .slice a.ao a.n a.cap, .slice none 0 0, .slice none 0 0] 112))).vb (show VB _ w2 a t from hv2))
  clear hv2
  have HB02 := hide (blk_kb hk2 (unhide HB') (by simp; omega))
  have HS3 := hide (hs2.below ((Below.refl _ _).alloc (Nat.le_refl _) (.cells #[.int .i64 a.k, .string a.nm, .int .i64 a.num, .slice a.ao a.n a.cap, .slice none 0 0, .slice none 0 0] 112)))
  have HK3 := hide (((unhide HK').trans hk2).alloc (.cells #[.int .i64 a.k, .string a.nm, .int .i64 a.num, .slice a.ao a.n a.cap, .slice none 0 0, .slice none 0 0] 112))
  have HB03 := hide (blk_alloc' (unhide HB02) (.cells #[.int .i64 a.k, .string a.nm, .int .i64 a.num, .slice a.ao a.n a.cap, .slice none 0 0, .slice none 0 0] 112))
  have HBc3 := hide (heap_alloc_new w2 (.cells #[.int .i64 a.k, .string a.nm, .int .i64 a.num, .slice a.ao a.n a.cap, .slice none 0 0, .slice none 0 0] 112))
  have hz2 : w.heap.size < w2.heap.size := blk_lt' (unhide HB02)
  have htw2 : tb < w2.heap.size := hs2.tblt
  have hrw2 : rb < w2.heap.size := hs2.hlt
  clear hs2 hk2 HB02
  go_wp2_with fail
  generalize hw3 : w2.alloc (.cells #[.int .i64 a.k, .string a.nm, .int .i64 a.num, .slice a.ao a.n a.cap, .slice none 0 0, .slice none 0 0] 112) = w3 at *
  generalize hbc : w2.heap.size = bc at *
  clear hw3 hbc
  refine (is_any _ rb tb cap s L j _ _ _ (unhide HS3)).mono ?_
  rintro e wn ⟨rfl, m, rfl⟩
  simp only [ByteArray.toList_mk]
  have HS4 := hide ((unhide HS3).draws m)
  have HK4 := hide ((unhide HK3).drewN m)
  have HB04 := hide (show (w3.drewN m).heap[w.heap.size]? = _ from unhide HB03)
  have HBc4 := hide (show (w3.drewN m).heap[bc]? = _ from unhide HBc3)
  have c2 := (unhide HS3).c2
  have hrw := (unhide HS3).hlt
  have HV4 := hide ((KeepT.draws w3 m).vb (unhide HV3))
  rw [hnk]
  go_wp2_with fail
  refine (pass_on _ rb tb cap s L j 0 _ (unhide HS4) (unhide HKN)).mono ?_
  rintro e w4 ⟨rfl, hs5, hk5⟩
  have HV5 := hide ((KeepT.kbs (unhide HS4) hk5).vb (unhide HV4))
  clear HV3 HV4
  have HS5 := hide hs5
  have HK5 := hide ((unhide HK4).trans hk5)
  have HB05 := hide (blk_kb hk5 (unhide HB04) (by simp; omega))
  have HBc5 := hide (blk_kb hk5 (unhide HBc4) (by simp; omega))
  clear hs5 hk5 c2 hrw HS4 HK4 HB04 HBc4 HS3 HK3 HB03 HBc3 HS' HK' HB' HS HK HB
  have J := hide (fun W (hW : SB W rb tb cap s L (j + 1) 0 p0) => isB_any W rb tb cap s L (j + 1) p0 true true hW)
  rw [show L.drop (j + 1) = (L.drop j).tail by simp, unhide HI] at J
  go_wp2_with fail
  refine (unhide J _ (unhide HS5)).mono ?_
  rintro e w5 ⟨o1, n1, c1, t1, g1, j5, e5, p5, rfl, hs6, hk6, hu, hw, hvl⟩
  have hb06 := blk_kb hk6 (unhide HB05) (by simp; omega)
  have hbc6 := blk_kb hk6 (unhide HBc5) (by simp; omega)
  have hzw : bc < w5.heap.size := blk_lt' hbc6
  have HS6 := hide (hs6.below ((Below.refl _ _).alloc (Nat.le_refl _) (.cells #[.bool t1, .bool g1] 220)))
  have HK6 := hide (((unhide HK5).trans hk6).alloc (.cells #[.bool t1, .bool g1] 220))
  have HB06 := hide (blk_alloc' hb06 (.cells #[.bool t1, .bool g1] 220))
  have HBc6 := hide (blk_alloc' hbc6 (.cells #[.bool t1, .bool g1] 220))
  have HBw6 := hide (heap_alloc_new w5 (.cells #[.bool t1, .bool g1] 220))
  have HV6 := hide (((KeepT.kbs (unhide HS5) hk6).trans (KeepT.below ((Below.refl _ _).alloc (Nat.le_refl _) (.cells #[.bool t1, .bool g1] 220)))).vb (unhide HV5))
  have HIT6 := hide (ItemsB.keep (show ItemsB w5 o1 n1 xs from hvl) (KeepT.below ((Below.refl _ _).alloc (Nat.le_refl _) (.cells #[.bool t1, .bool g1] 220))) (KeepI.below ((Below.refl _ _).alloc (Nat.le_refl _) (.cells #[.bool t1, .bool g1] 220))))
  clear hvl HV5
  have HU := hide hu
  have HW := hide hw
  clear hs6 hk6 hb06 hbc6 hu hw HS5 HK5 HB05 HBc5 J
  go_wp2_with fail
  generalize hw6 : w5.alloc (.cells #[.bool t1, .bool g1] 220) = w6 at *
  generalize hbw : w5.heap.size = bw at *
  clear hw6 hbw
  refine (is_any _ rb tb cap s L j5 _ _ _ (unhide HS6)).mono ?_
  rintro e wn ⟨rfl, m2, rfl⟩
  simp only [ByteArray.toList_mk]
  have HS7 := hide ((unhide HS6).draws m2)
  have HK7 := hide ((unhide HK6).drewN m2)
  have HB07 := hide (show (w6.drewN m2).heap[w.heap.size]? = _ from unhide HB06)
  have HBc7 := hide (show (w6.drewN m2).heap[bc]? = _ from unhide HBc6)
  have HBw7 := hide (show (w6.drewN m2).heap[bw]? = _ from unhide HBw6)
  have HV7 := hide ((KeepT.draws w6 m2).vb (unhide HV6))
  have HIT7 := hide ((unhide HIT6).keep (KeepT.draws w6 m2) (KeepI.draws w6 m2))
  have c2 := (unhide HS6).c2
  have hrw := (unhide HS6).hlt
  have r6 := blkA' (unhide HBw6)
  have hz6 := blk_lt' (unhide HBw6)
  have rc6 := blkA' (unhide HBc6)
  have xc6 := blkX' (unhide HBc6)
  have hzc6 := blk_lt' (unhide HBc6)
  obtain ⟨rfl, hp5, hj5⟩ := unhide HU
  obtain ⟨ht5, hg5⟩ := unhide HW
  subst hj5 ht5 hg5
  have hp5' := hp5.symm
  subst hp5'
  clear HU HW
  rw [hb]
  go_wp2_with fail
  clear r6 hz6 rc6 xc6 hzc6 c2 hrw
  refine (pass_on _ rb tb cap s L j5 0 _ (unhide HS7) (unhide HKB)).mono ?_
  rintro e w7 ⟨rfl, hs7, hk7⟩
  have HVp := hide ((KeepT.kbs (unhide HS7) hk7).vb (unhide HV7))
  have HITp := hide ((unhide HIT7).keep (KeepT.kbs (unhide HS7) hk7) (KeepI.kbs (unhide HS7) hk7))
  have HSp := hide hs7
  have HKp := hide ((unhide HK7).trans hk7)
  have HB0p := hide (blk_kb hk7 (unhide HB07) (by simp; omega))
  have HBcp := hide (blk_kb hk7 (unhide HBc7) (by simp; omega))
  have HBwp := hide (blk_kb hk7 (unhide HBw7) (by simp; omega))
  clear hs7 hk7 HS7 HK7 HB07 HBc7 HBw7 HS6 HK6 HB06 HBc6 HBw6
  have rcp := blkA' (unhide HBcp)
  have xcp := blkX' (unhide HBcp)
  have hzcp := blk_lt' (unhide HBcp)
  go_wp2_with fail
  clear rcp xcp hzcp
  have RT := fun W => (OnB.refl bc W).set 4 (.slice o1 n1 c1)
  have HSt := hide ((unhide HSp).onb (RT _) (by omega) (by omega))
  have HKt := hide ((unhide HKp).onb (RT _) (by omega))
  have HB0t := hide (blk_other (unhide HB0p) (show w.heap.size ≠ bc by omega) 4 (.slice o1 n1 c1))
  have HBct := hide (set6a (.slice o1 n1 c1) (unhide HBcp))
  have HVt := hide ((KeepT.onb (unhide HBcp) (RT _)).vb (unhide HVp))
  have HITt := hide ((unhide HITp).keep (KeepT.onb (unhide HBcp) (RT _)) (KeepI.onb (unhide HBcp) (RT _)))
  have HBwt := hide (blk_other (unhide HBwp) (show bw ≠ bc by omega) 4 (.slice o1 n1 c1))
  have J2 := hide (fun W (hW : SB W rb tb cap s L (j5 + 1) 0 p0) => isB_any W rb tb cap s L (j5 + 1) p0 false true hW)
  rw [show L.drop (j5 + 1) = (L.drop j5).tail by simp, unhide HI2] at J2
  refine (unhide J2 _ (unhide HSt)).mono ?_
  rintro e w8 ⟨o3, n3, c3, t3, g3, j8, e8, p8, rfl, hs8, hk8, hu8, hw8, hvl8⟩
  have HV8 := hide ((KeepT.kbs (unhide HSt) hk8).vb (unhide HVt))
  have HIT8 := hide ((unhide HITt).keep (KeepT.kbs (unhide HSt) hk8) (KeepI.kbs (unhide HSt) hk8))
  have HVL8 := hide hvl8
  clear hvl8 HVt HITt HVp HITp HV7 HIT7
  have HS8 := hide hs8
  have HK8 := hide ((unhide HKt).trans hk8)
  have HB08 := hide (blk_kb hk8 (unhide HB0t) (by simp; omega))
  have HBc8 := hide (blk_kb hk8 (unhide HBct) (by simp; omega))
  have HBw8 := hide (blk_kb hk8 (unhide HBwt) (by simp; omega))
  clear hs8 hk8 HSp HKp HB0p HBcp HBwp HSt HKt HB0t HBct HBwt J2
  have rc8 := blkA' (unhide HBc8)
  have xc8 := blkX' (unhide HBc8)
  have hzc8 := blk_lt' (unhide HBc8)
  have rw8 := blkA' (unhide HBw8)
  have xw8 := blkX' (unhide HBw8)
  have hzw8 := blk_lt' (unhide HBw8)
  have RX := fun W => OnB.c2 bw W (.bool t3) (.bool g3)
  have HSx := hide ((unhide HS8).onb (RX _) (by omega) (by omega))
  have HKx := hide ((unhide HK8).onb (RX _) (by omega))
  have HB0x := hide (blk_other (blk_other (unhide HB08) (show w.heap.size ≠ bw by omega) 0 (.bool t3)) (show w.heap.size ≠ bw by omega) 1 (.bool g3))
  have HVx := hide ((KeepT.onb (unhide HBw8) (RX _)).vb (unhide HV8))
  have HITx := hide ((unhide HIT8).keep (KeepT.onb (unhide HBw8) (RX _)) (KeepI.onb (unhide HBw8) (RX _)))
  have HBcx := hide (blk_other (blk_other (unhide HBc8) (show bc ≠ bw by omega) 0 (.bool t3)) (show bc ≠ bw by omega) 1 (.bool g3))
  obtain ⟨rfl, hp8, hj8⟩ := hu8
  obtain ⟨ht8, hg8⟩ := hw8
  subst hj8 ht8 hg8
  have hp8' := hp8.symm
  subst hp8'
  have HF := HC
  go_wp2_with fail
  clear rc8 xc8 hzc8 rw8 xw8 hzw8
  refine (bad_first _ rb tb cap s L j8 _ 2 (unhide HSx)).mono ?_
  rintro e wb ⟨rfl, hsb, hkb⟩
  have HSb := hide hsb
  have HKb := hide ((unhide HKx).trans hkb)
  have HB0b := hide (blk_kb hkb (unhide HB0x) (by simp; omega))
  have HBcb := hide (blk_kb hkb (unhide HBcx) (by simp; omega))
  clear hsb hkb
  have rcb := blkA' (unhide HBcb)
  have xcb := blkX' (unhide HBcb)
  have hzcb := blk_lt' (unhide HBcb)
  go_wp2_with fail
  clear rcb xcb hzcb
  have RG := fun W => (OnB.refl bc W).set 5 (.slice o3 n3 c3)
  have HSg := hide ((unhide HSb).onb (RG _) (by omega) (by omega))
  have HKg := hide ((unhide HKb).onb (RG _) (by omega))
  have HB0g := hide (blk_other (unhide HB0b) (show w.heap.size ≠ bc by omega) 5 (.slice o3 n3 c3))
  have HBcg := hide (set6b (.slice o3 n3 c3) (unhide HBcb))
  refine (want_err _ rb tb cap s L 2 _ _ ⟨j8, unhide HSg⟩ (by omega)).mono ?_
  rintro e w9 ⟨rfl, ⟨j9, hs9⟩, hk9⟩
  have HS9 := hide hs9
  have HK9 := hide ((unhide HKg).trans hk9)
  have HB09 := hide (blk_kb hk9 (unhide HB0g) (by simp; omega))
  have HBc9 := hide (blk_kb hk9 (unhide HBcg) (by simp; omega))
  clear hs9 hk9
  have r0 := blkA' (unhide HB09)
  have x0 := blkX' (unhide HB09)
  have rc := blkA' (unhide HBc9)
  have hz0 := blk_lt' (unhide HB09)
  have hzc := blk_lt' (unhide HBc9)
  go_wp2_with fail
  refine bodyPost_ret (v := .agg #[.int .i64 a.k, .string a.nm, .int .i64 a.num, .slice a.ao a.n a.cap, .slice o1 n1 c1, .slice o3 n3 c3]) (by simp [results, Tryz.results89, go_sem, r0]) rfl ?_
  rw [unhide HF]
  have RO := fun W => OnB.c6 w.heap.size W (.int .i64 a.k) (.string a.nm) (.int .i64 a.num) (.slice a.ao a.n a.cap) (.slice o1 n1 c1) (.slice o3 n3 c3)
  exact ⟨a, o1, n1, c1, o3, n3, c3, _, _, _, rfl, (unhide HS9).onb (RO _) (by omega) (by omega), (unhide HK9).onb (RO _) (by omega), ⟨rfl, rfl, (by omega)⟩, trivial⟩
end Go.Proofs.YthfjnfcekeknlaaGreatDoor
