import Derived.Test.YthfjnfcekeknlaaGreatDoorC02
namespace Go.Proofs.YthfjnfcekeknlaaGreatDoor
open Go.RowKit

set_option maxHeartbeats 4000000 in
set_option maxRecDepth 100000 in
theorem trm_num (w : World) (rb tb cap : Nat) (s : ByteArray) (L : List Parl.Tok) (i : Nat) (p0 : Int) (d : Nat) (h : SB w rb tb cap s L i 0 p0) (hkk : (Parl.hd (L.drop i)).kind = 4) (hd8 : d ≤ 8) (h6 : (Parl.hd (L.drop i)).text.size ≤ 6) :
    Calls Tryz.prog 149 #[.pointer (some ⟨rb, 0, none⟩), .int .i64 (d : Int)] w fun e w' => PTermB rb tb cap s L p0 (.inr (⟨4, (Parl.hd (L.drop i)).text, []⟩, (L.drop i).tail)) w e w' := by
  obtain ⟨hS, hK, hB0, hB1⟩ := term_boxes (Parl.hd (L.drop i)) h
  unfold boxRB boxTB at hS hK hB0 hB1
  have HS := hide hS
  have HK := hide hK
  have HB0 := hide hB0
  have HB1 := hide hB1
  have hlt := h.hlt
  have htl := h.tblt
  have hz := h.tsize
  have hk0 := hide (show (Parl.hd (L.drop i)).kind ≠ 0 by omega)
  have HT := hide (show (L.drop i).tail = L.drop (i + 1) by simp)
  clear hS hK hB0 hB1
  obtain ⟨k0, k1, k2⟩ := h.tok
  obtain ⟨c0, c1, c2, c3, f1, f2, f3, own, ne, lt, chain, few, kinds, hlt'⟩ := h
  clear own chain kinds f1 f2 f3 c2 c3
  have hq : bk (Parl.hd (L.drop i)).kind = 3 := by rw [hkk]; rfl
  rw [hq] at k0 HB1 HS HK HB0
  clear hkk hq
  go_enter Tryz.func149, Tryz.ntmps149
  go_wp2_with fail
  go_big_region
  go_wp2_with fail
  refine (pass_on _ rb tb cap s L i 0 p0 (unhide HS) (unhide hk0)).mono ?_
  rintro e w2 ⟨rfl, hs2, hk2⟩
  have HS2 := hide hs2
  have HK2 := hide ((unhide HK).trans hk2)
  have hb0 := blk_kb hk2 (unhide HB0) (by simp; omega)
  have hb1 := blk_kb hk2 (unhide HB1) (by simp; omega)
  have hz0 : w.heap.size < w2.heap.size := blk_lt' hb0
  have hz1 : w.heap.size + 1 < w2.heap.size := blk_lt' hb1
  have r := blkA' hb0
  have x := blkX' hb0
  have y := blkA' hb1
  have HB02 := hide hb0
  clear hs2 hk2 hb0 hb1 k0 k1 k2 c0 c1
  go_wp2_with fail
  refine (number_is _ _ h6).mono ?_
  rintro e w3 ⟨rfl, rfl⟩
  go_wp2_with fail
  refine bodyPost_ret (v := .agg #[.int .i64 3, .string ⟨#[]⟩, .int .i64 (Parl.numOf (Parl.hd (L.drop i)).text), .slice none 0 0]) (by simp [results, Tryz.results149, go_sem, hz0, r]) rfl ?_
  exact ⟨⟨#[]⟩, _, none, 0, i + 1, rfl, fun q => absurd rfl q, (unhide HT).symm, (SB.box (unhide HS2) (by omega) (by omega) _ _ _ _).below ((Below.refl _ _).alloc (Nat.le_refl _) _), ((unhide HK2).onlyNew (Nat.le_refl _) _ _ _ _).alloc _, VB.leaf ⟨rfl, rfl, fun q => absurd rfl q, fun _ => ⟨rfl, h6, rfl⟩, hz, by simp⟩ rfl⟩

set_option maxHeartbeats 4000000 in
set_option maxRecDepth 100000 in
theorem trm_var (w : World) (rb tb cap : Nat) (s : ByteArray) (L : List Parl.Tok) (i : Nat) (p0 : Int) (d : Nat) (h : SB w rb tb cap s L i 0 p0) (hkk : (Parl.hd (L.drop i)).kind = 3) (hd8 : d ≤ 8) :
    Calls Tryz.prog 149 #[.pointer (some ⟨rb, 0, none⟩), .int .i64 (d : Int)] w fun e w' => PTermB rb tb cap s L p0 (.inr (⟨3, (Parl.hd (L.drop i)).text, []⟩, (L.drop i).tail)) w e w' := by
  obtain ⟨hS, hK, hB0, hB1⟩ := term_boxes (Parl.hd (L.drop i)) h
  unfold boxRB boxTB at hS hK hB0 hB1
  have HS := hide hS
  have HK := hide hK
  have HB0 := hide hB0
  have HB1 := hide hB1
  have hlt := h.hlt
  have htl := h.tblt
  have hz := h.tsize
  have hk0 := hide (show (Parl.hd (L.drop i)).kind ≠ 0 by omega)
  have HT := hide (show (L.drop i).tail = L.drop (i + 1) by simp)
  clear hS hK hB0 hB1
  obtain ⟨k0, k1, k2⟩ := h.tok
  obtain ⟨c0, c1, c2, c3, f1, f2, f3, own, ne, lt, chain, few, kinds, hlt'⟩ := h
  clear own chain kinds f1 f2 f3 c2 c3
  have hq : bk (Parl.hd (L.drop i)).kind = 2 := by rw [hkk]; rfl
  rw [hq] at k0 HB1 HS HK HB0
  clear hkk hq
  go_enter Tryz.func149, Tryz.ntmps149
  go_wp2_with fail
  go_big_region
  go_wp2_with fail
  refine (pass_on _ rb tb cap s L i 0 p0 (unhide HS) (unhide hk0)).mono ?_
  rintro e w2 ⟨rfl, hs2, hk2⟩
  have HS2 := hide hs2
  have HK2 := hide ((unhide HK).trans hk2)
  have hb0 := blk_kb hk2 (unhide HB0) (by simp; omega)
  have hb1 := blk_kb hk2 (unhide HB1) (by simp; omega)
  have hz0 : w.heap.size < w2.heap.size := blk_lt' hb0
  have hz1 : w.heap.size + 1 < w2.heap.size := blk_lt' hb1
  have r := blkA' hb0
  have x := blkX' hb0
  have y := blkA' hb1
  have HB02 := hide hb0
  clear hs2 hk2 hb0 hb1 k0 k1 k2 c0 c1
  go_wp2_with fail
  refine (is_any _ rb tb cap s L (i + 1) 0 p0 _ ((unhide HS2).below ((Below.refl _ _).alloc (Nat.le_refl _) _))).mono ?_
  rintro e w3 ⟨rfl, n, rfl⟩
  go_wp2_with fail
  refine bodyPost_ret (v := .agg #[.int .i64 2, .string (Parl.hd (L.drop i)).text, .int .i64 0, .slice none 0 0]) (by simp [results, Tryz.results149, go_sem, hz0, r]) rfl ?_
  exact ⟨_, 0, none, 0, i + 1, rfl, fun _ => rfl, (unhide HT).symm, SB.box (((unhide HS2).below ((Below.refl _ _).alloc (Nat.le_refl _) _)).draws n) (by omega) (by omega) _ _ _ _, (((unhide HK2).alloc _).drewN n).onlyNew (Nat.le_refl _) _ _ _ _, VB.leaf ⟨rfl, rfl, fun _ => ⟨rfl, rfl⟩, fun q => absurd q (by simp), hz, by simp⟩ rfl⟩

set_option maxHeartbeats 4000000 in
set_option maxRecDepth 100000 in
theorem trm_atom (w : World) (rb tb cap : Nat) (s : ByteArray) (L : List Parl.Tok) (i : Nat) (p0 : Int) (d : Nat) (h : SB w rb tb cap s L i 0 p0) (hkk : (Parl.hd (L.drop i)).kind = 2) (hd8 : d ≤ 8) (hop : Parl.sees (L.drop (i + 1)) [40] = false) :
    Calls Tryz.prog 149 #[.pointer (some ⟨rb, 0, none⟩), .int .i64 (d : Int)] w fun e w' => PTermB rb tb cap s L p0 (.inr (⟨2, (Parl.hd (L.drop i)).text, []⟩, (L.drop i).tail)) w e w' := by
  obtain ⟨hS, hK, hB0, hB1⟩ := term_boxes (Parl.hd (L.drop i)) h
  unfold boxRB boxTB at hS hK hB0 hB1
  have HS := hide hS
  have HK := hide hK
  have HB0 := hide hB0
  have HB1 := hide hB1
  have hlt := h.hlt
  have htl := h.tblt
  have hz := h.tsize
  have hk0 := hide (show (Parl.hd (L.drop i)).kind ≠ 0 by omega)
  have HT := hide (show (L.drop i).tail = L.drop (i + 1) by simp)
  clear hS hK hB0 hB1
  obtain ⟨k0, k1, k2⟩ := h.tok
  obtain ⟨c0, c1, c2, c3, f1, f2, f3, own, ne, lt, chain, few, kinds, hlt'⟩ := h
  clear own chain kinds f1 f2 f3 c2 c3
  have hq : bk (Parl.hd (L.drop i)).kind = 1 := by rw [hkk]; rfl
  rw [hq] at k0 HB1 HS HK HB0
  clear hkk hq
  go_enter Tryz.func149, Tryz.ntmps149
  go_wp2_with fail
  go_big_region
  go_wp2_with fail
  refine (pass_on _ rb tb cap s L i 0 p0 (unhide HS) (unhide hk0)).mono ?_
  rintro e w2 ⟨rfl, hs2, hk2⟩
  have HS2 := hide hs2
  have HK2 := hide ((unhide HK).trans hk2)
  have hb0 := blk_kb hk2 (unhide HB0) (by simp; omega)
  have hb1 := blk_kb hk2 (unhide HB1) (by simp; omega)
  have hz0 : w.heap.size < w2.heap.size := blk_lt' hb0
  have hz1 : w.heap.size + 1 < w2.heap.size := blk_lt' hb1
  have r := blkA' hb0
  have x := blkX' hb0
  have y := blkA' hb1
  have HB02 := hide hb0
  clear hs2 hk2 hb0 hb1 k0 k1 k2 c0 c1
  go_wp2_with fail
  refine (is_any _ rb tb cap s L (i + 1) 0 p0 _ ((unhide HS2).below ((Below.refl _ _).alloc (Nat.le_refl _) _))).mono ?_
  rintro e w3 ⟨rfl, n, rfl⟩
  simp only [ByteArray.toList_mk]
  rw [hop]
  go_wp2_with fail
  refine bodyPost_ret (v := .agg #[.int .i64 1, .string (Parl.hd (L.drop i)).text, .int .i64 0, .slice none 0 0]) (by simp [results, Tryz.results149, go_sem, hz0, r]) rfl ?_
  exact ⟨_, 0, none, 0, i + 1, rfl, fun _ => rfl, (unhide HT).symm, SB.box (((unhide HS2).below ((Below.refl _ _).alloc (Nat.le_refl _) _)).draws n) (by omega) (by omega) _ _ _ _, (((unhide HK2).alloc _).drewN n).onlyNew (Nat.le_refl _) _ _ _ _, VB.leaf ⟨rfl, rfl, fun _ => ⟨rfl, rfl⟩, fun q => absurd q (by simp), hz, by simp⟩ rfl⟩

end Go.Proofs.YthfjnfcekeknlaaGreatDoor
