import Derived.Test.YthfjnfcekeknlaaGreatDoorM08
namespace Go.Proofs.YthfjnfcekeknlaaGreatDoor
open Go.RowKit

set_option maxHeartbeats 4000000 in
set_option maxRecDepth 100000 in
theorem trm_deep_var (w : World) (rb tb cap : Nat) (s : ByteArray) (L : List Parl.Tok) (i : Nat) (e0 p0 : Int) (d : Nat) (h : SB w rb tb cap s L i e0 p0) (hkk : (Parl.hd (L.drop i)).kind = 3) (hb : 8 < d) :
    Calls Tryz.prog 149 #[.pointer (some ⟨rb, 0, none⟩), .int .i64 (d : Int)] w fun e w' => PErrB rb tb cap s L (if e0 = 0 then 3 else e0) (if e0 = 0 then ((Parl.hd (L.drop i)).pos : Int) else p0) w e w' := by
  obtain ⟨hS, hK, hB0, hB1⟩ := term_boxes (Parl.hd (L.drop i)) h
  unfold boxRB boxTB at hS hK hB0 hB1
  have HS := hide hS
  have HK := hide hK
  have HB0 := hide hB0
  have HB1 := hide hB1
  have hlt := h.hlt
  have htl := h.tblt
  have hk5 := h.kind
  have hz := h.tsize
  clear hS hK hB0 hB1
  obtain ⟨k0, k1, k2⟩ := h.tok
  obtain ⟨c0, c1, c2, c3, f1, f2, f3, own, ne, lt, chain, few, kinds, hlt'⟩ := h
  clear own chain kinds f1 f2 f3 c2 c3
  have BAD := hide (fun W (hW : SB W rb tb cap s L i e0 p0) => bad_any W rb tb cap s L i e0 p0 3 hW)
  have HE := hide (mix_ne (e0 := e0) (er := 3) (by omega))
  generalize (if e0 = 0 then (3 : Int) else e0) = e1 at BAD HE ⊢
  generalize (if e0 = 0 then ((Parl.hd (L.drop i)).pos : Int) else p0) = p1 at BAD ⊢
  have hq : bk (Parl.hd (L.drop i)).kind = 2 := by rw [hkk]; rfl
  rw [hq] at k0 HB1 HS HK HB0
  clear hkk hk5 hq
  go_enter Tryz.func149, Tryz.ntmps149
  go_wp2_with fail
  go_big_region
  go_wp2_with fail
  refine (unhide BAD _ (unhide HS)).mono ?_
  rintro e w1 ⟨rfl, hs1, hk1⟩
  have HS1 := hide hs1
  have HK1 := hide ((unhide HK).trans hk1)
  have HB01 := hide (blk_kb hk1 (unhide HB0) (by simp; omega))
  have HB11 := hide (blk_kb hk1 (unhide HB1) (by simp; omega))
  clear hs1 hk1
  go_wp2_with fail
  refine (pass_any _ rb tb cap s L e1 p1 ⟨i, unhide HS1⟩).mono ?_
  rintro e w2 ⟨rfl, ⟨j, hs2⟩, hk2⟩
  have HS2 := hide hs2
  have HK2 := hide ((unhide HK1).trans hk2)
  have hb0 := blk_kb hk2 (unhide HB01) (by simp; omega)
  have hb1 := blk_kb hk2 (unhide HB11) (by simp; omega)
  have hz0 : w.heap.size < w2.heap.size := blk_lt' hb0
  have hz1 : w.heap.size + 1 < w2.heap.size := blk_lt' hb1
  have r := blkA' hb0
  have x := blkX' hb0
  have y := blkA' hb1
  clear hs2 hk2 hb0 hb1 k0 k1 k2 c0 c1
  go_wp2_with fail
  refine (is_any _ rb tb cap s L j e1 p1 _ ((unhide HS2).below ((Below.refl _ _).alloc (Nat.le_refl _) _))).mono ?_
  rintro e w3 ⟨rfl, n, rfl⟩
  go_wp2_with fail
  refine bodyPost_ret (v := .agg #[.int .i64 2, .string (Parl.hd (L.drop i)).text, .int .i64 0, .slice none 0 0]) (by simp [results, Tryz.results149, go_sem, hz0, r]) rfl ?_
  exact ⟨⟨2, (Parl.hd (L.drop i)).text, 0, none, 0, 0⟩, rfl, ⟨j, SB.box (((unhide HS2).below ((Below.refl _ _).alloc (Nat.le_refl _) _)).draws n) (by omega) (by omega) _ _ _ _⟩, (((unhide HK2).alloc _).drewN n).onlyNew (Nat.le_refl _) _ _ _ _⟩

set_option maxHeartbeats 4000000 in
set_option maxRecDepth 100000 in
theorem trm_deep_name (w : World) (rb tb cap : Nat) (s : ByteArray) (L : List Parl.Tok) (i : Nat) (e0 p0 : Int) (d : Nat) (h : SB w rb tb cap s L i e0 p0) (hkk : (Parl.hd (L.drop i)).kind = 2) (hb : 8 < d) :
    Calls Tryz.prog 149 #[.pointer (some ⟨rb, 0, none⟩), .int .i64 (d : Int)] w fun e w' => PErrB rb tb cap s L (if e0 = 0 then 3 else e0) (if e0 = 0 then ((Parl.hd (L.drop i)).pos : Int) else p0) w e w' := by
  obtain ⟨hS, hK, hB0, hB1⟩ := term_boxes (Parl.hd (L.drop i)) h
  unfold boxRB boxTB at hS hK hB0 hB1
  have HS := hide hS
  have HK := hide hK
  have HB0 := hide hB0
  have HB1 := hide hB1
  have hlt := h.hlt
  have htl := h.tblt
  have hk5 := h.kind
  have hz := h.tsize
  clear hS hK hB0 hB1
  obtain ⟨k0, k1, k2⟩ := h.tok
  obtain ⟨c0, c1, c2, c3, f1, f2, f3, own, ne, lt, chain, few, kinds, hlt'⟩ := h
  clear own chain kinds f1 f2 f3 c2 c3
  have BAD := hide (fun W (hW : SB W rb tb cap s L i e0 p0) => bad_any W rb tb cap s L i e0 p0 3 hW)
  have HE := hide (mix_ne (e0 := e0) (er := 3) (by omega))
  generalize (if e0 = 0 then (3 : Int) else e0) = e1 at BAD HE ⊢
  generalize (if e0 = 0 then ((Parl.hd (L.drop i)).pos : Int) else p0) = p1 at BAD ⊢
  have hq : bk (Parl.hd (L.drop i)).kind = 1 := by rw [hkk]; rfl
  rw [hq] at k0 HB1 HS HK HB0
  clear hkk hk5 hq
  go_enter Tryz.func149, Tryz.ntmps149
  go_wp2_with fail
  go_big_region
  go_wp2_with fail
  refine (unhide BAD _ (unhide HS)).mono ?_
  rintro e w1 ⟨rfl, hs1, hk1⟩
  have HS1 := hide hs1
  have HK1 := hide ((unhide HK).trans hk1)
  have HB01 := hide (blk_kb hk1 (unhide HB0) (by simp; omega))
  have HB11 := hide (blk_kb hk1 (unhide HB1) (by simp; omega))
  clear hs1 hk1
  go_wp2_with fail
  refine (pass_any _ rb tb cap s L e1 p1 ⟨i, unhide HS1⟩).mono ?_
  rintro e w2 ⟨rfl, ⟨j, hs2⟩, hk2⟩
  have HS2 := hide hs2
  have HK2 := hide ((unhide HK1).trans hk2)
  have hb0 := blk_kb hk2 (unhide HB01) (by simp; omega)
  have hb1 := blk_kb hk2 (unhide HB11) (by simp; omega)
  have hz0 : w.heap.size < w2.heap.size := blk_lt' hb0
  have hz1 : w.heap.size + 1 < w2.heap.size := blk_lt' hb1
  have r := blkA' hb0
  have x := blkX' hb0
  have y := blkA' hb1
  clear hs2 hk2 hb0 hb1 k0 k1 k2 c0 c1
  go_wp2_with fail
  have d2 : ∀ o, (w2.alloc o).cell? ⟨rb, 2, none⟩ = some (.int .i64 e1) := fun o => ((unhide HS2).below ((Below.refl _ _).alloc (Nat.le_refl _) o)).c2
  have he1 : (e1 != 0) = true := by simpa using unhide HE
  refine (is_any _ rb tb cap s L j e1 p1 _ ((unhide HS2).below ((Below.refl _ _).alloc (Nat.le_refl _) _))).mono ?_
  rintro e w3 ⟨rfl, n, rfl⟩
  generalize Parl.sees (L.drop j) _ = bb
  cases bb
  all_goals
    go_wp2_with fail
    refine bodyPost_ret (v := .agg #[.int .i64 1, .string (Parl.hd (L.drop i)).text, .int .i64 0, .slice none 0 0]) (by simp [results, Tryz.results149, go_sem, hz0, r]) rfl ?_
    exact ⟨⟨1, (Parl.hd (L.drop i)).text, 0, none, 0, 0⟩, rfl, ⟨j, SB.box (((unhide HS2).below ((Below.refl _ _).alloc (Nat.le_refl _) _)).draws n) (by omega) (by omega) _ _ _ _⟩, (((unhide HK2).alloc _).drewN n).onlyNew (Nat.le_refl _) _ _ _ _⟩

end Go.Proofs.YthfjnfcekeknlaaGreatDoor
namespace Go.Proofs.YthfjnfcekeknlaaGreatDoor
open Go.RowKit

set_option maxHeartbeats 4000000 in
set_option maxRecDepth 100000 in
theorem trm_deep_num (w : World) (rb tb cap : Nat) (s : ByteArray) (L : List Parl.Tok) (i : Nat) (e0 p0 : Int) (d : Nat) (h : SB w rb tb cap s L i e0 p0) (hkk : (Parl.hd (L.drop i)).kind = 4) (hb : 6 < (Parl.hd (L.drop i)).text.size ∨ 8 < d) :
    Calls Tryz.prog 149 #[.pointer (some ⟨rb, 0, none⟩), .int .i64 (d : Int)] w fun e w' => PErrB rb tb cap s L (if e0 = 0 then 3 else e0) (if e0 = 0 then ((Parl.hd (L.drop i)).pos : Int) else p0) w e w' := by
  obtain ⟨hS, hK, hB0, hB1⟩ := term_boxes (Parl.hd (L.drop i)) h
  unfold boxRB boxTB at hS hK hB0 hB1
  have HS := hide hS
  have HK := hide hK
  have HB0 := hide hB0
  have HB1 := hide hB1
  have hlt := h.hlt
  have htl := h.tblt
  have hk5 := h.kind
  have hz := h.tsize
  clear hS hK hB0 hB1
  obtain ⟨k0, k1, k2⟩ := h.tok
  obtain ⟨c0, c1, c2, c3, f1, f2, f3, own, ne, lt, chain, few, kinds, hlt'⟩ := h
  clear own chain kinds f1 f2 f3 c2 c3
  have BAD := hide (fun W (hW : SB W rb tb cap s L i e0 p0) => bad_any W rb tb cap s L i e0 p0 3 hW)
  have HE := hide (mix_ne (e0 := e0) (er := 3) (by omega))
  generalize (if e0 = 0 then (3 : Int) else e0) = e1 at BAD HE ⊢
  generalize (if e0 = 0 then ((Parl.hd (L.drop i)).pos : Int) else p0) = p1 at BAD ⊢
  have hq : bk (Parl.hd (L.drop i)).kind = 3 := by rw [hkk]; rfl
  rw [hq] at k0 HB1 HS HK HB0
  clear hkk hk5 hq
  have hcc : 8 < d ∨ (¬ 8 < d ∧ 6 < (Parl.hd (L.drop i)).text.size) := by omega
  clear hb
  generalize (Parl.hd (L.drop i)).text = tx at *
  generalize (Parl.hd (L.drop i)).pos = ps at *
  rcases hcc with hcc | ⟨hcc, hcc2⟩
  · go_enter Tryz.func149, Tryz.ntmps149
    go_wp2_with fail
    go_big_region
    go_wp2_with fail
    refine (unhide BAD _ (unhide HS)).mono ?_
    rintro e w1 ⟨rfl, hs1, hk1⟩
    have HS1 := hide hs1
    have HK1 := hide ((unhide HK).trans hk1)
    have HB01 := hide (blk_kb hk1 (unhide HB0) (by simp; omega))
    have HB11 := hide (blk_kb hk1 (unhide HB1) (by simp; omega))
    clear hs1 hk1
    go_wp2_with fail
    refine (pass_any _ rb tb cap s L e1 p1 ⟨i, unhide HS1⟩).mono ?_
    rintro e w2 ⟨rfl, ⟨j, hs2⟩, hk2⟩
    have HS2 := hide hs2
    have HK2 := hide ((unhide HK1).trans hk2)
    have hb0 := blk_kb hk2 (unhide HB01) (by simp; omega)
    have hb1 := blk_kb hk2 (unhide HB11) (by simp; omega)
    have hz0 : w.heap.size < w2.heap.size := blk_lt' hb0
    have hz1 : w.heap.size + 1 < w2.heap.size := blk_lt' hb1
    have r := blkA' hb0
    have x := blkX' hb0
    have y := blkA' hb1
    clear hs2 hk2 hb0 hb1 k0 k1 k2 c0 c1
    go_wp2_with fail
    refine (number_any _ _ hz).mono ?_
    rintro e w3 ⟨⟨n, rfl⟩, rfl⟩
    go_wp2_with fail
    refine bodyPost_ret (v := .agg #[.int .i64 3, .string ⟨#[]⟩, .int .i64 n, .slice none 0 0]) (by simp [results, Tryz.results149, go_sem, hz0, r]) rfl ?_
    exact ⟨⟨3, ⟨#[]⟩, n, none, 0, 0⟩, rfl, ⟨j, (SB.box (unhide HS2) (by omega) (by omega) _ _ _ _).below ((Below.refl _ _).alloc (Nat.le_refl _) _)⟩, ((unhide HK2).onlyNew (Nat.le_refl _) _ _ _ _).alloc _⟩
  · go_enter Tryz.func149, Tryz.ntmps149
    go_wp2_with fail
    go_big_region
    go_wp2_with fail
    refine (unhide BAD _ (unhide HS)).mono ?_
    rintro e w1 ⟨rfl, hs1, hk1⟩
    have HS1 := hide hs1
    have HK1 := hide ((unhide HK).trans hk1)
    have HB01 := hide (blk_kb hk1 (unhide HB0) (by simp; omega))
    have HB11 := hide (blk_kb hk1 (unhide HB1) (by simp; omega))
    clear hs1 hk1
    go_wp2_with fail
    refine (pass_any _ rb tb cap s L e1 p1 ⟨i, unhide HS1⟩).mono ?_
    rintro e w2 ⟨rfl, ⟨j, hs2⟩, hk2⟩
    have HS2 := hide hs2
    have HK2 := hide ((unhide HK1).trans hk2)
    have hb0 := blk_kb hk2 (unhide HB01) (by simp; omega)
    have hb1 := blk_kb hk2 (unhide HB11) (by simp; omega)
    have hz0 : w.heap.size < w2.heap.size := blk_lt' hb0
    have hz1 : w.heap.size + 1 < w2.heap.size := blk_lt' hb1
    have r := blkA' hb0
    have x := blkX' hb0
    have y := blkA' hb1
    clear hs2 hk2 hb0 hb1 k0 k1 k2 c0 c1
    go_wp2_with fail
    refine (number_any _ _ hz).mono ?_
    rintro e w3 ⟨⟨n, rfl⟩, rfl⟩
    go_wp2_with fail
    refine bodyPost_ret (v := .agg #[.int .i64 3, .string ⟨#[]⟩, .int .i64 n, .slice none 0 0]) (by simp [results, Tryz.results149, go_sem, hz0, r]) rfl ?_
    exact ⟨⟨3, ⟨#[]⟩, n, none, 0, 0⟩, rfl, ⟨j, (SB.box (unhide HS2) (by omega) (by omega) _ _ _ _).below ((Below.refl _ _).alloc (Nat.le_refl _) _)⟩, ((unhide HK2).onlyNew (Nat.le_refl _) _ _ _ _).alloc _⟩

end Go.Proofs.YthfjnfcekeknlaaGreatDoor
namespace Go.Proofs.YthfjnfcekeknlaaGreatDoor
open Go.RowKit

def mayR (d : Nat) (t : Parl.Tok) : Nat := if Parl.begins t = true then (if t.kind = 4 ∧ 6 < t.text.size ∨ 8 < d then 3 else 0) else 2

/-- Whatever stands there: where it may not, that is wrong. -/
theorem trm_bad (w : World) (rb tb cap : Nat) (s : ByteArray) (L : List Parl.Tok) (i : Nat) (e0 p0 : Int) (d : Nat) (h : SB w rb tb cap s L i e0 p0) (hm : mayR d (Parl.hd (L.drop i)) ≠ 0) :
    Calls Tryz.prog 149 #[.pointer (some ⟨rb, 0, none⟩), .int .i64 (d : Int)] w fun e w' => PErrB rb tb cap s L (if e0 = 0 then (mayR d (Parl.hd (L.drop i)) : Int) else e0) (if e0 = 0 then ((Parl.hd (L.drop i)).pos : Int) else p0) w e w' := by
  by_cases hk : (Parl.hd (L.drop i)).kind = 2 ∨ (Parl.hd (L.drop i)).kind = 3 ∨ (Parl.hd (L.drop i)).kind = 4
  · have hb : Parl.begins (Parl.hd (L.drop i)) = true := by simp [Parl.begins]; omega
    by_cases hc : (Parl.hd (L.drop i)).kind = 4 ∧ 6 < (Parl.hd (L.drop i)).text.size ∨ 8 < d
    · rw [show mayR d (Parl.hd (L.drop i)) = 3 by unfold mayR; rw [if_pos hb, if_pos hc]]
      rcases hk with hk | hk | hk
      · exact trm_deep_name w rb tb cap s L i e0 p0 d h hk (by omega)
      · exact trm_deep_var w rb tb cap s L i e0 p0 d h hk (by omega)
      · exact trm_deep_num w rb tb cap s L i e0 p0 d h hk (by omega)
    · exact absurd (show mayR d (Parl.hd (L.drop i)) = 0 by unfold mayR; rw [if_pos hb, if_neg hc]) hm
  · have hb : ¬ Parl.begins (Parl.hd (L.drop i)) = true := by simp [Parl.begins]; omega
    rw [show mayR d (Parl.hd (L.drop i)) = 2 by unfold mayR; rw [if_neg hb]]
    exact trm_nobegin w rb tb cap s L i e0 p0 d h hk
/-- Behind an error. -/
theorem trm_err (w : World) (rb tb cap : Nat) (s : ByteArray) (L : List Parl.Tok) (e0 p0 : Int) (d : Nat) (h : EB w rb tb cap s L e0 p0) (he : e0 ≠ 0) :
    Calls Tryz.prog 149 #[.pointer (some ⟨rb, 0, none⟩), .int .i64 (d : Int)] w fun e w' => PErrB rb tb cap s L e0 p0 w e w' := by
  obtain ⟨i, h⟩ := h
  by_cases hm : mayR d (Parl.hd (L.drop i)) = 0
  · have hb : Parl.begins (Parl.hd (L.drop i)) = true := by
      unfold mayR at hm
      by_cases hb : Parl.begins (Parl.hd (L.drop i)) = true
      · exact hb
      · rw [if_neg hb] at hm; omega
    have hc : ¬ ((Parl.hd (L.drop i)).kind = 4 ∧ 6 < (Parl.hd (L.drop i)).text.size ∨ 8 < d) := fun q => by unfold mayR at hm; rw [if_pos hb, if_pos q] at hm; omega
    rcases (show (Parl.hd (L.drop i)).kind = 2 ∨ (Parl.hd (L.drop i)).kind = 3 ∨ (Parl.hd (L.drop i)).kind = 4 by simpa [Parl.begins, or_assoc] using hb) with hk | hk | hk
    · exact trm_err_name w rb tb cap s L i e0 p0 d h hk (by omega) he
    · exact trm_err_var w rb tb cap s L i e0 p0 d h hk (by omega) he
    · exact trm_err_num w rb tb cap s L i e0 p0 d h hk (by omega) (by omega) he
  · have := trm_bad w rb tb cap s L i e0 p0 d h hm
    rw [if_neg he, if_neg he] at this
    exact this
end Go.Proofs.YthfjnfcekeknlaaGreatDoor
