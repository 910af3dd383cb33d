import Derived.Test.YthfjnfcekeknlaaGreatDoorU02
import Derived.Deep.LoopGhost
import Derived.Maps.AppendAt
import Derived.Lib.ItoaNum
import Derived.Laws.IdiomStrings
namespace Go.Proofs.YthfjnfcekeknlaaGreatDoor
open Go.RowKit

set_option maxHeartbeats 4000000 in
set_option maxRecDepth 100000 in
theorem trm_deep_num (w : World) (rb tb cap : Nat) (s : ByteArray) (L : List Parl.Tok) (i : Nat) (e0 p0 : Int) (d : Nat) (h : SB w rb tb cap s L i e0 p0) (hkk : (Parl.hd (L.drop i)).kind = 4) (hb : 6 < (Parl.hd (L.drop i)).text.size ∨ 8 < d) :
    Calls Tryz.prog 149 #[.pointer (some ⟨rb, 0, none⟩), .int .i64 (d : Int)] w fun e w' => PErrB rb tb cap s L (if e0 = 0 then 3 else e0) (if e0 = 0 then ((Parl.hd (L.drop i)).pos : Int) else p0) w e w' := by
  obtain ⟨hS, hK, hB0, hB1⟩ := term_boxes (Parl.hd (L.drop i)) h
  unfold boxRB boxTB at hS hK hB0 hB1
  have HS := hide hS
  have HK := hide hK
  have HB0 := hide hB0
  have HB1 := hide hB1
  have hlt := h.hlt
  have htl := h.tblt
  have hk5 := h.kind
  have hz := h.tsize
  clear hS hK hB0 hB1
  obtain ⟨k0, k1, k2⟩ := h.tok
  obtain ⟨c0, c1, c2, c3, f1, f2, f3, own, ne, lt, chain, few, kinds, hlt'⟩ := h
  clear own chain kinds f1 f2 f3 c2 c3
  have BAD := hide (fun W (hW : SB W rb tb cap s L i e0 p0) => bad_any W rb tb cap s L i e0 p0 3 hW)
  have HE := hide (mix_ne (e0 := e0) (er := 3) (by omega))
  generalize (if e0 = 0 then (3 : Int) else e0) = e1 at BAD HE ⊢
  generalize (if e0 = 0 then ((Parl.hd (L.drop i)).pos : Int) else p0) = p1 at BAD ⊢
  have hq : bk (Parl.hd (L.drop i)).kind = 3 := by rw [hkk]; rfl
  rw [hq] at k0 HB1 HS HK HB0
  clear hkk hk5 hq
  have hcc : 8 < d ∨ (¬ 8 < d ∧ 6 < (Parl.hd (L.drop i)).text.size) := by omega
  clear hb
  generalize (Parl.hd (L.drop i)).text = tx at *
  generalize (Parl.hd (L.drop i)).pos = ps at *
  rcases hcc with hcc | ⟨hcc, hcc2⟩
  · go_enter Tryz.func149, Tryz.ntmps149
    go_wp2_with fail
    go_big_region
    go_wp2_with fail
    refine (unhide BAD _ (unhide HS)).mono ?_
    rintro e w1 ⟨rfl, hs1, hk1⟩
    have HS1 := hide hs1
    have HK1 := hide ((unhide HK).trans hk1)
    have HB01 := hide (blk_kb hk1 (unhide HB0) (by simp; omega))
    have HB11 := hide (blk_kb hk1 (unhide HB1) (by simp; omega))
    clear hs1 hk1
    go_wp2_with fail
    refine (pass_any _ rb tb cap s L e1 p1 ⟨i, unhide HS1⟩).mono ?_
    rintro e w2 ⟨rfl, ⟨j, hs2⟩, hk2⟩
    have HS2 := hide hs2
    have HK2 := hide ((unhide HK1).trans hk2)
    have hb0 := blk_kb hk2 (unhide HB01) (by simp; omega)
    have hb1 := blk_kb hk2 (unhide HB11) (by simp; omega)
    have hz0 : w.heap.size < w2.heap.size := blk_lt' hb0
    have hz1 : w.heap.size + 1 < w2.heap.size := blk_lt' hb1
    have r := blkA' hb0
    have x := blkX' hb0
    have y := blkA' hb1
    clear hs2 hk2 hb0 hb1 k0 k1 k2 c0 c1
    go_wp2_with fail
    refine (number_any _ _ hz).mono ?_
    rintro e w3 ⟨⟨n, rfl⟩, rfl⟩
    go_wp2_with fail
    refine bodyPost_ret (v := .agg #[.int .i64 3, .string ⟨#[]⟩, .int .i64 n, .slice none 0 0]) (by simp [results, Tryz.results149, go_sem, hz0, r]) rfl ?_
    exact ⟨⟨3, ⟨#[]⟩, n, none, 0, 0⟩, rfl, ⟨j, (SB.box (unhide HS2) (by omega) (by omega) _ _ _ _).below ((Below.refl _ _).alloc (Nat.le_refl _) _)⟩, ((unhide HK2).onlyNew (Nat.le_refl _) _ _ _ _).alloc _⟩
  · go_enter Tryz.func149, Tryz.ntmps149
    go_wp2_with fail
    go_big_region
    go_wp2_with fail
    refine (unhide BAD _ (unhide HS)).mono ?_
    rintro e w1 ⟨rfl, hs1, hk1⟩
    have HS1 := hide hs1
    have HK1 := hide ((unhide HK).trans hk1)
    have HB01 := hide (blk_kb hk1 (unhide HB0) (by simp; omega))
    have HB11 := hide (blk_kb hk1 (unhide HB1) (by simp; omega))
    clear hs1 hk1
    go_wp2_with fail
    refine (pass_any _ rb tb cap s L e1 p1 ⟨i, unhide HS1⟩).mono ?_
    rintro e w2 ⟨rfl, ⟨j, hs2⟩, hk2⟩
    have HS2 := hide hs2
    have HK2 := hide ((unhide HK1).trans hk2)
    have hb0 := blk_kb hk2 (unhide HB01) (by simp; omega)
    have hb1 := blk_kb hk2 (unhide HB11) (by simp; omega)
    have hz0 : w.heap.size < w2.heap.size := blk_lt' hb0
    have hz1 : w.heap.size + 1 < w2.heap.size := blk_lt' hb1
    have r := blkA' hb0
    have x := blkX' hb0
    have y := blkA' hb1
    clear hs2 hk2 hb0 hb1 k0 k1 k2 c0 c1
    go_wp2_with fail
    refine (number_any _ _ hz).mono ?_
    rintro e w3 ⟨⟨n, rfl⟩, rfl⟩
    go_wp2_with fail
    refine bodyPost_ret (v := .agg #[.int .i64 3, .string ⟨#[]⟩, .int .i64 n, .slice none 0 0]) (by simp [results, Tryz.results149, go_sem, hz0, r]) rfl ?_
    exact ⟨⟨3, ⟨#[]⟩, n, none, 0, 0⟩, rfl, ⟨j, (SB.box (unhide HS2) (by omega) (by omega) _ _ _ _).below ((Below.refl _ _).alloc (Nat.le_refl _) _)⟩, ((unhide HK2).onlyNew (Nat.le_refl _) _ _ _ _).alloc _⟩

end Go.Proofs.YthfjnfcekeknlaaGreatDoor
namespace Go.Proofs.YthfjnfcekeknlaaGreatDoor
open Go.RowKit

def mayR (d : Nat) (t : Parl.Tok) : Nat := if Parl.begins t = true then (if t.kind = 4 ∧ 6 < t.text.size ∨ 8 < d then 3 else 0) else 2

/-- Whatever stands there: where it may not, that is wrong. -/
theorem trm_bad (w : World) (rb tb cap : Nat) (s : ByteArray) (L : List Parl.Tok) (i : Nat) (e0 p0 : Int) (d : Nat) (h : SB w rb tb cap s L i e0 p0) (hm : mayR d (Parl.hd (L.drop i)) ≠ 0) :
    Calls Tryz.prog 149 #[.pointer (some ⟨rb, 0, none⟩), .int .i64 (d : Int)] w fun e w' => PErrB rb tb cap s L (if e0 = 0 then (mayR d (Parl.hd (L.drop i)) : Int) else e0) (if e0 = 0 then ((Parl.hd (L.drop i)).pos : Int) else p0) w e w' := by
  by_cases hk : (Parl.hd (L.drop i)).kind = 2 ∨ (Parl.hd (L.drop i)).kind = 3 ∨ (Parl.hd (L.drop i)).kind = 4
  · have hb : Parl.begins (Parl.hd (L.drop i)) = true := by simp [Parl.begins]; omega
    by_cases hc : (Parl.hd (L.drop i)).kind = 4 ∧ 6 < (Parl.hd (L.drop i)).text.size ∨ 8 < d
    · rw [show mayR d (Parl.hd (L.drop i)) = 3 by unfold mayR; rw [if_pos hb, if_pos hc]]
      rcases hk with hk | hk | hk
      · exact trm_deep_name w rb tb cap s L i e0 p0 d h hk (by omega)
      · exact trm_deep_var w rb tb cap s L i e0 p0 d h hk (by omega)
      · exact trm_deep_num w rb tb cap s L i e0 p0 d h hk (by omega)
    · exact absurd (show mayR d (Parl.hd (L.drop i)) = 0 by unfold mayR; rw [if_pos hb, if_neg hc]) hm
  · have hb : ¬ Parl.begins (Parl.hd (L.drop i)) = true := by simp [Parl.begins]; omega
    rw [show mayR d (Parl.hd (L.drop i)) = 2 by unfold mayR; rw [if_neg hb]]
    exact trm_nobegin w rb tb cap s L i e0 p0 d h hk
/-- Behind an error. -/
theorem trm_err (w : World) (rb tb cap : Nat) (s : ByteArray) (L : List Parl.Tok) (e0 p0 : Int) (d : Nat) (h : EB w rb tb cap s L e0 p0) (he : e0 ≠ 0) :
    Calls Tryz.prog 149 #[.pointer (some ⟨rb, 0, none⟩), .int .i64 (d : Int)] w fun e w' => PErrB rb tb cap s L e0 p0 w e w' := by
  obtain ⟨i, h⟩ := h
  by_cases hm : mayR d (Parl.hd (L.drop i)) = 0
  · have hb : Parl.begins (Parl.hd (L.drop i)) = true := by
      unfold mayR at hm
      by_cases hb : Parl.begins (Parl.hd (L.drop i)) = true
      · exact hb
      · rw [if_neg hb] at hm; omega
    have hc : ¬ ((Parl.hd (L.drop i)).kind = 4 ∧ 6 < (Parl.hd (L.drop i)).text.size ∨ 8 < d) := fun q => by unfold mayR at hm; rw [if_pos hb, if_pos q] at hm; omega
    rcases (show (Parl.hd (L.drop i)).kind = 2 ∨ (Parl.hd (L.drop i)).kind = 3 ∨ (Parl.hd (L.drop i)).kind = 4 by simpa [Parl.begins, or_assoc] using hb) with hk | hk | hk
    · exact trm_err_name w rb tb cap s L i e0 p0 d h hk (by omega) he
    · exact trm_err_var w rb tb cap s L i e0 p0 d h hk (by omega) he
    · exact trm_err_num w rb tb cap s L i e0 p0 d h hk (by omega) (by omega) he
  · have := trm_bad w rb tb cap s L i e0 p0 d h hm
    rw [if_neg he, if_neg he] at this
    exact this
end Go.Proofs.YthfjnfcekeknlaaGreatDoor
namespace Go.Proofs.YthfjnfcekeknlaaGreatDoor
open Go.RowKit

set_option maxHeartbeats 4000000 in
set_option maxRecDepth 100000 in
theorem trm_num (w : World) (rb tb cap : Nat) (s : ByteArray) (L : List Parl.Tok) (i : Nat) (p0 : Int) (d : Nat) (h : SB w rb tb cap s L i 0 p0) (hkk : (Parl.hd (L.drop i)).kind = 4) (hd8 : d ≤ 8) (h6 : (Parl.hd (L.drop i)).text.size ≤ 6) :
    Calls Tryz.prog 149 #[.pointer (some ⟨rb, 0, none⟩), .int .i64 (d : Int)] w fun e w' => PTermB rb tb cap s L p0 (.inr (⟨4, (Parl.hd (L.drop i)).text, []⟩, (L.drop i).tail)) w e w' := by
  obtain ⟨hS, hK, hB0, hB1⟩ := term_boxes (Parl.hd (L.drop i)) h
  unfold boxRB boxTB at hS hK hB0 hB1
  have HS := hide hS
  have HK := hide hK
  have HB0 := hide hB0
  have HB1 := hide hB1
  have hlt := h.hlt
  have htl := h.tblt
  have hz := h.tsize
  have hk0 := hide (show (Parl.hd (L.drop i)).kind ≠ 0 by omega)
  have HT := hide (show (L.drop i).tail = L.drop (i + 1) by simp)
  clear hS hK hB0 hB1
  obtain ⟨k0, k1, k2⟩ := h.tok
  obtain ⟨c0, c1, c2, c3, f1, f2, f3, own, ne, lt, chain, few, kinds, hlt'⟩ := h
  clear own chain kinds f1 f2 f3 c2 c3
  have hq : bk (Parl.hd (L.drop i)).kind = 3 := by rw [hkk]; rfl
  rw [hq] at k0 HB1 HS HK HB0
  clear hkk hq
  go_enter Tryz.func149, Tryz.ntmps149
  go_wp2_with fail
  go_big_region
  go_wp2_with fail
  refine (pass_on _ rb tb cap s L i 0 p0 (unhide HS) (unhide hk0)).mono ?_
  rintro e w2 ⟨rfl, hs2, hk2⟩
  have HS2 := hide hs2
  have HK2 := hide ((unhide HK).trans hk2)
  have hb0 := blk_kb hk2 (unhide HB0) (by simp; omega)
  have hb1 := blk_kb hk2 (unhide HB1) (by simp; omega)
  have hz0 : w.heap.size < w2.heap.size := blk_lt' hb0
  have hz1 : w.heap.size + 1 < w2.heap.size := blk_lt' hb1
  have r := blkA' hb0
  have x := blkX' hb0
  have y := blkA' hb1
  have HB02 := hide hb0
  clear hs2 hk2 hb0 hb1 k0 k1 k2 c0 c1
  go_wp2_with fail
  refine (number_is _ _ h6).mono ?_
  rintro e w3 ⟨rfl, rfl⟩
  go_wp2_with fail
  refine bodyPost_ret (v := .agg #[.int .i64 3, .string ⟨#[]⟩, .int .i64 (Parl.numOf (Parl.hd (L.drop i)).text), .slice none 0 0]) (by simp [results, Tryz.results149, go_sem, hz0, r]) rfl ?_
  exact ⟨⟨#[]⟩, _, none, 0, i + 1, rfl, fun q => absurd rfl q, (unhide HT).symm, (SB.box (unhide HS2) (by omega) (by omega) _ _ _ _).below ((Below.refl _ _).alloc (Nat.le_refl _) _), ((unhide HK2).onlyNew (Nat.le_refl _) _ _ _ _).alloc _, VB.leaf ⟨rfl, rfl, fun q => absurd rfl q, fun _ => ⟨rfl, h6, rfl⟩, hz, by simp⟩ rfl⟩

set_option maxHeartbeats 4000000 in
set_option maxRecDepth 100000 in
theorem trm_var (w : World) (rb tb cap : Nat) (s : ByteArray) (L : List Parl.Tok) (i : Nat) (p0 : Int) (d : Nat) (h : SB w rb tb cap s L i 0 p0) (hkk : (Parl.hd (L.drop i)).kind = 3) (hd8 : d ≤ 8) :
    Calls Tryz.prog 149 #[.pointer (some ⟨rb, 0, none⟩), .int .i64 (d : Int)] w fun e w' => PTermB rb tb cap s L p0 (.inr (⟨3, (Parl.hd (L.drop i)).text, []⟩, (L.drop i).tail)) w e w' := by
  obtain ⟨hS, hK, hB0, hB1⟩ := term_boxes (Parl.hd (L.drop i)) h
  unfold boxRB boxTB at hS hK hB0 hB1
  have HS := hide hS
  have HK := hide hK
  have HB0 := hide hB0
  have HB1 := hide hB1
  have hlt := h.hlt
  have htl := h.tblt
  have hz := h.tsize
  have hk0 := hide (show (Parl.hd (L.drop i)).kind ≠ 0 by omega)
  have HT := hide (show (L.drop i).tail = L.drop (i + 1) by simp)
  clear hS hK hB0 hB1
  obtain ⟨k0, k1, k2⟩ := h.tok
  obtain ⟨c0, c1, c2, c3, f1, f2, f3, own, ne, lt, chain, few, kinds, hlt'⟩ := h
  clear own chain kinds f1 f2 f3 c2 c3
  have hq : bk (Parl.hd (L.drop i)).kind = 2 := by rw [hkk]; rfl
  rw [hq] at k0 HB1 HS HK HB0
  clear hkk hq
  go_enter Tryz.func149, Tryz.ntmps149
  go_wp2_with fail
  go_big_region
  go_wp2_with fail
  refine (pass_on _ rb tb cap s L i 0 p0 (unhide HS) (unhide hk0)).mono ?_
  rintro e w2 ⟨rfl, hs2, hk2⟩
  have HS2 := hide hs2
  have HK2 := hide ((unhide HK).trans hk2)
  have hb0 := blk_kb hk2 (unhide HB0) (by simp; omega)
  have hb1 := blk_kb hk2 (unhide HB1) (by simp; omega)
  have hz0 : w.heap.size < w2.heap.size := blk_lt' hb0
  have hz1 : w.heap.size + 1 < w2.heap.size := blk_lt' hb1
  have r := blkA' hb0
  have x := blkX' hb0
  have y := blkA' hb1
  have HB02 := hide hb0
  clear hs2 hk2 hb0 hb1 k0 k1 k2 c0 c1
  go_wp2_with fail
  refine (is_any _ rb tb cap s L (i + 1) 0 p0 _ ((unhide HS2).below ((Below.refl _ _).alloc (Nat.le_refl _) _))).mono ?_
  rintro e w3 ⟨rfl, n, rfl⟩
  go_wp2_with fail
  refine bodyPost_ret (v := .agg #[.int .i64 2, .string (Parl.hd (L.drop i)).text, .int .i64 0, .slice none 0 0]) (by simp [results, Tryz.results149, go_sem, hz0, r]) rfl ?_
  exact ⟨_, 0, none, 0, i + 1, rfl, fun _ => rfl, (unhide HT).symm, SB.box (((unhide HS2).below ((Below.refl _ _).alloc (Nat.le_refl _) _)).draws n) (by omega) (by omega) _ _ _ _, (((unhide HK2).alloc _).drewN n).onlyNew (Nat.le_refl _) _ _ _ _, VB.leaf ⟨rfl, rfl, fun _ => ⟨rfl, rfl⟩, fun q => absurd q (by simp), hz, by simp⟩ rfl⟩

set_option maxHeartbeats 4000000 in
set_option maxRecDepth 100000 in
theorem trm_atom (w : World) (rb tb cap : Nat) (s : ByteArray) (L : List Parl.Tok) (i : Nat) (p0 : Int) (d : Nat) (h : SB w rb tb cap s L i 0 p0) (hkk : (Parl.hd (L.drop i)).kind = 2) (hd8 : d ≤ 8) (hop : Parl.sees (L.drop (i + 1)) [40] = false) :
    Calls Tryz.prog 149 #[.pointer (some ⟨rb, 0, none⟩), .int .i64 (d : Int)] w fun e w' => PTermB rb tb cap s L p0 (.inr (⟨2, (Parl.hd (L.drop i)).text, []⟩, (L.drop i).tail)) w e w' := by
  obtain ⟨hS, hK, hB0, hB1⟩ := term_boxes (Parl.hd (L.drop i)) h
  unfold boxRB boxTB at hS hK hB0 hB1
  have HS := hide hS
  have HK := hide hK
  have HB0 := hide hB0
  have HB1 := hide hB1
  have hlt := h.hlt
  have htl := h.tblt
  have hz := h.tsize
  have hk0 := hide (show (Parl.hd (L.drop i)).kind ≠ 0 by omega)
  have HT := hide (show (L.drop i).tail = L.drop (i + 1) by simp)
  clear hS hK hB0 hB1
  obtain ⟨k0, k1, k2⟩ := h.tok
  obtain ⟨c0, c1, c2, c3, f1, f2, f3, own, ne, lt, chain, few, kinds, hlt'⟩ := h
  clear own chain kinds f1 f2 f3 c2 c3
  have hq : bk (Parl.hd (L.drop i)).kind = 1 := by rw [hkk]; rfl
  rw [hq] at k0 HB1 HS HK HB0
  clear hkk hq
  go_enter Tryz.func149, Tryz.ntmps149
  go_wp2_with fail
  go_big_region
  go_wp2_with fail
  refine (pass_on _ rb tb cap s L i 0 p0 (unhide HS) (unhide hk0)).mono ?_
  rintro e w2 ⟨rfl, hs2, hk2⟩
  have HS2 := hide hs2
  have HK2 := hide ((unhide HK).trans hk2)
  have hb0 := blk_kb hk2 (unhide HB0) (by simp; omega)
  have hb1 := blk_kb hk2 (unhide HB1) (by simp; omega)
  have hz0 : w.heap.size < w2.heap.size := blk_lt' hb0
  have hz1 : w.heap.size + 1 < w2.heap.size := blk_lt' hb1
  have r := blkA' hb0
  have x := blkX' hb0
  have y := blkA' hb1
  have HB02 := hide hb0
  clear hs2 hk2 hb0 hb1 k0 k1 k2 c0 c1
  go_wp2_with fail
  refine (is_any _ rb tb cap s L (i + 1) 0 p0 _ ((unhide HS2).below ((Below.refl _ _).alloc (Nat.le_refl _) _))).mono ?_
  rintro e w3 ⟨rfl, n, rfl⟩
  simp only [ByteArray.toList_mk]
  rw [hop]
  go_wp2_with fail
  refine bodyPost_ret (v := .agg #[.int .i64 1, .string (Parl.hd (L.drop i)).text, .int .i64 0, .slice none 0 0]) (by simp [results, Tryz.results149, go_sem, hz0, r]) rfl ?_
  exact ⟨_, 0, none, 0, i + 1, rfl, fun _ => rfl, (unhide HT).symm, SB.box (((unhide HS2).below ((Below.refl _ _).alloc (Nat.le_refl _) _)).draws n) (by omega) (by omega) _ _ _ _, (((unhide HK2).alloc _).drewN n).onlyNew (Nat.le_refl _) _ _ _ _, VB.leaf ⟨rfl, rfl, fun _ => ⟨rfl, rfl⟩, fun q => absurd q (by simp), hz, by simp⟩ rfl⟩

end Go.Proofs.YthfjnfcekeknlaaGreatDoor
namespace Go.Proofs.YthfjnfcekeknlaaGreatDoor
open Go.RowKit

theorem Tryz.info109 : (Tryz.prog.info? 109).map (fun i => (i.zero, i.size, i.bytes)) = some (some (.agg #[.int .i64 0, .string ⟨#[]⟩, .int .i64 0, .slice none 0 0]), 4, 56) := by kernel_rfl

def TrmSaid (f : Nat) : Prop := ∀ (w : World) (rb tb cap : Nat) (s : ByteArray) (L : List Parl.Tok) (i : Nat) (p0 : Int) (d : Nat), f + d = 9 → SB w rb tb cap s L i 0 p0 →
  Calls Tryz.prog 149 #[.pointer (some ⟨rb, 0, none⟩), .int .i64 (d : Int)] w fun e w' => PTermB rb tb cap s L p0 (Parl.term f (L.drop i)) w e w'

/-- How the reader stands behind a term, error or not. -/
def UniR {α : Type} (L : List Parl.Tok) (p0 : Int) (r : Parl.Res α) (j : Nat) (e1 p1 : Int) : Prop := match r with
  | .inl (er, pos) => e1 = (er : Int) ∧ p1 = (pos : Int) ∧ e1 ≠ 0
  | .inr (_, l1) => e1 = 0 ∧ p1 = p0 ∧ L.drop j = l1
def ValB (w w' : World) (r : Parl.Res Parl.Tm) (a : BV) : Prop := match r with
  | .inl _ => True
  | .inr (t, _) => VB (fun g => w.heap.size ≤ g) w' a t
def PUni (rb tb cap : Nat) (s : ByteArray) (L : List Parl.Tok) (p0 : Int) (r : Parl.Res Parl.Tm) (w : World) (e : Ending) (w' : World) : Prop :=
  ∃ (a : BV) (j : Nat) (e1 p1 : Int), e = .returned (.agg #[.int .i64 a.k, .string a.nm, .int .i64 a.num, .slice a.ao a.n a.cap]) ∧ SB w' rb tb cap s L j e1 p1 ∧ KB [rb] w w' ∧ UniR L p0 r j e1 p1 ∧ ValB w w' r a

theorem trm_uni {f : Nat} (IH : TrmSaid f) (w : World) (rb tb cap : Nat) (s : ByteArray) (L : List Parl.Tok) (i : Nat) (p0 : Int) (d : Nat) (hfd : f + d = 9) (h : SB w rb tb cap s L i 0 p0) :
    Calls Tryz.prog 149 #[.pointer (some ⟨rb, 0, none⟩), .int .i64 (d : Int)] w fun e w' => PUni rb tb cap s L p0 (Parl.term f (L.drop i)) w e w' := by
  refine (IH w rb tb cap s L i p0 d hfd h).mono ?_
  have hE := Parl.term_err f (L.drop i)
  generalize Parl.term f (L.drop i) = r at *
  rcases r with ⟨er, pos⟩ | ⟨t, l1⟩
  · rintro e w' ⟨a, rfl, ⟨j, hs⟩, hk⟩
    have := hE _ rfl
    exact ⟨a, j, _, _, rfl, hs, hk, ⟨rfl, rfl, by dsimp only at this; omega⟩, trivial⟩
  · rintro e w' ⟨nm, num, ao, cp, j, rfl, _, hj, hs, hk, hv⟩
    exact ⟨⟨_, nm, num, ao, _, cp⟩, j, _, _, rfl, hs, hk, ⟨rfl, rfl, hj⟩, hv⟩

theorem SB.blw {w w' : World} {rb tb cap B : Nat} {s : ByteArray} {L : List Parl.Tok} {i : Nat} {e p : Int} (h : SB w rb tb cap s L i e p) (hb : Below B w w') (h1 : rb < B) (h2 : tb < B) : SB w' rb tb cap s L i e p := by
  have c : ∀ o, w'.cell? ⟨rb, o, none⟩ = w.cell? ⟨rb, o, none⟩ := fun o => hb.cell (p := ⟨rb, o, none⟩) h1
  have f : ∀ o, w'.frozen? ⟨rb, o, none⟩ = w.frozen? ⟨rb, o, none⟩ := fun o => hb.frozen (p := ⟨rb, o, none⟩) h1
  refine ⟨(c 0).trans h.c0, (c 1).trans h.c1, (c 2).trans h.c2, (c 3).trans h.c3, (f 1).trans h.f1, (f 2).trans h.f2, (f 3).trans h.f3, ⟨h.own.1, ?_⟩, h.ne, h.lt, h.chain, h.few, h.kinds, by have := hb.size; have := h.hlt; omega⟩
  rcases h.own.2 with ⟨q, _⟩ | ⟨g, cp, cur, a, b', c', d⟩
  · cases q
  · refine Or.inr ⟨g, cp, cur, a, b', ?_, d⟩
    simp only [Value.slice.injEq, Option.some.injEq, Addr.mk.injEq, and_true, true_and] at a
    obtain ⟨rfl, rfl⟩ := a
    rw [hb.block tb h2]
    exact c'

theorem own_at {w w' : World} {b0 : Nat} {e : TypeId} {sz : Nat} {v : Value} {n : Nat} {xs : List Value} (h : w.ownsRow b0 e sz v n xs) (hb : ∀ k, b0 ≤ k → k < w.heap.size → w'.heap[k]? = w.heap[k]?) : w'.ownsRow b0 e sz v n xs :=
  ⟨h.1, h.2.imp id fun ⟨g, cap, cur, a, b, c, d⟩ => ⟨g, cap, cur, a, b, (hb g b (Array.getElem?_eq_some_iff.1 c).1).trans c, d⟩⟩
theorem own_kb {w w' : World} {b0 : Nat} {e : TypeId} {sz : Nat} {v : Value} {n : Nat} {xs : List Value} {X : List Nat} (h : w.ownsRow b0 e sz v n xs) (hk : KB X w w') (hX : ∀ x ∈ X, x < b0) : w'.ownsRow b0 e sz v n xs :=
  own_at h (fun k hk1 hk2 => hk.block k hk2 (fun q => by have := hX k q; omega))

/-- What has been read lies there, beside the boxes and the row. -/
def RowB (w : World) (b0 b2 b3 : Nat) (av : Value) (xs : List Value) (wr : World) (ts : List Parl.Tm) : Prop :=
  ∃ us : List BV, xs = us.flatMap bvC ∧ All2 (VB (fun g => w.heap.size ≤ g ∧ g ≠ b0 ∧ g ≠ b2 ∧ g ≠ b3 ∧ some g ≠ av.ownBlock) wr) us ts
/-- The loop's relation. -/
def LB (w : World) (rb tb cap : Nat) (s : ByteArray) (L : List Parl.Tok) (p0 : Int) (f : Nat) (l0 : List Parl.Tok) (b0 b2 b3 : Nat) (tx : ByteArray) (k : Nat) (more : Value) (wr : World) : Prop :=
  ∃ (n : Nat) (av : Value) (xs : List Value) (a : BV) (j : Nat) (e1 p1 : Int), more = .bool (Parl.sees (L.drop j) [44]) ∧ SB wr rb tb cap s L j e1 p1 ∧ KB [rb] w wr ∧
    wr.heap[b0]? = some (.cells #[.int .i64 0, .string ⟨#[]⟩, .int .i64 0, .slice none 0 0] 109 (0, 0)) ∧
    wr.heap[b2]? = some (.cells #[.int .i64 1, .string tx, .int .i64 0, av] 109 (0, 0)) ∧
    wr.heap[b3]? = some (.cells #[.int .i64 a.k, .string a.nm, .int .i64 a.num, .slice a.ao a.n a.cap] 109 (0, 0)) ∧
    wr.ownsRow (b3 + 1) 109 4 av n xs ∧ 1 ≤ n ∧ n ≤ 4 ∧ k + n = 5 ∧
    ((e1 = 0 ∧ p1 = p0 ∧ n ≤ 3 ∧ ∃ ts : List Parl.Tm, ts.length = n ∧ Parl.argsOf (Parl.term f) 2 l0 = Parl.preT ts (Parl.contArgs (Parl.term f) (3 - n) (L.drop j)) ∧ RowB w b0 b2 b3 av xs wr ts) ∨
     (e1 ≠ 0 ∧ ∃ er pos : Nat, e1 = (er : Int) ∧ p1 = (pos : Int) ∧ Parl.argsOf (Parl.term f) 2 l0 = .inl (er, pos)))

theorem new4 (W : World) (o : Obj) (a b c d : Value) (T : TypeId) : ∀ j u, ([a, b, c, d] : List Value)[j]? = some u → ((W.alloc o).alloc (.cells #[a, b, c, d] T)).cell? ((⟨W.heap.size + 1, 0, none⟩ : Addr).add j) = some u := by
  intro j u hj
  match j, hj with
  | 0, hj => simp at hj; subst hj; simp [Addr.add]
  | 1, hj => simp at hj; subst hj; simp [Addr.add]
  | 2, hj => simp at hj; subst hj; simp [Addr.add]
  | 3, hj => simp at hj; subst hj; simp [Addr.add]
theorem new4' (W : World) (a b c d : Value) (T : TypeId) : ∀ j u, ([a, b, c, d] : List Value)[j]? = some u → (W.alloc (.cells #[a, b, c, d] T)).cell? ((⟨W.heap.size, 0, none⟩ : Addr).add j) = some u := by
  intro j u hj
  match j, hj with
  | 0, hj => simp at hj; subst hj; simp [Addr.add]
  | 1, hj => simp at hj; subst hj; simp [Addr.add]
  | 2, hj => simp at hj; subst hj; simp [Addr.add]
  | 3, hj => simp at hj; subst hj; simp [Addr.add]
theorem newS (W : World) (n : Nat) (a b c d : Value) (T : TypeId) (hn : n = W.heap.size) : ∀ j u, ([a, b, c, d] : List Value)[j]? = some u → (W.alloc (.cells #[a, b, c, d] T)).cell? ((⟨n, 0, none⟩ : Addr).add j) = some u := by
  subst hn; exact new4' W a b c d T
theorem one4 (a b : Int) (c : ByteArray) (ao : Option Addr) (n cap : Nat) : ∀ u ∈ ([.int .i64 a, .string c, .int .i64 b, .slice ao n cap] : List Value), u.oneCell' = true := by
  intro u hu; simp at hu; rcases hu with rfl | rfl | rfl | rfl <;> rfl
theorem ownB_some {w : World} {b : Nat} {e : TypeId} {sz : Nat} {v : Value} {n : Nat} {xs : List Value} (h : w.ownsRow b e sz v (n + 1) xs) : ∃ g cap, v = .slice (some ⟨g, 0, none⟩) (n + 1) cap ∧ cap ≤ maxLen := by
  rcases h.2 with ⟨_, q⟩ | ⟨g, cap, cur, q, _, _, _, m, _⟩
  · omega
  · exact ⟨g, cap, q, m⟩

/-- What stands behind an append to the arguments. -/
theorem lb_mk {w W w7 : World} {rb tb cap : Nat} {s : ByteArray} {L : List Parl.Tok} {j : Nat} {e1 p1 : Int} {b0 b2 b3 n m : Nat} {tx : ByteArray} {av v' : Value} {xs xs' : List Value} {A : Obj} {C0 C3 : Array Value}
    (hS : SB W rb tb cap s L j e1 p1) (hK : KB [rb] w W) (hr : rb < w.heap.size) (ht : tb < w.heap.size) (h02 : w.heap.size ≤ b2) (_h0 : w.heap.size ≤ b0) (h0' : b0 < b2) (h23 : b2 < b3)
    (hb0 : W.heap[b0]? = some (.cells C0 109 (0, 0))) (hb2 : W.heap[b2]? = some (.cells #[.int .i64 1, .string tx, .int .i64 0, av] 109 (0, 0))) (hb3 : W.heap[b3]? = some (.cells C3 109 (0, 0)))
    (ho : W.ownsRow (b3 + 1) 109 4 av n xs) (hg : (W.alloc A).grownBy w7 av.ownBlock) (ho' : w7.ownsRow (b3 + 1) 109 4 v' (n + 1) xs') :
    SB (w7.setCell ⟨b2, 3, none⟩ v') rb tb cap s L j e1 p1 ∧ KB [rb] w ((w7.setCell ⟨b2, 3, none⟩ v').drewN m) ∧ ((w7.setCell ⟨b2, 3, none⟩ v').drewN m).heap[b0]? = some (.cells C0 109 (0, 0)) ∧
    ((w7.setCell ⟨b2, 3, none⟩ v').drewN m).heap[b2]? = some (.cells #[.int .i64 1, .string tx, .int .i64 0, v'] 109 (0, 0)) ∧ ((w7.setCell ⟨b2, 3, none⟩ v').drewN m).heap[b3]? = some (.cells C3 109 (0, 0)) ∧
    ((w7.setCell ⟨b2, 3, none⟩ v').drewN m).ownsRow (b3 + 1) 109 4 v' (n + 1) xs' := by
  have hl3 : b3 < W.heap.size := blk_lt' hb3
  have hB : Below (b3 + 1) W w7 := ((Below.refl _ _).alloc (by omega) A).grown hg (by simp; omega) (fun k q => (ho.lt k q).1)
  have q0 := (hB.block b0 (by omega)).trans hb0
  have q2 := (hB.block b2 (by omega)).trans hb2
  have q3 := (hB.block b3 (by omega)).trans hb3
  have hS7 : SB w7 rb tb cap s L j e1 p1 := hS.blw hB (by omega) (by omega)
  have hK7 : KB [rb] w w7 := (hK.alloc A).grown hg (fun k q => by have := (ho.lt k q).1; omega)
  refine ⟨hS7.kb (X := [b2]) ((KB.refl _ _).setIn (by simp) _) (by simp; omega) (by simp; omega), (hK7.setNew (by exact h02) _).drewN m, blk_other q0 (by omega) _ _, ?_, blk_other q3 (by omega) _ _, ?_⟩
  · exact blk_set q2 3 v'
  · exact own_at ho' (fun k hk1 hk2 => Below.heap_setCell _ _ _ _ (by show k ≠ b2; omega))

/-- The new term is laid in its box. -/
theorem x_set {w W : World} {rb tb cap : Nat} {s : ByteArray} {L : List Parl.Tok} {j : Nat} {e1 p1 : Int} {b0 b2 b3 n : Nat} {av : Value} {xs : List Value} {C0 C2 : Array Value} {c0 c1 c2 c3 : Value} (v0 v1 v2 v3 : Value)
    (hS : SB W rb tb cap s L j e1 p1) (hK : KB [rb] w W) (hr : rb < w.heap.size) (ht : tb < w.heap.size) (h02 : w.heap.size ≤ b2) (h0' : b0 < b2) (h23 : b2 < b3)
    (hb0 : W.heap[b0]? = some (.cells C0 109 (0, 0))) (hb2 : W.heap[b2]? = some (.cells C2 109 (0, 0))) (hb3 : W.heap[b3]? = some (.cells #[c0, c1, c2, c3] 109 (0, 0)))
    (ho : W.ownsRow (b3 + 1) 109 4 av n xs) :
    SB ((((W.setCell ⟨b3, 0, none⟩ v0).setCell ⟨b3, 1, none⟩ v1).setCell ⟨b3, 2, none⟩ v2).setCell ⟨b3, 3, none⟩ v3) rb tb cap s L j e1 p1 ∧ KB [rb] w ((((W.setCell ⟨b3, 0, none⟩ v0).setCell ⟨b3, 1, none⟩ v1).setCell ⟨b3, 2, none⟩ v2).setCell ⟨b3, 3, none⟩ v3) ∧
    ((((W.setCell ⟨b3, 0, none⟩ v0).setCell ⟨b3, 1, none⟩ v1).setCell ⟨b3, 2, none⟩ v2).setCell ⟨b3, 3, none⟩ v3).heap[b0]? = some (.cells C0 109 (0, 0)) ∧
    ((((W.setCell ⟨b3, 0, none⟩ v0).setCell ⟨b3, 1, none⟩ v1).setCell ⟨b3, 2, none⟩ v2).setCell ⟨b3, 3, none⟩ v3).heap[b2]? = some (.cells C2 109 (0, 0)) ∧
    ((((W.setCell ⟨b3, 0, none⟩ v0).setCell ⟨b3, 1, none⟩ v1).setCell ⟨b3, 2, none⟩ v2).setCell ⟨b3, 3, none⟩ v3).heap[b3]? = some (.cells #[v0, v1, v2, v3] 109 (0, 0)) ∧
    ((((W.setCell ⟨b3, 0, none⟩ v0).setCell ⟨b3, 1, none⟩ v1).setCell ⟨b3, 2, none⟩ v2).setCell ⟨b3, 3, none⟩ v3).ownsRow (b3 + 1) 109 4 av n xs := by
  refine ⟨hS.box (by omega) (by omega) _ _ _ _, hK.onlyNew (by omega) _ _ _ _, blk_other (blk_other (blk_other (blk_other hb0 (by omega) _ _) (by omega) _ _) (by omega) _ _) (by omega) _ _, blk_other (blk_other (blk_other (blk_other hb2 (by omega) _ _) (by omega) _ _) (by omega) _ _) (by omega) _ _, ?_, ?_⟩
  · exact blk_set (blk_set (blk_set (blk_set hb3 0 v0) 1 v1) 2 v2) 3 v3
  · refine own_at ho (fun k hk1 _ => ?_)
    have hne : k ≠ b3 := by omega
    rw [Below.heap_setCell _ _ _ _ hne, Below.heap_setCell _ _ _ _ hne, Below.heap_setCell _ _ _ _ hne, Below.heap_setCell _ _ _ _ hne]

theorem heap_set (w : World) (b i : Nat) (v : Value) {g : Nat} (h : g ≠ b) : (w.setCell ⟨b, i, none⟩ v).heap[g]? = w.heap[g]? := Below.heap_setCell _ _ _ _ h
theorem size_set (w : World) (p : Addr) (v : Value) : (w.setCell p v).heap.size = w.heap.size := by simp [World.setCell]
/-- The first argument lies there. -/
theorem row_first {w w4 w5 w7 : World} {b0 b2 : Nat} {a : BV} {t : Parl.Tm} {X A : Obj} {v' : Value} (hv : VB (fun g => w4.heap.size ≤ g) w5 a t) (h0 : w.heap.size ≤ b0) (h02 : b0 < b2) (h24 : b2 < w4.heap.size) (hg : ((w5.alloc X).alloc A).grownBy w7 none) (hat : v'.ownBlock = none ∨ v'.ownBlock = some ((w5.alloc X).alloc A).heap.size) (m : Nat) (u : Value) (xs : List Value) (hx : xs = bvC a) :
    RowB w b0 b2 w5.heap.size v' xs ((w7.setCell ⟨b2, 3, none⟩ u).drewN m) [t] := by
  refine ⟨[a], by rw [hx]; simp, ⟨hv.keep fun g cs hp hc _ => ?_, trivial⟩⟩
  have hl := (Array.getElem?_eq_some_iff.1 hc).1
  refine ⟨?_, by omega, by omega, by omega, by omega, ?_⟩
  · show (w7.setCell ⟨b2, 3, none⟩ u).heap[g]? = _
    rw [heap_set _ _ _ _ (by omega), hg.block g (by simp; omega) (by simp), Below.heap_alloc _ _ _ (by simp; omega), Below.heap_alloc _ _ _ hl]
    exact hc
  · rcases hat with e | e <;> rw [e] <;> simp
    omega
/-- One more lies there. -/
theorem row_next {w wr wb wc w7 : World} {rb b0 b2 b3 : Nat} {av v' : Value} {xs : List Value} {ts : List Parl.Tm} {a2 : BV} {t : Parl.Tm} {A : Obj} (h : RowB w b0 b2 b3 av xs wr ts) (hr : rb < w.heap.size) (hk : KB [rb] wr wc) (hkb : wr.heap.size ≤ wb.heap.size) (hv : VB (fun g => wb.heap.size ≤ g) wc a2 t) (hl3 : b3 < wr.heap.size) (h23 : b2 < b3) (h02 : b0 < b2) (h0 : w.heap.size ≤ b0) (hav : ∀ k, av.ownBlock = some k → k < wr.heap.size) {v0 v1 v2 v3 : Value}
    (hg : (((((wc.setCell ⟨b3, 0, none⟩ v0).setCell ⟨b3, 1, none⟩ v1).setCell ⟨b3, 2, none⟩ v2).setCell ⟨b3, 3, none⟩ v3).alloc A).grownBy w7 av.ownBlock) (hat : v'.ownBlock = av.ownBlock ∨ v'.ownBlock = some (((((wc.setCell ⟨b3, 0, none⟩ v0).setCell ⟨b3, 1, none⟩ v1).setCell ⟨b3, 2, none⟩ v2).setCell ⟨b3, 3, none⟩ v3).alloc A).heap.size) (m : Nat) (u : Value) (ys : List Value) (hx : ys = bvC a2) :
    RowB w b0 b2 b3 v' (xs ++ ys) ((w7.setCell ⟨b2, 3, none⟩ u).drewN m) (ts ++ [t]) := by
  obtain ⟨us, rfl, ha⟩ := h
  have hsz := hk.size
  have keep : ∀ g, g < wc.heap.size → g ≠ b2 → g ≠ b3 → some g ≠ av.ownBlock → ((w7.setCell ⟨b2, 3, none⟩ u).drewN m).heap[g]? = wc.heap[g]? := fun g h1 h2 h3 h4 => by
    show (w7.setCell ⟨b2, 3, none⟩ u).heap[g]? = _
    rw [heap_set _ _ _ _ h2, hg.block g (by simp; omega) h4, Below.heap_alloc _ _ _ (by simp; omega), heap_set _ _ _ _ h3, heap_set _ _ _ _ h3, heap_set _ _ _ _ h3, heap_set _ _ _ _ h3]
  have away : ∀ g, g < wc.heap.size → some g ≠ av.ownBlock → some g ≠ v'.ownBlock := fun g h1 h2 => by
    rcases hat with e | e <;> rw [e]
    · exact h2
    · simp; omega
  refine ⟨us ++ [a2], by rw [hx]; simp, All2.snoc (hv.keep fun g cs hp hc _ => ?_) (ha.imp fun a t q => q.keep fun g cs hp hc _ => ?_)⟩
  · have hl := (Array.getElem?_eq_some_iff.1 hc).1
    have h4 : some g ≠ av.ownBlock := fun e => by have := hav g e.symm; omega
    exact ⟨(keep g hl (by omega) (by omega) h4).trans hc, by omega, by omega, by omega, by omega, away g hl h4⟩
  · have hl := (Array.getElem?_eq_some_iff.1 hc).1
    obtain ⟨p1, p2, p3, p4, p5⟩ := hp
    have hc' : wc.heap[g]? = some (.cells cs 109 (0, 0)) := (hk.block g hl (by simp; omega)).trans hc
    exact ⟨(keep g (by omega) p3 p4 p5).trans hc', p1, p2, p3, p4, away g (by omega) p5⟩
/-- The whole term lies there. -/
theorem row_end {w wr w9 : World} {rb b2 b3 g n cp : Nat} {xs : List Value} {ts : List Parl.Tm} {tx : ByteArray} (h : RowB w w.heap.size b2 b3 (.slice (some ⟨g, 0, none⟩) n cp) xs wr ts) (ho : wr.ownsRow (b3 + 1) 109 4 (.slice (some ⟨g, 0, none⟩) n cp) n xs) (hts : ts.length = n) (hn3 : n ≤ 3) (htx : tx.size ≤ 240) (hr : rb < w.heap.size) (hb3 : w.heap.size < b3) (hk : KB [rb] wr w9) (v0 v1 v2 v3 : Value) :
    VB (fun g => w.heap.size ≤ g) ((((w9.setCell ⟨w.heap.size, 0, none⟩ v0).setCell ⟨w.heap.size, 1, none⟩ v1).setCell ⟨w.heap.size, 2, none⟩ v2).setCell ⟨w.heap.size, 3, none⟩ v3) ⟨bk 2, tx, 0, some ⟨g, 0, none⟩, ts.length, cp⟩ ⟨2, tx, ts⟩ := by
  obtain ⟨us, rfl, ha⟩ := h
  have keep : ∀ k, k < wr.heap.size → w.heap.size < k → ((((w9.setCell ⟨w.heap.size, 0, none⟩ v0).setCell ⟨w.heap.size, 1, none⟩ v1).setCell ⟨w.heap.size, 2, none⟩ v2).setCell ⟨w.heap.size, 3, none⟩ v3).heap[k]? = wr.heap[k]? := fun k h1 h2 => by
    rw [heap_set _ _ _ _ (by omega), heap_set _ _ _ _ (by omega), heap_set _ _ _ _ (by omega), heap_set _ _ _ _ (by omega)]
    exact hk.block k h1 (by simp; omega)
  rcases ho.2 with ⟨q, _⟩ | ⟨g', cap, cur, q, hb, hc, _, _, _, ht⟩
  · cases q
  · simp only [Value.slice.injEq, Option.some.injEq, Addr.mk.injEq, and_true, true_and] at q
    obtain ⟨rfl, rfl⟩ := q
    have hl := (Array.getElem?_eq_some_iff.1 hc).1
    have hlen := ha.length
    refine VB.node (g := g) (us := us) (cs := cur) ⟨rfl, rfl, fun _ => ⟨rfl, rfl⟩, fun q => absurd q (by simp), htx, by show ts.length ≤ 3; omega⟩ rfl (by omega) ((keep g hl (by omega)).trans hc) (by rw [hlen, hts]; exact ht) (ha.imp fun a t q => q.keep fun k cs hp hc' _ => ?_)
    obtain ⟨p1, p2, _⟩ := hp
    exact ⟨(keep k (Array.getElem?_eq_some_iff.1 hc').1 (by omega)).trans hc', p1⟩

theorem uni_first {f : Nat} {L : List Parl.Tok} {p0 : Int} {l0 : List Parl.Tok} {r : Parl.Res Parl.Tm} {j : Nat} {e1 p1 : Int} (hr : Parl.term f l0 = r) (hu : UniR L p0 r j e1 p1) (R : List Parl.Tm → Prop) (hR : ∀ t l1, r = .inr (t, l1) → R [t]) :
    ((e1 = 0 ∧ p1 = p0 ∧ 1 ≤ 3 ∧ ∃ ts : List Parl.Tm, ts.length = 1 ∧ Parl.argsOf (Parl.term f) 2 l0 = Parl.preT ts (Parl.contArgs (Parl.term f) (3 - 1) (L.drop j)) ∧ R ts) ∨
     (e1 ≠ 0 ∧ ∃ er pos : Nat, e1 = (er : Int) ∧ p1 = (pos : Int) ∧ Parl.argsOf (Parl.term f) 2 l0 = .inl (er, pos))) := by
  rw [Parl.args_cont, hr]
  rcases r with ⟨er, pos⟩ | ⟨t, l1⟩
  · obtain ⟨a, b, c⟩ := hu
    exact Or.inr ⟨c, er, pos, a, b, rfl⟩
  · obtain ⟨a, b, c⟩ := hu
    exact Or.inl ⟨a, b, by omega, [t], rfl, by rw [c], hR t l1 rfl⟩
theorem uni_next {f n : Nat} {L : List Parl.Tok} {p0 : Int} {l0 lj : List Parl.Tok} {ts : List Parl.Tm} {r : Parl.Res Parl.Tm} {j : Nat} {e1 p1 : Int} (hn : n < 3) (hl : ts.length = n) (ht : Parl.argsOf (Parl.term f) 2 l0 = Parl.preT ts (Parl.contArgs (Parl.term f) (3 - n) lj)) (hc : Parl.sees lj [44] = true) (hr : Parl.term f lj.tail = r) (hu : UniR L p0 r j e1 p1) (R : List Parl.Tm → Prop) (hR : ∀ t l1, r = .inr (t, l1) → R (ts ++ [t])) :
    ((e1 = 0 ∧ p1 = p0 ∧ n + 1 ≤ 3 ∧ ∃ ts : List Parl.Tm, ts.length = n + 1 ∧ Parl.argsOf (Parl.term f) 2 l0 = Parl.preT ts (Parl.contArgs (Parl.term f) (3 - (n + 1)) (L.drop j)) ∧ R ts) ∨
     (e1 ≠ 0 ∧ ∃ er pos : Nat, e1 = (er : Int) ∧ p1 = (pos : Int) ∧ Parl.argsOf (Parl.term f) 2 l0 = .inl (er, pos))) := by
  have hk : Parl.contArgs (Parl.term f) (3 - n) lj = Parl.argsOf (Parl.term f) (3 - (n + 1)) lj.tail := by
    unfold Parl.contArgs
    rw [if_pos hc, show 3 - n = (3 - (n + 1)) + 1 by omega]
  rw [ht, hk, Parl.args_cont, hr]
  rcases r with ⟨er, pos⟩ | ⟨t, l1⟩
  · obtain ⟨a, b, c⟩ := hu
    exact Or.inr ⟨c, er, pos, a, b, rfl⟩
  · obtain ⟨a, b, c⟩ := hu
    exact Or.inl ⟨a, b, by omega, ts ++ [t], by simp [hl], by rw [c]; exact Parl.preT_preT _ _ _, hR t l1 rfl⟩
theorem cont_full {f : Nat} {lj : List Parl.Tok} (ts : List Parl.Tm) (hc : Parl.sees lj [44] = true) : Parl.preT ts (Parl.contArgs (Parl.term f) (3 - 3) lj) = .inl (3, (Parl.hd lj).pos) := by
  unfold Parl.contArgs; rw [if_pos hc]; rfl
theorem cont_end {f k : Nat} {lj : List Parl.Tok} (ts : List Parl.Tm) (hc : Parl.sees lj [44] = false) (hb : Parl.sees lj [41] = true) : Parl.preT ts (Parl.contArgs (Parl.term f) k lj) = .inr (ts, lj.tail) := by
  unfold Parl.contArgs; rw [if_neg (by rw [hc]; simp), if_pos hb]; simp [Parl.preT]
theorem cont_bad {f k : Nat} {lj : List Parl.Tok} (ts : List Parl.Tm) (hc : Parl.sees lj [44] = false) (hb : Parl.sees lj [41] = false) : Parl.preT ts (Parl.contArgs (Parl.term f) k lj) = .inl (2, (Parl.hd lj).pos) := by
  unfold Parl.contArgs; rw [if_neg (by rw [hc]; simp), if_neg (by rw [hb]; simp)]; rfl
end Go.Proofs.YthfjnfcekeknlaaGreatDoor
namespace Go.Proofs.YthfjnfcekeknlaaGreatDoor
open Go.RowKit

theorem Signs.below {B : Nat} {w w' : World} (h : Signs w) (hb : Below B w w') (h0 : 0 < B) : Signs w' :=
  ⟨(hb.cell (p := ⟨0, 0, none⟩) h0).trans h.s0, (hb.cell (p := ⟨0, 1, none⟩) h0).trans h.s1, (hb.cell (p := ⟨0, 2, none⟩) h0).trans h.s2, (hb.cell (p := ⟨0, 3, none⟩) h0).trans h.s3, (hb.cell (p := ⟨0, 4, none⟩) h0).trans h.s4⟩
theorem Signs.draws {w : World} (h : Signs w) (n : Nat) : Signs (w.drewN n) := ⟨h.s0, h.s1, h.s2, h.s3, h.s4⟩

theorem kindAt0 {r : ByteArray} (h : r.size = 0) : Parl.kindAt r 0 = 0 := by unfold Parl.kindAt; rw [if_pos (by omega)]
theorem kindAt2 {r : ByteArray} (h : 0 < r.size) (a : Parl.low (r[0].toNat) = true) : Parl.kindAt r 0 = 2 := by unfold Parl.kindAt; rw [if_neg (by omega), Parl.bAt_lt h, if_pos a]
theorem kindAt3 {r : ByteArray} (h : 0 < r.size) (a : Parl.low (r[0].toNat) = false) (b : Parl.upp (r[0].toNat) = true) : Parl.kindAt r 0 = 3 := by unfold Parl.kindAt; rw [if_neg (by omega), Parl.bAt_lt h, if_neg (by simp [a]), if_pos b]
theorem kindAt4 {r : ByteArray} (h : 0 < r.size) (a : Parl.low (r[0].toNat) = false) (b : Parl.upp (r[0].toNat) = false) (c : Parl.dig (r[0].toNat) = true) : Parl.kindAt r 0 = 4 := by unfold Parl.kindAt; rw [if_neg (by omega), Parl.bAt_lt h, if_neg (by simp [a]), if_neg (by simp [b]), if_pos c]
theorem kindAt5 {r : ByteArray} (h : 0 < r.size) (a : Parl.low (r[0].toNat) = false) (b : Parl.upp (r[0].toNat) = false) (c : Parl.dig (r[0].toNat) = false) (d : 0 < Parl.signLen r 0) : Parl.kindAt r 0 = 5 := by unfold Parl.kindAt; rw [if_neg (by omega), Parl.bAt_lt h, if_neg (by simp [a]), if_neg (by simp [b]), if_neg (by simp [c]), if_pos d]
theorem kindAt1 {r : ByteArray} (h : 0 < r.size) (a : Parl.low (r[0].toNat) = false) (b : Parl.upp (r[0].toNat) = false) (c : Parl.dig (r[0].toNat) = false) (d : ¬ 0 < Parl.signLen r 0) : Parl.kindAt r 0 = 1 := by unfold Parl.kindAt; rw [if_neg (by omega), Parl.bAt_lt h, if_neg (by simp [a]), if_neg (by simp [b]), if_neg (by simp [c]), if_neg d]
theorem is_empty {r : ByteArray} (h : r.size = 0) : r.toList.isEmpty = true := by
  rw [ByteArray.toList_eq]
  have := Parl.len_eq r
  cases hx : r.data.toList with
  | nil => rfl
  | cons a l => rw [hx] at this; simp at this; omega

set_option maxHeartbeats 1000000 in
theorem kindOf_any (r : ByteArray) (w : World) (hr : r.size ≤ maxLen) (h : Signs w) : Calls Tryz.prog 72 #[.string r] w fun e w' => e = .returned (.int .i64 ((Parl.kindAt r 0 : Nat) : Int)) ∧ ∃ n, w' = w.drewN n := by
  have hr' := hr
  unfold maxLen at hr'
  have H := h
  by_cases h0 : 0 < r.size
  · have hE := not_empty h0
    cases a : Parl.low (r[0].toNat)
    · cases b : Parl.upp (r[0].toNat)
      · cases c : Parl.dig (r[0].toNat)
        · by_cases d : 0 < Parl.signLen r 0
          · have K := hide (kindAt5 h0 a b c d)
            go_enter Tryz.func72, Tryz.ntmps72
            go_wp2_with (first | (go_at_call 124; refine (isSmall_any _ _).mono ?_; rintro e w' ⟨rfl, rfl⟩) | (go_at_call 126; refine (isDigit_any _ _).mono ?_; rintro e w' ⟨rfl, rfl⟩) | (go_at_call 125; refine (isCapital_any _ _).mono ?_; rintro e w' ⟨rfl, rfl⟩) | (go_at_call 127; refine (signLength_any _ _ hr H).mono ?_; rintro e w' ⟨rfl, n, rfl⟩))
            go_ret
            exact ⟨ret_int (by rw [unhide K]; rfl), n, rfl⟩
          · have K := hide (kindAt1 h0 a b c d)
            go_enter Tryz.func72, Tryz.ntmps72
            go_wp2_with (first | (go_at_call 124; refine (isSmall_any _ _).mono ?_; rintro e w' ⟨rfl, rfl⟩) | (go_at_call 126; refine (isDigit_any _ _).mono ?_; rintro e w' ⟨rfl, rfl⟩) | (go_at_call 125; refine (isCapital_any _ _).mono ?_; rintro e w' ⟨rfl, rfl⟩) | (go_at_call 127; refine (signLength_any _ _ hr H).mono ?_; rintro e w' ⟨rfl, n, rfl⟩))
            go_ret
            exact ⟨ret_int (by rw [unhide K]; rfl), n, rfl⟩
        · have K := hide (kindAt4 h0 a b c)
          go_enter Tryz.func72, Tryz.ntmps72
          go_wp2_with (first | (go_at_call 124; refine (isSmall_any _ _).mono ?_; rintro e w' ⟨rfl, rfl⟩) | (go_at_call 126; refine (isDigit_any _ _).mono ?_; rintro e w' ⟨rfl, rfl⟩) | (go_at_call 125; refine (isCapital_any _ _).mono ?_; rintro e w' ⟨rfl, rfl⟩))
          go_ret
          exact ⟨ret_int (by rw [unhide K]; rfl), 0, rfl⟩
      · have K := hide (kindAt3 h0 a b)
        go_enter Tryz.func72, Tryz.ntmps72
        go_wp2_with (first | (go_at_call 124; refine (isSmall_any _ _).mono ?_; rintro e w' ⟨rfl, rfl⟩) | (go_at_call 125; refine (isCapital_any _ _).mono ?_; rintro e w' ⟨rfl, rfl⟩))
        go_ret
        exact ⟨ret_int (by rw [unhide K]; rfl), 0, rfl⟩
    · have K := hide (kindAt2 h0 a)
      go_enter Tryz.func72, Tryz.ntmps72
      go_wp2_with (first | (go_at_call 124; refine (isSmall_any _ _).mono ?_; rintro e w' ⟨rfl, rfl⟩))
      go_ret
      exact ⟨ret_int (by rw [unhide K]; rfl), 0, rfl⟩
  · have hE := is_empty (r := r) (by omega)
    have K := hide (kindAt0 (r := r) (by omega))
    go_enter Tryz.func72, Tryz.ntmps72
    go_wp2
    go_ret
    exact ⟨ret_int (by rw [unhide K]; rfl), 0, rfl⟩

set_option maxHeartbeats 1000000 in
theorem lengthOf_any (r : ByteArray) (w : World) (hr : r.size ≤ maxLen) (h : Signs w) : Calls Tryz.prog 73 #[.int .i64 ((Parl.kindAt r 0 : Nat) : Int), .string r] w fun e w' => e = .returned (.int .i64 ((Parl.endAt r 0 : Nat) : Int)) ∧ ∃ n, w' = w.drewN n := by
  have hk := Parl.kindAt_le r 0
  have KE : Hid (Parl.endAt r 0 = if Parl.kindAt r 0 = 0 then 0 else if Parl.kindAt r 0 = 1 then 0 + 1 else if Parl.kindAt r 0 = 5 then 0 + Parl.signLen r 0 else Parl.wordEnd r (Parl.kindAt r 0) 0) := rfl
  generalize Parl.kindAt r 0 = k at *
  rcases (show k = 0 ∨ k = 1 ∨ k = 2 ∨ k = 3 ∨ k = 4 ∨ k = 5 by omega) with rfl | rfl | rfl | rfl | rfl | rfl
  · go_enter Tryz.func73, Tryz.ntmps73
    go_wp2_with fail
    go_ret
    exact ⟨ret_int (by rw [KE.out]; rfl), 0, rfl⟩
  · go_enter Tryz.func73, Tryz.ntmps73
    go_wp2_with fail
    go_ret
    exact ⟨ret_int (by rw [KE.out]; rfl), 0, rfl⟩
  · go_enter Tryz.func73, Tryz.ntmps73
    go_wp2_with (go_at_call 128; refine (wordLength_any 2 _ _ hr).mono ?_; rintro e w' ⟨rfl, rfl⟩)
    go_ret
    exact ⟨ret_int (by rw [KE.out]; rfl), 0, rfl⟩
  · go_enter Tryz.func73, Tryz.ntmps73
    go_wp2_with (go_at_call 128; refine (wordLength_any 3 _ _ hr).mono ?_; rintro e w' ⟨rfl, rfl⟩)
    go_ret
    exact ⟨ret_int (by rw [KE.out]; rfl), 0, rfl⟩
  · go_enter Tryz.func73, Tryz.ntmps73
    go_wp2_with (go_at_call 128; refine (wordLength_any 4 _ _ hr).mono ?_; rintro e w' ⟨rfl, rfl⟩)
    go_ret
    exact ⟨ret_int (by rw [KE.out]; rfl), 0, rfl⟩
  · go_enter Tryz.func73, Tryz.ntmps73
    go_wp2_with (go_at_call 127; refine (signLength_any _ _ hr h).mono ?_; rintro e w' ⟨rfl, n, rfl⟩)
    go_ret
    exact ⟨ret_int (by rw [KE.out]; simp), n, rfl⟩


set_option maxHeartbeats 1000000 in
theorem next_any (s : ByteArray) (p : Nat) (w : World) (hs : s.size ≤ maxLen) (hp : p ≤ s.size) (h : Signs w) (hz : 0 < w.heap.size) :
    Calls Tryz.prog 38 #[.string s, .int .i64 (p : Int)] w fun e w' => e = .returned (.agg #[.int .i64 ((Parl.next s p).kind : Int), .int .i64 ((Parl.next s p).pos : Int), .string (Parl.next s p).text]) ∧ Below w.heap.size w w' := by
  have hs' := hs
  unfold maxLen at hs'
  have hle := Parl.skip_le hp
  have hge := Parl.skip_ge s p
  by_cases he : Parl.skip s p < s.size
  · have hS : ∀ o, Signs (w.alloc o) := fun o => h.below ((Below.refl _ _).alloc (Nat.le_refl _) o) hz
    have hsz : (s.extract (Parl.skip s p) s.size).size ≤ maxLen := by rw [← Parl.from_, Parl.size_from]; omega
    have hN := hide (Parl.next_tok he)
    have hK := hide (@Parl.kindAt_from s (Parl.skip s p))
    have hE := hide (@Parl.endAt_from s (Parl.skip s p))
    have hEl := Parl.endAt_le he
    have hEg := Parl.endAt_gt he
    have hX : Hid (∀ n : Nat, Parl.skip s p + n ≤ s.size → (Parl.from_ s (Parl.skip s p)).extract 0 n = s.extract (Parl.skip s p) (Parl.skip s p + n)) := fun n h => Parl.extract_from h
    unfold Parl.from_ at hK hE hX
    go_enter Tryz.func38, Tryz.ntmps38
    go_wp2_with fail
    refine (skipBlanks_any s p _ hs hp).mono ?_
    rintro e w' ⟨rfl, rfl⟩
    go_wp2_with fail
    refine (kindOf_any (s.extract (Parl.skip s p) s.size) _ hsz (hS _)).mono ?_
    rintro e w' ⟨rfl, n, rfl⟩
    go_wp2_with fail
    refine (lengthOf_any (s.extract (Parl.skip s p) s.size) _ hsz ((hS _).draws _)).mono ?_
    rintro e w' ⟨rfl, m, rfl⟩
    have hb : Parl.endAt (s.extract (Parl.skip s p) s.size) 0 + Parl.skip s p = Parl.endAt s (Parl.skip s p) := unhide hE
    have hb2 : Parl.endAt (s.extract (Parl.skip s p) s.size) 0 ≤ (s.extract (Parl.skip s p) s.size).size := by rw [ByteArray.size_extract]; omega
    generalize hg : Parl.endAt (s.extract (Parl.skip s p) s.size) 0 = q at *
    have hg' := hide hg
    clear hg
    have hb' := hide hb
    clear hb
    go_wp2_with fail
    refine bodyPost_ret (v := .agg #[.int .i64 (Parl.kindAt (s.extract (Parl.skip s p) s.size) 0 : Int), .int .i64 (Parl.skip s p : Int), .string ((s.extract (Parl.skip s p) s.size).extract 0 q)]) (by simp [results, Tryz.results38, go_sem]) rfl ⟨?_, ?_⟩
    · rw [unhide hN, unhide hK, unhide hX q (by rw [ByteArray.size_extract] at hb2; omega), Nat.add_comm, unhide hb']
    · exact (((below_drewN ((Below.refl _ _).alloc (Nat.le_refl _) _) _).setCell (Nat.le_refl _) _).setCell (Nat.le_refl _) _).setCell (Nat.le_refl _) _
  · have hN := hide (Parl.next_end (s := s) (p := p) (by omega))
    go_enter Tryz.func38, Tryz.ntmps38
    go_wp2_with fail
    refine (skipBlanks_any s p _ hs hp).mono ?_
    rintro e w' ⟨rfl, rfl⟩
    go_wp2_with fail
    refine bodyPost_ret (v := .agg #[.int .i64 0, .int .i64 (s.size : Int), .string ByteArray.empty]) (by simp [results, Tryz.results38, go_sem]; rfl) rfl ⟨?_, ?_⟩
    · rw [unhide hN]; rfl
    · exact (Below.refl _ _).alloc (Nat.le_refl _) _
end Go.Proofs.YthfjnfcekeknlaaGreatDoor
namespace Go.Proofs.YthfjnfcekeknlaaGreatDoor
open Go.RowKit

theorem dec_conv (w : World) (n : Nat) : (convert 60 9 (.slice (some ⟨w.heap.size, 0, none⟩) 1 1)).run Tryz.prog (w.alloc (.cells #[.int .u8 (48 + (n : Int) % 10)] 5)) = .ok (.string ⟨#[UInt8.ofNat (48 + n % 10)]⟩) (w.alloc (.cells #[.int .u8 (48 + (n : Int) % 10)] 5)) := by
  have h := run_convert_bytes_back (P := Tryz.prog) (w.alloc (.cells #[.int .u8 (48 + (n : Int) % 10)] 5)) 60 9 5 ⟨w.heap.size, 0, none⟩ 1 [UInt8.ofNat (48 + n % 10)] Tryz.underlying60 Tryz.underlying5 Tryz.underlying9 (fun j hj => by
    obtain rfl : j = 0 := by simp at hj; omega
    have := blkA' (heap_alloc_new w (.cells #[.int .u8 (48 + (n : Int) % 10)] 5)) 0
    rw [show (⟨w.heap.size, 0, none⟩ : Addr).add 0 = ⟨w.heap.size, 0, none⟩ by simp [Addr.add], this]
    simp
    omega)
  exact h

end Go.Proofs.YthfjnfcekeknlaaGreatDoor
