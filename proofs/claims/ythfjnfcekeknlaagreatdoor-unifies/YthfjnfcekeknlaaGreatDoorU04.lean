import Derived.Test.YthfjnfcekeknlaaGreatDoorU03
import Derived.Deep.LoopGhost
import Derived.Deep.RegionWith
import Derived.OpenShut
namespace Go.Proofs.YthfjnfcekeknlaaGreatDoor
open Go.RowKit

set_option maxHeartbeats 4000000 in
set_option maxRecDepth 100000 in
theorem trm_call {f : Nat} (IH : TrmSaid f) (w : World) (rb tb cap : Nat) (s : ByteArray) (L : List Parl.Tok) (i : Nat) (p0 : Int) (d : Nat) (hfd : f + 1 + d = 9) (h : SB w rb tb cap s L i 0 p0) (hkk : (Parl.hd (L.drop i)).kind = 2) (hop : Parl.sees (L.drop (i + 1)) [40] = true) :
    Calls Tryz.prog 149 #[.pointer (some ⟨rb, 0, none⟩), .int .i64 (d : Int)] w fun e w' => PTermB rb tb cap s L p0 (match Parl.argsOf (Parl.term f) 2 (L.drop (i + 2)) with
      | .inl e => .inl e
      | .inr (ts, l2) => .inr (⟨2, (Parl.hd (L.drop i)).text, ts⟩, l2)) w e w' := by
  obtain ⟨hS, hK, hB0, hB1⟩ := term_boxes (Parl.hd (L.drop i)) h
  unfold boxRB boxTB at hS hK hB0 hB1
  have HS := hide hS
  have HK := hide hK
  have HB0 := hide hB0
  have HB1 := hide hB1
  have hlt := h.hlt
  have htl := h.tblt
  have HZT := hide h.tsize
  have hd8 : d ≤ 8 := by omega
  have hd8' : decide (8 < (d : Int)) = false := by simp; omega
  have hk0 := hide (show (Parl.hd (L.drop i)).kind ≠ 0 by omega)
  have hk1 := hide (show (Parl.hd (L.drop (i + 1))).kind ≠ 0 by rw [Parl.sees_kind hop]; omega)
  have UNI := hide (fun W j (hW : SB W rb tb cap s L j 0 p0) => trm_uni IH W rb tb cap s L j p0 (d + 1) (by omega) hW)
  obtain ⟨ti, hi, hz0', hz1', hz2'⟩ := info_parts Tryz.info109
  clear hS hK hB0 hB1 IH
  obtain ⟨k0, k1, k2⟩ := h.tok
  obtain ⟨c0, c1, c2, c3, f1, f2, f3, own, ne, lt, chain, few, kinds, hlt'⟩ := h
  clear own chain kinds f1 f2 f3 c2 c3
  have hq : bk (Parl.hd (L.drop i)).kind = 1 := by rw [hkk]; rfl
  rw [hq] at k0 HB1 HS HK HB0
  clear hkk hq
  generalize hPP : (fun e w' => PTermB rb tb cap s L p0 (match Parl.argsOf (Parl.term f) 2 (L.drop (i + 2)) with
      | .inl e => .inl e
      | .inr (ts, l2) => .inr (⟨2, (Parl.hd (L.drop i)).text, ts⟩, l2)) w e w') = PP
  have HPP := hide hPP
  clear hPP
  go_enter Tryz.func149, Tryz.ntmps149
  go_wp2_with fail
  go_big_region
  go_wp2_with fail
  refine (pass_on _ rb tb cap s L i 0 p0 (unhide HS) (unhide hk0)).mono ?_
  rintro e w2 ⟨rfl, hs2, hk2⟩
  have HS2 := hide hs2
  have HK2 := hide ((unhide HK).trans hk2)
  have hb0 := blk_kb hk2 (unhide HB0) (by simp; omega)
  have hb1 := blk_kb hk2 (unhide HB1) (by simp; omega)
  have hz0 : w.heap.size < w2.heap.size := blk_lt' hb0
  have hz1 : w.heap.size + 1 < w2.heap.size := blk_lt' hb1
  have y := blkA' hb1
  have HB02 := hide hb0
  clear hs2 hk2 hb0 hb1 k0 k1 k2 c0 c1
  go_wp2_with fail
  refine (is_any _ rb tb cap s L (i + 1) 0 p0 _ ((unhide HS2).below ((Below.refl _ _).alloc (Nat.le_refl _) _))).mono ?_
  rintro e w3 ⟨rfl, n, rfl⟩
  simp only [ByteArray.toList_mk]
  rw [hop]
  have HS3 := hide (((unhide HS2).below ((Below.refl _ _).alloc (Nat.le_refl _) (.cells #[.int .i64 1, .string (Parl.hd (L.drop i)).text, .int .i64 0, .slice none 0 0] 109))).draws n)
  have HK3 := hide (((unhide HK2).alloc (.cells #[.int .i64 1, .string (Parl.hd (L.drop i)).text, .int .i64 0, .slice none 0 0] 109)).drewN n)
  have d2 : (w2.alloc (.cells #[.int .i64 1, .string (Parl.hd (L.drop i)).text, .int .i64 0, .slice none 0 0] 109)).cell? ⟨rb, 2, none⟩ = some (.int .i64 0) := (unhide HS3).c2
  go_wp2_with fail
  refine (pass_on _ rb tb cap s L (i + 1) 0 p0 (unhide HS3) (unhide hk1)).mono ?_
  rintro e w4 ⟨rfl, hs4, hk4⟩
  have HS4 := hide hs4
  have HK4 := hide ((unhide HK3).trans hk4)
  have HB04 := hide (blk_kb hk4 (show ((w2.alloc (.cells #[.int .i64 1, .string (Parl.hd (L.drop i)).text, .int .i64 0, .slice none 0 0] 109)).drewN n).heap[w.heap.size]? = _ from blk_alloc' (unhide HB02) _) (by simp; omega))
  have HB24 := hide (blk_kb hk4 (show ((w2.alloc (.cells #[.int .i64 1, .string (Parl.hd (L.drop i)).text, .int .i64 0, .slice none 0 0] 109)).drewN n).heap[w2.heap.size]? = some (.cells #[.int .i64 1, .string (Parl.hd (L.drop i)).text, .int .i64 0, .slice none 0 0] 109 (0, 0)) from heap_alloc_new w2 _) (by simp; omega))
  clear hs4 hk4 HS3 HK3 d2 y
  go_wp2_with fail
  rw [show ((d : Int) + 1) = ((d + 1 : Nat) : Int) by omega]
  refine (unhide UNI _ (i + 2) (unhide HS4)).mono ?_
  generalize hr : Parl.term f (L.drop (i + 2)) = r
  have HR := hide hr
  clear hr
  rintro e w5 ⟨a, j, e1, p1, rfl, hs5, hk5, hu, hva⟩
  have HVA := hide hva
  have hz4 : w2.heap.size < w4.heap.size := blk_lt' (unhide HB24)
  clear hva
  have HS5 := hide hs5
  have HU := hide hu
  have HK5 := hide ((unhide HK4).trans hk5)
  have HB05 := hide (blk_kb hk5 (unhide HB04) (by simp; omega))
  have hb2 := blk_kb hk5 (unhide HB24) (by simp; omega)
  have hz2 : w2.heap.size < w5.heap.size := blk_lt' hb2
  have y := blkA' hb2
  have yx := blkX' hb2
  have HB25 := hide hb2
  clear hs5 hk5 hu hb2 HS4 HK4 HB04 HB24 HS HK HB0 HB1 HK2 HB02
  go_wp2_with (first | (at_builtin; refine wpList_append_own_at _ rfl (.tmp 90) (.tmp 92) 104 rfl (w5.heap.size + 1) 109 ti (.agg #[.int .i64 0, .string ⟨#[]⟩, .int .i64 0, .slice none 0 0]) 4 56 Tryz.underlying104 hi hz0' hz1' hz2' rfl (by decide) _ 0 [] rfl (World.ownsRow_nil _ _ _ _) ⟨w5.heap.size + 1, 0, none⟩ 1 1 [.int .i64 a.k, .string a.nm, .int .i64 a.num, .slice a.ao a.n a.cap] rfl rfl (new4 _ _ _ _ _ _ _) (one4 _ _ _ _ _ _) (by unfold maxLen; omega) (by omega) (by simp) ?_; intro v' w7 hown' hgrow _ hat; have HAT := hide hat; have HOWN7 := hide hown'; have HB7 := hide ((Below.refl _ _).grown hgrow (Nat.le_refl _) (fun k h => by cases h)); have hb27 := ((unhide HB7).block w2.heap.size (by simp; omega)).trans (blk_alloc' (blk_alloc' (unhide HB25) _) _); have z := blkA' hb27; have zx := blkX' hb27; have HB27 := hide hb27; clear hb27; have HG := hide hgrow; obtain ⟨g', cap', hv, hcm⟩ := ownB_some hown'; rw [hv] at HOWN7 HAT ⊢; clear hown' hgrow hv hat))
  have R7 := fun m => lb_mk (m := m) (w := w) (W := w5.alloc (.cells #[.int .i64 a.k, .string a.nm, .int .i64 a.num, .slice a.ao a.n a.cap] 109)) (b0 := w.heap.size) (b2 := w2.heap.size) (b3 := w5.heap.size) (tx := (Parl.hd (L.drop i)).text) ((unhide HS5).below ((Below.refl _ _).alloc (Nat.le_refl _) _)) ((unhide HK5).alloc _) hlt htl (by omega) (Nat.le_refl _) hz0 hz2 (blk_alloc' (unhide HB05) _) (blk_alloc' (unhide HB25) _) (heap_alloc_new w5 _) (World.ownsRow_nil _ _ _ _) (unhide HG) (unhide HOWN7)
  have HR7 := hide R7
  clear R7 z zx y yx
  refine (is_any _ rb tb cap s L j e1 p1 _ (unhide HR7 0).1).mono ?_
  rintro e w8 ⟨rfl, m, rfl⟩
  simp only [ByteArray.toList_mk]
  have HL := hide (show LB w rb tb cap s L p0 f (L.drop (i + 2)) w.heap.size w2.heap.size w5.heap.size (Parl.hd (L.drop i)).text 4 (.bool (Parl.sees (L.drop j) [44])) ((w7.setCell ⟨w2.heap.size, 3, none⟩ (.slice (some ⟨g', 0, none⟩) (0 + 1) cap')).drewN m) from
    ⟨1, _, _, a, j, e1, p1, rfl, (unhide HR7 m).1.draws m, (unhide HR7 m).2.1, (unhide HR7 m).2.2.1, (unhide HR7 m).2.2.2.1, (unhide HR7 m).2.2.2.2.1, (unhide HR7 m).2.2.2.2.2, by omega, by omega, by omega, uni_first (unhide HR) (unhide HU) _ (fun t l1 q => by subst q; exact row_first (unhide HVA) (Nat.le_refl _) hz0 hz4 (unhide HG) (unhide HAT) m _ _ rfl)⟩)
  have h02 : w.heap.size < w2.heap.size := hz0
  have h23 : w2.heap.size < w5.heap.size := hz2
  generalize hb5 : w5.heap.size = b3 at *
  generalize hb2 : w2.heap.size = b2 at *
  clear HR7 HS5 HK5 HB05 HB25 HG HOWN7 HB7 HB27 HU HR HVA HAT hz4 hb5 hb2
  go_wp2_with fail
  go_loopg [9] 4 (fun k more wr => LB w rb tb cap s L p0 f (L.drop (i + 2)) w.heap.size b2 b3 (Parl.hd (L.drop i)).text k more wr)
  case atStart => exact unhide HL
  case round =>
    obtain ⟨n, av, xs, a1, j, e1, p1, rfl, hs, hk, hb0, hb2, hb3, ho, hn1, hn4, hkn, hcase⟩ := hrel
    obtain ⟨n', rfl⟩ : ∃ n', n = n' + 1 := ⟨n - 1, by omega⟩
    obtain ⟨g9, cap9, rfl, hcm9⟩ := ownB_some ho
    have HS := hide hs
    have HK := hide hk
    have HB0 := hide hb0
    have HB2 := hide hb2
    have HB3 := hide hb3
    have HO := hide ho
    have hwr : w.heap.size ≤ wr.heap.size := hk.size
    have c2 := hs.c2
    have q2 := blkA' hb2
    clear hs hk hb0 hb2 hb3 ho
    rcases hcase with ⟨rfl, rfl, hn3, ts, hts, htot, hrow⟩ | ⟨hne, er, pos, he, hp, htot⟩
    · have HROW := hide hrow
      clear hrow
      cases hc : Parl.sees (L.drop j) [44]
      · cases hb : Parl.sees (L.drop j) [41]
        · have HTOT := hide (htot.trans (cont_bad ts hc hb))
          clear htot
          go_wp2_with fail
          refine (want_no _ rb tb cap s L j _ _ (unhide HS) (by simpa using hb)).mono ?_
          rintro e w9 ⟨rfl, ⟨j9, hs9⟩, hk9⟩
          have hb09 := blk_kb hk9 (unhide HB0) (by simp; omega)
          have hb29 := blk_kb hk9 (unhide HB2) (by simp; omega)
          have r := blkA' hb09
          have x := blkX' hb09
          have y := blkA' hb29
          have HS9 := hide hs9
          have HK9 := hide ((unhide HK).trans hk9)
          clear hs9 hk9 hb09 hb29 q2 c2
          go_wp2_with fail
          refine bodyPost_ret (v := .agg #[.int .i64 1, .string (Parl.hd (L.drop i)).text, .int .i64 0, .slice (some ⟨g9, 0, none⟩) (n' + 1) cap9]) (by simp [results, Tryz.results149, go_sem, r]) rfl ?_
          rw [← unhide HPP]
          dsimp only
          rw [unhide HTOT]
          exact ⟨⟨1, _, 0, _, _, cap9⟩, rfl, ⟨j9, SB.box (unhide HS9) (by omega) (by omega) _ _ _ _⟩, (unhide HK9).onlyNew (Nat.le_refl _) _ _ _ _⟩
        · have HTOT := hide (htot.trans (cont_end ts hc hb))
          clear htot
          go_wp2_with fail
          refine (want_yes _ rb tb cap s L j _ _ _ (unhide HS) (by simpa using hb)).mono ?_
          rintro e w9 ⟨rfl, hs9, hk9⟩
          have hb09 := blk_kb hk9 (unhide HB0) (by simp; omega)
          have hb29 := blk_kb hk9 (unhide HB2) (by simp; omega)
          have r := blkA' hb09
          have x := blkX' hb09
          have y := blkA' hb29
          have HKz9 := hide hk9
          have HS9 := hide hs9
          have HK9 := hide ((unhide HK).trans hk9)
          clear hs9 hk9 hb09 hb29 q2 c2
          go_wp2_with fail
          refine bodyPost_ret (v := .agg #[.int .i64 1, .string (Parl.hd (L.drop i)).text, .int .i64 0, .slice (some ⟨g9, 0, none⟩) (n' + 1) cap9]) (by simp [results, Tryz.results149, go_sem, r]) rfl ?_
          rw [← unhide HPP]
          dsimp only
          rw [unhide HTOT]
          exact ⟨_, 0, some ⟨g9, 0, none⟩, cap9, j + 1, by rw [← hts]; rfl, fun _ => rfl, by simp, SB.box (unhide HS9) (by omega) (by omega) _ _ _ _, (unhide HK9).onlyNew (Nat.le_refl _) _ _ _ _, row_end (unhide HROW) (unhide HO) hts hn3 (unhide HZT) hlt (by omega) (unhide HKz9) _ _ _ _⟩
      · have hkj := hide (show (Parl.hd (L.drop j)).kind ≠ 0 by rw [Parl.sees_kind hc]; omega)
        by_cases hn : n' + 1 = 3
        · obtain rfl : n' = 2 := by omega
          have HTOT := hide (htot.trans (cont_full ts hc))
          clear htot
          go_wp2_with fail
          refine (bad_first _ rb tb cap s L j _ 3 (unhide HS)).mono ?_
          rintro e wa ⟨rfl, hsa, hka⟩
          have HSa := hide hsa
          have HKa := hide hka
          clear hsa hka
          go_wp2_with fail
          refine (pass_any _ rb tb cap s L _ _ ⟨j, unhide HSa⟩).mono ?_
          rintro e wb ⟨rfl, hsb, hkb⟩
          have HSb := hide hsb
          have HKb := hide ((unhide HKa).trans hkb)
          clear hsb hkb
          go_wp2_with fail
          rw [show ((d : Int) + 1) = ((d + 1 : Nat) : Int) by omega]
          refine (trm_err _ rb tb cap s L _ _ (d + 1) (unhide HSb) (by omega)).mono ?_
          rintro e wc ⟨a2, rfl, ⟨j2, hsc⟩, hkc⟩
          have HSx := hide hsc
          have HKr := hide ((unhide HKb).trans hkc)
          have HKx := hide ((unhide HK).trans (unhide HKr))
          have HB0x := hide (blk_kb (unhide HKr) (unhide HB0) (by simp; omega))
          have HB2x := hide (blk_kb (unhide HKr) (unhide HB2) (by simp; omega))
          have HB3x := hide (blk_kb (unhide HKr) (unhide HB3) (by simp; omega))
          have HOx := hide (own_kb (unhide HO) (unhide HKr) (by simp; omega))
          clear hsc hkc HSb HKb HSa HKa q2 c2
          have X := hide (x_set (w := w) (.int .i64 a2.k) (.string a2.nm) (.int .i64 a2.num) (.slice a2.ao a2.n a2.cap) (unhide HSx) (unhide HKx) hlt htl (by omega) h02 h23 (unhide HB0x) (unhide HB2x) (unhide HB3x) (unhide HOx))
          have y2 := blkA' (unhide HB2x)
          have y2x := blkX' (unhide HB2x)
          have y3 := blkA' (unhide HB3x)
          have y3x := blkX' (unhide HB3x)
          go_wp2_with (first | (at_builtin; go_must (refine wpList_append_own _ rfl (.tmp 118) (.tmp 120) 104 rfl (b3 + 1) 109 ti (.agg #[.int .i64 0, .string ⟨#[]⟩, .int .i64 0, .slice none 0 0]) 4 56 Tryz.underlying104 hi hz0' hz1' hz2' rfl (by decide) _ 3 xs rfl ((unhide X).2.2.2.2.2.alloc _) ⟨wc.heap.size, 0, none⟩ 1 1 [.int .i64 a2.k, .string a2.nm, .int .i64 a2.num, .slice a2.ao a2.n a2.cap] rfl rfl (by exact newS _ _ _ _ _ _ _ (by simp)) (one4 _ _ _ _ _ _) (by unfold maxLen; omega) (by omega) (by have := blk_lt' (unhide HB3x); simp; omega) ?_); go_must (intro v' w7 hown' hgrow _; have HOWN7 := hide hown'; have HG := hide hgrow; have hb27 := (((Below.refl _ _).alloc (by have := blk_lt' (unhide X).2.2.2.2.1; omega) _).grown hgrow (by have := blk_lt' (unhide X).2.2.2.2.1; simp at this ⊢; omega) (fun k q => ((unhide X).2.2.2.2.2.lt k q).1) : Below (b3 + 1) _ w7).block b2 (by omega); have hb27' := hb27.trans (unhide X).2.2.2.1; have z := blkA' hb27'; have zx := blkX' hb27'; clear hb27 hb27'; obtain ⟨g', cap', hv, hcm⟩ := ownB_some hown'; rw [hv] at HOWN7 ⊢; clear hown' hgrow hv)))
          have HR7 := hide (fun m => lb_mk (m := m) (unhide X).1 (unhide X).2.1 hlt htl (by omega) (Nat.le_refl _) h02 h23 (unhide X).2.2.1 (unhide X).2.2.2.1 (unhide X).2.2.2.2.1 (unhide X).2.2.2.2.2 (unhide HG) (unhide HOWN7))
          clear z zx y2 y2x y3 y3x
          refine (is_any _ rb tb cap s L j2 _ _ _ (unhide HR7 0).1).mono ?_
          rintro e w8 ⟨rfl, m, rfl⟩
          simp only [ByteArray.toList_mk]
          go_wp2_with fail
          go_roundg (gk - 1)
          case measure => omega
          case rel => exact ⟨4, _, _, a2, j2, 3, _, rfl, (unhide HR7 m).1.draws m, (unhide HR7 m).2.1, (unhide HR7 m).2.2.1, (unhide HR7 m).2.2.2.1, (unhide HR7 m).2.2.2.2.1, (unhide HR7 m).2.2.2.2.2, by omega, by omega, by omega, Or.inr ⟨by omega, 3, _, rfl, rfl, unhide HTOT⟩⟩
        · have hn' : (((n' : Int) + 1) == 3) = false := by simp; omega
          have HTOT := hide (fun (pz : Int) r j2 e1 p1 => uni_next (p0 := pz) (r := r) (L := L) (j := j2) (e1 := e1) (p1 := p1) (by omega) hts htot hc)
          clear htot
          have HTL := hide (show (L.drop j).tail = L.drop (j + 1) by simp)
          go_wp2_with fail
          refine (pass_on _ rb tb cap s L j _ _ (unhide HS) (unhide hkj)).mono ?_
          rintro e wb ⟨rfl, hsb, hkb⟩
          have HSb := hide hsb
          have HKb := hide hkb
          have HKbs := hide hkb.size
          clear hsb hkb
          go_wp2_with fail
          rw [show ((d : Int) + 1) = ((d + 1 : Nat) : Int) by omega]
          refine (unhide UNI _ (j + 1) (unhide HSb)).mono ?_
          generalize hr : Parl.term f (L.drop (j + 1)) = r
          have HR := hide hr
          clear hr
          rintro e wc ⟨a2, j2, e2, p2, rfl, hsc, hkc, hu, hva⟩
          have HVA := hide hva
          clear hva
          have HU := hide hu
          have HSx := hide hsc
          have HKr := hide ((unhide HKb).trans hkc)
          have HKx := hide ((unhide HK).trans (unhide HKr))
          have HB0x := hide (blk_kb (unhide HKr) (unhide HB0) (by simp; omega))
          have HB2x := hide (blk_kb (unhide HKr) (unhide HB2) (by simp; omega))
          have HB3x := hide (blk_kb (unhide HKr) (unhide HB3) (by simp; omega))
          have HOx := hide (own_kb (unhide HO) (unhide HKr) (by simp; omega))
          clear hsc hkc HSb HKb q2 c2 hu
          have X := hide (x_set (w := w) (.int .i64 a2.k) (.string a2.nm) (.int .i64 a2.num) (.slice a2.ao a2.n a2.cap) (unhide HSx) (unhide HKx) hlt htl (by omega) h02 h23 (unhide HB0x) (unhide HB2x) (unhide HB3x) (unhide HOx))
          have y2 := blkA' (unhide HB2x)
          have y2x := blkX' (unhide HB2x)
          have y3 := blkA' (unhide HB3x)
          have y3x := blkX' (unhide HB3x)
          go_wp2_with (first | (at_builtin; go_must (refine wpList_append_own_at _ rfl (.tmp 118) (.tmp 120) 104 rfl (b3 + 1) 109 ti (.agg #[.int .i64 0, .string ⟨#[]⟩, .int .i64 0, .slice none 0 0]) 4 56 Tryz.underlying104 hi hz0' hz1' hz2' rfl (by decide) _ (n' + 1) xs rfl ((unhide X).2.2.2.2.2.alloc _) ⟨wc.heap.size, 0, none⟩ 1 1 [.int .i64 a2.k, .string a2.nm, .int .i64 a2.num, .slice a2.ao a2.n a2.cap] rfl rfl (by exact newS _ _ _ _ _ _ _ (by simp)) (one4 _ _ _ _ _ _) (by unfold maxLen; omega) (by omega) (by have := blk_lt' (unhide HB3x); simp; omega) ?_); go_must (intro v' w7 hown' hgrow _ hat; have HAT := hide hat; clear hat; have HOWN7 := hide hown'; have HG := hide hgrow; have hb27 := (((Below.refl _ _).alloc (by have := blk_lt' (unhide X).2.2.2.2.1; omega) _).grown hgrow (by have := blk_lt' (unhide X).2.2.2.2.1; simp at this ⊢; omega) (fun k q => ((unhide X).2.2.2.2.2.lt k q).1) : Below (b3 + 1) _ w7).block b2 (by omega); have hb27' := hb27.trans (unhide X).2.2.2.1; have z := blkA' hb27'; have zx := blkX' hb27'; clear hb27 hb27'; obtain ⟨g', cap', hv, hcm⟩ := ownB_some hown'; rw [hv] at HOWN7 HAT ⊢; clear hown' hgrow hv)))
          have HR7 := hide (fun m => lb_mk (m := m) (unhide X).1 (unhide X).2.1 hlt htl (by omega) (Nat.le_refl _) h02 h23 (unhide X).2.2.1 (unhide X).2.2.2.1 (unhide X).2.2.2.2.1 (unhide X).2.2.2.2.2 (unhide HG) (unhide HOWN7))
          clear z zx y2 y2x y3 y3x
          refine (is_any _ rb tb cap s L j2 _ _ _ (unhide HR7 0).1).mono ?_
          rintro e w8 ⟨rfl, m, rfl⟩
          simp only [ByteArray.toList_mk]
          go_wp2_with fail
          go_roundg (gk - 1)
          case measure => omega
          case rel => exact ⟨n' + 1 + 1, _, _, a2, j2, e2, p2, rfl, (unhide HR7 m).1.draws m, (unhide HR7 m).2.1, (unhide HR7 m).2.2.1, (unhide HR7 m).2.2.2.1, (unhide HR7 m).2.2.2.2.1, (unhide HR7 m).2.2.2.2.2, by omega, by omega, by omega, unhide HTOT _ r j2 e2 p2 (by rw [unhide HTL]; exact unhide HR) (unhide HU) _ (fun t l1 q => by subst q; exact row_next (unhide HROW) hlt (unhide HKr) (unhide HKbs) (unhide HVA) (blk_lt' (unhide HB3)) h23 h02 (Nat.le_refl _) (fun k q => ((unhide HO).lt k q).2) (unhide HG) (unhide HAT) m _ _ rfl)⟩
    · have HTOT := hide htot
      have HNE := hide hne
      have HE := hide he
      have HP := hide hp
      have hne' : (e1 == 0) = false := by simpa using hne
      clear htot hne he hp
      cases hc : Parl.sees (L.drop j) [44]
      · go_wp2_with fail
        refine (want_err _ rb tb cap s L e1 p1 _ ⟨j, unhide HS⟩ (unhide HNE)).mono ?_
        rintro e w9 ⟨rfl, ⟨j9, hs9⟩, hk9⟩
        have hb09 := blk_kb hk9 (unhide HB0) (by simp; omega)
        have hb29 := blk_kb hk9 (unhide HB2) (by simp; omega)
        have r := blkA' hb09
        have x := blkX' hb09
        have y := blkA' hb29
        have HS9 := hide hs9
        have HK9 := hide ((unhide HK).trans hk9)
        clear hs9 hk9 hb09 hb29 q2 c2
        go_wp2_with fail
        refine bodyPost_ret (v := .agg #[.int .i64 1, .string (Parl.hd (L.drop i)).text, .int .i64 0, .slice (some ⟨g9, 0, none⟩) (n' + 1) cap9]) (by simp [results, Tryz.results149, go_sem, r]) rfl ?_
        rw [← unhide HPP]
        dsimp only
        rw [unhide HTOT]
        rw [unhide HE, unhide HP] at HS9
        exact ⟨⟨1, _, 0, _, _, cap9⟩, rfl, ⟨j9, SB.box (unhide HS9) (by omega) (by omega) _ _ _ _⟩, (unhide HK9).onlyNew (Nat.le_refl _) _ _ _ _⟩
      · go_wp2_with fail
        refine (want_err _ rb tb cap s L e1 p1 _ ⟨j, unhide HS⟩ (unhide HNE)).mono ?_
        rintro e w9 ⟨rfl, ⟨j9, hs9⟩, hk9⟩
        have hb09 := blk_kb hk9 (unhide HB0) (by simp; omega)
        have hb29 := blk_kb hk9 (unhide HB2) (by simp; omega)
        have r := blkA' hb09
        have x := blkX' hb09
        have y := blkA' hb29
        have HS9 := hide hs9
        have HK9 := hide ((unhide HK).trans hk9)
        clear hs9 hk9 hb09 hb29 q2 c2
        go_wp2_with fail
        refine bodyPost_ret (v := .agg #[.int .i64 1, .string (Parl.hd (L.drop i)).text, .int .i64 0, .slice (some ⟨g9, 0, none⟩) (n' + 1) cap9]) (by simp [results, Tryz.results149, go_sem, r]) rfl ?_
        rw [← unhide HPP]
        dsimp only
        rw [unhide HTOT]
        rw [unhide HE, unhide HP] at HS9
        exact ⟨⟨1, _, 0, _, _, cap9⟩, rfl, ⟨j9, SB.box (unhide HS9) (by omega) (by omega) _ _ _ _⟩, (unhide HK9).onlyNew (Nat.le_refl _) _ _ _ _⟩
end Go.Proofs.YthfjnfcekeknlaaGreatDoor
namespace Go.Proofs.YthfjnfcekeknlaaGreatDoor
open Go.RowKit

theorem mayR_zero (l : List Parl.Tok) : Parl.term 0 l = Parl.bad (mayR 9 (Parl.hd l)) l := by
  unfold Parl.term mayR
  by_cases h : Parl.begins (Parl.hd l) = true
  · rw [if_pos h, if_pos h, if_pos (by omega)]
  · rw [if_neg h, if_neg h]
theorem mayR9 (t : Parl.Tok) : mayR 9 t ≠ 0 := by unfold mayR; split <;> (try rw [if_pos (by omega)]) <;> omega
theorem mayR_bad {f d : Nat} {l : List Parl.Tok} (hd : d ≤ 8) (h : mayR d (Parl.hd l) ≠ 0) : Parl.term (f + 1) l = Parl.bad (mayR d (Parl.hd l)) l := by
  unfold Parl.term mayR at *
  by_cases hb : Parl.begins (Parl.hd l) = true
  · rw [if_pos hb] at h ⊢
    rw [if_pos hb]
    by_cases hc : (Parl.hd l).kind = 4 ∧ 6 < (Parl.hd l).text.size
    · rw [if_pos hc, if_pos (Or.inl hc)]
    · rw [if_neg (by omega)] at h; exact absurd rfl h
  · rw [if_neg hb, if_neg hb]
theorem mayR_fine {d : Nat} {t : Parl.Tok} (h : mayR d t = 0) : (t.kind = 2 ∨ t.kind = 3 ∨ t.kind = 4) ∧ d ≤ 8 ∧ (t.kind = 4 → t.text.size ≤ 6) := by
  unfold mayR at h
  by_cases hb : Parl.begins t = true
  · rw [if_pos hb] at h
    have hk : t.kind = 2 ∨ t.kind = 3 ∨ t.kind = 4 := by simpa [Parl.begins, or_assoc] using hb
    by_cases hc : t.kind = 4 ∧ 6 < t.text.size ∨ 8 < d
    · rw [if_pos hc] at h; omega
    · exact ⟨hk, by omega, fun q => by omega⟩
  · rw [if_neg hb] at h; omega
theorem term_nm {f : Nat} {l : List Parl.Tok} (hk : (Parl.hd l).kind = 2) : Parl.term (f + 1) l = if Parl.sees l.tail [40] = true then (match Parl.argsOf (Parl.term f) 2 l.tail.tail with
    | .inl e => .inl e
    | .inr (ts, l2) => .inr (⟨2, (Parl.hd l).text, ts⟩, l2)) else .inr (⟨2, (Parl.hd l).text, []⟩, l.tail) := by
  have hb : Parl.begins (Parl.hd l) = true := by simp [Parl.begins, hk]
  rw [Parl.term, if_pos hb, if_neg (by omega), if_pos hk]
  by_cases hs : Parl.sees l.tail [40] = true
  · rw [if_pos hs, if_pos hs]
    rcases Parl.argsOf (Parl.term f) 2 l.tail.tail with e | ⟨ts, l2⟩ <;> rfl
  · rw [if_neg hs, if_neg hs]
theorem term_lf {f : Nat} {l : List Parl.Tok} (hk : (Parl.hd l).kind = 3 ∨ (Parl.hd l).kind = 4) (h6 : (Parl.hd l).kind = 4 → (Parl.hd l).text.size ≤ 6) : Parl.term (f + 1) l = .inr (⟨(Parl.hd l).kind, (Parl.hd l).text, []⟩, l.tail) := by
  have hb : Parl.begins (Parl.hd l) = true := by rcases hk with e | e <;> simp [Parl.begins, e]
  have hc : ¬ ((Parl.hd l).kind = 4 ∧ 6 < (Parl.hd l).text.size) := fun q => by have := h6 q.1; omega
  rw [Parl.term, if_pos hb, if_neg hc, if_neg (by omega)]
theorem perr_of {rb tb cap : Nat} {s : ByteArray} {L : List Parl.Tok} {p0 : Int} {l : List Parl.Tok} {w : World} {e : Ending} {w' : World} {m : Nat} (h : PErrB rb tb cap s L (if (0 : Int) = 0 then (m : Int) else 0) (if (0 : Int) = 0 then ((Parl.hd l).pos : Int) else p0) w e w') : PTermB rb tb cap s L p0 (Parl.bad m l) w e w' := by
  rw [if_pos rfl, if_pos rfl] at h
  exact h

theorem trm_step (f : Nat) (IH : TrmSaid f) : TrmSaid (f + 1) := by
  intro w rb tb cap s L i p0 d hfd h
  by_cases hm : mayR d (Parl.hd (L.drop i)) = 0
  · obtain ⟨hk, hd8, h6⟩ := mayR_fine hm
    rcases hk with hk | hk | hk
    · rw [term_nm hk]
      have e1 : (L.drop i).tail = L.drop (i + 1) := by simp
      have e2 : (L.drop i).tail.tail = L.drop (i + 2) := by simp
      cases hs : Parl.sees (L.drop (i + 1)) [40]
      · rw [e1, hs, ← e1]
        exact trm_atom w rb tb cap s L i p0 d h hk hd8 hs
      · rw [e2, e1, hs, if_pos rfl]
        exact trm_call IH w rb tb cap s L i p0 d hfd h hk hs
    · rw [term_lf (Or.inl hk) h6, hk]
      exact trm_var w rb tb cap s L i p0 d h hk hd8
    · rw [term_lf (Or.inr hk) h6, hk]
      exact trm_num w rb tb cap s L i p0 d h hk hd8 (h6 hk)
  · rw [mayR_bad (by omega) hm]
    exact (trm_bad w rb tb cap s L i 0 p0 d h hm).mono fun e w' q => perr_of q
theorem trm_zero : TrmSaid 0 := by
  intro w rb tb cap s L i p0 d hfd h
  obtain rfl : d = 9 := by omega
  rw [mayR_zero]
  exact (trm_bad w rb tb cap s L i 0 p0 9 h (mayR9 _)).mono fun e w' q => perr_of q
theorem trm_all : ∀ f, TrmSaid f
  | 0 => trm_zero
  | f + 1 => trm_step f (trm_all f)
end Go.Proofs.YthfjnfcekeknlaaGreatDoor
namespace Go.Proofs.YthfjnfcekeknlaaGreatDoor
open Go.RowKit

/-- Only block b has turned (the document's side). -/
structure OnB (b : Nat) (w w' : World) : Prop where
  os : w'.os = w.os
  tape : w'.tape = w.tape
  output : w'.output = w.output
  size : w'.heap.size = w.heap.size
  block : ∀ k, k ≠ b → w'.heap[k]? = w.heap[k]?
theorem OnB.refl (b : Nat) (w : World) : OnB b w w := ⟨rfl, rfl, rfl, rfl, fun _ _ => rfl⟩
theorem OnB.set {b : Nat} {a w : World} (h : OnB b a w) (i : Nat) (v : Value) : OnB b a (w.setCell ⟨b, i, none⟩ v) :=
  ⟨h.os, h.tape, h.output, by simp [World.setCell]; exact h.size, fun k hk => (Below.heap_setCell _ _ _ _ hk).trans (h.block k hk)⟩
theorem OnB.kb {b : Nat} {w w' : World} (h : OnB b w w') : KB [b] w w' := ⟨h.os, h.tape, h.output, by rw [h.size]; exact Nat.le_refl _, fun k _ hX => h.block k (by simpa using hX)⟩
def anyB : Nat → Prop := fun _ => True
/-- The right sides of an item lie there. -/
def RightB (P : Nat → Prop) (w' : World) (b c : BV) (op sg : ByteArray) (x : Parl.Itm) : Prop :=
  op.toList = x.sign ∧ (∀ r, x.right = some r → VB P w' b r) ∧ sg.toList = x.op ∧ (∀ z, x.last = some z → VB P w' c z)
theorem RightB.imp {P Q : Nat → Prop} {w w' : World} {b c : BV} {op sg : ByteArray} {x : Parl.Itm} (h : ∀ a t, VB P w a t → VB Q w' a t) (q : RightB P w b c op sg x) : RightB Q w' b c op sg x :=
  ⟨q.1, fun r e => h _ _ (q.2.1 r e), q.2.2.1, fun r e => h _ _ (q.2.2.2 r e)⟩
def ValA (P : Nat → Prop) (w' : World) (r : Parl.Res Parl.Itm) (a0 a b c : BV) (op sg : ByteArray) : Prop := match r with
  | .inl _ => True
  | .inr (x, _) => a = a0 ∧ RightB P w' b c op sg x
theorem ValA.imp {P Q : Nat → Prop} {w w' : World} {r : Parl.Res Parl.Itm} {a0 a b c : BV} {op sg : ByteArray} (h : ∀ a t, VB P w a t → VB Q w' a t) (q : ValA P w r a0 a b c op sg) : ValA Q w' r a0 a b c op sg := by
  rcases r with e | ⟨x, l⟩
  · exact trivial
  · exact ⟨q.1, q.2.imp h⟩
end Go.Proofs.YthfjnfcekeknlaaGreatDoor
namespace Go.Proofs.YthfjnfcekeknlaaGreatDoor
open Go.RowKit

/-- An item lies there. -/
def ItemB (w' : World) (a b c : BV) (op sg : ByteArray) (x : Parl.Itm) : Prop := VB anyB w' a x.left ∧ RightB anyB w' b c op sg x
theorem OnB.c2 (b : Nat) (w : World) (v0 v1 : Value) : OnB b w ((w.setCell ⟨b, 0, none⟩ v0).setCell ⟨b, 1, none⟩ v1) := ((OnB.refl b w).set 0 v0).set 1 v1

theorem OnB.m4 (b : Nat) (w : World) (v6 v7 v8 v9 : Value) : OnB b w ((((w.setCell ⟨b, 6, none⟩ v6).setCell ⟨b, 7, none⟩ v7).setCell ⟨b, 8, none⟩ v8).setCell ⟨b, 9, none⟩ v9) := ((((OnB.refl b w).set 6 v6).set 7 v7).set 8 v8).set 9 v9
end Go.Proofs.YthfjnfcekeknlaaGreatDoor
namespace Go.Proofs.YthfjnfcekeknlaaGreatDoor
open Go.RowKit

theorem Tryz.info173 : (Tryz.prog.info? 173).map (fun i => (i.zero, i.size, i.bytes)) = some (some (.agg #[.string ⟨#[]⟩, .string ⟨#[]⟩, .int .i64 0, .string ⟨#[]⟩, .int .i64 0, .slice none 0 0, .int .i64 0, .string ⟨#[]⟩, .int .i64 0, .slice none 0 0, .int .i64 0, .string ⟨#[]⟩, .int .i64 0, .slice none 0 0]), 14, 200) := by kernel_rfl

/-- An item's fourteen cells. -/
structure IV where
  a : BV
  b : BV
  c : BV
  op : ByteArray
  sg : ByteArray
def ivC (v : IV) : List Value := [.string v.op, .string v.sg, .int .i64 v.a.k, .string v.a.nm, .int .i64 v.a.num, .slice v.a.ao v.a.n v.a.cap, .int .i64 v.b.k, .string v.b.nm, .int .i64 v.b.num, .slice v.b.ao v.b.n v.b.cap, .int .i64 v.c.k, .string v.c.nm, .int .i64 v.c.num, .slice v.c.ao v.c.n v.c.cap]
def ItemR (w : World) (v : IV) (x : Parl.Itm) : Prop := ItemB w v.a v.b v.c v.op v.sg x
/-- Rows of terms stay. -/
def KeepT (w w' : World) : Prop := ∀ (g : Nat) (cs : Array Value), w.heap[g]? = some (.cells cs 109 (0, 0)) → (∃ k r, cs.toList = .int .i64 k :: r) → w'.heap[g]? = some (.cells cs 109 (0, 0))
/-- Rows of items stay. -/
def KeepI (w w' : World) : Prop := ∀ (g : Nat) (cs : Array Value), w.heap[g]? = some (.cells cs 173 (0, 0)) → (∃ k r, cs.toList = .string k :: r) → w'.heap[g]? = some (.cells cs 173 (0, 0))
theorem KeepT.vb {w w' : World} (h : KeepT w w') {P : Nat → Prop} {a : BV} {t : Parl.Tm} (q : VB P w a t) : VB anyB w' a t := q.keep fun g cs _ hc hi => ⟨h g cs hc hi, trivial⟩
theorem KeepT.item {w w' : World} (h : KeepT w w') {v : IV} {x : Parl.Itm} (q : ItemR w v x) : ItemR w' v x := ⟨h.vb q.1, q.2.imp fun _ _ => h.vb⟩
theorem KeepT.trans {u v w : World} (h : KeepT u v) (k : KeepT v w) : KeepT u w := fun g cs a b => k g cs (h g cs a b) b
theorem KeepI.trans {u v w : World} (h : KeepI u v) (k : KeepI v w) : KeepI u w := fun g cs a b => k g cs (h g cs a b) b
theorem KeepT.below {w w' : World} (h : Below w.heap.size w w') : KeepT w w' := fun g _ a _ => (h.block g (blk_lt' a)).trans a
theorem KeepI.below {w w' : World} (h : Below w.heap.size w w') : KeepI w w' := fun g _ a _ => (h.block g (blk_lt' a)).trans a
theorem KeepT.grown {w w' : World} {b0 : Nat} {T : TypeId} {sz : Nat} {av : Value} {n : Nat} {xs : List Value} (ho : w.ownsRow b0 T sz av n xs) (hg : w.grownBy w' av.ownBlock) (hT : T ≠ 109 := by decide) : KeepT w w' := fun g cs hc _ => (hg.block g (blk_lt' hc) (fun q => by
    rcases ho.2 with ⟨rfl, _⟩ | ⟨g', cap, cur, rfl, _, c, _⟩
    · simp [Value.ownBlock] at q
    · simp [Value.ownBlock] at q
      subst q
      rw [c] at hc; simp at hc; exact hT hc.2)).trans hc
theorem KeepI.grown {w w' : World} {b0 : Nat} {T : TypeId} {sz : Nat} {av : Value} {n : Nat} {xs : List Value} (ho : w.ownsRow b0 T sz av n xs) (hg : w.grownBy w' av.ownBlock) (hT : T ≠ 173 := by decide) : KeepI w w' := fun g cs hc _ => (hg.block g (blk_lt' hc) (fun q => by
    rcases ho.2 with ⟨rfl, _⟩ | ⟨g', cap, cur, rfl, _, c, _⟩
    · simp [Value.ownBlock] at q
    · simp [Value.ownBlock] at q
      subst q
      rw [c] at hc; simp at hc; exact hT hc.2)).trans hc
/-- What has been read so far lies there. -/
def RowI (w : World) (xs : List Value) (ys : List Parl.Itm) : Prop := ∃ vs : List IV, xs = vs.flatMap ivC ∧ All2 (ItemR w) vs ys
theorem RowI.keep {w w' : World} {xs : List Value} {ys : List Parl.Itm} (h : RowI w xs ys) (hk : KeepT w w') : RowI w' xs ys := by
  obtain ⟨vs, rfl, ha⟩ := h
  exact ⟨vs, rfl, ha.imp fun _ _ => hk.item⟩
theorem RowI.snoc {w : World} {xs : List Value} {ys : List Parl.Itm} {v : IV} {x : Parl.Itm} (h : RowI w xs ys) (q : ItemR w v x) : RowI w (xs ++ ivC v) (ys ++ [x]) := by
  obtain ⟨vs, rfl, ha⟩ := h
  exact ⟨vs ++ [v], by simp, ha.snoc q⟩
/-- The items lie there. -/
def ItemsB (w : World) (o : Option Addr) (n : Nat) (ys : List Parl.Itm) : Prop := n = ys.length ∧ (ys ≠ [] → ∃ (g : Nat) (vs : List IV) (cs : Array Value), o = some ⟨g, 0, none⟩ ∧ w.heap[g]? = some (.cells cs 173 (0, 0)) ∧ cs.toList.take (vs.length * 14) = vs.flatMap ivC ∧ All2 (ItemR w) vs ys)
theorem ItemsB.keep {w w' : World} {o : Option Addr} {n : Nat} {ys : List Parl.Itm} (h : ItemsB w o n ys) (hk : KeepT w w') (hi : KeepI w w') : ItemsB w' o n ys := by
  refine ⟨h.1, fun q => ?_⟩
  obtain ⟨g, vs, cs, h1, h2, h3, h4⟩ := h.2 q
  refine ⟨g, vs, cs, h1, hi g cs h2 ?_, h3, h4.imp fun _ _ => hk.item⟩
  cases vs with
  | nil => have := h4.length; simp at this; exact absurd (List.length_eq_zero_iff.1 this.symm) q
  | cons v vs =>
    cases hc : cs.toList with
    | nil => rw [hc] at h3; simp [ivC] at h3
    | cons c r =>
      rw [hc] at h3
      simp only [List.length_cons, Nat.add_mul, Nat.one_mul, List.flatMap_cons, ivC, List.cons_append, List.take_succ_cons] at h3
      injection h3 with h3 _
      exact ⟨_, r, by rw [h3]⟩
theorem ItemsB.none (w : World) : ItemsB w Option.none 0 [] := ⟨rfl, fun q => absurd rfl q⟩
end Go.Proofs.YthfjnfcekeknlaaGreatDoor
namespace Go.Proofs.YthfjnfcekeknlaaGreatDoor
open Go.RowKit

theorem KeepT.draws (w : World) (m : Nat) : KeepT w (w.drewN m) := fun _ _ h _ => h
theorem KeepI.draws (w : World) (m : Nat) : KeepI w (w.drewN m) := fun _ _ h _ => h
/-- A clause lies there. -/
def ClauseB (w : World) (a : BV) (o1 : Option Addr) (n1 : Nat) (o2 : Option Addr) (n2 : Nat) (c : Parl.Cls) : Prop := VB anyB w a c.head ∧ ItemsB w o1 n1 c.tests ∧ ItemsB w o2 n2 c.goals
theorem OnB.c6 (b : Nat) (w : World) (v0 v1 v2 v3 v4 v5 : Value) : OnB b w ((((((w.setCell ⟨b, 0, none⟩ v0).setCell ⟨b, 1, none⟩ v1).setCell ⟨b, 2, none⟩ v2).setCell ⟨b, 3, none⟩ v3).setCell ⟨b, 4, none⟩ v4).setCell ⟨b, 5, none⟩ v5) :=
  ((((((OnB.refl b w).set 0 v0).set 1 v1).set 2 v2).set 3 v3).set 4 v4).set 5 v5
end Go.Proofs.YthfjnfcekeknlaaGreatDoor
namespace Go.Proofs.YthfjnfcekeknlaaGreatDoor
open Go.RowKit

theorem Tryz.info112 : (Tryz.prog.info? 112).map (fun i => (i.zero, i.size, i.bytes)) = some (some (.agg #[.int .i64 0, .string ⟨#[]⟩, .int .i64 0, .slice none 0 0, .slice none 0 0, .slice none 0 0]), 6, 104) := by kernel_rfl

/-- A clause's six cells. -/
structure CV where
  a : BV
  o1 : Option Addr
  n1 : Nat
  c1 : Nat
  o2 : Option Addr
  n2 : Nat
  c2 : Nat
def cvC (v : CV) : List Value := [.int .i64 v.a.k, .string v.a.nm, .int .i64 v.a.num, .slice v.a.ao v.a.n v.a.cap, .slice v.o1 v.n1 v.c1, .slice v.o2 v.n2 v.c2]
def ClauseR (w : World) (v : CV) (c : Parl.Cls) : Prop := ClauseB w v.a v.o1 v.n1 v.o2 v.n2 c
theorem ClauseR.keep {w w' : World} {v : CV} {c : Parl.Cls} (h : ClauseR w v c) (hk : KeepT w w') (hi : KeepI w w') : ClauseR w' v c := ⟨hk.vb h.1, h.2.1.keep hk hi, h.2.2.keep hk hi⟩
def RowC (w : World) (xs : List Value) (ys : List Parl.Cls) : Prop := ∃ vs : List CV, xs = vs.flatMap cvC ∧ All2 (ClauseR w) vs ys
theorem RowC.keep {w w' : World} {xs : List Value} {ys : List Parl.Cls} (h : RowC w xs ys) (hk : KeepT w w') (hi : KeepI w w') : RowC w' xs ys := by
  obtain ⟨vs, rfl, ha⟩ := h
  exact ⟨vs, rfl, ha.imp fun _ _ q => q.keep hk hi⟩
theorem RowC.snoc {w : World} {xs : List Value} {ys : List Parl.Cls} {v : CV} {x : Parl.Cls} (h : RowC w xs ys) (q : ClauseR w v x) : RowC w (xs ++ cvC v) (ys ++ [x]) := by
  obtain ⟨vs, rfl, ha⟩ := h
  exact ⟨vs ++ [v], by simp, ha.snoc q⟩
end Go.Proofs.YthfjnfcekeknlaaGreatDoor
namespace Go.Proofs.YthfjnfcekeknlaaGreatDoor
open Go.RowKit

/-- The type of a block's cells. -/
def tyAt (w : World) (k : Nat) : Option TypeId := match w.heap[k]? with
  | some (.cells _ t _) => some t
  | _ => none

/-- All blocks stay but those of X and rows of texts from b on. -/
structure KA (b : Nat) (X : List Nat) (w w' : World) : Prop where
  os : w'.os = w.os
  tape : w'.tape = w.tape
  output : w'.output = w.output
  size : w.heap.size ≤ w'.heap.size
  block : ∀ k, k < w.heap.size → k ∉ X → (k < b ∨ tyAt w k ≠ some 9) → w'.heap[k]? = w.heap[k]?

theorem KA.refl (b : Nat) (X : List Nat) (w : World) : KA b X w w := ⟨rfl, rfl, rfl, Nat.le_refl _, fun _ _ _ _ => rfl⟩
theorem KA.trans {b : Nat} {X : List Nat} {u v w : World} (h : KA b X u v) (k : KA b X v w) : KA b X u w :=
  ⟨k.os.trans h.os, k.tape.trans h.tape, k.output.trans h.output, Nat.le_trans h.size k.size, fun i hi hX ht => by
    have e := h.block i hi hX ht
    rw [k.block i (Nat.lt_of_lt_of_le hi h.size) hX (by unfold tyAt at ht ⊢; rw [e]; exact ht), e]⟩
theorem KA.of_below {b : Nat} {X : List Nat} {w w' : World} (h : Below w.heap.size w w') : KA b X w w' := ⟨h.os, h.tape, h.output, h.size, fun k hk _ _ => h.block k hk⟩
theorem KA.drewN {b : Nat} {X : List Nat} {u w : World} (h : KA b X u w) (n : Nat) : KA b X u (w.drewN n) := h.trans (KA.of_below (below_drewN (Below.refl _ _) n))
theorem KA.drew {b : Nat} {X : List Nat} {u w : World} (h : KA b X u w) : KA b X u w.drew := h.trans (KA.of_below (Below.refl _ _).drew)
theorem KA.alloc {b : Nat} {X : List Nat} {u w : World} (h : KA b X u w) (o : Obj) : KA b X u (w.alloc o) := h.trans (KA.of_below ((Below.refl _ _).alloc (Nat.le_refl _) o))
theorem KA.setIn {b : Nat} {X : List Nat} {u w : World} (h : KA b X u w) {p : Addr} (hp : p.block ∈ X) (v : Value) : KA b X u (w.setCell p v) :=
  h.trans ⟨rfl, rfl, rfl, by simp [World.setCell], fun k hk hX _ => Below.heap_setCell _ _ _ _ (fun e => hX (e ▸ hp))⟩
theorem KA.setNew {b : Nat} {X : List Nat} {u w : World} (h : KA b X u w) {p : Addr} (hp : u.heap.size ≤ p.block) (v : Value) : KA b X u (w.setCell p v) :=
  ⟨h.os, h.tape, h.output, by have := h.size; simp [World.setCell]; omega, fun k hk hX ht => (Below.heap_setCell _ _ _ _ (by omega)).trans (h.block k hk hX ht)⟩
theorem KA.mono {b : Nat} {X Y : List Nat} {u w : World} (h : KA b X u w) (hs : ∀ x ∈ X, x ∈ Y) : KA b Y u w :=
  ⟨h.os, h.tape, h.output, h.size, fun k hk hY ht => h.block k hk (fun e => hY (hs k e)) ht⟩
theorem KA.cell {b : Nat} {X : List Nat} {w w' : World} (h : KA b X w w') {p : Addr} (hp : p.block < w.heap.size) (hX : p.block ∉ X) (ht : p.block < b ∨ tyAt w p.block ≠ some 9) : w'.cell? p = w.cell? p := World.cell?_of_block (w := w) (h.block p.block hp hX ht)
theorem KA.frozen {b : Nat} {X : List Nat} {w w' : World} (h : KA b X w w') {p : Addr} (hp : p.block < w.heap.size) (hX : p.block ∉ X) (ht : p.block < b ∨ tyAt w p.block ≠ some 9) : w'.frozen? p = w.frozen? p := World.frozen?_of_block (w := w) (h.block p.block hp hX ht)
theorem KA.below {b : Nat} {X : List Nat} {w w' : World} (h : KA b X w w') {B : Nat} (hB : B ≤ w.heap.size) (hb : B ≤ b) (hX : ∀ x ∈ X, B ≤ x) : Below B w w' :=
  ⟨h.os, h.tape, h.output, h.size, fun k hk => h.block k (by omega) (fun e => by have := hX k e; omega) (Or.inl (by omega))⟩
theorem KA.grown {b : Nat} {X : List Nat} {u w w' : World} {row : Option Nat} (h : KA b X u w) (hg : w.grownBy w' row) (hr : ∀ k, row = some k → u.heap.size ≤ k ∨ k ∈ X ∨ (b ≤ k ∧ tyAt w k = some 9)) : KA b X u w' :=
  ⟨hg.os.trans h.os, hg.tape.trans h.tape, hg.output.trans h.output, Nat.le_trans h.size hg.size, fun k hk hX ht => by
    have e := h.block k hk hX ht
    rw [hg.block k (Nat.lt_of_lt_of_le hk h.size) (fun q => ?_), e]
    rcases hr k q.symm with a | a | ⟨a, c⟩
    · omega
    · exact hX a
    · rcases ht with t | t
      · omega
      · apply t; unfold tyAt at c ⊢; rw [← e]; exact c⟩

theorem Signs.ka {b : Nat} {X : List Nat} {w w' : World} (h : Signs w) (hk : KA b X w w') (h0 : 0 < w.heap.size) (hX : 0 ∉ X) (hb : 0 < b) : Signs w' :=
  ⟨(hk.cell (p := ⟨0, 0, none⟩) h0 hX (Or.inl hb)).trans h.s0, (hk.cell (p := ⟨0, 1, none⟩) h0 hX (Or.inl hb)).trans h.s1, (hk.cell (p := ⟨0, 2, none⟩) h0 hX (Or.inl hb)).trans h.s2, (hk.cell (p := ⟨0, 3, none⟩) h0 hX (Or.inl hb)).trans h.s3, (hk.cell (p := ⟨0, 4, none⟩) h0 hX (Or.inl hb)).trans h.s4⟩

/-- The reader's six cells. -/
structure Rd (w : World) (rb : Nat) (s : ByteArray) (t : Parl.Tok) (nv : Value) (e : Int) : Prop where
  c0 : w.cell? ⟨rb, 0, none⟩ = some (.string s)
  c1 : w.cell? ⟨rb, 1, none⟩ = some (.int .i64 (t.kind : Int))
  c2 : w.cell? ⟨rb, 2, none⟩ = some (.int .i64 (t.pos : Int))
  c3 : w.cell? ⟨rb, 3, none⟩ = some (.string t.text)
  c4 : w.cell? ⟨rb, 4, none⟩ = some nv
  c5 : w.cell? ⟨rb, 5, none⟩ = some (.int .i64 e)
  f1 : w.frozen? ⟨rb, 1, none⟩ = false
  f2 : w.frozen? ⟨rb, 2, none⟩ = false
  f3 : w.frozen? ⟨rb, 3, none⟩ = false
  f4 : w.frozen? ⟨rb, 4, none⟩ = false
  f5 : w.frozen? ⟨rb, 5, none⟩ = false

theorem Rd.below {B : Nat} {w w' : World} {rb : Nat} {s : ByteArray} {t : Parl.Tok} {nv : Value} {e : Int} (h : Rd w rb s t nv e) (hb : Below B w w') (hr : rb < B) : Rd w' rb s t nv e :=
  ⟨(hb.cell (p := ⟨rb, 0, none⟩) hr).trans h.c0, (hb.cell (p := ⟨rb, 1, none⟩) hr).trans h.c1, (hb.cell (p := ⟨rb, 2, none⟩) hr).trans h.c2, (hb.cell (p := ⟨rb, 3, none⟩) hr).trans h.c3, (hb.cell (p := ⟨rb, 4, none⟩) hr).trans h.c4, (hb.cell (p := ⟨rb, 5, none⟩) hr).trans h.c5,
   (hb.frozen (p := ⟨rb, 1, none⟩) hr).trans h.f1, (hb.frozen (p := ⟨rb, 2, none⟩) hr).trans h.f2, (hb.frozen (p := ⟨rb, 3, none⟩) hr).trans h.f3, (hb.frozen (p := ⟨rb, 4, none⟩) hr).trans h.f4, (hb.frozen (p := ⟨rb, 5, none⟩) hr).trans h.f5⟩

/-- What the reader stands at: the tokens l are left, ns are the clause's variables so far. -/
structure St (w : World) (rb : Nat) (s : ByteArray) (l : List Parl.Tok) (ns : List ByteArray) (nv : Value) (e : Int) : Prop where
  rd : Rd w rb s (Parl.hd l) nv e
  own : w.ownsRow (rb + 1) 9 1 nv ns.length (ns.map Value.string)
  chain : Parl.Chain s l
  isNext : ∃ p, Parl.hd l = Parl.next s p
  few : ns.length + l.length ≤ 1000
  short : s.size ≤ 240
  signs : Signs w
  pos : 0 < rb
  lt : rb < w.heap.size

theorem St.below {w w' : World} {rb : Nat} {s : ByteArray} {l : List Parl.Tok} {ns : List ByteArray} {nv : Value} {e : Int} (h : St w rb s l ns nv e) (hb : Below w.heap.size w w') : St w' rb s l ns nv e :=
  ⟨h.rd.below hb h.lt, ⟨h.own.1, h.own.2.imp id fun ⟨g, cap, cur, a, b, c, d⟩ => ⟨g, cap, cur, a, b, (hb.block g (by
      have := Array.getElem?_eq_some_iff.1 c; exact this.1)).trans c, d⟩⟩, h.chain, h.isNext, h.few, h.short, h.signs.below hb (by have := h.lt; omega), h.pos, by have := hb.size; have := h.lt; omega⟩

/-- A store into the reader's own block: what does not hang on its cells stays. -/
theorem own_setCell {w : World} {rb : Nat} {T : TypeId} {sz : Nat} {nv : Value} {n : Nat} {xs : List Value} (h : w.ownsRow (rb + 1) T sz nv n xs) (o : Nat) (v : Value) : (w.setCell ⟨rb, o, none⟩ v).ownsRow (rb + 1) T sz nv n xs :=
  ownsRow_setCell_below h (by show rb < rb + 1; omega) v

theorem Signs.setCell {w : World} (h : Signs w) {p : Addr} (hp : p.block ≠ 0) (v : Value) : Signs (w.setCell p v) := by
  have k : ∀ o, (w.setCell p v).cell? ⟨0, o, none⟩ = w.cell? ⟨0, o, none⟩ := fun o => World.cell?_of_block (Below.heap_setCell _ _ _ _ (fun e => hp e.symm))
  exact ⟨(k 0).trans h.s0, (k 1).trans h.s1, (k 2).trans h.s2, (k 3).trans h.s3, (k 4).trans h.s4⟩
end Go.Proofs.YthfjnfcekeknlaaGreatDoor
namespace Go.Proofs.YthfjnfcekeknlaaGreatDoor
open Go.RowKit

theorem refuse_any (w : World) (rb : Nat) (s : ByteArray) (l : List Parl.Tok) (ns : List ByteArray) (nv : Value) (e0 : Int) (c : Int) (h : St w rb s l ns nv e0) :
    Calls Tryz.prog 82 #[.pointer (some ⟨rb, 0, none⟩), .int .i64 c] w fun e w' => e = .returned (.tuple #[]) ∧ St w' rb s l ns nv c ∧ KA rb [rb] w w' := by
  obtain ⟨⟨c0, c1, c2, c3, c4, c5, f1, f2, f3, f4, f5⟩, own, chain, isn, few, short, signs, pos, lt⟩ := h
  go_enter Tryz.func82, Tryz.ntmps82
  go_wp2
  go_end0
  refine ⟨rfl, ⟨⟨?_, ?_, ?_, ?_, ?_, ?_, ?_, ?_, ?_, ?_, ?_⟩, own_setCell own _ _, chain, isn, few, short, signs.setCell (by show rb ≠ 0; omega) _, pos, by simpa using lt⟩, (KA.refl _ _ _).setIn (by simp) _⟩
  all_goals first | go_cell | (simp [go_sem, *]; done)

theorem sees_any (w : World) (rb : Nat) (s : ByteArray) (l : List Parl.Tok) (ns : List ByteArray) (nv : Value) (e0 : Int) (g : ByteArray) (h : St w rb s l ns nv e0) :
    Calls Tryz.prog 76 #[.pointer (some ⟨rb, 0, none⟩), .string g] w fun e w' => e = .returned (.bool (Parl.sees l g.toList)) ∧ w' = w := by
  obtain ⟨⟨c0, c1, c2, c3, c4, c5, f1, f2, f3, f4, f5⟩, own, chain, isn, few, short, signs, pos, lt⟩ := h
  clear own chain isn few signs
  by_cases hk : (Parl.hd l).kind = 5
  · have hk' : (((Parl.hd l).kind : Int) == 5) = true := by simp; omega
    have HS := hide (show Parl.sees l g.toList = ((Parl.hd l).text.toList == g.toList) by simp [Parl.sees, hk])
    clear hk
    go_enter Tryz.func76, Tryz.ntmps76
    go_wp2
    go_ret
    exact ⟨ret_bool (by rw [unhide HS]), rfl⟩
  · have hk' : (((Parl.hd l).kind : Int) == 5) = false := by simp; omega
    have HS := hide (show Parl.sees l g.toList = false by simp [Parl.sees, hk])
    clear hk
    go_enter Tryz.func76, Tryz.ntmps76
    go_wp2
    go_ret
    exact ⟨ret_bool (by rw [unhide HS]), rfl⟩

theorem take_end {w w1 : World} {rb : Nat} {s : ByteArray} {l : List Parl.Tok} {ns : List ByteArray} {nv : Value} {e0 : Int} (h : St w rb s l ns nv e0) (h0 : (Parl.hd l).kind ≠ 0) (hb : Below w.heap.size w w1) :
    St (((w1.setCell ⟨rb, 1, none⟩ (.int .i64 ((Parl.next s ((Parl.hd l).pos + (Parl.hd l).text.size)).kind : Int))).setCell ⟨rb, 2, none⟩ (.int .i64 ((Parl.next s ((Parl.hd l).pos + (Parl.hd l).text.size)).pos : Int))).setCell ⟨rb, 3, none⟩ (.string (Parl.next s ((Parl.hd l).pos + (Parl.hd l).text.size)).text)) rb s l.tail ns nv e0 ∧
    KA rb [rb] w (((w1.setCell ⟨rb, 1, none⟩ (.int .i64 ((Parl.next s ((Parl.hd l).pos + (Parl.hd l).text.size)).kind : Int))).setCell ⟨rb, 2, none⟩ (.int .i64 ((Parl.next s ((Parl.hd l).pos + (Parl.hd l).text.size)).pos : Int))).setCell ⟨rb, 3, none⟩ (.string (Parl.next s ((Parl.hd l).pos + (Parl.hd l).text.size)).text)) := by
  have hk := h.chain.tail h0
  have h1 := h.below hb
  have few := h.few
  have hl : l.length = l.tail.length + 1 := by
    rcases l with _ | ⟨a, r⟩
    · exact absurd h.chain (by simp [Parl.Chain])
    · rfl
  obtain ⟨⟨d0, d1, d2, d3, d4, d5, g1, g2, g3, g4, g5⟩, own, chain, isn, few1, short, signs, pos, lt⟩ := h1
  have z : rb ≠ 0 := by omega
  refine ⟨⟨?_, own_setCell (own_setCell (own_setCell own _ _) _ _) _ _, hk.1, ⟨_, hk.2.1⟩, by omega, short, ((signs.setCell (by exact z) _).setCell (by exact z) _).setCell (by exact z) _, pos, by simpa using lt⟩, (((KA.of_below hb).setIn (by simp) _).setIn (by simp) _).setIn (by simp) _⟩
  rw [hk.2.1]
  generalize Parl.next s ((Parl.hd l).pos + (Parl.hd l).text.size) = t
  exact ⟨by go_cell, by go_cell, by go_cell, by go_cell, by go_cell, by go_cell, by go_cell, by go_cell, by go_cell, by go_cell, by go_cell⟩

end Go.Proofs.YthfjnfcekeknlaaGreatDoor
namespace Go.Proofs.YthfjnfcekeknlaaGreatDoor
open Go.RowKit
def LS (w1 : World) (ys : List Parl.Cls) (k : Nat) (sv iv : Value) (wr : World) : Prop :=
  ∃ j : Nat, k + j = ys.length ∧ iv = .int .i64 (j : Int) ∧ sv = .string ⟨(Parl.strP (ys.take j)).toArray⟩ ∧ Below w1.heap.size w1 wr
end Go.Proofs.YthfjnfcekeknlaaGreatDoor
namespace Go.Proofs.YthfjnfcekeknlaaGreatDoor
open Go.RowKit

theorem own_shapeS {w : World} {b : Nat} {e : TypeId} {sz : Nat} {v : Value} {n : Nat} {xs : List Value} (h : w.ownsRow b e sz v n xs) : ∃ o cap, v = .slice o n cap := by
  rcases h.2 with ⟨q, rfl⟩ | ⟨g, cap, cur, q, _⟩
  · exact ⟨none, 0, q⟩
  · exact ⟨some ⟨g, 0, none⟩, cap, q⟩
/-- What a term's own cells say, its variables being of the side sd. -/
structure LeafS (sd : Int) (a : BV) (t : Parl.Tm) : Prop where
  k : a.k = bk t.kind
  n : a.n = t.args.length
  v : t.kind = 3 → a.nm = t.text ∧ a.num = sd
  m : t.kind = 4 → a.nm = ⟨#[]⟩ ∧ a.num = (Parl.numOf t.text : Int)
  c : t.kind = 2 → a.nm = t.text ∧ a.num = 0
  ks : t.kind = 2 ∨ t.kind = 3 ∨ t.kind = 4
  lf : t.kind ≠ 2 → t.args = []
  few : t.args.length ≤ 3
/-- The term lies there; its rows are of the kind P. -/
def RS (sd : Int) : Nat → (Nat → Prop) → World → BV → Parl.Tm → Prop
  | 0, _, _, _, _ => False
  | f + 1, P, w, a, t => LeafS sd a t ∧ (t.args ≠ [] → ∃ (g : Nat) (us : List BV) (cs : Array Value), a.ao = some ⟨g, 0, none⟩ ∧ P g ∧ w.heap[g]? = some (.cells cs 109 (0, 0)) ∧ cs.toList.take (us.length * 4) = us.flatMap bvC ∧ All2 (RS sd f P w) us t.args)
theorem RS.keep {sd : Int} {P Q : Nat → Prop} {w w' : World} (hk : ∀ g cs, P g → w.heap[g]? = some (.cells cs 109 (0, 0)) → w'.heap[g]? = some (.cells cs 109 (0, 0)) ∧ Q g) : ∀ {f : Nat} {a : BV} {t : Parl.Tm}, RS sd f P w a t → RS sd f Q w' a t
  | _ + 1, _, _, ⟨h, q⟩ => ⟨h, fun n => by
    obtain ⟨g, us, cs, h1, h2, h3, h4, h5⟩ := q n
    obtain ⟨r1, r2⟩ := hk g cs h2 h3
    exact ⟨g, us, cs, h1, r2, r1, h4, h5.imp fun _ _ => RS.keep hk⟩⟩
theorem RS.leaf {sd : Int} {f : Nat} {P : Nat → Prop} {w : World} {a : BV} {t : Parl.Tm} (h : RS sd f P w a t) : LeafS sd a t := by
  cases f with
  | zero => exact h.elim
  | succ f => exact h.1
theorem RS.below {sd : Int} {f : Nat} {P : Nat → Prop} {w w' : World} {a : BV} {t : Parl.Tm} (h : RS sd f P w a t) (hb : Below w.heap.size w w') : RS sd f P w' a t :=
  h.keep fun g _ hp hg => ⟨(hb.block g (Array.getElem?_eq_some_iff.1 hg).1).trans hg, hp⟩
theorem RS.blw {sd : Int} {f xb : Nat} {w w' : World} {a : BV} {t : Parl.Tm} (h : RS sd f (fun g => g < xb) w a t) (hb : Below xb w w') : RS sd f (fun g => g < xb) w' a t :=
  h.keep fun g _ hp hg => ⟨(hb.block g hp).trans hg, hp⟩
theorem RS.imp {sd : Int} {f : Nat} {P Q : Nat → Prop} {w : World} {a : BV} {t : Parl.Tm} (h : RS sd f P w a t) (hk : ∀ g, P g → g < w.heap.size → Q g) : RS sd f Q w a t :=
  h.keep fun g _ hp hg => ⟨hg, hk g hp (Array.getElem?_eq_some_iff.1 hg).1⟩
/-- What 'sided' is to leave. -/
def PSd (sd : Int) (f : Nat) (t : Parl.Tm) (w : World) (e : Ending) (w' : World) : Prop :=
  ∃ a' : BV, e = .returned (.agg #[.int .i64 a'.k, .string a'.nm, .int .i64 a'.num, .slice a'.ao a'.n a'.cap]) ∧ RS sd f (fun g => w.heap.size ≤ g) w' a' t ∧ Below w.heap.size w w'
def SdSaid (sd : Int) (f : Nat) : Prop := ∀ (w : World) (a : BV) (t : Parl.Tm), RS 0 f (fun _ => True) w a t →
  Calls Tryz.prog 60 #[.agg #[.int .i64 a.k, .string a.nm, .int .i64 a.num, .slice a.ao a.n a.cap], .int .i64 sd] w fun e w' => PSd sd f t w e w'
/-- The cells of the copy. -/
def numS (sd : Int) (a : BV) : Int := if a.k = 2 then sd else a.num
theorem LeafS.copy {sd : Int} {a : BV} {t : Parl.Tm} (h : LeafS 0 a t) (ao : Option Addr) (cap : Nat) : LeafS sd ⟨a.k, a.nm, numS sd a, ao, t.args.length, cap⟩ t := by
  obtain ⟨h1, h2, h3, h4, h5, h6, h7, h8⟩ := h
  unfold numS
  refine ⟨h1, rfl, fun q => ⟨(h3 q).1, ?_⟩, fun q => ⟨(h4 q).1, ?_⟩, fun q => ⟨(h5 q).1, ?_⟩, h6, h7, h8⟩
  · show (if a.k = 2 then sd else a.num) = sd
    rw [h1, q]
    rfl
  · show (if a.k = 2 then sd else a.num) = _
    rw [h1, q, if_neg (by decide)]
    exact (h4 q).2
  · show (if a.k = 2 then sd else a.num) = _
    rw [h1, q, if_neg (by decide)]
    exact (h5 q).2
/-- The loop's relation. -/
def LSd (w : World) (sd : Int) (f : Nat) (a : BV) (t : Parl.Tm) (k : Nat) (iv : Value) (wr : World) : Prop :=
  ∃ (j : Nat) (av : Value) (us : List BV), k + j = t.args.length ∧ iv = .int .i64 (j : Int) ∧ Below w.heap.size w wr ∧
    wr.heap[w.heap.size]? = some (.cells #[.int .i64 a.k, .string a.nm, .int .i64 a.num, .slice a.ao a.n a.cap] 109 (0, 0)) ∧
    wr.heap[w.heap.size + 1]? = some (.cells #[.int .i64 0, .string ⟨#[]⟩, .int .i64 0, .slice none 0 0] 109 (0, 0)) ∧
    wr.heap[w.heap.size + 2]? = some (.cells #[.int .i64 a.k, .string a.nm, .int .i64 (numS sd a), av] 109 (0, 0)) ∧
    wr.ownsRow (w.heap.size + 3) 109 4 av j (us.flatMap bvC) ∧
    All2 (RS sd f (fun g => w.heap.size + 3 ≤ g ∧ some g ≠ av.ownBlock) wr) us (t.args.take j)
/-- One more argument lies there. -/
theorem sd_next {wr w2 w7 : World} {sd : Int} {f : Nat} {av v' : Value} {us : List BV} {ts : List Parl.Tm} {a2 : BV} {t : Parl.Tm} {X A : Obj} {b3 : Nat}
    (h : All2 (RS sd f (fun g => b3 ≤ g ∧ some g ≠ av.ownBlock) wr) us ts) (hv : RS sd f (fun g => wr.heap.size ≤ g) w2 a2 t) (hb : Below wr.heap.size wr w2) (hl3 : b3 ≤ wr.heap.size) (hav : ∀ k, av.ownBlock = some k → k < wr.heap.size)
    (hg : ((w2.alloc X).alloc A).grownBy w7 av.ownBlock) (hat : v'.ownBlock = av.ownBlock ∨ v'.ownBlock = some ((w2.alloc X).alloc A).heap.size) {b2 : Nat} (h23 : b2 < b3) (u : Value) :
    All2 (RS sd f (fun g => b3 ≤ g ∧ some g ≠ v'.ownBlock) (w7.setCell ⟨b2, 3, none⟩ u)) (us ++ [a2]) (ts ++ [t]) := by
  have hsz := hb.size
  have keep : ∀ g, g < w2.heap.size → g ≠ b2 → some g ≠ av.ownBlock → (w7.setCell ⟨b2, 3, none⟩ u).heap[g]? = w2.heap[g]? := fun g h1 h2 h4 => by
    rw [heap_set _ _ _ _ h2, hg.block g (by simp; omega) h4, Below.heap_alloc _ _ _ (by simp; omega), Below.heap_alloc _ _ _ h1]
  have away : ∀ g, g < w2.heap.size → some g ≠ av.ownBlock → some g ≠ v'.ownBlock := fun g h1 h2 => by
    rcases hat with e | e <;> rw [e]
    · exact h2
    · simp; omega
  refine All2.snoc (hv.keep fun g cs hp hc => ?_) (h.imp fun a t q => q.keep fun g cs hp hc => ?_)
  · have hl := (Array.getElem?_eq_some_iff.1 hc).1
    have h4 : some g ≠ av.ownBlock := fun e => by have := hav g e.symm; omega
    exact ⟨(keep g hl (by omega) h4).trans hc, by omega, away g hl h4⟩
  · have hl := (Array.getElem?_eq_some_iff.1 hc).1
    obtain ⟨p1, p2⟩ := hp
    exact ⟨(keep g (by omega) (by omega) p2).trans ((hb.block g hl).trans hc), p1, away g (by omega) p2⟩
/-- The whole copy lies there. -/
theorem sd_end {w wr : World} {sd : Int} {f : Nat} {a : BV} {t : Parl.Tm} {av : Value} {us : List BV} {b3 : Nat} (hlf : LeafS 0 a t) (h : All2 (RS sd f (fun g => b3 ≤ g ∧ some g ≠ av.ownBlock) wr) us t.args) (ho : wr.ownsRow b3 109 4 av t.args.length (us.flatMap bvC)) (hw : w.heap.size + 1 < b3) {w' : World} (hk : ∀ g, g ≠ w.heap.size + 1 → w'.heap[g]? = wr.heap[g]?) :
    ∃ ao cap, av = .slice ao t.args.length cap ∧ RS sd (f + 1) (fun g => w.heap.size ≤ g) w' ⟨a.k, a.nm, numS sd a, ao, t.args.length, cap⟩ t := by
  have hlen := h.length
  rcases ho.2 with ⟨q, h0⟩ | ⟨g, cap, cur, q, hb, hc, _, _, _, ht⟩
  · refine ⟨none, 0, by rw [q, h0], hlf.copy _ _, fun n => absurd (List.length_eq_zero_iff.1 h0) n⟩
  · refine ⟨some ⟨g, 0, none⟩, cap, q, hlf.copy _ _, fun _ => ⟨g, us, cur, rfl, by omega, (hk g (by omega)).trans hc, by rw [hlen]; exact ht, h.imp fun b u r => r.keep fun k cs hp hc' => ⟨(hk k (by omega)).trans hc', by omega⟩⟩⟩
/-- A term that has been read lies there as one whose variables are of no side. -/
theorem RS.of_rb {P : Nat → Prop} {w : World} : ∀ {f : Nat} {a : BV} {t : Parl.Tm}, RB f P w a t → Parl.wfK f t → RS 0 f P w a t
  | f + 1, a, t, ⟨⟨h1, h2, h3, h4, _, _⟩, q⟩, ⟨k1, k2, k3, k4⟩ => by
    refine ⟨⟨h1, h2, fun e => h3 (by omega), fun e => ⟨(h4 e).2.2, (h4 e).1⟩, fun e => h3 (by omega), k1, k2, k3⟩, fun n => ?_⟩
    obtain ⟨g, us, cs, e1, e2, e3, e4, ha⟩ := q n
    refine ⟨g, us, cs, e1, e2, e3, e4, ?_⟩
    have : ∀ (us : List BV) (ts : List Parl.Tm), All2 (RB f P w) us ts → (∀ u ∈ ts, Parl.wfK f u) → All2 (RS 0 f P w) us ts := by
      intro us
      induction us with
      | nil => intro ts ha _; cases ts with
        | nil => exact trivial
        | cons t ts => exact ha.elim
      | cons v us ih => intro ts ha hw; cases ts with
        | nil => exact ha.elim
        | cons t ts => exact ⟨RS.of_rb ha.1 (hw t (by simp)), ih ts ha.2 (fun u hu => hw u (by simp [hu]))⟩
    exact this us t.args ha k4
end Go.Proofs.YthfjnfcekeknlaaGreatDoor
namespace Go.Proofs.YthfjnfcekeknlaaGreatDoor
open Go.RowKit

theorem own_zeroS {b0 : Nat} {w : World} {T : TypeId} {sz : Nat} {v : Value} {n : Nat} {xs : List Value} (h : w.ownsRow b0 T sz v n xs) : w.ownsRow 0 T sz v n xs :=
  ⟨h.1, h.2.imp id fun ⟨g, cap, cur, a, _, c, d⟩ => ⟨g, cap, cur, a, Nat.zero_le _, c, d⟩⟩
/-- The reader as it stands first. -/
theorem sb_startS {w1 : World} {cap tb : Nat} {s : ByteArray} {L : List Parl.Tok} {b0 : Nat} (ho : w1.ownsRow b0 168 3 (.slice (some ⟨tb, 0, none⟩) L.length cap) L.length (L.flatMap tokC)) (hc : Parl.Chain s L) (hh : Parl.hd L = Parl.next s 0) (hs : s.size ≤ 240) (hl : L.length ≤ s.size + 1) :
    SB (w1.alloc (.cells #[.slice (some ⟨tb, 0, none⟩) L.length cap, .int .i64 0, .int .i64 0, .int .i64 0] 166)) w1.heap.size tb cap s L 0 0 0 := by
  have htb : tb < w1.heap.size := (ho.lt tb rfl).2
  have hb := heap_alloc_new w1 (.cells #[.slice (some ⟨tb, 0, none⟩) L.length cap, .int .i64 0, .int .i64 0, .int .i64 0] 166)
  have c := blkA' hb
  have f := blkX' hb
  exact ⟨by rw [c]; rfl, by rw [c]; rfl, by rw [c]; rfl, by rw [c]; rfl, f 1, f 2, f 3, own_zeroS (ho.alloc _), by omega, hc.pos, hc, by omega, hc.kinds ⟨0, hh⟩ hs, by simp⟩
/-- What 'Whole' is to leave. -/
def PWh (r : Parl.Res Parl.Tm) (w : World) (e : Ending) (w' : World) : Prop :=
  ∃ a : BV, e = .returned (.tuple #[.agg #[.int .i64 a.k, .string a.nm, .int .i64 a.num, .slice a.ao a.n a.cap], .int .i64 (Parl.erT r : Int)]) ∧ (match r with | .inl (er, _) => er ≠ 0 | .inr (t, _) => RS 0 8 (fun g => w.heap.size ≤ g) w' a t) ∧ Below w.heap.size w w'
/-- How the reader stands at the end of the text. -/
theorem whole_end {L : List Parl.Tok} {r : Parl.Res Parl.Tm} {j : Nat} {e1 p1 : Int} (hr : Parl.term 8 L = r) (hu : UniR L 0 r j e1 p1) :
    ((Parl.hd (L.drop j)).kind = 0 → e1 = (Parl.erT (Parl.whole L) : Int)) ∧ ((Parl.hd (L.drop j)).kind ≠ 0 → (if e1 = 0 then (2 : Int) else e1) = (Parl.erT (Parl.whole L) : Int)) ∧ (∀ er ps, Parl.whole L = .inl (er, ps) → er ≠ 0) ∧ (∀ t l1, Parl.whole L = .inr (t, l1) → r = .inr (t, l1)) := by
  subst hr
  rcases hq : Parl.term 8 L with ⟨er, ps⟩ | ⟨t, l1⟩
  · have hw : Parl.whole L = .inl (er, ps) := by unfold Parl.whole; rw [hq]
    rw [hq] at hu
    obtain ⟨h1, h2, h3⟩ := hu
    rw [hw]
    refine ⟨fun _ => h1, fun _ => ?_, ?_, fun t l1 q => by cases q⟩
    · rw [if_neg h3]; exact h1
    · intro er' ps' q
      cases q
      intro e
      rw [e] at h1
      exact h3 (by simpa using h1)
  · rw [hq] at hu
    obtain ⟨h1, h2, h3⟩ := hu
    subst h3
    by_cases hk : (Parl.hd (L.drop j)).kind = 0
    · have hw : Parl.whole L = .inr (t, L.drop j) := by unfold Parl.whole; rw [hq]; dsimp only; rw [if_pos hk]
      rw [hw]
      refine ⟨fun _ => h1, fun q => absurd hk q, (fun er ps (q : Sum.inr _ = Sum.inl _) => nomatch q), fun t' l1' q => q⟩
    · have hw : Parl.whole L = .inl (2, (Parl.hd (L.drop j)).pos) := by unfold Parl.whole; rw [hq]; dsimp only; rw [if_neg hk]; rfl
      rw [hw]
      refine ⟨fun q => absurd q hk, fun _ => by rw [if_pos h1]; rfl, ?_, (fun t l1 (q : Sum.inl _ = Sum.inr _) => nomatch q)⟩
      intro er ps q
      cases q
      omega

theorem wh_fin {w W w2 w' : World} {L : List Parl.Tok} {a : BV} {e : Int} {rb : Nat} (hv : ValB W w2 (Parl.term 8 L) a) (hW : W.heap.size = rb + 1) (h0 : w.heap.size ≤ rb) (h3 : ∀ er ps, Parl.whole L = .inl (er, ps) → er ≠ 0) (h4 : ∀ t l1, Parl.whole L = .inr (t, l1) → Parl.term 8 L = .inr (t, l1)) (hk : ∀ k, rb < k → k < w2.heap.size → w'.heap[k]? = w2.heap[k]?) (hb : Below w.heap.size w w') (he : e = (Parl.erT (Parl.whole L) : Int)) :
    PWh (Parl.whole L) w (.returned (.tuple #[.agg #[.int .i64 a.k, .string a.nm, .int .i64 a.num, .slice a.ao a.n a.cap], .int .i64 e])) w' := by
  refine ⟨a, by rw [he], ?_, hb⟩
  rcases hq : Parl.whole L with ⟨er, ps⟩ | ⟨t, l1⟩
  · exact h3 er ps hq
  · have ht := h4 t l1 hq
    rw [ht] at hv
    obtain ⟨f, hf⟩ := (show VB (fun g => W.heap.size ≤ g) w2 a t from hv)
    have h8 := RS.of_rb (hf.cut (Parl.wfD_term 8 L t l1 ht)) (Parl.wfK_term 8 L t l1 ht)
    exact h8.keep fun g cs hg hc => ⟨(hk g (by omega) (blk_lt' hc)).trans hc, by omega⟩
theorem SB.kind5 {w : World} {rb tb cap : Nat} {s : ByteArray} {L : List Parl.Tok} {i : Nat} {e p : Int} (h : SB w rb tb cap s L i e p) : (Parl.hd (L.drop i)).kind ≤ 5 := by
  have hd : Parl.hd (L.drop i) = L[i]'h.lt := by
    rw [Parl.hd, List.drop_eq_getElem_cons h.lt]; rfl
  rw [hd]
  exact (h.kinds _ (List.getElem_mem h.lt)).1

set_option maxHeartbeats 4000000 in
set_option maxRecDepth 100000 in
theorem whole_any (w : World) (s : ByteArray) (L : List Parl.Tok) (hs : s.size ≤ 240) (hL : Parl.Chain s L) (hh : Parl.hd L = Parl.next s 0) :
    Calls Tryz.prog 103 #[.string s] w fun e w' => PWh (Parl.whole L) w e w' := by
  go_enter Tryz.func103, Tryz.ntmps103
  go_wp2_with fail
  refine (tokens_any s _ hs).mono ?_
  rintro e w1 ⟨tv, ts, rfl, hot, hct, hht, hlt, hbt⟩
  have hts : ts = L := hct.one hL (hht.trans hh.symm)
  subst hts
  obtain ⟨m, hm⟩ : ∃ m, ts.length = m + 1 := ⟨ts.length - 1, by have := hct.pos; omega⟩
  obtain ⟨tb, cap, hv, -⟩ := ownB_some (hm ▸ hot)
  rw [← hm] at hv
  subst hv
  have htb : tb < w1.heap.size := (hot.lt tb rfl).2
  have hw1 : w.heap.size + 1 ≤ w1.heap.size := by have := hbt.size; simpa using this
  have HB0 := hide ((hbt.block w.heap.size (by simp)).trans (heap_alloc_new w (.cells #[.int .i64 0, .string ⟨#[]⟩, .int .i64 0, .slice none 0 0] 109)))
  have HBT := hide (((Below.refl w.heap.size w).alloc (Nat.le_refl _) (.cells #[.int .i64 0, .string ⟨#[]⟩, .int .i64 0, .slice none 0 0] 109)).trans (hbt.mono (by simp)))
  have HS := hide (sb_startS hot hct hht hs hlt)
  clear hot hct hht hlt hbt hL hh hm
  generalize hrb : w1.heap.size = rb at *
  have HRB := hide hrb
  go_wp2_with fail
  refine (trm_uni (trm_all 8) _ rb tb cap s ts 0 0 1 rfl (unhide HS)).mono ?_
  rintro e w2 ⟨a, j, e1, p1, rfl, hs2, hk2, hu, hva⟩
  have hz2 := hk2.size
  have HE := hide (whole_end (L := ts) rfl hu)
  have HVA := hide hva
  have HK2 := hide hk2
  have HS2 := hide hs2
  have hz2' : rb + 1 ≤ w2.heap.size := by have := hk2.size; simp at this; omega
  have HB02 := hide ((hk2.block w.heap.size (by simp; omega) (by simp; omega)).trans (blk_alloc' (unhide HB0) _))
  have HBL2 := hide (show Below w.heap.size w w2 from ((unhide HBT).alloc (by omega) _).trans ⟨hk2.os, hk2.tape, hk2.output, hk2.size, fun k hk => hk2.block k (by simp; omega) (by simp; omega)⟩)
  have hlr := hs2.hlt
  have htl := hs2.tblt
  have k0 := hs2.tok.1
  have c0 := hs2.c0
  have c1 := hs2.c1
  have c2 := hs2.c2
  have y0 := blkA' (unhide HB02)
  have yx := blkX' (unhide HB02)
  have yz := blk_lt' (unhide HB02)
  have hjl := hs2.lt
  have i0 : (0 : Int) ≤ (j : Int) := by omega
  have i1 : (j : Int) < (ts.length : Int) := by omega
  have hfew := hs2.few
  have n1 : rb ≠ w.heap.size := by omega
  clear hs2 hk2 hu hva
  by_cases hk : (Parl.hd (ts.drop j)).kind = 0
  · have hb6 : bk (Parl.hd (ts.drop j)).kind = 6 := by rw [hk]; rfl
    rw [hb6] at k0
    have HER := hide ((unhide HE).1 hk)
    clear hb6 hk
    go_wp2_with fail
    go_big_region
    go_wp2_with fail
    go_region
    all_goals go_wp2_with fail
    all_goals refine bodyPost_ret (v := .tuple #[.agg #[.int .i64 a.k, .string a.nm, .int .i64 a.num, .slice a.ao a.n a.cap], .int .i64 e1]) (by simp [results, Tryz.results103, go_sem, y0, yz]) rfl ?_
    all_goals refine wh_fin (unhide HVA) (by simp; exact unhide HRB) (by omega) (unhide HE).2.2.1 (unhide HE).2.2.2 (fun k h1 h2 => ?_) ?_ (unhide HER)
    · show (((((w2.setCell ⟨w.heap.size, 0, none⟩ _).setCell ⟨w.heap.size, 1, none⟩ _).setCell ⟨w.heap.size, 2, none⟩ _).setCell ⟨w.heap.size, 3, none⟩ _).alloc _).heap[k]? = _
      rw [Below.heap_alloc _ _ _ (by simp only [size_set]; exact h2), heap_set _ _ _ _ (by omega), heap_set _ _ _ _ (by omega), heap_set _ _ _ _ (by omega), heap_set _ _ _ _ (by omega)]
    · exact ((((((unhide HBL2).setCell (p := ⟨w.heap.size, 0, none⟩) (Nat.le_refl _) _).setCell (p := ⟨w.heap.size, 1, none⟩) (Nat.le_refl _) _).setCell (p := ⟨w.heap.size, 2, none⟩) (Nat.le_refl _) _).setCell (p := ⟨w.heap.size, 3, none⟩) (Nat.le_refl _) _).alloc (by simp only [size_set]; omega) _).drew.drew
  · have hb6 : (bk (Parl.hd (ts.drop j)).kind != 6) = true := by
      have h5 := (unhide HS2).kind5
      simp only [bne_iff_ne, ne_eq]
      unfold bk
      split
      · exact absurd (by assumption) hk
      · split <;> omega
    have HER := hide ((unhide HE).2.1 hk)
    generalize bk (Parl.hd (ts.drop j)).kind = bkk at *
    clear hk
    go_wp2_with fail
    go_big_region
    go_wp2_with fail
    refine (bad_any _ rb tb cap s ts j e1 p1 2 (((unhide HS2).below ((Below.refl _ _).alloc (Nat.le_refl _) _)).draws 1)).mono ?_
    rintro e w3 ⟨rfl, hs3, hk3⟩
    have q5 := (hk3.block w2.heap.size (by simp) (by simp; omega)).trans (heap_alloc_new w2 (.cells #[.int .i64 a.k, .string a.nm, .int .i64 a.num, .slice a.ao a.n a.cap] 109))
    have q0 := (hk3.block w.heap.size (by simp; omega) (by simp; omega)).trans (blk_alloc' (unhide HB02) (.cells #[.int .i64 a.k, .string a.nm, .int .i64 a.num, .slice a.ao a.n a.cap] 109))
    have hz3 : w2.heap.size + 1 ≤ w3.heap.size := by have := hk3.size; simpa using this
    have HK3 := hide hk3
    have d2 := hs3.c2
    clear y0 yx yz k0 c0 c1 c2 hs3 hk3
    have y5 := blkA' q5
    have z5 := blk_lt' q5
    have y0 := blkA' q0
    have yx := blkX' q0
    have yz := blk_lt' q0
    clear q5 q0
    generalize (if e1 = 0 then (2 : Int) else e1) = e2 at *
    go_wp2_with fail
    go_region
    all_goals go_wp2_with fail
    all_goals refine bodyPost_ret (v := .tuple #[.agg #[.int .i64 a.k, .string a.nm, .int .i64 a.num, .slice a.ao a.n a.cap], .int .i64 e2]) (by simp [results, Tryz.results103, go_sem, y0]) rfl ?_
    all_goals refine wh_fin (unhide HVA) (by simp; exact unhide HRB) (by omega) (unhide HE).2.2.1 (unhide HE).2.2.2 (fun k h1 h2 => ?_) ?_ (unhide HER)
    · show ((((w3.setCell ⟨w.heap.size, 0, none⟩ _).setCell ⟨w.heap.size, 1, none⟩ _).setCell ⟨w.heap.size, 2, none⟩ _).setCell ⟨w.heap.size, 3, none⟩ _).heap[k]? = _
      rw [heap_set _ _ _ _ (by omega), heap_set _ _ _ _ (by omega), heap_set _ _ _ _ (by omega), heap_set _ _ _ _ (by omega), (unhide HK3).block k (by simp; omega) (by simp; omega)]
      exact Below.heap_alloc _ _ _ h2
    · have hB3 : Below w.heap.size w w3 := ((unhide HBL2).alloc (by omega) _).trans ⟨(unhide HK3).os, (unhide HK3).tape, (unhide HK3).output, (unhide HK3).size, fun k hk => (unhide HK3).block k (by simp; omega) (by simp; omega)⟩
      exact ((((hB3.setCell (p := ⟨w.heap.size, 0, none⟩) (Nat.le_refl _) _).setCell (p := ⟨w.heap.size, 1, none⟩) (Nat.le_refl _) _).setCell (p := ⟨w.heap.size, 2, none⟩) (Nat.le_refl _) _).setCell (p := ⟨w.heap.size, 3, none⟩) (Nat.le_refl _) _).drew
end Go.Proofs.YthfjnfcekeknlaaGreatDoor
namespace Go.Proofs.YthfjnfcekeknlaaGreatDoor
open Go.RowKit

theorem set8_block (w2 : World) (b : Nat) (v0 v1 v2 v3 u0 u1 u2 u3 : Value) {k : Nat} (h1 : k ≠ b) (h2 : k ≠ b + 1) :
    ((((((((w2.setCell ⟨b, 0, none⟩ v0).setCell ⟨b, 1, none⟩ v1).setCell ⟨b, 2, none⟩ v2).setCell ⟨b, 3, none⟩ v3).setCell ⟨b + 1, 0, none⟩ u0).setCell ⟨b + 1, 1, none⟩ u1).setCell ⟨b + 1, 2, none⟩ u2).setCell ⟨b + 1, 3, none⟩ u3).heap[k]? = w2.heap[k]? := by
  rw [heap_set _ _ _ _ h2, heap_set _ _ _ _ h2, heap_set _ _ _ _ h2, heap_set _ _ _ _ h2, heap_set _ _ _ _ h1, heap_set _ _ _ _ h1, heap_set _ _ _ _ h1, heap_set _ _ _ _ h1]
theorem set8_below {w w2 : World} {b : Nat} (h : Below w.heap.size w w2) (hb : w.heap.size ≤ b) (v0 v1 v2 v3 u0 u1 u2 u3 : Value) :
    Below w.heap.size w ((((((((w2.setCell ⟨b, 0, none⟩ v0).setCell ⟨b, 1, none⟩ v1).setCell ⟨b, 2, none⟩ v2).setCell ⟨b, 3, none⟩ v3).setCell ⟨b + 1, 0, none⟩ u0).setCell ⟨b + 1, 1, none⟩ u1).setCell ⟨b + 1, 2, none⟩ u2).setCell ⟨b + 1, 3, none⟩ u3) :=
  have hc : w.heap.size ≤ b + 1 := by omega
  (((((((h.setCell (p := ⟨b, 0, none⟩) hb _).setCell (p := ⟨b, 1, none⟩) hb _).setCell (p := ⟨b, 2, none⟩) hb _).setCell (p := ⟨b, 3, none⟩) hb _).setCell (p := ⟨b + 1, 0, none⟩) hc _).setCell (p := ⟨b + 1, 1, none⟩) hc _).setCell (p := ⟨b + 1, 2, none⟩) hc _).setCell (p := ⟨b + 1, 3, none⟩) hc _
theorem set8_size (w2 : World) (b : Nat) (v0 v1 v2 v3 u0 u1 u2 u3 : Value) :
    ((((((((w2.setCell ⟨b, 0, none⟩ v0).setCell ⟨b, 1, none⟩ v1).setCell ⟨b, 2, none⟩ v2).setCell ⟨b, 3, none⟩ v3).setCell ⟨b + 1, 0, none⟩ u0).setCell ⟨b + 1, 1, none⟩ u1).setCell ⟨b + 1, 2, none⟩ u2).setCell ⟨b + 1, 3, none⟩ u3).heap.size = w2.heap.size := by simp only [size_set]
theorem set8_all {w2 : World} {b : Nat} {v0 v1 v2 v3 u0 u1 u2 u3 : Value} {X : Obj} {k : Nat} (hk : k < w2.heap.size) (h1 : k ≠ b) (h2 : k ≠ b + 1) :
    ((((((((((w2.setCell ⟨b, 0, none⟩ v0).setCell ⟨b, 1, none⟩ v1).setCell ⟨b, 2, none⟩ v2).setCell ⟨b, 3, none⟩ v3).setCell ⟨b + 1, 0, none⟩ u0).setCell ⟨b + 1, 1, none⟩ u1).setCell ⟨b + 1, 2, none⟩ u2).setCell ⟨b + 1, 3, none⟩ u3).alloc X).drew).heap[k]? = w2.heap[k]? := by
  have hs := set8_size w2 b v0 v1 v2 v3 u0 u1 u2 u3
  have hb := set8_block w2 b v0 v1 v2 v3 u0 u1 u2 u3 h1 h2
  generalize ((((((((w2.setCell ⟨b, 0, none⟩ v0).setCell ⟨b, 1, none⟩ v1).setCell ⟨b, 2, none⟩ v2).setCell ⟨b, 3, none⟩ v3).setCell ⟨b + 1, 0, none⟩ u0).setCell ⟨b + 1, 1, none⟩ u1).setCell ⟨b + 1, 2, none⟩ u2).setCell ⟨b + 1, 3, none⟩ u3) = G at *
  exact (Below.heap_alloc G X k (by omega)).trans hb
/-- What 'both' is to leave. -/
def PBo (a b : ByteArray) (la lb : List Parl.Tok) (w : World) (e : Ending) (w' : World) : Prop :=
  ∃ x y : BV, e = .returned (.tuple #[.agg #[.int .i64 x.k, .string x.nm, .int .i64 x.num, .slice x.ao x.n x.cap], .agg #[.int .i64 y.k, .string y.nm, .int .i64 y.num, .slice y.ao y.n y.cap], .int .i64 (Parl.bothE a b la lb : Int)]) ∧ (∀ p l1 t l2, ¬ (64 < a.size ∨ 64 < b.size) → Parl.whole la = .inr (p, l1) → Parl.whole lb = .inr (t, l2) → RS 0 8 (fun g => w.heap.size ≤ g) w' x p ∧ RS 0 8 (fun g => w.heap.size ≤ g) w' y t) ∧ Below w.heap.size w w'

set_option maxHeartbeats 2000000 in
set_option maxRecDepth 100000 in
theorem bo_long (w : World) (a b : ByteArray) (la lb : List Parl.Tok) (h : 64 < a.size ∨ 64 < b.size) :
    Calls Tryz.prog 59 #[.string a, .string b] w fun e w' => PBo a b la lb w e w' := by
  have HE := hide (show Parl.bothE a b la lb = 1 by unfold Parl.bothE; rw [if_pos h])
  have HH := hide h
  by_cases ha : 64 < a.size
  · have h1 : decide (64 < (a.size : Int)) = true := by simp; omega
    clear h ha
    go_enter Tryz.func59, Tryz.ntmps59
    go_wp2_with fail
    refine bodyPost_ret (v := .tuple #[.agg #[.int .i64 0, .string ⟨#[]⟩, .int .i64 0, .slice none 0 0], .agg #[.int .i64 0, .string ⟨#[]⟩, .int .i64 0, .slice none 0 0], .int .i64 1]) (by simp [results, Tryz.results59, go_sem]) rfl ?_
    exact ⟨⟨0, ⟨#[]⟩, 0, none, 0, 0⟩, ⟨0, ⟨#[]⟩, 0, none, 0, 0⟩, by rw [unhide HE]; rfl, fun p l1 t l2 q => absurd (unhide HH) q, ((Below.refl _ _).alloc (Nat.le_refl _) _).alloc (by simp) _⟩
  · have h1 : decide (64 < (a.size : Int)) = false := by simp; omega
    have h2 : decide (64 < (b.size : Int)) = true := by simp; omega
    clear h ha
    go_enter Tryz.func59, Tryz.ntmps59
    go_wp2_with fail
    refine bodyPost_ret (v := .tuple #[.agg #[.int .i64 0, .string ⟨#[]⟩, .int .i64 0, .slice none 0 0], .agg #[.int .i64 0, .string ⟨#[]⟩, .int .i64 0, .slice none 0 0], .int .i64 1]) (by simp [results, Tryz.results59, go_sem]) rfl ?_
    exact ⟨⟨0, ⟨#[]⟩, 0, none, 0, 0⟩, ⟨0, ⟨#[]⟩, 0, none, 0, 0⟩, by rw [unhide HE]; rfl, fun p l1 t l2 q => absurd (unhide HH) q, ((Below.refl _ _).alloc (Nat.le_refl _) _).alloc (by simp) _⟩

set_option maxHeartbeats 4000000 in
set_option maxRecDepth 100000 in
theorem bo_short (w : World) (a b : ByteArray) (la lb : List Parl.Tok) (h : ¬ (64 < a.size ∨ 64 < b.size)) (hLa : Parl.Chain a la) (hha : Parl.hd la = Parl.next a 0) (hLb : Parl.Chain b lb) (hhb : Parl.hd lb = Parl.next b 0) :
    Calls Tryz.prog 59 #[.string a, .string b] w fun e w' => PBo a b la lb w e w' := by
  have IA := hide (fun W => whole_any W a la (by omega) hLa hha)
  have IB := hide (fun W => whole_any W b lb (by omega) hLb hhb)
  have HE := hide (And.intro (fun er ps => Parl.bothE_a (b := b) (la := la) (lb := lb) (er := er) (ps := ps) h) (fun p l1 => Parl.bothE_b (a := a) (p := p) (l1 := l1) (la := la) (lb := lb) h))
  have HH := hide h
  have h1 : decide (64 < (a.size : Int)) = false := by simp; omega
  have h2 : decide (64 < (b.size : Int)) = false := by simp; omega
  have hB0 : ((w.alloc (.cells #[.int .i64 0, .string ⟨#[]⟩, .int .i64 0, .slice none 0 0] 109)).alloc (.cells #[.int .i64 0, .string ⟨#[]⟩, .int .i64 0, .slice none 0 0] 109)).heap[w.heap.size]? = some (.cells #[.int .i64 0, .string ⟨#[]⟩, .int .i64 0, .slice none 0 0] 109) := blk_alloc' (heap_alloc_new w _) _
  have hB1 : ((w.alloc (.cells #[.int .i64 0, .string ⟨#[]⟩, .int .i64 0, .slice none 0 0] 109)).alloc (.cells #[.int .i64 0, .string ⟨#[]⟩, .int .i64 0, .slice none 0 0] 109)).heap[w.heap.size + 1]? = some (.cells #[.int .i64 0, .string ⟨#[]⟩, .int .i64 0, .slice none 0 0] 109) := by
    have := heap_alloc_new (w.alloc (.cells #[.int .i64 0, .string ⟨#[]⟩, .int .i64 0, .slice none 0 0] 109)) (.cells #[.int .i64 0, .string ⟨#[]⟩, .int .i64 0, .slice none 0 0] 109)
    rw [World.size_alloc] at this
    exact this
  have hBl : Below w.heap.size w ((w.alloc (.cells #[.int .i64 0, .string ⟨#[]⟩, .int .i64 0, .slice none 0 0] 109)).alloc (.cells #[.int .i64 0, .string ⟨#[]⟩, .int .i64 0, .slice none 0 0] 109)) := ((Below.refl _ _).alloc (Nat.le_refl _) _).alloc (by simp) _
  have hz : ((w.alloc (.cells #[.int .i64 0, .string ⟨#[]⟩, .int .i64 0, .slice none 0 0] 109)).alloc (.cells #[.int .i64 0, .string ⟨#[]⟩, .int .i64 0, .slice none 0 0] 109)).heap.size = w.heap.size + 2 := by simp
  have HB0 := hide hB0
  have HB1 := hide hB1
  have HBL := hide hBl
  have HZ := hide hz
  clear h hLa hha hLb hhb hB0 hB1 hBl hz
  go_enter Tryz.func59, Tryz.ntmps59
  go_wp2_with fail
  generalize hW : ((w.alloc (.cells #[.int .i64 0, .string ⟨#[]⟩, .int .i64 0, .slice none 0 0] 109)).alloc (.cells #[.int .i64 0, .string ⟨#[]⟩, .int .i64 0, .slice none 0 0] 109)) = W0 at *
  clear hW
  refine (unhide IA W0).mono ?_
  generalize hra : Parl.whole la = ra
  have HRA := hide hra
  clear hra
  rintro e w2 ⟨x, rfl, hx, hb2⟩
  have hz := unhide HZ
  have hz2 := hb2.size
  have HX := hide hx
  have HBL2 := hide ((unhide HBL).trans (hb2.mono (by omega)))
  have HQ0 := hide ((hb2.block w.heap.size (by omega)).trans (unhide HB0))
  have HQ1 := hide ((hb2.block (w.heap.size + 1) (by omega)).trans (unhide HB1))
  clear hx hb2
  rcases ra with ⟨er, ps⟩ | ⟨p, l1⟩
  · have hne : ((er : Int) != 0) = true := by have : er ≠ 0 := unhide HX; simpa using this
    have y0 := blkA' (unhide HQ0)
    have x0 := blkX' (unhide HQ0)
    have z0 := blk_lt' (unhide HQ0)
    have y1 := blkA' (unhide HQ1)
    have x1 := blkX' (unhide HQ1)
    have z1 := blk_lt' (unhide HQ1)
    have HEE := hide ((unhide HE).1 er ps (unhide HRA))
    clear HX
    simp only [show Parl.erT (.inl (er, ps) : Parl.Res Parl.Tm) = er from rfl]
    go_wp2_with fail
    go_region
    all_goals go_wp2_with fail
    all_goals refine bodyPost_ret (v := .tuple #[.agg #[.int .i64 x.k, .string x.nm, .int .i64 x.num, .slice x.ao x.n x.cap], .agg #[.int .i64 x.k, .string x.nm, .int .i64 x.num, .slice x.ao x.n x.cap], .int .i64 er]) (by simp [results, Tryz.results59, go_sem, y0, y1, z0, z1]) rfl ?_
    all_goals exact ⟨x, x, by rw [unhide HEE], (fun p l1 t l2 _ q => by rw [unhide HRA] at q; cases q), ((set8_below (unhide HBL2) (Nat.le_refl _) _ _ _ _ _ _ _ _).alloc (by rw [set8_size]; omega) _).drew⟩
  · simp only [show Parl.erT (.inr (p, l1) : Parl.Res Parl.Tm) = 0 from rfl]
    have HEE := hide ((unhide HE).2 p l1 (unhide HRA))
    have HY0 := hide (blk_alloc' (unhide HQ0) (.cells #[.int .i64 x.k, .string x.nm, .int .i64 x.num, .slice x.ao x.n x.cap] 109))
    have HY1 := hide (blk_alloc' (unhide HQ1) (.cells #[.int .i64 x.k, .string x.nm, .int .i64 x.num, .slice x.ao x.n x.cap] 109))
    have HY2 := hide (heap_alloc_new w2 (.cells #[.int .i64 x.k, .string x.nm, .int .i64 x.num, .slice x.ao x.n x.cap] 109))
    have HBL3 := hide ((unhide HBL2).alloc (by omega) (.cells #[.int .i64 x.k, .string x.nm, .int .i64 x.num, .slice x.ao x.n x.cap] 109))
    have HRX := hide ((show RS 0 8 (fun g => W0.heap.size ≤ g) w2 x p from unhide HX).below ((Below.refl _ _).alloc (Nat.le_refl _) (.cells #[.int .i64 x.k, .string x.nm, .int .i64 x.num, .slice x.ao x.n x.cap] 109)))
    have hzz : (w2.alloc (.cells #[.int .i64 x.k, .string x.nm, .int .i64 x.num, .slice x.ao x.n x.cap] 109)).heap.size = w2.heap.size + 1 := by simp
    go_wp2_with fail
    refine (unhide IB _).mono ?_
    rintro e w3 ⟨y, rfl, hy, hb3⟩
    have hz3 := hb3.size
    rw [hzz] at hz3
    have HB3 := hide hb3
    have HY := hide hy
    have q0 := (hb3.block w.heap.size (by omega)).trans (unhide HY0)
    have q1 := (hb3.block (w.heap.size + 1) (by omega)).trans (unhide HY1)
    have q2 := (hb3.block w2.heap.size (by omega)).trans (unhide HY2)
    have y0 := blkA' q0
    have x0 := blkX' q0
    have z0 := blk_lt' q0
    have y1 := blkA' q1
    have x1 := blkX' q1
    have z1 := blk_lt' q1
    have y2 := blkA' q2
    have z2 := blk_lt' q2
    clear hb3 hy q0 q1 q2
    generalize hee : Parl.erT (Parl.whole lb) = er at *
    clear hee
    go_wp2_with fail
    go_region
    all_goals go_wp2_with fail
    all_goals refine bodyPost_ret (v := .tuple #[.agg #[.int .i64 x.k, .string x.nm, .int .i64 x.num, .slice x.ao x.n x.cap], .agg #[.int .i64 y.k, .string y.nm, .int .i64 y.num, .slice y.ao y.n y.cap], .int .i64 er]) (by simp [results, Tryz.results59, go_sem, y0, y1, z0, z1]) rfl ?_
    all_goals refine ⟨x, y, by rw [unhide HEE], fun p' l1' t l2 _ qa qb => ?_, ((set8_below ((unhide HBL3).trans ((unhide HB3).mono (by omega))) (Nat.le_refl _) _ _ _ _ _ _ _ _).alloc (by rw [set8_size]; omega) _).drew⟩
    all_goals rw [unhide HRA] at qa
    all_goals cases qa
    all_goals have hy := unhide HY
    all_goals rw [qb] at hy
    all_goals exact ⟨((unhide HRX).below (unhide HB3)).keep fun g cs hg hc => ⟨(set8_all (blk_lt' hc) (by omega) (by omega)).trans hc, by omega⟩, (show RS 0 8 _ w3 y t from hy).keep fun g cs hg hc => ⟨(set8_all (blk_lt' hc) (by omega) (by omega)).trans hc, by omega⟩⟩
theorem both_any (w : World) (a b : ByteArray) (la lb : List Parl.Tok) (hLa : Parl.Chain a la) (hha : Parl.hd la = Parl.next a 0) (hLb : Parl.Chain b lb) (hhb : Parl.hd lb = Parl.next b 0) :
    Calls Tryz.prog 59 #[.string a, .string b] w fun e w' => PBo a b la lb w e w' := by
  by_cases h : 64 < a.size ∨ 64 < b.size
  · exact bo_long w a b la lb h
  · exact bo_short w a b la lb h hLa hha hLb hhb
end Go.Proofs.YthfjnfcekeknlaaGreatDoor
