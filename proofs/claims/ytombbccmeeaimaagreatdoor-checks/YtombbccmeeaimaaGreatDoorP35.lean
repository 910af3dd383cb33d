import Derived.Test.YtombbccmeeaimaaGreatDoorP34
namespace Go.Proofs.YtombbccmeeaimaaGreatDoor
open Go.RowKit

set_option maxHeartbeats 8000000 in
set_option maxRecDepth 100000 in
theorem isB_any (w : World) (rb tb cap : Nat) (s : ByteArray) (L : List Parl.Tok) (i : Nat) (p0 : Int) (tests goals : Bool) (h : SB w rb tb cap s L i 0 p0) :
    Calls Tryz.prog 76 #[.pointer (some ⟨rb, 0, none⟩), .agg #[.bool tests, .bool goals]] w fun e w' => PUniL rb tb cap s L p0 (Parl.items 5 tests goals (L.drop i)) w e w' := by
  have hlt := h.hlt
  have htl := h.tblt
  obtain ⟨ti, hi, hz0', hz1', hz2'⟩ := info_parts Tryz.info104
  have HL := hide (show LI w rb tb cap s L p0 tests goals (L.drop i) 7 (.slice none 0 0) ((w.alloc (.cells #[.bool tests, .bool goals] 141)).alloc (.cells #[.bool false, .bool false] 141)) from
    ⟨0, [], tests, goals, i, 0, p0, h.below (((Below.refl _ _).alloc (Nat.le_refl _) _).alloc (by simp) _), ((KB.refl [rb] w).alloc _).alloc _, blk_alloc' (heap_alloc_new w _) _, by have := heap_alloc_new (w.alloc (.cells #[.bool tests, .bool goals] 141)) (.cells #[.bool false, .bool false] 141); rw [World.size_alloc] at this; exact this, World.ownsRow_nil _ _ _ _, by omega, by omega, Or.inl ⟨rfl, rfl, by omega, [], (Parl.preI_nil _).symm⟩⟩)
  clear h
  go_enter Tryz.func76, Tryz.ntmps76
  go_wp2_with fail
  go_loopg [6] 7 (fun k av wr => LI w rb tb cap s L p0 tests goals (L.drop i) k av wr)
  case atStart => exact unhide HL
  case round =>
    clear HL
    obtain ⟨n, xs, t, g, j, e1, p1, hs, hk, hb0, hb1, ho, hn6, hkn, hcase⟩ := hrel
    have HS := hide hs
    have HK := hide hk
    have HB0 := hide hb0
    have HB1 := hide hb1
    have HO := hide ho
    have r0 := blkA' hb0
    have hrw := hs.hlt
    clear hs hk hb0 hb1 ho
    rcases hcase with ⟨rfl, rfl, hn5, ys, htot⟩ | ⟨hne, er, pos, he, hp, htot⟩
    · have HTOT := hide htot
      clear htot
      go_wp2_with fail
      refine (itB_any _ rb tb cap s L j _ t g (unhide HS)).mono ?_
      generalize hI : Parl.item0 t g (L.drop j) = r
      have HI := hide hI
      clear hI
      rintro e w5 ⟨a, b, c, op, sg, t1, g1, j2, e2, p2, rfl, hs5, hk5, hu, hw⟩
      have HS5 := hide hs5
      have HK5 := hide ((unhide HK).trans hk5)
      have HB05 := hide (blk_kb hk5 (unhide HB0) (by simp; omega))
      have HB15 := hide (blk_kb hk5 (unhide HB1) (by simp; omega))
      have HO5 := hide (own_kb (unhide HO) hk5 (by simp; omega))
      have HU := hide hu
      have HW := hide hw
      clear hs5 hk5 hu hw r0 hrw HS HK HB0 HB1 HO
      cases t1
      · cases g1
        · have r0 := blkA' (unhide HB05)
          have x0 := blkX' (unhide HB05)
          have hz0 := blk_lt' (unhide HB05)
          have hz1 := blk_lt' (unhide HB15)
          have hrw := (unhide HS5).hlt
          go_wp2_with (first | (at_builtin; go_must (refine wpList_append_own _ rfl (.tmp 17) (.tmp 19) 51 rfl (w.heap.size + 2) 104 ti (.agg #[.string ⟨#[]⟩, .string ⟨#[]⟩, .int .i64 0, .string ⟨#[]⟩, .int .i64 0, .slice none 0 0, .int .i64 0, .string ⟨#[]⟩, .int .i64 0, .slice none 0 0, .int .i64 0, .string ⟨#[]⟩, .int .i64 0, .slice none 0 0]) 14 200 Tryz.underlying51 hi hz0' hz1' hz2' rfl (by decide) _ n xs rfl ((((own_c2 (.bool false) (.bool false) (unhide HO5)).alloc _).alloc _).alloc _) ⟨w5.heap.size + 1 + 1, 0, none⟩ 1 1 [.string op, .string sg, .int .i64 a.k, .string a.nm, .int .i64 a.num, .slice a.ao a.n a.cap, .int .i64 b.k, .string b.nm, .int .i64 b.num, .slice b.ao b.n b.cap, .int .i64 c.k, .string c.nm, .int .i64 c.num, .slice c.ao c.n c.cap] rfl rfl (newL _ _ _ _ _ (by simp) rfl) (one14 a b c op sg) (by unfold maxLen; omega) (by omega) (by simp; omega) ?_); go_must (intro v' w7 hown' hgrow _; have HOWN7 := hide hown'; have HR7 := hide (li_mk (.bool false) (.bool false) (unhide HS5) (unhide HK5) hlt htl (unhide HB05) (unhide HB15) (unhide HO5) hgrow hown'); have z := blkA' (unhide HR7).2.2.1; have zx := blkX' (unhide HR7).2.2.1; obtain ⟨g', cap', hv, hcm⟩ := ownB_some hown'; rw [hv] at HOWN7 ⊢; clear hown' hgrow hv)))
          have HS7 := hide (unhide HR7).1
          have HK7 := hide (unhide HR7).2.1
          have H07 := hide (unhide HR7).2.2.1
          have H17 := hide (unhide HR7).2.2.2
          clear HR7 z zx r0 x0 hz0 hz1 hrw HS5 HK5 HB05 HB15 HO5
          rcases r with ⟨er, ps⟩ | ⟨⟨x, t2, g2⟩, l1⟩
          · obtain ⟨rfl, rfl, hne⟩ := unhide HU
            have hne' : ((er : Int) != 0) = true := by simpa using hne
            have HNE := hide hne
            clear hne
            have HF := hide (show Parl.items 5 tests goals (L.drop i) = .inl (er, ps) by rw [unhide HTOT, Parl.items_err (unhide HI)]; rfl)
            refine (bad_later _ rb tb cap s L j2 _ _ 2 (unhide HS7) (unhide HNE)).mono ?_
            rintro e w8 ⟨rfl, rfl⟩
            go_wp2_with fail
            refine (is_any _ rb tb cap s L j2 _ _ _ (unhide HS7)).mono ?_
            rintro e wn ⟨rfl, m, rfl⟩
            simp only [ByteArray.toList_mk]
            have HSe := hide ((unhide HS7).draws m)
            have HKe := hide ((unhide HK7).drewN m)
            have c2e := (unhide HS7).c2
            have hre := (unhide HS7).hlt
            cases hc : Parl.sees (L.drop j2) [44]
            · have y0 := blkA' (unhide H07)
              have y1 := blkA' (unhide H17)
              have y1x := blkX' (unhide H17)
              have hv0 := blk_lt' (unhide H07)
              have hv1 := blk_lt' (unhide H17)
              go_wp2_with fail
              go_big_region
              go_wp2_with fail
              refine bodyPost_ret (v := .tuple #[.slice (some ⟨g', 0, none⟩) (n + 1) cap', .agg #[.bool false, .bool false]]) (by simp [results, Tryz.results76, go_sem, y1]) rfl ?_
              rw [unhide HF]
              have RQ := fun W => OnB.c2 (w.heap.size + 1) W (.bool false) (.bool false)
              exact ⟨some ⟨g', 0, none⟩, n + 1, cap', false, false, j2, _, _, rfl, ((unhide HSe).onb (RQ _) (by omega) (by omega)).below (Below.refl _ _).drew, ((unhide HKe).onb (RQ _) (by omega)).drew, ⟨rfl, rfl, unhide HNE⟩, trivial⟩
            · have y0 := blkA' (unhide H07)
              have y1 := blkA' (unhide H17)
              have y1x := blkX' (unhide H17)
              have hv0 := blk_lt' (unhide H07)
              have hv1 := blk_lt' (unhide H17)
              go_wp2_with fail
              go_big_region
              go_wp2_with fail
              refine bodyPost_ret (v := .tuple #[.slice (some ⟨g', 0, none⟩) (n + 1) cap', .agg #[.bool false, .bool false]]) (by simp [results, Tryz.results76, go_sem, y1]) rfl ?_
              rw [unhide HF]
              have RQ := fun W => OnB.c2 (w.heap.size + 1) W (.bool false) (.bool false)
              exact ⟨some ⟨g', 0, none⟩, n + 1, cap', false, false, j2, _, _, rfl, ((unhide HSe).onb (RQ _) (by omega) (by omega)).below (Below.refl _ _).drew, ((unhide HKe).onb (RQ _) (by omega)).drew, ⟨rfl, rfl, unhide HNE⟩, trivial⟩
          · obtain ⟨rfl, rfl, hl1⟩ := unhide HU
            obtain ⟨ht2, hg2⟩ := unhide HW
            subst hl1 ht2 hg2
            have HF := hide (show Parl.items 5 tests goals (L.drop i) = .inl (2, (Parl.hd (L.drop j2)).pos) by rw [unhide HTOT, Parl.items_neither (unhide HI)]; rfl)
            refine (bad_first _ rb tb cap s L j2 _ 2 (unhide HS7)).mono ?_
            rintro e w8 ⟨rfl, hs8, hk8⟩
            have HS8 := hide hs8
            have HK8 := hide ((unhide HK7).trans hk8)
            have H08 := hide (blk_kb hk8 (unhide H07) (by simp; omega))
            have H18 := hide (blk_kb hk8 (unhide H17) (by simp; omega))
            clear hs8 hk8
            go_wp2_with fail
            refine (is_any _ rb tb cap s L j2 2 _ _ (unhide HS8)).mono ?_
            rintro e wn ⟨rfl, m, rfl⟩
            simp only [ByteArray.toList_mk]
            have HSe := hide ((unhide HS8).draws m)
            have HKe := hide ((unhide HK8).drewN m)
            have c2e := (unhide HS8).c2
            have hre := (unhide HS8).hlt
            cases hc : Parl.sees (L.drop j2) [44]
            · have y0 := blkA' (unhide H08)
              have y1 := blkA' (unhide H18)
              have y1x := blkX' (unhide H18)
              have hv0 := blk_lt' (unhide H08)
              have hv1 := blk_lt' (unhide H18)
              go_wp2_with fail
              go_big_region
              go_wp2_with fail
              refine bodyPost_ret (v := .tuple #[.slice (some ⟨g', 0, none⟩) (n + 1) cap', .agg #[.bool false, .bool false]]) (by simp [results, Tryz.results76, go_sem, y1]) rfl ?_
              rw [unhide HF]
              have RQ := fun W => OnB.c2 (w.heap.size + 1) W (.bool false) (.bool false)
              exact ⟨some ⟨g', 0, none⟩, n + 1, cap', false, false, j2, 2, _, rfl, ((unhide HSe).onb (RQ _) (by omega) (by omega)).below (Below.refl _ _).drew, ((unhide HKe).onb (RQ _) (by omega)).drew, ⟨rfl, rfl, by omega⟩, trivial⟩
            · have y0 := blkA' (unhide H08)
              have y1 := blkA' (unhide H18)
              have y1x := blkX' (unhide H18)
              have hv0 := blk_lt' (unhide H08)
              have hv1 := blk_lt' (unhide H18)
              go_wp2_with fail
              go_big_region
              go_wp2_with fail
              refine bodyPost_ret (v := .tuple #[.slice (some ⟨g', 0, none⟩) (n + 1) cap', .agg #[.bool false, .bool false]]) (by simp [results, Tryz.results76, go_sem, y1]) rfl ?_
              rw [unhide HF]
              have RQ := fun W => OnB.c2 (w.heap.size + 1) W (.bool false) (.bool false)
              exact ⟨some ⟨g', 0, none⟩, n + 1, cap', false, false, j2, 2, _, rfl, ((unhide HSe).onb (RQ _) (by omega) (by omega)).below (Below.refl _ _).drew, ((unhide HKe).onb (RQ _) (by omega)).drew, ⟨rfl, rfl, by omega⟩, trivial⟩
        · have r0 := blkA' (unhide HB05)
          have x0 := blkX' (unhide HB05)
          have hz0 := blk_lt' (unhide HB05)
          have hz1 := blk_lt' (unhide HB15)
          have hrw := (unhide HS5).hlt
          go_wp2_with (first | (at_builtin; go_must (refine wpList_append_own _ rfl (.tmp 17) (.tmp 19) 51 rfl (w.heap.size + 2) 104 ti (.agg #[.string ⟨#[]⟩, .string ⟨#[]⟩, .int .i64 0, .string ⟨#[]⟩, .int .i64 0, .slice none 0 0, .int .i64 0, .string ⟨#[]⟩, .int .i64 0, .slice none 0 0, .int .i64 0, .string ⟨#[]⟩, .int .i64 0, .slice none 0 0]) 14 200 Tryz.underlying51 hi hz0' hz1' hz2' rfl (by decide) _ n xs rfl ((((own_c2 (.bool false) (.bool true) (unhide HO5)).alloc _).alloc _).alloc _) ⟨w5.heap.size + 1 + 1, 0, none⟩ 1 1 [.string op, .string sg, .int .i64 a.k, .string a.nm, .int .i64 a.num, .slice a.ao a.n a.cap, .int .i64 b.k, .string b.nm, .int .i64 b.num, .slice b.ao b.n b.cap, .int .i64 c.k, .string c.nm, .int .i64 c.num, .slice c.ao c.n c.cap] rfl rfl (newL _ _ _ _ _ (by simp) rfl) (one14 a b c op sg) (by unfold maxLen; omega) (by omega) (by simp; omega) ?_); go_must (intro v' w7 hown' hgrow _; have HOWN7 := hide hown'; have HR7 := hide (li_mk (.bool false) (.bool true) (unhide HS5) (unhide HK5) hlt htl (unhide HB05) (unhide HB15) (unhide HO5) hgrow hown'); have z := blkA' (unhide HR7).2.2.1; have zx := blkX' (unhide HR7).2.2.1; obtain ⟨g', cap', hv, hcm⟩ := ownB_some hown'; rw [hv] at HOWN7 ⊢; clear hown' hgrow hv)))
          have HS7 := hide (unhide HR7).1
          have HK7 := hide (unhide HR7).2.1
          have H07 := hide (unhide HR7).2.2.1
          have H17 := hide (unhide HR7).2.2.2
          clear HR7 z zx r0 x0 hz0 hz1 hrw HS5 HK5 HB05 HB15 HO5
          rcases r with ⟨er, ps⟩ | ⟨⟨x, t2, g2⟩, l1⟩
          · obtain ⟨rfl, rfl, hne⟩ := unhide HU
            have hne' : ((er : Int) != 0) = true := by simpa using hne
            have HNE := hide hne
            clear hne
            have HF := hide (show Parl.items 5 tests goals (L.drop i) = .inl (er, ps) by rw [unhide HTOT, Parl.items_err (unhide HI)]; rfl)
            refine (is_any _ rb tb cap s L j2 _ _ _ (unhide HS7)).mono ?_
            rintro e wn ⟨rfl, m, rfl⟩
            simp only [ByteArray.toList_mk]
            have HSe := hide ((unhide HS7).draws m)
            have HKe := hide ((unhide HK7).drewN m)
            have c2e := (unhide HS7).c2
            have hre := (unhide HS7).hlt
            cases hc : Parl.sees (L.drop j2) [44]
            · have y0 := blkA' (unhide H07)
              have y1 := blkA' (unhide H17)
              have y1x := blkX' (unhide H17)
              have hv0 := blk_lt' (unhide H07)
              have hv1 := blk_lt' (unhide H17)
              go_wp2_with fail
              go_big_region
              go_wp2_with fail
              refine bodyPost_ret (v := .tuple #[.slice (some ⟨g', 0, none⟩) (n + 1) cap', .agg #[.bool false, .bool true]]) (by simp [results, Tryz.results76, go_sem, y1]) rfl ?_
              rw [unhide HF]
              have RQ := fun W => OnB.c2 (w.heap.size + 1) W (.bool false) (.bool true)
              exact ⟨some ⟨g', 0, none⟩, n + 1, cap', false, true, j2, _, _, rfl, ((unhide HSe).onb (RQ _) (by omega) (by omega)).below (Below.refl _ _).drew, ((unhide HKe).onb (RQ _) (by omega)).drew, ⟨rfl, rfl, unhide HNE⟩, trivial⟩
            · have y0 := blkA' (unhide H07)
              have y1 := blkA' (unhide H17)
              have y1x := blkX' (unhide H17)
              have hv0 := blk_lt' (unhide H07)
              have hv1 := blk_lt' (unhide H17)
              go_wp2_with fail
              go_big_region
              go_wp2_with fail
              refine bodyPost_ret (v := .tuple #[.slice (some ⟨g', 0, none⟩) (n + 1) cap', .agg #[.bool false, .bool true]]) (by simp [results, Tryz.results76, go_sem, y1]) rfl ?_
              rw [unhide HF]
              have RQ := fun W => OnB.c2 (w.heap.size + 1) W (.bool false) (.bool true)
              exact ⟨some ⟨g', 0, none⟩, n + 1, cap', false, true, j2, _, _, rfl, ((unhide HSe).onb (RQ _) (by omega) (by omega)).below (Below.refl _ _).drew, ((unhide HKe).onb (RQ _) (by omega)).drew, ⟨rfl, rfl, unhide HNE⟩, trivial⟩
          · obtain ⟨rfl, rfl, hl1⟩ := unhide HU
            obtain ⟨ht2, hg2⟩ := unhide HW
            subst hl1 ht2 hg2
            have hnn : ¬ (false = false ∧ true = false) := by simp
            refine (is_any _ rb tb cap s L j2 0 _ _ (unhide HS7)).mono ?_
            rintro e wn ⟨rfl, m, rfl⟩
            simp only [ByteArray.toList_mk]
            have HSe := hide ((unhide HS7).draws m)
            have HKe := hide ((unhide HK7).drewN m)
            have H0e := hide (show (w7.drewN m).heap[w.heap.size]? = _ from unhide H07)
            have H1e := hide (show (w7.drewN m).heap[w.heap.size + 1]? = _ from unhide H17)
            have HOe := hide (own_kb (unhide HOWN7) ((KB.refl [rb] w7).drewN m) (by simp; omega))
            have c2e := (unhide HS7).c2
            have hre := (unhide HS7).hlt
            cases hc : Parl.sees (L.drop j2) [44]
            · have HF := hide (show Parl.items 5 tests goals (L.drop i) = .inr ((ys ++ [x], false, true), L.drop j2) by rw [unhide HTOT, Parl.items_end (unhide HI) hnn hc]; rfl)
              have y0 := blkA' (unhide H07)
              have y1 := blkA' (unhide H17)
              have y1x := blkX' (unhide H17)
              have hv0 := blk_lt' (unhide H07)
              have hv1 := blk_lt' (unhide H17)
              go_wp2_with fail
              go_big_region
              go_wp2_with fail
              refine bodyPost_ret (v := .tuple #[.slice (some ⟨g', 0, none⟩) (n + 1) cap', .agg #[.bool false, .bool true]]) (by simp [results, Tryz.results76, go_sem, y1]) rfl ?_
              rw [unhide HF]
              have RQ := fun W => OnB.c2 (w.heap.size + 1) W (.bool false) (.bool true)
              exact ⟨some ⟨g', 0, none⟩, n + 1, cap', false, true, j2, 0, _, rfl, ((unhide HSe).onb (RQ _) (by omega) (by omega)).below (Below.refl _ _).drew, ((unhide HKe).onb (RQ _) (by omega)).drew, ⟨rfl, rfl, rfl⟩, ⟨rfl, rfl⟩⟩
            · by_cases hfull : n = 5
              · subst hfull
                have HF := hide (show Parl.items 5 tests goals (L.drop i) = .inl (3, (Parl.hd (L.drop j2)).pos) by rw [unhide HTOT, show 5 - 5 = 0 from rfl, Parl.items_full (unhide HI) hnn hc]; rfl)
                go_wp2_with fail
                refine (bad_first _ rb tb cap s L j2 _ 3 (unhide HSe)).mono ?_
                rintro e wa ⟨rfl, hsa, hka⟩
                have HSa := hide hsa
                have HKa := hide hka
                clear hsa hka
                go_wp2_with fail
                refine (pass_any _ rb tb cap s L _ _ ⟨j2, unhide HSa⟩).mono ?_
                rintro e wb ⟨rfl, ⟨jb, hsb⟩, hkb⟩
                have HSb := hide hsb
                have HKb := hide ((unhide HKa).trans hkb)
                clear hsb hkb
                go_wp2_with fail
                go_roundg (gk - 1)
                case measure => omega
                case rel => exact ⟨6, _, false, true, jb, 3, _, unhide HSb, (unhide HKe).trans (unhide HKb), blk_kb (unhide HKb) (unhide H0e) (by simp; omega), blk_kb (unhide HKb) (unhide H1e) (by simp; omega), own_kb (unhide HOe) (unhide HKb) (by simp; omega), by omega, by omega, Or.inr ⟨by omega, 3, _, rfl, rfl, unhide HF⟩⟩
              · have hn' : (((n : Int) + 1) == 6) = false := by simp; omega
                have hkj := hide (show (Parl.hd (L.drop j2)).kind ≠ 0 by rw [Parl.sees_kind hc]; omega)
                have HF := hide (show Parl.items 5 tests goals (L.drop i) = Parl.preI (ys ++ [x]) (Parl.items (5 - (n + 1)) false true (L.drop (j2 + 1))) by rw [unhide HTOT, show 5 - n = (5 - (n + 1)) + 1 by omega, Parl.items_more (unhide HI) hnn hc, Parl.preI_preI]; simp)
                go_wp2_with fail
                refine (pass_on _ rb tb cap s L j2 _ _ (unhide HSe) (unhide hkj)).mono ?_
                rintro e wb ⟨rfl, hsb, hkb⟩
                have HSb := hide hsb
                have HKb := hide hkb
                clear hsb hkb
                go_wp2_with fail
                go_roundg (gk - 1)
                case measure => omega
                case rel => exact ⟨n + 1, _, false, true, j2 + 1, 0, _, unhide HSb, (unhide HKe).trans (unhide HKb), blk_kb (unhide HKb) (unhide H0e) (by simp; omega), blk_kb (unhide HKb) (unhide H1e) (by simp; omega), own_kb (unhide HOe) (unhide HKb) (by simp; omega), by omega, by omega, Or.inl ⟨rfl, rfl, by omega, _, unhide HF⟩⟩
      · have r0 := blkA' (unhide HB05)
        have x0 := blkX' (unhide HB05)
        have hz0 := blk_lt' (unhide HB05)
        have hz1 := blk_lt' (unhide HB15)
        have hrw := (unhide HS5).hlt
        go_wp2_with (first | (at_builtin; go_must (refine wpList_append_own _ rfl (.tmp 17) (.tmp 19) 51 rfl (w.heap.size + 2) 104 ti (.agg #[.string ⟨#[]⟩, .string ⟨#[]⟩, .int .i64 0, .string ⟨#[]⟩, .int .i64 0, .slice none 0 0, .int .i64 0, .string ⟨#[]⟩, .int .i64 0, .slice none 0 0, .int .i64 0, .string ⟨#[]⟩, .int .i64 0, .slice none 0 0]) 14 200 Tryz.underlying51 hi hz0' hz1' hz2' rfl (by decide) _ n xs rfl ((((own_c2 (.bool true) (.bool g1) (unhide HO5)).alloc _).alloc _).alloc _) ⟨w5.heap.size + 1 + 1, 0, none⟩ 1 1 [.string op, .string sg, .int .i64 a.k, .string a.nm, .int .i64 a.num, .slice a.ao a.n a.cap, .int .i64 b.k, .string b.nm, .int .i64 b.num, .slice b.ao b.n b.cap, .int .i64 c.k, .string c.nm, .int .i64 c.num, .slice c.ao c.n c.cap] rfl rfl (newL _ _ _ _ _ (by simp) rfl) (one14 a b c op sg) (by unfold maxLen; omega) (by omega) (by simp; omega) ?_); go_must (intro v' w7 hown' hgrow _; have HOWN7 := hide hown'; have HR7 := hide (li_mk (.bool true) (.bool g1) (unhide HS5) (unhide HK5) hlt htl (unhide HB05) (unhide HB15) (unhide HO5) hgrow hown'); have z := blkA' (unhide HR7).2.2.1; have zx := blkX' (unhide HR7).2.2.1; obtain ⟨g', cap', hv, hcm⟩ := ownB_some hown'; rw [hv] at HOWN7 ⊢; clear hown' hgrow hv)))
        have HS7 := hide (unhide HR7).1
        have HK7 := hide (unhide HR7).2.1
        have H07 := hide (unhide HR7).2.2.1
        have H17 := hide (unhide HR7).2.2.2
        clear HR7 z zx r0 x0 hz0 hz1 hrw HS5 HK5 HB05 HB15 HO5
        rcases r with ⟨er, ps⟩ | ⟨⟨x, t2, g2⟩, l1⟩
        · obtain ⟨rfl, rfl, hne⟩ := unhide HU
          have hne' : ((er : Int) != 0) = true := by simpa using hne
          have HNE := hide hne
          clear hne
          have HF := hide (show Parl.items 5 tests goals (L.drop i) = .inl (er, ps) by rw [unhide HTOT, Parl.items_err (unhide HI)]; rfl)
          refine (is_any _ rb tb cap s L j2 _ _ _ (unhide HS7)).mono ?_
          rintro e wn ⟨rfl, m, rfl⟩
          simp only [ByteArray.toList_mk]
          have HSe := hide ((unhide HS7).draws m)
          have HKe := hide ((unhide HK7).drewN m)
          have c2e := (unhide HS7).c2
          have hre := (unhide HS7).hlt
          cases hc : Parl.sees (L.drop j2) [44]
          · have y0 := blkA' (unhide H07)
            have y1 := blkA' (unhide H17)
            have y1x := blkX' (unhide H17)
            have hv0 := blk_lt' (unhide H07)
            have hv1 := blk_lt' (unhide H17)
            go_wp2_with fail
            go_big_region
            go_wp2_with fail
            refine bodyPost_ret (v := .tuple #[.slice (some ⟨g', 0, none⟩) (n + 1) cap', .agg #[.bool true, .bool g1]]) (by simp [results, Tryz.results76, go_sem, y1]) rfl ?_
            rw [unhide HF]
            have RQ := fun W => OnB.c2 (w.heap.size + 1) W (.bool true) (.bool g1)
            exact ⟨some ⟨g', 0, none⟩, n + 1, cap', true, g1, j2, _, _, rfl, ((unhide HSe).onb (RQ _) (by omega) (by omega)).below (Below.refl _ _).drew, ((unhide HKe).onb (RQ _) (by omega)).drew, ⟨rfl, rfl, unhide HNE⟩, trivial⟩
          · have y0 := blkA' (unhide H07)
            have y1 := blkA' (unhide H17)
            have y1x := blkX' (unhide H17)
            have hv0 := blk_lt' (unhide H07)
            have hv1 := blk_lt' (unhide H17)
            go_wp2_with fail
            go_big_region
            go_wp2_with fail
            refine bodyPost_ret (v := .tuple #[.slice (some ⟨g', 0, none⟩) (n + 1) cap', .agg #[.bool true, .bool g1]]) (by simp [results, Tryz.results76, go_sem, y1]) rfl ?_
            rw [unhide HF]
            have RQ := fun W => OnB.c2 (w.heap.size + 1) W (.bool true) (.bool g1)
            exact ⟨some ⟨g', 0, none⟩, n + 1, cap', true, g1, j2, _, _, rfl, ((unhide HSe).onb (RQ _) (by omega) (by omega)).below (Below.refl _ _).drew, ((unhide HKe).onb (RQ _) (by omega)).drew, ⟨rfl, rfl, unhide HNE⟩, trivial⟩
        · obtain ⟨rfl, rfl, hl1⟩ := unhide HU
          obtain ⟨ht2, hg2⟩ := unhide HW
          subst hl1 ht2 hg2
          have hnn : ¬ (true = false ∧ g1 = false) := by simp
          refine (is_any _ rb tb cap s L j2 0 _ _ (unhide HS7)).mono ?_
          rintro e wn ⟨rfl, m, rfl⟩
          simp only [ByteArray.toList_mk]
          have HSe := hide ((unhide HS7).draws m)
          have HKe := hide ((unhide HK7).drewN m)
          have H0e := hide (show (w7.drewN m).heap[w.heap.size]? = _ from unhide H07)
          have H1e := hide (show (w7.drewN m).heap[w.heap.size + 1]? = _ from unhide H17)
          have HOe := hide (own_kb (unhide HOWN7) ((KB.refl [rb] w7).drewN m) (by simp; omega))
          have c2e := (unhide HS7).c2
          have hre := (unhide HS7).hlt
          cases hc : Parl.sees (L.drop j2) [44]
          · have HF := hide (show Parl.items 5 tests goals (L.drop i) = .inr ((ys ++ [x], true, g1), L.drop j2) by rw [unhide HTOT, Parl.items_end (unhide HI) hnn hc]; rfl)
            have y0 := blkA' (unhide H07)
            have y1 := blkA' (unhide H17)
            have y1x := blkX' (unhide H17)
            have hv0 := blk_lt' (unhide H07)
            have hv1 := blk_lt' (unhide H17)
            go_wp2_with fail
            go_big_region
            go_wp2_with fail
            refine bodyPost_ret (v := .tuple #[.slice (some ⟨g', 0, none⟩) (n + 1) cap', .agg #[.bool true, .bool g1]]) (by simp [results, Tryz.results76, go_sem, y1]) rfl ?_
            rw [unhide HF]
            have RQ := fun W => OnB.c2 (w.heap.size + 1) W (.bool true) (.bool g1)
            exact ⟨some ⟨g', 0, none⟩, n + 1, cap', true, g1, j2, 0, _, rfl, ((unhide HSe).onb (RQ _) (by omega) (by omega)).below (Below.refl _ _).drew, ((unhide HKe).onb (RQ _) (by omega)).drew, ⟨rfl, rfl, rfl⟩, ⟨rfl, rfl⟩⟩
          · by_cases hfull : n = 5
            · subst hfull
              have HF := hide (show Parl.items 5 tests goals (L.drop i) = .inl (3, (Parl.hd (L.drop j2)).pos) by rw [unhide HTOT, show 5 - 5 = 0 from rfl, Parl.items_full (unhide HI) hnn hc]; rfl)
              go_wp2_with fail
              refine (bad_first _ rb tb cap s L j2 _ 3 (unhide HSe)).mono ?_
              rintro e wa ⟨rfl, hsa, hka⟩
              have HSa := hide hsa
              have HKa := hide hka
              clear hsa hka
              go_wp2_with fail
              refine (pass_any _ rb tb cap s L _ _ ⟨j2, unhide HSa⟩).mono ?_
              rintro e wb ⟨rfl, ⟨jb, hsb⟩, hkb⟩
              have HSb := hide hsb
              have HKb := hide ((unhide HKa).trans hkb)
              clear hsb hkb
              go_wp2_with fail
              go_roundg (gk - 1)
              case measure => omega
              case rel => exact ⟨6, _, true, g1, jb, 3, _, unhide HSb, (unhide HKe).trans (unhide HKb), blk_kb (unhide HKb) (unhide H0e) (by simp; omega), blk_kb (unhide HKb) (unhide H1e) (by simp; omega), own_kb (unhide HOe) (unhide HKb) (by simp; omega), by omega, by omega, Or.inr ⟨by omega, 3, _, rfl, rfl, unhide HF⟩⟩
            · have hn' : (((n : Int) + 1) == 6) = false := by simp; omega
              have hkj := hide (show (Parl.hd (L.drop j2)).kind ≠ 0 by rw [Parl.sees_kind hc]; omega)
              have HF := hide (show Parl.items 5 tests goals (L.drop i) = Parl.preI (ys ++ [x]) (Parl.items (5 - (n + 1)) true g1 (L.drop (j2 + 1))) by rw [unhide HTOT, show 5 - n = (5 - (n + 1)) + 1 by omega, Parl.items_more (unhide HI) hnn hc, Parl.preI_preI]; simp)
              go_wp2_with fail
              refine (pass_on _ rb tb cap s L j2 _ _ (unhide HSe) (unhide hkj)).mono ?_
              rintro e wb ⟨rfl, hsb, hkb⟩
              have HSb := hide hsb
              have HKb := hide hkb
              clear hsb hkb
              go_wp2_with fail
              go_roundg (gk - 1)
              case measure => omega
              case rel => exact ⟨n + 1, _, true, g1, j2 + 1, 0, _, unhide HSb, (unhide HKe).trans (unhide HKb), blk_kb (unhide HKb) (unhide H0e) (by simp; omega), blk_kb (unhide HKb) (unhide H1e) (by simp; omega), own_kb (unhide HOe) (unhide HKb) (by simp; omega), by omega, by omega, Or.inl ⟨rfl, rfl, by omega, _, unhide HF⟩⟩
    · have HTOT := hide htot
      have HNE := hide hne
      have HE := hide he
      have HP := hide hp
      have hne' : (e1 != 0) = true := by simpa using hne
      clear htot hne he hp
      go_wp2_with fail
      refine (itB_err _ rb tb cap s L j e1 p1 t g (unhide HS) (unhide HNE)).mono ?_
      rintro e w5 ⟨a, b, c, op, sg, t1, g1, rfl, ⟨j2, hs5⟩, hk5⟩
      have HS5 := hide hs5
      have HK5 := hide ((unhide HK).trans hk5)
      have HB05 := hide (blk_kb hk5 (unhide HB0) (by simp; omega))
      have HB15 := hide (blk_kb hk5 (unhide HB1) (by simp; omega))
      have HO5 := hide (own_kb (unhide HO) hk5 (by simp; omega))
      clear hs5 hk5 r0 hrw HS HK HB0 HB1 HO
      cases t1
      · cases g1
        · have r0 := blkA' (unhide HB05)
          have x0 := blkX' (unhide HB05)
          have hz0 := blk_lt' (unhide HB05)
          have hz1 := blk_lt' (unhide HB15)
          have hrw := (unhide HS5).hlt
          go_wp2_with (first | (at_builtin; go_must (refine wpList_append_own _ rfl (.tmp 17) (.tmp 19) 51 rfl (w.heap.size + 2) 104 ti (.agg #[.string ⟨#[]⟩, .string ⟨#[]⟩, .int .i64 0, .string ⟨#[]⟩, .int .i64 0, .slice none 0 0, .int .i64 0, .string ⟨#[]⟩, .int .i64 0, .slice none 0 0, .int .i64 0, .string ⟨#[]⟩, .int .i64 0, .slice none 0 0]) 14 200 Tryz.underlying51 hi hz0' hz1' hz2' rfl (by decide) _ n xs rfl ((((own_c2 (.bool false) (.bool false) (unhide HO5)).alloc _).alloc _).alloc _) ⟨w5.heap.size + 1 + 1, 0, none⟩ 1 1 [.string op, .string sg, .int .i64 a.k, .string a.nm, .int .i64 a.num, .slice a.ao a.n a.cap, .int .i64 b.k, .string b.nm, .int .i64 b.num, .slice b.ao b.n b.cap, .int .i64 c.k, .string c.nm, .int .i64 c.num, .slice c.ao c.n c.cap] rfl rfl (newL _ _ _ _ _ (by simp) rfl) (one14 a b c op sg) (by unfold maxLen; omega) (by omega) (by simp; omega) ?_); go_must (intro v' w7 hown' hgrow _; have HOWN7 := hide hown'; have HR7 := hide (li_mk (.bool false) (.bool false) (unhide HS5) (unhide HK5) hlt htl (unhide HB05) (unhide HB15) (unhide HO5) hgrow hown'); have z := blkA' (unhide HR7).2.2.1; have zx := blkX' (unhide HR7).2.2.1; obtain ⟨g', cap', hv, hcm⟩ := ownB_some hown'; rw [hv] at HOWN7 ⊢; clear hown' hgrow hv)))
          have HS7 := hide (unhide HR7).1
          have HK7 := hide (unhide HR7).2.1
          have H07 := hide (unhide HR7).2.2.1
          have H17 := hide (unhide HR7).2.2.2
          clear HR7 z zx r0 x0 hz0 hz1 hrw HS5 HK5 HB05 HB15 HO5
          have HF := HTOT
          refine (bad_later _ rb tb cap s L j2 _ _ 2 (unhide HS7) (unhide HNE)).mono ?_
          rintro e w8 ⟨rfl, rfl⟩
          go_wp2_with fail
          refine (is_any _ rb tb cap s L j2 _ _ _ (unhide HS7)).mono ?_
          rintro e wn ⟨rfl, m, rfl⟩
          simp only [ByteArray.toList_mk]
          have HSe := hide ((unhide HS7).draws m)
          have HKe := hide ((unhide HK7).drewN m)
          have c2e := (unhide HS7).c2
          have hre := (unhide HS7).hlt
          cases hc : Parl.sees (L.drop j2) [44]
          · have y0 := blkA' (unhide H07)
            have y1 := blkA' (unhide H17)
            have y1x := blkX' (unhide H17)
            have hv0 := blk_lt' (unhide H07)
            have hv1 := blk_lt' (unhide H17)
            go_wp2_with fail
            go_big_region
            go_wp2_with fail
            refine bodyPost_ret (v := .tuple #[.slice (some ⟨g', 0, none⟩) (n + 1) cap', .agg #[.bool false, .bool false]]) (by simp [results, Tryz.results76, go_sem, y1]) rfl ?_
            rw [unhide HF]
            have RQ := fun W => OnB.c2 (w.heap.size + 1) W (.bool false) (.bool false)
            exact ⟨some ⟨g', 0, none⟩, n + 1, cap', false, false, j2, _, _, rfl, ((unhide HSe).onb (RQ _) (by omega) (by omega)).below (Below.refl _ _).drew, ((unhide HKe).onb (RQ _) (by omega)).drew, ⟨unhide HE, unhide HP, unhide HNE⟩, trivial⟩
          · have y0 := blkA' (unhide H07)
            have y1 := blkA' (unhide H17)
            have y1x := blkX' (unhide H17)
            have hv0 := blk_lt' (unhide H07)
            have hv1 := blk_lt' (unhide H17)
            go_wp2_with fail
            go_big_region
            go_wp2_with fail
            refine bodyPost_ret (v := .tuple #[.slice (some ⟨g', 0, none⟩) (n + 1) cap', .agg #[.bool false, .bool false]]) (by simp [results, Tryz.results76, go_sem, y1]) rfl ?_
            rw [unhide HF]
            have RQ := fun W => OnB.c2 (w.heap.size + 1) W (.bool false) (.bool false)
            exact ⟨some ⟨g', 0, none⟩, n + 1, cap', false, false, j2, _, _, rfl, ((unhide HSe).onb (RQ _) (by omega) (by omega)).below (Below.refl _ _).drew, ((unhide HKe).onb (RQ _) (by omega)).drew, ⟨unhide HE, unhide HP, unhide HNE⟩, trivial⟩
        · have r0 := blkA' (unhide HB05)
          have x0 := blkX' (unhide HB05)
          have hz0 := blk_lt' (unhide HB05)
          have hz1 := blk_lt' (unhide HB15)
          have hrw := (unhide HS5).hlt
          go_wp2_with (first | (at_builtin; go_must (refine wpList_append_own _ rfl (.tmp 17) (.tmp 19) 51 rfl (w.heap.size + 2) 104 ti (.agg #[.string ⟨#[]⟩, .string ⟨#[]⟩, .int .i64 0, .string ⟨#[]⟩, .int .i64 0, .slice none 0 0, .int .i64 0, .string ⟨#[]⟩, .int .i64 0, .slice none 0 0, .int .i64 0, .string ⟨#[]⟩, .int .i64 0, .slice none 0 0]) 14 200 Tryz.underlying51 hi hz0' hz1' hz2' rfl (by decide) _ n xs rfl ((((own_c2 (.bool false) (.bool true) (unhide HO5)).alloc _).alloc _).alloc _) ⟨w5.heap.size + 1 + 1, 0, none⟩ 1 1 [.string op, .string sg, .int .i64 a.k, .string a.nm, .int .i64 a.num, .slice a.ao a.n a.cap, .int .i64 b.k, .string b.nm, .int .i64 b.num, .slice b.ao b.n b.cap, .int .i64 c.k, .string c.nm, .int .i64 c.num, .slice c.ao c.n c.cap] rfl rfl (newL _ _ _ _ _ (by simp) rfl) (one14 a b c op sg) (by unfold maxLen; omega) (by omega) (by simp; omega) ?_); go_must (intro v' w7 hown' hgrow _; have HOWN7 := hide hown'; have HR7 := hide (li_mk (.bool false) (.bool true) (unhide HS5) (unhide HK5) hlt htl (unhide HB05) (unhide HB15) (unhide HO5) hgrow hown'); have z := blkA' (unhide HR7).2.2.1; have zx := blkX' (unhide HR7).2.2.1; obtain ⟨g', cap', hv, hcm⟩ := ownB_some hown'; rw [hv] at HOWN7 ⊢; clear hown' hgrow hv)))
          have HS7 := hide (unhide HR7).1
          have HK7 := hide (unhide HR7).2.1
          have H07 := hide (unhide HR7).2.2.1
          have H17 := hide (unhide HR7).2.2.2
          clear HR7 z zx r0 x0 hz0 hz1 hrw HS5 HK5 HB05 HB15 HO5
          have HF := HTOT
          refine (is_any _ rb tb cap s L j2 _ _ _ (unhide HS7)).mono ?_
          rintro e wn ⟨rfl, m, rfl⟩
          simp only [ByteArray.toList_mk]
          have HSe := hide ((unhide HS7).draws m)
          have HKe := hide ((unhide HK7).drewN m)
          have c2e := (unhide HS7).c2
          have hre := (unhide HS7).hlt
          cases hc : Parl.sees (L.drop j2) [44]
          · have y0 := blkA' (unhide H07)
            have y1 := blkA' (unhide H17)
            have y1x := blkX' (unhide H17)
            have hv0 := blk_lt' (unhide H07)
            have hv1 := blk_lt' (unhide H17)
            go_wp2_with fail
            go_big_region
            go_wp2_with fail
            refine bodyPost_ret (v := .tuple #[.slice (some ⟨g', 0, none⟩) (n + 1) cap', .agg #[.bool false, .bool true]]) (by simp [results, Tryz.results76, go_sem, y1]) rfl ?_
            rw [unhide HF]
            have RQ := fun W => OnB.c2 (w.heap.size + 1) W (.bool false) (.bool true)
            exact ⟨some ⟨g', 0, none⟩, n + 1, cap', false, true, j2, _, _, rfl, ((unhide HSe).onb (RQ _) (by omega) (by omega)).below (Below.refl _ _).drew, ((unhide HKe).onb (RQ _) (by omega)).drew, ⟨unhide HE, unhide HP, unhide HNE⟩, trivial⟩
          · have y0 := blkA' (unhide H07)
            have y1 := blkA' (unhide H17)
            have y1x := blkX' (unhide H17)
            have hv0 := blk_lt' (unhide H07)
            have hv1 := blk_lt' (unhide H17)
            go_wp2_with fail
            go_big_region
            go_wp2_with fail
            refine bodyPost_ret (v := .tuple #[.slice (some ⟨g', 0, none⟩) (n + 1) cap', .agg #[.bool false, .bool true]]) (by simp [results, Tryz.results76, go_sem, y1]) rfl ?_
            rw [unhide HF]
            have RQ := fun W => OnB.c2 (w.heap.size + 1) W (.bool false) (.bool true)
            exact ⟨some ⟨g', 0, none⟩, n + 1, cap', false, true, j2, _, _, rfl, ((unhide HSe).onb (RQ _) (by omega) (by omega)).below (Below.refl _ _).drew, ((unhide HKe).onb (RQ _) (by omega)).drew, ⟨unhide HE, unhide HP, unhide HNE⟩, trivial⟩
      · have r0 := blkA' (unhide HB05)
        have x0 := blkX' (unhide HB05)
        have hz0 := blk_lt' (unhide HB05)
        have hz1 := blk_lt' (unhide HB15)
        have hrw := (unhide HS5).hlt
        go_wp2_with (first | (at_builtin; go_must (refine wpList_append_own _ rfl (.tmp 17) (.tmp 19) 51 rfl (w.heap.size + 2) 104 ti (.agg #[.string ⟨#[]⟩, .string ⟨#[]⟩, .int .i64 0, .string ⟨#[]⟩, .int .i64 0, .slice none 0 0, .int .i64 0, .string ⟨#[]⟩, .int .i64 0, .slice none 0 0, .int .i64 0, .string ⟨#[]⟩, .int .i64 0, .slice none 0 0]) 14 200 Tryz.underlying51 hi hz0' hz1' hz2' rfl (by decide) _ n xs rfl ((((own_c2 (.bool true) (.bool g1) (unhide HO5)).alloc _).alloc _).alloc _) ⟨w5.heap.size + 1 + 1, 0, none⟩ 1 1 [.string op, .string sg, .int .i64 a.k, .string a.nm, .int .i64 a.num, .slice a.ao a.n a.cap, .int .i64 b.k, .string b.nm, .int .i64 b.num, .slice b.ao b.n b.cap, .int .i64 c.k, .string c.nm, .int .i64 c.num, .slice c.ao c.n c.cap] rfl rfl (newL _ _ _ _ _ (by simp) rfl) (one14 a b c op sg) (by unfold maxLen; omega) (by omega) (by simp; omega) ?_); go_must (intro v' w7 hown' hgrow _; have HOWN7 := hide hown'; have HR7 := hide (li_mk (.bool true) (.bool g1) (unhide HS5) (unhide HK5) hlt htl (unhide HB05) (unhide HB15) (unhide HO5) hgrow hown'); have z := blkA' (unhide HR7).2.2.1; have zx := blkX' (unhide HR7).2.2.1; obtain ⟨g', cap', hv, hcm⟩ := ownB_some hown'; rw [hv] at HOWN7 ⊢; clear hown' hgrow hv)))
        have HS7 := hide (unhide HR7).1
        have HK7 := hide (unhide HR7).2.1
        have H07 := hide (unhide HR7).2.2.1
        have H17 := hide (unhide HR7).2.2.2
        clear HR7 z zx r0 x0 hz0 hz1 hrw HS5 HK5 HB05 HB15 HO5
        have HF := HTOT
        refine (is_any _ rb tb cap s L j2 _ _ _ (unhide HS7)).mono ?_
        rintro e wn ⟨rfl, m, rfl⟩
        simp only [ByteArray.toList_mk]
        have HSe := hide ((unhide HS7).draws m)
        have HKe := hide ((unhide HK7).drewN m)
        have c2e := (unhide HS7).c2
        have hre := (unhide HS7).hlt
        cases hc : Parl.sees (L.drop j2) [44]
        · have y0 := blkA' (unhide H07)
          have y1 := blkA' (unhide H17)
          have y1x := blkX' (unhide H17)
          have hv0 := blk_lt' (unhide H07)
          have hv1 := blk_lt' (unhide H17)
          go_wp2_with fail
          go_big_region
          go_wp2_with fail
          refine bodyPost_ret (v := .tuple #[.slice (some ⟨g', 0, none⟩) (n + 1) cap', .agg #[.bool true, .bool g1]]) (by simp [results, Tryz.results76, go_sem, y1]) rfl ?_
          rw [unhide HF]
          have RQ := fun W => OnB.c2 (w.heap.size + 1) W (.bool true) (.bool g1)
          exact ⟨some ⟨g', 0, none⟩, n + 1, cap', true, g1, j2, _, _, rfl, ((unhide HSe).onb (RQ _) (by omega) (by omega)).below (Below.refl _ _).drew, ((unhide HKe).onb (RQ _) (by omega)).drew, ⟨unhide HE, unhide HP, unhide HNE⟩, trivial⟩
        · have y0 := blkA' (unhide H07)
          have y1 := blkA' (unhide H17)
          have y1x := blkX' (unhide H17)
          have hv0 := blk_lt' (unhide H07)
          have hv1 := blk_lt' (unhide H17)
          go_wp2_with fail
          go_big_region
          go_wp2_with fail
          refine bodyPost_ret (v := .tuple #[.slice (some ⟨g', 0, none⟩) (n + 1) cap', .agg #[.bool true, .bool g1]]) (by simp [results, Tryz.results76, go_sem, y1]) rfl ?_
          rw [unhide HF]
          have RQ := fun W => OnB.c2 (w.heap.size + 1) W (.bool true) (.bool g1)
          exact ⟨some ⟨g', 0, none⟩, n + 1, cap', true, g1, j2, _, _, rfl, ((unhide HSe).onb (RQ _) (by omega) (by omega)).below (Below.refl _ _).drew, ((unhide HKe).onb (RQ _) (by omega)).drew, ⟨unhide HE, unhide HP, unhide HNE⟩, trivial⟩
end Go.Proofs.YtombbccmeeaimaaGreatDoor
