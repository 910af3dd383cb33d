import Derived.Test.YthfjnfcekeknlaaGreatDoorM01
import Derived.Test.YthfjnfcekeknlaaGreatDoorM13
import Derived.Test.YthfjnfcekeknlaaGreatDoorM14
import Derived.Test.YthfjnfcekeknlaaGreatDoorM17
namespace Go.Proofs.YthfjnfcekeknlaaGreatDoor
open Go.RowKit

theorem LkSt.first (w : World) : LkSt (w.alloc (.cells #[.slice none 0 0, .slice none 0 0, .bool false, .bool false] 195)) w.heap.size Parl.Lk.none (rowsL none none) :=
  ⟨none, 0, none, 0, [], [], ⟨heap_alloc_new w _, World.ownsRow_nil _ _ _ _, World.ownsRow_nil _ _ _ _, (fun u hu => by cases hu), rfl, trivial⟩, rfl⟩
theorem XG.first (w : World) : XG (w.alloc (.cells #[.slice none 0 0] 106)) w.heap.size 0 1 106 #[.slice none 0 0] [] none 0 :=
  ⟨heap_alloc_new w _, rfl, World.ownsRow_nil _ _ _ _, (fun u hu => by cases hu)⟩

set_option maxHeartbeats 2000000 in
set_option maxRecDepth 100000 in
theorem ma_err (w : World) (a b : ByteArray) (la lb : List Parl.Tok) (hLa : Parl.Chain a la) (hha : Parl.hd la = Parl.next a 0) (hLb : Parl.Chain b lb) (hhb : Parl.hd lb = Parl.next b 0) (he : Parl.bothE a b la lb ≠ 0) (hN : Parl.mtN a b la lb = 0) (hW : Parl.mtW a b la lb = []) :
    Calls Tryz.prog 65 #[.string a, .string b] w fun e w' => PMa a b la lb w e w' := by
  have IB := hide (both_any w a b la lb hLa hha hLb hhb)
  have hne : ((Parl.bothE a b la lb : Int) != 0) = true := by simpa using he
  have HN := hide hN
  have HW := hide hW
  clear hLa hha hLb hhb he hN hW
  go_enter Tryz.func65, Tryz.ntmps65
  go_wp2_with fail
  refine (unhide IB).mono ?_
  rintro e w1 ⟨x, y, rfl, -, hb1⟩
  have hz := hb1.size
  have HB1 := hide hb1
  clear hb1 IB
  generalize hee : Parl.bothE a b la lb = er at *
  have HEE := hide hee
  clear hee
  go_wp2_with fail
  refine bodyPost_ret (v := .tuple #[.int .i64 0, .slice none 0 0, .int .i64 er]) (by simp [results, Tryz.results65, go_sem]) rfl ?_
  refine ⟨.slice none 0 0, by rw [unhide HN, show Parl.mtE a b la lb = er from unhide HEE]; rfl, ?_, ((unhide HB1).alloc hz _).alloc (by simp; omega) _⟩
  rw [unhide HW]
  exact World.ownsRow_nil _ _ _ _

set_option maxHeartbeats 4000000 in
set_option maxRecDepth 100000 in
theorem ma_ok (w : World) (a b : ByteArray) (la lb : List Parl.Tok) (hLa : Parl.Chain a la) (hha : Parl.hd la = Parl.next a 0) (hLb : Parl.Chain b lb) (hhb : Parl.hd lb = Parl.next b 0) (hs : ¬ (64 < a.size ∨ 64 < b.size)) (p t : Parl.Tm) (l1 l2 : List Parl.Tok) (hp : Parl.whole la = .inr (p, l1)) (ht : Parl.whole lb = .inr (t, l2)) :
    Calls Tryz.prog 65 #[.string a, .string b] w fun e w' => PMa a b la lb w e w' := by
  have IB := hide (both_any w a b la lb hLa hha hLb hhb)
  have HE := hide (show Parl.bothE a b la lb = 0 by rw [Parl.bothE_b hs hp, ht]; rfl)
  have HL := hide (show Parl.mtL a b la lb = some (Parl.matF 8 p t Parl.Lk.none, t) by unfold Parl.mtL; rw [if_neg hs, hp, ht])
  have HS := hide (And.intro hs (And.intro hp ht))
  clear hLa hha hLb hhb hs hp ht
  go_enter Tryz.func65, Tryz.ntmps65
  go_wp2_with fail
  refine (unhide IB).mono ?_
  rintro e w1 ⟨x, y, rfl, hxy, hb1⟩
  rw [unhide HE]
  obtain ⟨hx, hy⟩ := hxy p l1 t l2 (unhide HS).1 (unhide HS).2.1 (unhide HS).2.2
  have hz := hb1.size
  have HB1 := hide hb1
  have HX := hide hx
  have HY := hide hy
  clear hb1 IB hxy hx hy
  have SD := hide (fun W (q : RS 0 8 (fun _ => True) W y t) => sided_all 1 8 W y t q)
  go_wp2_with fail
  refine (unhide SD _ (((unhide HY).below (((Below.refl _ _).alloc (Nat.le_refl _) _).alloc (by simp) _)).imp (fun _ _ _ => trivial))).mono ?_
  rintro e w2 ⟨y2, rfl, hy2, hb2⟩
  have hsz : ((w1.alloc (.cells #[.int .i64 x.k, .string x.nm, .int .i64 x.num, .slice x.ao x.n x.cap] 109)).alloc (.cells #[.int .i64 y.k, .string y.nm, .int .i64 y.num, .slice y.ao y.n y.cap] 109)).heap.size = w1.heap.size + 2 := by simp
  have hz2 := hb2.size
  rw [hsz] at hz2
  have q7 := (hb2.block w1.heap.size (by omega)).trans (blk_alloc' (heap_alloc_new w1 (.cells #[.int .i64 x.k, .string x.nm, .int .i64 x.num, .slice x.ao x.n x.cap] 109)) (.cells #[.int .i64 y.k, .string y.nm, .int .i64 y.num, .slice y.ao y.n y.cap] 109))
  have q8 := (hb2.block (w1.heap.size + 1) (by omega)).trans (show ((w1.alloc (.cells #[.int .i64 x.k, .string x.nm, .int .i64 x.num, .slice x.ao x.n x.cap] 109)).alloc (.cells #[.int .i64 y.k, .string y.nm, .int .i64 y.num, .slice y.ao y.n y.cap] 109)).heap[w1.heap.size + 1]? = some (.cells #[.int .i64 y.k, .string y.nm, .int .i64 y.num, .slice y.ao y.n y.cap] 109) by
    have := heap_alloc_new (w1.alloc (.cells #[.int .i64 x.k, .string x.nm, .int .i64 x.num, .slice x.ao x.n x.cap] 109)) (.cells #[.int .i64 y.k, .string y.nm, .int .i64 y.num, .slice y.ao y.n y.cap] 109)
    rw [World.size_alloc] at this
    exact this)
  have HRX := hide (show RS 0 8 (fun g => g < w1.heap.size) w2 x p from (unhide HX).keep fun g cs hg hc => ⟨(hb2.block g (by have := blk_lt' hc; omega)).trans (blk_alloc' (blk_alloc' hc _) _), blk_lt' hc⟩)
  have HRY := hide (show RS 1 8 (fun g => w1.heap.size + 2 ≤ g) w2 y2 t from hy2.imp fun g hg _ => by rw [hsz] at hg; exact hg)
  have HB2 := hide (show Below w.heap.size w w2 from (((unhide HB1).alloc hz _).alloc (by simp; omega) _).trans (hb2.mono (by omega)))
  have y7 := blkA' q7
  have z7 := blk_lt' q7
  have y8 := blkA' q8
  have x8 := blkX' q8
  have z8 := blk_lt' q8
  have n78 : w1.heap.size ≠ w1.heap.size + 1 := by omega
  have HQ7 := hide q7
  have HQ8 := hide q8
  have HK4 := hide (show ∀ k, k ≠ w1.heap.size + 1 → ((((w2.setCell ⟨w1.heap.size + 1, 0, none⟩ (.int .i64 y2.k)).setCell ⟨w1.heap.size + 1, 1, none⟩ (.string y2.nm)).setCell ⟨w1.heap.size + 1, 2, none⟩ (.int .i64 y2.num)).setCell ⟨w1.heap.size + 1, 3, none⟩ (.slice y2.ao y2.n y2.cap)).heap[k]? = w2.heap[k]? from fun k hk => by rw [heap_set _ _ _ _ hk, heap_set _ _ _ _ hk, heap_set _ _ _ _ hk, heap_set _ _ _ _ hk])
  have HZ4 := hide (show ((((w2.setCell ⟨w1.heap.size + 1, 0, none⟩ (.int .i64 y2.k)).setCell ⟨w1.heap.size + 1, 1, none⟩ (.string y2.nm)).setCell ⟨w1.heap.size + 1, 2, none⟩ (.int .i64 y2.num)).setCell ⟨w1.heap.size + 1, 3, none⟩ (.slice y2.ao y2.n y2.cap)).heap.size = w2.heap.size by simp only [size_set])
  have HV8 := hide (show ((((w2.setCell ⟨w1.heap.size + 1, 0, none⟩ (.int .i64 y2.k)).setCell ⟨w1.heap.size + 1, 1, none⟩ (.string y2.nm)).setCell ⟨w1.heap.size + 1, 2, none⟩ (.int .i64 y2.num)).setCell ⟨w1.heap.size + 1, 3, none⟩ (.slice y2.ao y2.n y2.cap)).heap[w1.heap.size + 1]? = some (.cells #[.int .i64 y2.k, .string y2.nm, .int .i64 y2.num, .slice y2.ao y2.n y2.cap] 109) by
    have := blk_set (blk_set (blk_set (blk_set q8 0 (.int .i64 y2.k)) 1 (.string y2.nm)) 2 (.int .i64 y2.num)) 3 (.slice y2.ao y2.n y2.cap)
    simpa using this)
  have HBV := hide (show Below w.heap.size w ((((w2.setCell ⟨w1.heap.size + 1, 0, none⟩ (.int .i64 y2.k)).setCell ⟨w1.heap.size + 1, 1, none⟩ (.string y2.nm)).setCell ⟨w1.heap.size + 1, 2, none⟩ (.int .i64 y2.num)).setCell ⟨w1.heap.size + 1, 3, none⟩ (.slice y2.ao y2.n y2.cap)) from ((((unhide HB2).setCell (p := ⟨w1.heap.size + 1, 0, none⟩) (by show w.heap.size ≤ w1.heap.size + 1; omega) _).setCell (p := ⟨w1.heap.size + 1, 1, none⟩) (by show w.heap.size ≤ w1.heap.size + 1; omega) _).setCell (p := ⟨w1.heap.size + 1, 2, none⟩) (by show w.heap.size ≤ w1.heap.size + 1; omega) _).setCell (p := ⟨w1.heap.size + 1, 3, none⟩) (by show w.heap.size ≤ w1.heap.size + 1; omega) _)
  clear hb2 hy2 q7 q8 SD HY HX
  go_wp2_with fail
  clear y7 y8 x8 n78
  generalize ((((w2.setCell ⟨w1.heap.size + 1, 0, none⟩ (.int .i64 y2.k)).setCell ⟨w1.heap.size + 1, 1, none⟩ (.string y2.nm)).setCell ⟨w1.heap.size + 1, 2, none⟩ (.int .i64 y2.num)).setCell ⟨w1.heap.size + 1, 3, none⟩ (.slice y2.ao y2.n y2.cap)) = V at *
  have hv4 := unhide HZ4
  have HLK := hide (show LkSt (V.alloc (.cells #[.slice none 0 0, .slice none 0 0, .bool false, .bool false] 195)) w2.heap.size Parl.Lk.none (rowsL none none) by have := LkSt.first V; rw [hv4] at this; exact this)
  have HPX := hide (show RS 0 8 (fun g => g < w2.heap.size) (V.alloc (.cells #[.slice none 0 0, .slice none 0 0, .bool false, .bool false] 195)) x p from (unhide HRX).keep fun g cs hg hc => ⟨blk_alloc' ((unhide HK4 g (by omega)).trans hc) _, by omega⟩)
  have HPY := hide (show RS 1 8 (fun g => g < w2.heap.size) (V.alloc (.cells #[.slice none 0 0, .slice none 0 0, .bool false, .bool false] 195)) y2 t from (unhide HRY).keep fun g cs hg hc => ⟨blk_alloc' ((unhide HK4 g (by omega)).trans hc) _, blk_lt' hc⟩)
  refine (mt_all 8 _ w2.heap.size Parl.Lk.none (rowsL none none) x y2 p t (unhide HLK) (unhide HPX) (unhide HPY) (by omega) (by decide) (by decide)).mono ?_
  rintro e w4 ⟨rfl, R4, hl4, hf4⟩
  have hsv : (V.alloc (.cells #[.slice none 0 0, .slice none 0 0, .bool false, .bool false] 195)).heap.size = w2.heap.size + 1 := by simp [hv4]
  have no4 : ∀ k, ¬ rowsL none none k := fun k q => by rcases q with ⟨p, e, _⟩ | ⟨p, e, _⟩ <;> cases e
  have hz4 := hf4.size
  rw [hsv] at hz4
  have q8 := (hf4.block (w1.heap.size + 1) (by omega) (by omega) (no4 _)).trans (blk_alloc' (unhide HV8) (.cells #[.slice none 0 0, .slice none 0 0, .bool false, .bool false] 195))
  have y8 := blkA' q8
  have zz8 := blk_lt' q8
  have HQ84 := hide q8
  have HRT := hide (show RS 1 8 (fun g => g < w2.heap.size) w4 y2 t from (unhide HPY).keep fun g cs hg hc => ⟨(hf4.block g (by omega) (by omega) (no4 _)).trans hc, hg⟩)
  have HL4 := hide hl4
  have HB4 := hide (show Below w.heap.size w w4 from ((unhide HBV).alloc (by omega) _).trans ⟨hf4.os, hf4.tape, hf4.output, hf4.size, fun k hk => hf4.block k (by omega) (by omega) (no4 _)⟩)
  have HND := hide (Parl.matF_nodup 8 p t Parl.Lk.none (by simp [Parl.Lk.none]))
  have HWL := hide (Parl.matF_len 8 p t Parl.Lk.none (unhide HPY).wf (by omega)).1
  clear hl4 hf4 q8 HPX HPY HLK HRX HRY HQ7 HQ8 HK4 HV8 HB2 z7 z8
  generalize hlk : Parl.matF 8 p t Parl.Lk.none = lk at *
  clear hlk
  go_wp2_with fail
  refine (says_any _ w2.heap.size lk R4 (unhide HL4)).mono ?_
  rintro e w5 ⟨rfl, hw5⟩
  rw [hw5]
  clear hw5 w5
  by_cases h3 : lk.says = 3
  · rw [h3]
    have HMN := hide (show Parl.mtN a b la lb = 3 by unfold Parl.mtN; rw [unhide HL]; exact h3)
    have HMW := hide (show Parl.mtW a b la lb = lk.waits t by unfold Parl.mtW; rw [unhide HL]; dsimp only; rw [if_pos h3])
    have HXG := hide (XG.first w4)
    have HRT5 := hide (show RS 1 8 (fun g => g < w4.heap.size) (w4.alloc (.cells #[.slice none 0 0] 106)) y2 t from (unhide HRT).keep fun g cs hg hc => ⟨blk_alloc' hc _, by omega⟩)
    go_wp2_with fail
    refine (me_all 8 _ w4.heap.size _ [] none 0 y2 t (unhide HXG) (unhide HRT5) (by decide)).mono ?_
    rintro e w6 ⟨rfl, cs6, us6, o6, cap6, hx6, hn6, hf6⟩
    obtain ⟨so, sc, wo, wc, vs, us, hlk, -⟩ := unhide HL4
    have hwz := blk_lt' hlk.blk
    have hs4 : (w4.alloc (.cells #[.slice none 0 0] 106)).heap.size = w4.heap.size + 1 := by simp
    have hz6 := hf6.size
    rw [hs4] at hz6
    have old : ∀ k, k < w4.heap.size → w6.heap[k]? = w4.heap[k]? := fun k hk => (hf6.block k (by omega) (by omega) (fun p q => by cases q)).trans (Below.heap_alloc _ _ _ hk)
    have HLB := hide ((old w2.heap.size hwz).trans hlk.blk)
    have HWO := hide (show w6.ownsRow (w2.heap.size + 1) 109 4 (.slice wo us.length wc) us.length (us.flatMap bvC) from ⟨hlk.wown.1, hlk.wown.2.imp id fun ⟨g, cap, cur, a, b, c, d⟩ => ⟨g, cap, cur, a, b, (old g (blk_lt' c)).trans c, d⟩⟩)
    have HSI := hide hlk.side
    have HNW := hide hlk.nms
    have HX6 := hide hx6
    have HN6 := hide hn6
    have HB6 := hide (show Below w.heap.size w w6 from ((unhide HB4).alloc (by have := (unhide HB4).size; omega) _).trans ⟨hf6.os, hf6.tape, hf6.output, hf6.size, fun k hk => hf6.block k (by have := (unhide HB4).size; omega) (by have := (unhide HB4).size; omega) (fun p q => by cases q)⟩)
    have hl6 : us6.length ≤ 10000 := by
      have := Parl.namesK_len 8 t (nmsB []) (unhide HRT5).wf
      rw [← hn6] at this
      simp [nmsB] at this
      omega
    have hlw : us.length ≤ 1000000000 := by
      have h1 := congrArg List.length (unhide HNW)
      simp [nmsB] at h1
      have h2 := unhide HWL
      simp [Parl.Lk.none] at h2
      omega
    have hw46 : w4.heap.size < w6.heap.size := by omega
    have hw26 : w2.heap.size < w6.heap.size := by omega
    obtain ⟨ti, hi, hzz0, hzz1, hzz2⟩ := info_parts infoStrS
    clear hlk old hx6 hn6 hf6 HXG HRT5 HRT hwz hs4
    go_wp2_with fail
    go_loopw [12, 14] (fun ov i wr => ∃ (j : Nat) (xs : List (List UInt8)), j ≤ us6.length ∧ i = .int .i64 (j : Int) ∧ xs = ((nmsB us6).take j).flatMap (fun x => lk.wt.filter (fun y => y == x)) ∧ wr.ownsRow w6.heap.size 9 1 ov xs.length (xs.map fun x => .string ⟨x.toArray⟩) ∧ Below w6.heap.size w6 wr) (fun _ i _ => us6.length - (intOf i).toNat)
    case atStart => exact ⟨0, [], by omega, rfl, by simp, World.ownsRow_nil _ _ _ _, Below.refl _ _⟩
    case round =>
      obtain ⟨j, xs, hjl, rfl, hxs, hown, hB⟩ := hrel
      obtain ⟨oo, cp, rfl⟩ := own_shapeS hown
      have hzr := hB.size
      have c0 := blkA' ((hB.block w4.heap.size hw46).trans (unhide HX6).blk) 0
      rw [(unhide HX6).here] at c0
      have HXS := hide hxs
      have HOWN := hide hown
      have HB := hide hB
      clear hxs hown hB
      by_cases hlt : j < us6.length
      · have hw4r : w4.heap.size < wr.heap.size := by omega
        have HXL := hide (show xs.length ≤ j by
          have h1 := Parl.out_len (l := lk) (unhide HND) ((nmsB us6).take j)
          rw [← unhide HXS] at h1
          exact Nat.le_trans h1 (List.length_take_le _ _))
        go_wp2_with fail
        obtain ⟨g6, hg6⟩ : ∃ g, o6 = some ⟨g, 0, none⟩ := by
          rcases (unhide HX6).own.2 with ⟨q, q2⟩ | ⟨g, cp, cur, q, _⟩
          · omega
          · simp only [Value.slice.injEq] at q
            exact ⟨g, q.1⟩
        subst hg6
        have hg6w : g6 < w6.heap.size := ((unhide HX6).own.lt g6 rfl).2
        have HSIDE := hide ((unhide HX6).side us6[j] (List.getElem_mem hlt))
        have HR6 := hide (show ∀ W, Below w6.heap.size w6 W → ∀ i, i < 4 → W.cell? ⟨g6, j * 4 + i, none⟩ = (bvC us6[j])[i]? from fun W hW i hi => by
          rw [hW.cell (p := ⟨g6, j * 4 + i, none⟩) hg6w, (unhide HX6).own.cellAt _ (by omega), bvC_at hlt i hi])
        have HC0 := hide (show ∀ W, Below w6.heap.size w6 W → W.cell? ⟨w4.heap.size, 0, none⟩ = some (.slice (some ⟨g6, 0, none⟩) us6.length cap6) from fun W hW => by
          have := blkA' ((hW.block w4.heap.size hw46).trans (unhide HX6).blk) 0
          rw [(unhide HX6).here] at this
          exact this)
        have HD1 := hide (show ∀ W, Below w6.heap.size w6 W → W.cell? ⟨w2.heap.size, 1, none⟩ = some (.slice wo us.length wc) from fun W hW => blkA' ((hW.block w2.heap.size hw26).trans (unhide HLB)) 1)
        obtain ⟨u6, hu6⟩ : ∃ u, u = us6[j] := ⟨_, rfl⟩
        have HU6 := hide hu6
        rw [← hu6] at HSIDE HR6
        clear hu6
        have HLT := hide hlt
        have HJL := hide hjl
        have hj6 : j ≤ 10000 := by omega
        clear c0
        go_loopw [12, 15] (fun ov i wr2 => ∃ (k : Nat) (ys : List (List UInt8)), k ≤ us.length ∧ i = .int .i64 (k : Int) ∧ ys = xs ++ (lk.wt.take k).filter (fun y => y == u6.nm.toList) ∧ wr2.ownsRow w6.heap.size 9 1 ov ys.length (ys.map fun x => .string ⟨x.toArray⟩) ∧ Below w6.heap.size w6 wr2) (fun _ i _ => us.length - (intOf i).toNat)
        case atStart => exact ⟨0, xs, by omega, rfl, by simp, unhide HOWN, unhide HB⟩
        case round =>
          obtain ⟨k, ys, hkl, rfl, hys, hown2, hB2⟩ := hrel
          obtain ⟨oo2, cp2, rfl⟩ := own_shapeS hown2
          have hzr2 := hB2.size
          have d1 := unhide HD1 _ hB2
          have HYS := hide hys
          have HOWN2 := hide hown2
          have HBB := hide hB2
          have hw2r : w2.heap.size < wr.heap.size := by omega
          have hw4r2 : w4.heap.size < wr.heap.size := by omega
          clear hys hown2 hB2
          by_cases hlt2 : k < us.length
          · obtain ⟨g4, hg4⟩ : ∃ g, wo = some ⟨g, 0, none⟩ := by
              rcases (unhide HWO).2 with ⟨q, q2⟩ | ⟨g, cp, cur, q, _⟩
              · omega
              · simp only [Value.slice.injEq] at q
                exact ⟨g, q.1⟩
            subst hg4
            have hg4w : g4 < w6.heap.size := ((unhide HWO).lt g4 rfl).2
            have fc : ∀ i, i < 4 → wr.cell? ⟨g4, k * 4 + i, none⟩ = (bvC us[k])[i]? := fun i hi => by
              rw [(unhide HBB).cell (p := ⟨g4, k * 4 + i, none⟩) hg4w, (unhide HWO).cellAt _ (by omega), bvC_at hlt2 i hi]
            have e0 := unhide HR6 wr (unhide HBB) 0 (by omega)
            have e1 := unhide HR6 wr (unhide HBB) 1 (by omega)
            have e2 := unhide HR6 wr (unhide HBB) 2 (by omega)
            have e3 := unhide HR6 wr (unhide HBB) 3 (by omega)
            have f0 := fc 0 (by omega)
            have f1 := fc 1 (by omega)
            have f2 := fc 2 (by omega)
            have f3 := fc 3 (by omega)
            have c0 := unhide HC0 wr (unhide HBB)
            simp only [bvC, List.getElem?_cons_zero, List.getElem?_cons_succ, Nat.add_zero] at e0 e1 e2 e3 f0 f1 f2 f3
            rw [unhide HSIDE] at e2
            rw [unhide HSI us[k] (List.getElem_mem hlt2)] at f2
            have hg6r : g6 < wr.heap.size := by omega
            have hg4r : g4 < wr.heap.size := by omega
            have i0 : (0 : Int) ≤ (j : Int) := by omega
            have i1 : (j : Int) < (us6.length : Int) := by omega
            have j0 : (0 : Int) ≤ (k : Int) := by omega
            have j1 : (k : Int) < (us.length : Int) := by omega
            have SV := hide (fun W => sameVarG ⟨u6.k, u6.nm, 1, u6.ao, u6.n, u6.cap⟩ ⟨us[k].k, us[k].nm, 1, us[k].ao, us[k].n, us[k].cap⟩ W (sd := 1) rfl rfl)
            have HWK := hide (show ∃ h : k < lk.wt.length, lk.wt[k] = us[k].nm.toList from ⟨by rw [← unhide HNW]; simpa [nmsB] using hlt2, by simp [← unhide HNW, nmsB]⟩)
            clear fc
            go_wp2_with fail
            go_region_held3 (fun w' => w'.cell? ⟨w4.heap.size, 0, none⟩ = some (.slice (some ⟨g6, 0, none⟩) us6.length cap6) ∧ w'.cell? ⟨g6, j * 4, none⟩ = some (.int .i64 u6.k) ∧ w'.cell? ⟨g6, j * 4 + 1, none⟩ = some (.string u6.nm) ∧ w'.cell? ⟨g6, j * 4 + 2, none⟩ = some (.int .i64 1) ∧ w'.cell? ⟨g6, j * 4 + 3, none⟩ = some (.slice u6.ao u6.n u6.cap) ∧ w'.cell? ⟨w2.heap.size, 1, none⟩ = some (.slice (some ⟨g4, 0, none⟩) us.length wc) ∧ w'.cell? ⟨g4, k * 4, none⟩ = some (.int .i64 us[k].k) ∧ w'.cell? ⟨g4, k * 4 + 1, none⟩ = some (.string us[k].nm) ∧ w'.cell? ⟨g4, k * 4 + 2, none⟩ = some (.int .i64 1) ∧ w'.cell? ⟨g4, k * 4 + 3, none⟩ = some (.slice us[k].ao us[k].n us[k].cap)) (first | go_keep | (refine ⟨?_, ?_, ?_, ?_, ?_, ?_, ?_, ?_, ?_, ?_⟩ <;> exact cell_drew (unhide HB2) (by assumption))) ((go_at_call 106; refine (unhide SV _).mono ?_; rintro e w2' ⟨rfl, hb2⟩; have HB2 := hide hb2; clear hb2))
            have zr : wr.heap.size ≤ w2'.heap.size := (unhide HB2).size
            have HBR := hide (((unhide HBB).drew).trans ((unhide HB2).mono (show w6.heap.size ≤ wr.drew.heap.size by show w6.heap.size ≤ wr.heap.size; omega)))
            have HOW := hide (own_below (unhide HOWN2).drew (unhide HB2))
            have k0 := cell_drew (unhide HB2) c0
            have k1 := cell_drew (unhide HB2) e1
            have HYL := hide (show ys.length ≤ j + 1 by
              have h1 := Parl.tfilter_len (unhide HND) k u6.nm.toList
              have h2 := unhide HXL
              rw [unhide HYS, List.length_append]
              omega)
            clear c0 d1 e0 e1 e2 e3 f0 f1 f2 f3 SV
            cases hq : (u6.nm.toList == us[k].nm.toList)
            · clear k0 k1
              have HYN := hide (show ys = xs ++ (lk.wt.take (k + 1)).filter (fun y => y == u6.nm.toList) by
                obtain ⟨hk9, he9⟩ := unhide HWK
                rw [Parl.take_filter hk9, if_neg (by rw [he9]; intro q; rw [q] at hq; simp at hq), List.append_nil]
                exact unhide HYS)
              go_wp2_with fail
              go_roundw
              case rel => exact ⟨k + 1, ys, by omega, by go_num, unhide HYN, unhide HOW, unhide HBR⟩
              case measure => simp [intOf]; omega
            · have HYN := hide (show ys ++ [u6.nm.toList] = xs ++ (lk.wt.take (k + 1)).filter (fun y => y == u6.nm.toList) by
                obtain ⟨hk9, he9⟩ := unhide HWK
                rw [Parl.take_filter hk9, if_pos (by rw [he9]; exact (by simpa using hq : u6.nm.toList = us[k].nm.toList).symm), ← List.append_assoc, ← unhide HYS])
              have hyl := unhide HYL
              have g62 : g6 < w2'.heap.size := by omega
              have z42 : w4.heap.size < w2'.heap.size := by omega
              go_wp2_with (first | (at_builtin; go_must (refine wpList_append_own _ rfl (.tmp 81) (.tmp 90) 29 rfl w6.heap.size 9 ti (.string ⟨#[]⟩) 1 16 Tryz.underlying29 hi hzz0 hzz1 hzz2 rfl (by decide) _ ys.length (ys.map fun x => .string ⟨x.toArray⟩) rfl ((unhide HOW).alloc _) ⟨w2'.heap.size, 0, none⟩ 1 1 [.string u6.nm] rfl rfl (new1S _ _ _) (by simp [Value.oneCell']) (by unfold maxLen; omega) (by omega) (by simp; omega) ?_); go_must (intro v' w7 hown' hgrow _; have HO7 := hide hown'; have HB7 := hide (((unhide HBR).alloc (by omega) (.cells #[.string u6.nm] 9)).grown hgrow (by simp; omega) (fun k q => ((unhide HOW).lt k q).1)); clear hown' hgrow)))
              go_roundw
              case rel =>
                refine ⟨k + 1, ys ++ [u6.nm.toList], by omega, by go_num, unhide HYN, ?_, unhide HB7⟩
                have := unhide HO7
                rw [List.map_append, List.length_append]
                simpa [ba_self] using this
              case measure => simp [intOf]; omega
          · obtain rfl : k = us.length := by omega
            have HXN := hide (show ys = ((nmsB us6).take (j + 1)).flatMap (fun x => lk.wt.filter (fun y => y == x)) by
              have hj6' : j < (nmsB us6).length := by simpa [nmsB] using unhide HLT
              rw [Parl.take_flat hj6', ← unhide HXS, unhide HYS, List.take_of_length_le (by rw [← unhide HNW]; simp [nmsB])]
              congr 1
              have : (nmsB us6)[j] = u6.nm.toList := by rw [unhide HU6]; simp [nmsB]
              rw [this])
            go_wp2_with fail
            go_roundw
            case rel => exact ⟨j + 1, ys, by have := unhide HLT; omega, by go_num, unhide HXN, unhide HOWN2, unhide HBB⟩
            case measure => have := unhide HLT; simp [intOf]; omega
      · obtain rfl : j = us6.length := by omega
        have hw4r : w4.heap.size < wr.heap.size := by omega
        go_wp2_with fail
        refine bodyPost_ret (v := .tuple #[.int .i64 3, .slice oo xs.length cp, .int .i64 0]) (by simp [results, Tryz.results65, go_sem]) rfl ?_
        have hfin : lk.waits t = xs := by
          unfold Parl.Lk.waits
          rw [← Parl.waits_flat (unhide HND), unhide HXS, show Parl.namesF 8 [] t = nmsB us6 from (unhide HN6).symm, List.take_of_length_le (by simp [nmsB])]
        refine ⟨_, by rw [unhide HMN, show Parl.mtE a b la lb = 0 from unhide HE]; rfl, ?_, (unhide HB6).trans ((unhide HB).mono (unhide HB6).size)⟩
        rw [unhide HMW, hfin]
        exact own_downS (unhide HOWN) (unhide HB6).size
  · have hne : ((lk.says : Int) != 3) = true := by simp; omega
    have HMN := hide (show Parl.mtN a b la lb = lk.says by unfold Parl.mtN; rw [unhide HL])
    have HMW := hide (show Parl.mtW a b la lb = [] by unfold Parl.mtW; rw [unhide HL]; dsimp only; rw [if_neg h3])
    generalize lk.says = sy at *
    go_wp2_with fail
    refine bodyPost_ret (v := .tuple #[.int .i64 sy, .slice none 0 0, .int .i64 0]) (by simp [results, Tryz.results65, go_sem]) rfl ?_
    refine ⟨.slice none 0 0, by rw [unhide HMN, show Parl.mtE a b la lb = 0 from unhide HE]; rfl, ?_, unhide HB4⟩
    rw [unhide HMW]
    exact World.ownsRow_nil _ _ _ _
end Go.Proofs.YthfjnfcekeknlaaGreatDoor
namespace Parl
theorem whole_err {l : List Tok} {er ps : Nat} (h : whole l = .inl (er, ps)) : er ≠ 0 := by
  unfold whole at h
  rcases hq : term 8 l with e | ⟨t, l1⟩
  · rw [hq] at h
    cases h
    have := term_err 8 l _ hq
    dsimp only at this
    omega
  · rw [hq] at h
    dsimp only at h
    split at h
    · cases h
    · cases h; omega
end Parl
namespace Go.Proofs.YthfjnfcekeknlaaGreatDoor
open Go.RowKit
theorem ma_any (w : World) (a b : ByteArray) (la lb : List Parl.Tok) (hLa : Parl.Chain a la) (hha : Parl.hd la = Parl.next a 0) (hLb : Parl.Chain b lb) (hhb : Parl.hd lb = Parl.next b 0) :
    Calls Tryz.prog 65 #[.string a, .string b] w fun e w' => PMa a b la lb w e w' := by
  have bad : Parl.bothE a b la lb ≠ 0 → Parl.mtL a b la lb = none → Calls Tryz.prog 65 #[.string a, .string b] w fun e w' => PMa a b la lb w e w' := fun h1 h2 =>
    ma_err w a b la lb hLa hha hLb hhb h1 (by unfold Parl.mtN; rw [h2]) (by unfold Parl.mtW; rw [h2])
  by_cases hs : 64 < a.size ∨ 64 < b.size
  · exact bad (by unfold Parl.bothE; rw [if_pos hs]; omega) (by unfold Parl.mtL; rw [if_pos hs])
  · rcases hp : Parl.whole la with ⟨er, ps⟩ | ⟨p, l1⟩
    · exact bad (by rw [Parl.bothE_a hs hp]; exact Parl.whole_err hp) (by unfold Parl.mtL; rw [if_neg hs, hp])
    · rcases ht : Parl.whole lb with ⟨er, ps⟩ | ⟨t, l2⟩
      · exact bad (by rw [Parl.bothE_b hs hp, ht]; exact Parl.whole_err ht) (by unfold Parl.mtL; rw [if_neg hs, hp, ht])
      · exact ma_ok w a b la lb hLa hha hLb hhb hs p t l1 l2 hp ht
end Go.Proofs.YthfjnfcekeknlaaGreatDoor
