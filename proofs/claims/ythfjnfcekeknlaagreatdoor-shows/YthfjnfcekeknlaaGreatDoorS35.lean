import Derived.Test.YthfjnfcekeknlaaGreatDoorS28
import Derived.Test.YthfjnfcekeknlaaGreatDoorS34
namespace Go.Proofs.YthfjnfcekeknlaaGreatDoor
open Go.RowKit

set_option maxHeartbeats 8000000 in
set_option maxRecDepth 100000 in
theorem item_set_no (w : World) (rb lb : Nat) (s : ByteArray) (l : List Parl.Tok) (ns : List ByteArray) (nv iv : Value) (e0 : Int) (tests goals : Bool) (h : St w rb s l ns nv e0) (hb : w.heap[lb]? = some (.cells #[iv, .bool tests, .bool goals] 82 (0, 0))) (hne : lb ≠ rb) (hn0 : lb ≠ 0) (t : Parl.Tm) (l1 : List Parl.Tok) (hT : Parl.term 8 l = .inr (t, l1)) (hkk : t.kind = 3) (hsg : Parl.testSign l1 = false) (heq : Parl.sees l1 [61] = false) (has : Parl.sees l1 [58, 61] = true) (er ps : Nat) (hR : Parl.assignment t goals l1 = .inl (er, ps)) :
    Calls Tryz.prog 80 #[.pointer (some ⟨rb, 0, none⟩), .pointer (some ⟨lb, 0, none⟩)] w fun e w' => PIt rb lb iv s ns (.inl (er, ps)) w e w' := by
  have hlt := h.lt
  have hlb : lb < w.heap.size := blk_lt hb
  obtain ⟨hS, hK, hB0, hB1⟩ := item_box h hb
  unfold boxZ at hS hK hB0 hB1
  have HS := hide hS
  have HK := hide hK
  have HB0 := hide hB0
  have HB1 := hide hB1
  have I := hide (fun W (hW : St W rb s l ns nv e0) => term_all 8 W rb s l ns nv e0 1 rfl hW)
  rw [hT] at I
  have hk0 : (Parl.hd l1).kind ≠ 0 := by rw [Parl.sees_kind has]; omega
  have hak : (ak t.kind == 1) = true := by rw [hkk]; rfl
  clear hkk
  have HH0 := hide hk0
  clear hS hK hB0 hB1 h hb hk0
  go_enter Tryz.func80, Tryz.ntmps80
  go_wp2_with fail
  refine (unhide I _ (unhide HS)).mono ?_
  rintro e w1 ⟨val, tx, ao, cap, ns1, nv1, e1, rfl, htx, hs, hk⟩
  have HS0 := hide hs
  have HS1 := hide (hs.below ((Below.refl _ _).alloc (Nat.le_refl _) (.cells #[.int .i64 (ak t.kind), .int .i64 val, .string tx, .slice ao t.args.length cap] 76)))
  have HK0 := hide ((unhide HK).trans hk)
  have hb0 := blk_ka hk (unhide HB0) (by simp; omega)
  have hbl := blk_ka hk (unhide HB1) (by simpa using hne)
  have hz0 : w.heap.size < w1.heap.size := blk_lt hb0
  have hzl : lb < w1.heap.size := blk_lt hbl
  have HBZ := hide hb0
  have HBL := hide hbl
  have q := blkA hbl
  have y := blkX hbl
  clear hs hk hb0 hbl htx
  go_wp2_with fail
  refine (seesTestSign_any _ rb s l1 ns1 nv1 e1 (unhide HS1)).mono ?_
  rintro e w2 ⟨rfl, hw⟩
  rw [hw]
  clear hw w2
  rw [hsg]
  go_wp2_with fail
  refine (sees_any _ rb s l1 ns1 nv1 e1 _ (unhide HS1)).mono ?_
  rintro e w2 ⟨rfl, hw⟩
  rw [hw]
  simp only [ByteArray.toList_mk]
  clear hw w2
  rw [heq]
  go_wp2_with fail
  refine (sees_any _ rb s l1 ns1 nv1 e1 _ (unhide HS1)).mono ?_
  rintro e w2 ⟨rfl, hw⟩
  rw [hw]
  simp only [ByteArray.toList_mk]
  clear hw w2
  rw [has]
  go_wp2_with fail
  have HW0 : Hid (St (w1.setCell ⟨lb, 1, none⟩ (.bool false)) rb s l1 ns1 nv1 e1) := (unhide HS0).only ((OnlyB.refl lb _).set 1 (.bool false)) hne hn0 (by unfold tyAt; rw [unhide HBL]; simp)
  have HW : Hid (St ((w1.setCell ⟨lb, 1, none⟩ (.bool false)).alloc (.cells #[.int .i64 (ak t.kind), .int .i64 val, .string tx, .slice ao t.args.length cap] 76)).drew rb s l1 ns1 nv1 e1) := (unhide HW0).below ((Below.refl _ _).alloc (Nat.le_refl _) _).drew
  have HKW : Hid (KA rb [rb, lb] w ((w1.setCell ⟨lb, 1, none⟩ (.bool false)).alloc (.cells #[.int .i64 (ak t.kind), .int .i64 val, .string tx, .slice ao t.args.length cap] 76)).drew) := (((unhide HK0).wide.setIn (by simp) _).alloc _).drew
  have HB0W : Hid (((w1.setCell ⟨lb, 1, none⟩ (.bool false)).alloc (.cells #[.int .i64 (ak t.kind), .int .i64 val, .string tx, .slice ao t.args.length cap] 76)).drew.heap[w.heap.size]? = some (.cells #[.int .i64 0, .int .i64 0, .string ⟨#[]⟩, .slice none 0 0, .string ⟨#[]⟩, .int .i64 0, .int .i64 0, .string ⟨#[]⟩, .slice none 0 0, .string ⟨#[]⟩, .int .i64 0, .int .i64 0, .string ⟨#[]⟩, .slice none 0 0] 151 (0, 0))) := blk_alloc (blk_other (unhide HBZ) (by omega) _ _) _
  have HBLW : Hid (((w1.setCell ⟨lb, 1, none⟩ (.bool false)).alloc (.cells #[.int .i64 (ak t.kind), .int .i64 val, .string tx, .slice ao t.args.length cap] 76)).drew.heap[lb]? = some (.cells #[iv, .bool false, .bool goals] 82 (0, 0))) := blk_alloc (blk_set (unhide HBL) 1 (.bool false)) _
  have SD := hide (fun W (hW : St W rb s l1 ns1 nv1 e1) => assignment_any W rb s l1 ns1 nv1 e1 ⟨ak t.kind, val, tx, ao, t.args.length, cap⟩ t goals hW (unhide HH0))
  rw [hR] at SD
  clear HS0 HS1 HK0 HBZ HW0 hR
  go_region_with (go_at_call 135; refine (unhide SD _ (unhide HW)).mono ?_; rintro e w2 ⟨a, b, c, sg, op, l', ns', nv', rfl, hs2, hpos, hk2⟩; have HP := hide hpos; clear hpos; have HS2 := hide hs2; have HK2 := hide ((unhide HKW).trans hk2.wide); have hb2 := blk_ka hk2 (unhide HB0W) (by simp; omega); have HBL2 := hide (blk_ka hk2 (unhide HBLW) (by simpa using hne)); have r := blkA hb2; have x := blkX hb2; have HB2 := hide hb2; clear hs2 hk2 hb2)
  all_goals
    go_wp2_with fail
    have RO := (((((((((((((((OnlyB.refl w.heap.size w2).set 0 (.int .i64 a.k)).set 1 (.int .i64 a.val)).set 2 (.string a.tx)).set 3 (.slice a.ao a.n a.cap)).set 4 (.string sg)).set 5 (.int .i64 b.k)).set 6 (.int .i64 b.val)).set 7 (.string b.tx)).set 8 (.slice b.ao b.n b.cap)).set 9 (.string op)).set 10 (.int .i64 c.k)).set 11 (.int .i64 c.val)).set 12 (.string c.tx)).set 13 (.slice c.ao c.n c.cap))
    have RS := (unhide HS2).only RO (by omega) (by omega) (by unfold tyAt; rw [unhide HB2]; simp)
    have RK := (unhide HK2).onlyNew RO (Nat.le_refl _)
    have RL := (RO.block lb (by omega)).trans (unhide HBL2)
    refine bodyPost_ret (v := .tuple #[.agg #[.int .i64 a.k, .int .i64 a.val, .string a.tx, .slice a.ao a.n a.cap, .string sg, .int .i64 b.k, .int .i64 b.val, .string b.tx, .slice b.ao b.n b.cap, .string op, .int .i64 c.k, .int .i64 c.val, .string c.tx, .slice c.ao c.n c.cap], .bool false]) (by simp [results, Tryz.results80, go_sem, r]) rfl ?_
    exact ⟨a, b, c, sg, op, l', ns', nv', rfl, RS, unhide HP, RK⟩

set_option maxHeartbeats 8000000 in
set_option maxRecDepth 100000 in
theorem item_set_yes (w : World) (rb lb : Nat) (s : ByteArray) (l : List Parl.Tok) (ns : List ByteArray) (nv iv : Value) (e0 : Int) (tests goals : Bool) (h : St w rb s l ns nv e0) (hb : w.heap[lb]? = some (.cells #[iv, .bool tests, .bool goals] 82 (0, 0))) (hne : lb ≠ rb) (hn0 : lb ≠ 0) (t : Parl.Tm) (l1 : List Parl.Tok) (hT : Parl.term 8 l = .inr (t, l1)) (hkk : t.kind = 3) (hsg : Parl.testSign l1 = false) (heq : Parl.sees l1 [61] = false) (has : Parl.sees l1 [58, 61] = true) (x : Parl.Itm) (l2 : List Parl.Tok) (hR : Parl.assignment t goals l1 = .inr (x, l2)) :
    Calls Tryz.prog 80 #[.pointer (some ⟨rb, 0, none⟩), .pointer (some ⟨lb, 0, none⟩)] w fun e w' => PIt rb lb iv s ns (.inr ((x, false, goals), l2)) w e w' := by
  have hlt := h.lt
  have hlb : lb < w.heap.size := blk_lt hb
  obtain ⟨hS, hK, hB0, hB1⟩ := item_box h hb
  unfold boxZ at hS hK hB0 hB1
  have HS := hide hS
  have HK := hide hK
  have HB0 := hide hB0
  have HB1 := hide hB1
  have I := hide (fun W (hW : St W rb s l ns nv e0) => term_all 8 W rb s l ns nv e0 1 rfl hW)
  rw [hT] at I
  have hk0 : (Parl.hd l1).kind ≠ 0 := by rw [Parl.sees_kind has]; omega
  have hak : (ak t.kind == 1) = true := by rw [hkk]; rfl
  clear hkk
  have HH0 := hide hk0
  clear hS hK hB0 hB1 h hb hk0
  go_enter Tryz.func80, Tryz.ntmps80
  go_wp2_with fail
  refine (unhide I _ (unhide HS)).mono ?_
  rintro e w1 ⟨val, tx, ao, cap, ns1, nv1, e1, rfl, htx, hs, hk⟩
  have HS0 := hide hs
  have HS1 := hide (hs.below ((Below.refl _ _).alloc (Nat.le_refl _) (.cells #[.int .i64 (ak t.kind), .int .i64 val, .string tx, .slice ao t.args.length cap] 76)))
  have HK0 := hide ((unhide HK).trans hk)
  have hb0 := blk_ka hk (unhide HB0) (by simp; omega)
  have hbl := blk_ka hk (unhide HB1) (by simpa using hne)
  have hz0 : w.heap.size < w1.heap.size := blk_lt hb0
  have hzl : lb < w1.heap.size := blk_lt hbl
  have HBZ := hide hb0
  have HBL := hide hbl
  have q := blkA hbl
  have y := blkX hbl
  have HTX := hide htx
  clear hs hk hb0 hbl htx
  go_wp2_with fail
  refine (seesTestSign_any _ rb s l1 ns1 nv1 e1 (unhide HS1)).mono ?_
  rintro e w2 ⟨rfl, hw⟩
  rw [hw]
  clear hw w2
  rw [hsg]
  go_wp2_with fail
  refine (sees_any _ rb s l1 ns1 nv1 e1 _ (unhide HS1)).mono ?_
  rintro e w2 ⟨rfl, hw⟩
  rw [hw]
  simp only [ByteArray.toList_mk]
  clear hw w2
  rw [heq]
  go_wp2_with fail
  refine (sees_any _ rb s l1 ns1 nv1 e1 _ (unhide HS1)).mono ?_
  rintro e w2 ⟨rfl, hw⟩
  rw [hw]
  simp only [ByteArray.toList_mk]
  clear hw w2
  rw [has]
  go_wp2_with fail
  have HW0 : Hid (St (w1.setCell ⟨lb, 1, none⟩ (.bool false)) rb s l1 ns1 nv1 e1) := (unhide HS0).only ((OnlyB.refl lb _).set 1 (.bool false)) hne hn0 (by unfold tyAt; rw [unhide HBL]; simp)
  have HW : Hid (St ((w1.setCell ⟨lb, 1, none⟩ (.bool false)).alloc (.cells #[.int .i64 (ak t.kind), .int .i64 val, .string tx, .slice ao t.args.length cap] 76)).drew rb s l1 ns1 nv1 e1) := (unhide HW0).below ((Below.refl _ _).alloc (Nat.le_refl _) _).drew
  have HKW : Hid (KA rb [rb, lb] w ((w1.setCell ⟨lb, 1, none⟩ (.bool false)).alloc (.cells #[.int .i64 (ak t.kind), .int .i64 val, .string tx, .slice ao t.args.length cap] 76)).drew) := (((unhide HK0).wide.setIn (by simp) _).alloc _).drew
  have HB0W : Hid (((w1.setCell ⟨lb, 1, none⟩ (.bool false)).alloc (.cells #[.int .i64 (ak t.kind), .int .i64 val, .string tx, .slice ao t.args.length cap] 76)).drew.heap[w.heap.size]? = some (.cells #[.int .i64 0, .int .i64 0, .string ⟨#[]⟩, .slice none 0 0, .string ⟨#[]⟩, .int .i64 0, .int .i64 0, .string ⟨#[]⟩, .slice none 0 0, .string ⟨#[]⟩, .int .i64 0, .int .i64 0, .string ⟨#[]⟩, .slice none 0 0] 151 (0, 0))) := blk_alloc (blk_other (unhide HBZ) (by omega) _ _) _
  have HBLW : Hid (((w1.setCell ⟨lb, 1, none⟩ (.bool false)).alloc (.cells #[.int .i64 (ak t.kind), .int .i64 val, .string tx, .slice ao t.args.length cap] 76)).drew.heap[lb]? = some (.cells #[iv, .bool false, .bool goals] 82 (0, 0))) := blk_alloc (blk_set (unhide HBL) 1 (.bool false)) _
  have HKP : Hid (KeepA w1 ((w1.setCell ⟨lb, 1, none⟩ (.bool false)).alloc (.cells #[.int .i64 (ak t.kind), .int .i64 val, .string tx, .slice ao t.args.length cap] 76)).drew) := (KeepA.only ((OnlyB.refl lb w1).set 1 (.bool false)) (by unfold tyAt; rw [unhide HBL]; simp)).trans (KeepA.below ((Below.refl _ _).alloc (Nat.le_refl _) _).drew)
  have SD := hide (fun W (hW : St W rb s l1 ns1 nv1 e1) => assignment_any W rb s l1 ns1 nv1 e1 ⟨ak t.kind, val, tx, ao, t.args.length, cap⟩ t goals hW (unhide HH0))
  rw [hR] at SD
  clear HS0 HS1 HK0 HBZ HW0 hR
  go_region_with (go_at_call 135; refine (unhide SD _ (unhide HW)).mono ?_; rintro e w2 ⟨a, b, c, sg, op, ns', nv', e', rfl, ⟨ha, hxl, hrt⟩, hs2, hk2⟩; have HRT := hide hrt; have HXL := hide hxl; have HA0 := hide ha; clear hrt hxl ha; have HKP2 := hide ((unhide HKP).trans (KeepA.ka (unhide HW) hk2)); have HS2 := hide hs2; have HK2 := hide ((unhide HKW).trans hk2.wide); have hb2 := blk_ka hk2 (unhide HB0W) (by simp; omega); have HBL2 := hide (blk_ka hk2 (unhide HBLW) (by simpa using hne)); have r := blkA hb2; have x := blkX hb2; have HB2 := hide hb2; clear hs2 hk2 hb2)
  all_goals
    go_wp2_with fail
    have RO := (((((((((((((((OnlyB.refl w.heap.size w2).set 0 (.int .i64 a.k)).set 1 (.int .i64 a.val)).set 2 (.string a.tx)).set 3 (.slice a.ao a.n a.cap)).set 4 (.string sg)).set 5 (.int .i64 b.k)).set 6 (.int .i64 b.val)).set 7 (.string b.tx)).set 8 (.slice b.ao b.n b.cap)).set 9 (.string op)).set 10 (.int .i64 c.k)).set 11 (.int .i64 c.val)).set 12 (.string c.tx)).set 13 (.slice c.ao c.n c.cap))
    have RS := (unhide HS2).only RO (by omega) (by omega) (by unfold tyAt; rw [unhide HB2]; simp)
    have RP := KeepA.only RO (by unfold tyAt; rw [unhide HB2]; simp)
    have RK := (unhide HK2).onlyNew RO (Nat.le_refl _)
    have RL := (RO.block lb (by omega)).trans (unhide HBL2)
    refine bodyPost_ret (v := .tuple #[.agg #[.int .i64 a.k, .int .i64 a.val, .string a.tx, .slice a.ao a.n a.cap, .string sg, .int .i64 b.k, .int .i64 b.val, .string b.tx, .slice b.ao b.n b.cap, .string op, .int .i64 c.k, .int .i64 c.val, .string c.tx, .slice c.ao c.n c.cap], .bool true]) (by simp [results, Tryz.results80, go_sem, r]) rfl ?_
    exact ⟨a, b, c, sg, op, ns', nv', e', rfl, ItA.of (unhide HTX) (unhide HA0) (unhide HXL) (unhide HRT) (unhide HKP2) RP, RS, RL, RK⟩

end Go.Proofs.YthfjnfcekeknlaaGreatDoor
