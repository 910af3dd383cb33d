import Derived.Test.YthfjnfcekeknlaaGreatDoorS28
namespace Go.Proofs.YthfjnfcekeknlaaGreatDoor
open Go.RowKit

set_option maxHeartbeats 8000000 in
set_option maxRecDepth 100000 in
theorem item_k2_false_n_t (w : World) (rb lb : Nat) (s : ByteArray) (l : List Parl.Tok) (ns : List ByteArray) (nv iv : Value) (e0 : Int)  (h : St w rb s l ns nv e0) (hb : w.heap[lb]? = some (.cells #[iv, .bool false, .bool true] 82 (0, 0))) (hne : lb ≠ rb) (hn0 : lb ≠ 0) (t : Parl.Tm) (l1 : List Parl.Tok) (hkk : t.kind = 2) (hT : Parl.term 8 l = .inr (t, l1)) (hsg : Parl.testSign l1 = false) (heq : Parl.sees l1 [61] = false) :
    Calls Tryz.prog 80 #[.pointer (some ⟨rb, 0, none⟩), .pointer (some ⟨lb, 0, none⟩)] w fun e w' => PIt rb lb iv s ns (.inr ((⟨t, [], none, [], none⟩, false, true), l1)) w e w' := by
  have hlt := h.lt
  have hlb : lb < w.heap.size := blk_lt hb
  obtain ⟨hS, hK, hB0, hB1⟩ := item_box h hb
  unfold boxZ at hS hK hB0 hB1
  have HS := hide hS
  have HK := hide hK
  have HB0 := hide hB0
  have HB1 := hide hB1
  have I := hide (fun W (hW : St W rb s l ns nv e0) => term_all 8 W rb s l ns nv e0 1 rfl hW)
  rw [hT] at I
  clear hS hK hB0 hB1 h hb
  go_enter Tryz.func80, Tryz.ntmps80
  go_wp2_with fail
  refine (unhide I _ (unhide HS)).mono ?_
  have hak : ak t.kind = 3 := by rw [hkk]; rfl
  have HKK := hide hkk
  clear hkk
  rintro e w1 ⟨val, tx, ao, cap, ns1, nv1, e1, rfl, htx, hs, hk⟩
  rw [hak]
  have HAK := hide hak
  clear hak
  have HTX := hide htx
  clear htx
  have HS0 := hide hs
  have HS1 := hide (hs.below ((Below.refl _ _).alloc (Nat.le_refl _) (.cells #[.int .i64 3, .int .i64 val, .string tx, .slice ao t.args.length cap] 76)))
  have HK0 := hide ((unhide HK).trans hk)
  have hb0 := blk_ka hk (unhide HB0) (by simp; omega)
  have hbl := blk_ka hk (unhide HB1) (by simpa using hne)
  have hz0 : w.heap.size < w1.heap.size := blk_lt hb0
  have hzl : lb < w1.heap.size := blk_lt hbl
  have HBZ := hide hb0
  have r := blkA hb0
  have x := blkX hb0
  have HBL := hide hbl
  have q := blkA hbl
  have y := blkX hbl
  clear hs hk hb0 hbl 
  go_wp2_with fail
  refine (seesTestSign_any _ rb s l1 ns1 nv1 e1 (unhide HS1)).mono ?_
  rintro e w2 ⟨rfl, hw⟩
  rw [hw]
  clear hw w2
  rw [hsg]
  go_wp2_with fail
  refine (sees_any _ rb s l1 ns1 nv1 e1 _ (unhide HS1)).mono ?_
  rintro e w2 ⟨rfl, hw⟩
  rw [hw]
  simp only [ByteArray.toList_mk]
  clear hw w2
  rw [heq]
  go_wp2_with fail
  have HW1 : Hid (St ((w1.setCell ⟨lb, 1, none⟩ (.bool false)).alloc (.cells #[.int .i64 3, .int .i64 val, .string tx, .slice ao t.args.length cap] 76)) rb s l1 ns1 nv1 e1) := ((unhide HS0).only ((OnlyB.refl lb _).set 1 (.bool false)) hne hn0 (by unfold tyAt; rw [unhide HBL]; simp)).below ((Below.refl _ _).alloc (Nat.le_refl _) _)
  have HK1 : Hid (KA rb [rb, lb] w ((w1.setCell ⟨lb, 1, none⟩ (.bool false)).alloc (.cells #[.int .i64 3, .int .i64 val, .string tx, .slice ao t.args.length cap] 76))) := ((unhide HK0).wide.setIn (by simp) _).alloc _
  have HBL3 : Hid (((w1.setCell ⟨lb, 1, none⟩ (.bool false)).alloc (.cells #[.int .i64 3, .int .i64 val, .string tx, .slice ao t.args.length cap] 76)).heap[lb]? = some (.cells #[iv, .bool false, .bool true] 82 (0, 0))) := blk_alloc (blk_set (unhide HBL) 1 (.bool false)) _
  have HB03 : Hid (((w1.setCell ⟨lb, 1, none⟩ (.bool false)).alloc (.cells #[.int .i64 3, .int .i64 val, .string tx, .slice ao t.args.length cap] 76)).heap[w.heap.size]? = some (.cells #[.int .i64 0, .int .i64 0, .string ⟨#[]⟩, .slice none 0 0, .string ⟨#[]⟩, .int .i64 0, .int .i64 0, .string ⟨#[]⟩, .slice none 0 0, .string ⟨#[]⟩, .int .i64 0, .int .i64 0, .string ⟨#[]⟩, .slice none 0 0] 151 (0, 0))) := blk_alloc (blk_other (unhide HBZ) (by omega) _ _) _
  have HW2 := (unhide HS0).only ((OnlyB.refl lb _).set 1 (.bool false)) hne hn0 (by unfold tyAt; rw [unhide HBL]; simp)
  have RO := (((((((((((((((OnlyB.refl w.heap.size (w1.setCell ⟨lb, 1, none⟩ (.bool false))).set 0 (.int .i64 3)).set 1 (.int .i64 val)).set 2 (.string tx)).set 3 (.slice ao t.args.length cap)).set 4 (.string ⟨#[]⟩)).set 5 (.int .i64 0)).set 6 (.int .i64 0)).set 7 (.string ⟨#[]⟩)).set 8 (.slice none 0 0)).set 9 (.string ⟨#[]⟩)).set 10 (.int .i64 0)).set 11 (.int .i64 0)).set 12 (.string ⟨#[]⟩)).set 13 (.slice none 0 0))
  have RS := HW2.only RO (by omega) (by omega) (by unfold tyAt; rw [blk_other (unhide HBZ) (show w.heap.size ≠ lb by omega) 1 (.bool false)]; simp)
  have RK := ((unhide HK0).wide (lb := lb)).setIn (p := ⟨lb, 1, none⟩) (by simp) (.bool false) |>.onlyNew RO (Nat.le_refl _)
  have RL := (RO.block lb (by omega)).trans (blk_set (unhide HBL) 1 (.bool false))
  refine bodyPost_ret (v := .tuple #[.agg #[.int .i64 3, .int .i64 val, .string tx, .slice ao t.args.length cap, .string ⟨#[]⟩, .int .i64 0, .int .i64 0, .string ⟨#[]⟩, .slice none 0 0, .string ⟨#[]⟩, .int .i64 0, .int .i64 0, .string ⟨#[]⟩, .slice none 0 0], .bool true]) (by simp [results, Tryz.results80, go_sem, hz0, r]) rfl ?_
  exact ⟨⟨3, val, tx, ao, t.args.length, cap⟩, ⟨0, 0, ⟨#[]⟩, none, 0, 0⟩, ⟨0, 0, ⟨#[]⟩, none, 0, 0⟩, ⟨#[]⟩, ⟨#[]⟩, ns1, nv1, e1, rfl, (by have q := ItA.plain (b := ⟨0, 0, ⟨#[]⟩, none, 0, 0⟩) (c := ⟨0, 0, ⟨#[]⟩, none, 0, 0⟩) (unhide HTX) (((KeepA.only ((OnlyB.refl lb w1).set 1 (.bool false)) (by unfold tyAt; rw [unhide HBL]; simp)).trans (KeepA.only RO (by unfold tyAt; rw [blk_other (unhide HBZ) (show w.heap.size ≠ lb by omega) 1 (.bool false)]; simp))).trans (KeepA.alloc _ (.cells #[.int .i64 3, .int .i64 val, .string tx, .slice ao t.args.length cap] 76))); rw [unhide HAK] at q; exact q), RS.below ((Below.refl _ _).alloc (Nat.le_refl _) _), blk_alloc RL _, RK.alloc _⟩

set_option maxHeartbeats 8000000 in
set_option maxRecDepth 100000 in
theorem item_k2_false_n_f (w : World) (rb lb : Nat) (s : ByteArray) (l : List Parl.Tok) (ns : List ByteArray) (nv iv : Value) (e0 : Int)  (h : St w rb s l ns nv e0) (hb : w.heap[lb]? = some (.cells #[iv, .bool false, .bool false] 82 (0, 0))) (hne : lb ≠ rb) (hn0 : lb ≠ 0) (t : Parl.Tm) (l1 : List Parl.Tok) (hkk : t.kind = 2) (hT : Parl.term 8 l = .inr (t, l1)) (hsg : Parl.testSign l1 = false) (heq : Parl.sees l1 [61] = false) :
    Calls Tryz.prog 80 #[.pointer (some ⟨rb, 0, none⟩), .pointer (some ⟨lb, 0, none⟩)] w fun e w' => PIt rb lb iv s ns (Parl.bad 2 l1) w e w' := by
  have hlt := h.lt
  have hlb : lb < w.heap.size := blk_lt hb
  obtain ⟨hS, hK, hB0, hB1⟩ := item_box h hb
  unfold boxZ at hS hK hB0 hB1
  have HS := hide hS
  have HK := hide hK
  have HB0 := hide hB0
  have HB1 := hide hB1
  have I := hide (fun W (hW : St W rb s l ns nv e0) => term_all 8 W rb s l ns nv e0 1 rfl hW)
  rw [hT] at I
  clear hS hK hB0 hB1 h hb
  go_enter Tryz.func80, Tryz.ntmps80
  go_wp2_with fail
  refine (unhide I _ (unhide HS)).mono ?_
  have hak : ak t.kind = 3 := by rw [hkk]; rfl
  have HKK := hide hkk
  clear hkk
  rintro e w1 ⟨val, tx, ao, cap, ns1, nv1, e1, rfl, htx, hs, hk⟩
  rw [hak]
  have HAK := hide hak
  clear hak
  have HTX := hide htx
  clear htx
  have HS0 := hide hs
  have HS1 := hide (hs.below ((Below.refl _ _).alloc (Nat.le_refl _) (.cells #[.int .i64 3, .int .i64 val, .string tx, .slice ao t.args.length cap] 76)))
  have HK0 := hide ((unhide HK).trans hk)
  have hb0 := blk_ka hk (unhide HB0) (by simp; omega)
  have hbl := blk_ka hk (unhide HB1) (by simpa using hne)
  have hz0 : w.heap.size < w1.heap.size := blk_lt hb0
  have hzl : lb < w1.heap.size := blk_lt hbl
  have HBZ := hide hb0
  have HBL := hide hbl
  have q := blkA hbl
  have y := blkX hbl
  clear hs hk hb0 hbl 
  go_wp2_with fail
  refine (seesTestSign_any _ rb s l1 ns1 nv1 e1 (unhide HS1)).mono ?_
  rintro e w2 ⟨rfl, hw⟩
  rw [hw]
  clear hw w2
  rw [hsg]
  go_wp2_with fail
  refine (sees_any _ rb s l1 ns1 nv1 e1 _ (unhide HS1)).mono ?_
  rintro e w2 ⟨rfl, hw⟩
  rw [hw]
  simp only [ByteArray.toList_mk]
  clear hw w2
  rw [heq]
  go_wp2_with fail
  have HW1 : Hid (St ((w1.setCell ⟨lb, 1, none⟩ (.bool false)).alloc (.cells #[.int .i64 3, .int .i64 val, .string tx, .slice ao t.args.length cap] 76)) rb s l1 ns1 nv1 e1) := ((unhide HS0).only ((OnlyB.refl lb _).set 1 (.bool false)) hne hn0 (by unfold tyAt; rw [unhide HBL]; simp)).below ((Below.refl _ _).alloc (Nat.le_refl _) _)
  have HK1 : Hid (KA rb [rb, lb] w ((w1.setCell ⟨lb, 1, none⟩ (.bool false)).alloc (.cells #[.int .i64 3, .int .i64 val, .string tx, .slice ao t.args.length cap] 76))) := ((unhide HK0).wide.setIn (by simp) _).alloc _
  have HBL3 : Hid (((w1.setCell ⟨lb, 1, none⟩ (.bool false)).alloc (.cells #[.int .i64 3, .int .i64 val, .string tx, .slice ao t.args.length cap] 76)).heap[lb]? = some (.cells #[iv, .bool false, .bool false] 82 (0, 0))) := blk_alloc (blk_set (unhide HBL) 1 (.bool false)) _
  have HB03 : Hid (((w1.setCell ⟨lb, 1, none⟩ (.bool false)).alloc (.cells #[.int .i64 3, .int .i64 val, .string tx, .slice ao t.args.length cap] 76)).heap[w.heap.size]? = some (.cells #[.int .i64 0, .int .i64 0, .string ⟨#[]⟩, .slice none 0 0, .string ⟨#[]⟩, .int .i64 0, .int .i64 0, .string ⟨#[]⟩, .slice none 0 0, .string ⟨#[]⟩, .int .i64 0, .int .i64 0, .string ⟨#[]⟩, .slice none 0 0] 151 (0, 0))) := blk_alloc (blk_other (unhide HBZ) (by omega) _ _) _
  go_wp2_with fail
  refine (refuse_any _ rb s l1 ns1 nv1 e1 2 (unhide HW1)).mono ?_
  rintro e w3 ⟨rfl, hs3, hk3⟩
  have HS3 := hide hs3
  have HK3 := hide ((unhide HK1).trans hk3.wide)
  have hb3 := blk_ka hk3 (unhide HB03) (by simp; omega)
  have r := blkA hb3
  have x := blkX hb3
  have HB3 := hide hb3
  clear hs3 hk3 hb3
  go_wp2_with fail
  have RO := (((((((((((((((OnlyB.refl w.heap.size w3).set 0 (.int .i64 0)).set 1 (.int .i64 0)).set 2 (.string ⟨#[]⟩)).set 3 (.slice none 0 0)).set 4 (.string ⟨#[]⟩)).set 5 (.int .i64 0)).set 6 (.int .i64 0)).set 7 (.string ⟨#[]⟩)).set 8 (.slice none 0 0)).set 9 (.string ⟨#[]⟩)).set 10 (.int .i64 0)).set 11 (.int .i64 0)).set 12 (.string ⟨#[]⟩)).set 13 (.slice none 0 0))
  have RS := (unhide HS3).only RO (by omega) (by omega) (by unfold tyAt; rw [unhide HB3]; simp)
  have RK := (unhide HK3).onlyNew RO (Nat.le_refl _)
  refine bodyPost_ret (v := .tuple #[.agg #[.int .i64 0, .int .i64 0, .string ⟨#[]⟩, .slice none 0 0, .string ⟨#[]⟩, .int .i64 0, .int .i64 0, .string ⟨#[]⟩, .slice none 0 0, .string ⟨#[]⟩, .int .i64 0, .int .i64 0, .string ⟨#[]⟩, .slice none 0 0], .bool false]) (by simp [results, Tryz.results80, go_sem, r]) rfl ?_
  exact ⟨⟨0, 0, ⟨#[]⟩, none, 0, 0⟩, ⟨0, 0, ⟨#[]⟩, none, 0, 0⟩, ⟨0, 0, ⟨#[]⟩, none, 0, 0⟩, ⟨#[]⟩, ⟨#[]⟩, l1, ns1, nv1, rfl, RS, rfl, RK⟩

set_option maxHeartbeats 8000000 in
set_option maxRecDepth 100000 in
theorem item_k2_true_i_g (w : World) (rb lb : Nat) (s : ByteArray) (l : List Parl.Tok) (ns : List ByteArray) (nv iv : Value) (e0 : Int) (goals : Bool) (h : St w rb s l ns nv e0) (hb : w.heap[lb]? = some (.cells #[iv, .bool true, .bool goals] 82 (0, 0))) (hne : lb ≠ rb) (hn0 : lb ≠ 0) (t : Parl.Tm) (l1 : List Parl.Tok) (hkk : t.kind = 2) (hi : Parl.isInt t = true) (hT : Parl.term 8 l = .inr (t, l1)) (hsg : Parl.testSign l1 = false) (heq : Parl.sees l1 [61] = false) :
    Calls Tryz.prog 80 #[.pointer (some ⟨rb, 0, none⟩), .pointer (some ⟨lb, 0, none⟩)] w fun e w' => PIt rb lb iv s ns (.inr ((⟨t, [], none, [], none⟩, true, goals), l1)) w e w' := by
  have hlt := h.lt
  have hlb : lb < w.heap.size := blk_lt hb
  obtain ⟨hS, hK, hB0, hB1⟩ := item_box h hb
  unfold boxZ at hS hK hB0 hB1
  have HS := hide hS
  have HK := hide hK
  have HB0 := hide hB0
  have HB1 := hide hB1
  have I := hide (fun W (hW : St W rb s l ns nv e0) => term_all 8 W rb s l ns nv e0 1 rfl hW)
  rw [hT] at I
  clear hS hK hB0 hB1 h hb
  go_enter Tryz.func80, Tryz.ntmps80
  go_wp2_with fail
  refine (unhide I _ (unhide HS)).mono ?_
  have hak : ak t.kind = 3 := by rw [hkk]; rfl
  have HKK := hide hkk
  clear hkk
  rintro e w1 ⟨val, tx, ao, cap, ns1, nv1, e1, rfl, htx, hs, hk⟩
  rw [hak]
  have HAK := hide hak
  clear hak
  have HTX := hide htx
  clear htx
  have HS0 := hide hs
  have HS1 := hide (hs.below ((Below.refl _ _).alloc (Nat.le_refl _) (.cells #[.int .i64 3, .int .i64 val, .string tx, .slice ao t.args.length cap] 76)))
  have HK0 := hide ((unhide HK).trans hk)
  have hb0 := blk_ka hk (unhide HB0) (by simp; omega)
  have hbl := blk_ka hk (unhide HB1) (by simpa using hne)
  have hz0 : w.heap.size < w1.heap.size := blk_lt hb0
  have hzl : lb < w1.heap.size := blk_lt hbl
  have HBZ := hide hb0
  have HBL := hide hbl
  have q := blkA hbl
  have y := blkX hbl
  clear hs hk hb0 hbl 
  go_wp2_with fail
  refine (seesTestSign_any _ rb s l1 ns1 nv1 e1 (unhide HS1)).mono ?_
  rintro e w2 ⟨rfl, hw⟩
  rw [hw]
  clear hw w2
  rw [hsg]
  go_wp2_with fail
  refine (sees_any _ rb s l1 ns1 nv1 e1 _ (unhide HS1)).mono ?_
  rintro e w2 ⟨rfl, hw⟩
  rw [hw]
  simp only [ByteArray.toList_mk]
  clear hw w2
  rw [heq]
  go_wp2_with fail
  have HII := hide (isIntTest_any (w1.alloc (.cells #[.int .i64 3, .int .i64 val, .string tx, .slice ao t.args.length cap] 76)) t val tx ao cap (unhide HTX).txt (by have := unhide HKK; omega))
  rw [unhide HAK] at HII
  refine (unhide HII).mono ?_
  rintro e w2 ⟨rfl, hbw⟩
  rw [hi]
  have HBW := hide hbw
  have HSW := hide ((unhide HS1).below hbw)
  have hz2 : w1.heap.size < w2.heap.size := by have := hbw.size; simp at this; omega
  have hbl2 := (hbw.block lb (by simp; omega)).trans (blk_alloc (unhide HBL) (.cells #[.int .i64 3, .int .i64 val, .string tx, .slice ao t.args.length cap] 76))
  have hbv2 := (hbw.block w1.heap.size (by simp)).trans (heap_alloc_new w1 (.cells #[.int .i64 3, .int .i64 val, .string tx, .slice ao t.args.length cap] 76))
  have hb02 := (hbw.block w.heap.size (by simp; omega)).trans (blk_alloc (unhide HBZ) (.cells #[.int .i64 3, .int .i64 val, .string tx, .slice ao t.args.length cap] 76))
  have HKW := hide (((unhide HK0).alloc (.cells #[.int .i64 3, .int .i64 val, .string tx, .slice ao t.args.length cap] 76)).trans (KA.of_below hbw))
  have q2 := blkA hbl2
  have y2 := blkX hbl2
  have vv := blkA hbv2
  have HBL2 := hide hbl2
  have HB02 := hide hb02
  clear hbw hbl2 hbv2 hb02 q y
  have HW1 : Hid (St (w2.setCell ⟨lb, 1, none⟩ (.bool true)) rb s l1 ns1 nv1 e1) := (unhide HSW).only ((OnlyB.refl lb _).set 1 (.bool true)) hne hn0 (by unfold tyAt; rw [unhide HBL2]; simp)
  have HK1 : Hid (KA rb [rb, lb] w (w2.setCell ⟨lb, 1, none⟩ (.bool true))) := (unhide HKW).wide.setIn (by simp) _
  have HBL3 : Hid ((w2.setCell ⟨lb, 1, none⟩ (.bool true)).heap[lb]? = some (.cells #[iv, .bool true, .bool goals] 82 (0, 0))) := blk_set (unhide HBL2) 1 (.bool true)
  have HB03 : Hid ((w2.setCell ⟨lb, 1, none⟩ (.bool true)).heap[w.heap.size]? = some (.cells #[.int .i64 0, .int .i64 0, .string ⟨#[]⟩, .slice none 0 0, .string ⟨#[]⟩, .int .i64 0, .int .i64 0, .string ⟨#[]⟩, .slice none 0 0, .string ⟨#[]⟩, .int .i64 0, .int .i64 0, .string ⟨#[]⟩, .slice none 0 0] 151 (0, 0))) := blk_other (unhide HB02) (by omega) _ _
  have r := blkA (unhide HB02)
  have x := blkX (unhide HB02)
  go_wp2_with fail
  have RO := (((((((((((((((OnlyB.refl w.heap.size (w2.setCell ⟨lb, 1, none⟩ (.bool true))).set 0 (.int .i64 3)).set 1 (.int .i64 val)).set 2 (.string tx)).set 3 (.slice ao t.args.length cap)).set 4 (.string ⟨#[]⟩)).set 5 (.int .i64 0)).set 6 (.int .i64 0)).set 7 (.string ⟨#[]⟩)).set 8 (.slice none 0 0)).set 9 (.string ⟨#[]⟩)).set 10 (.int .i64 0)).set 11 (.int .i64 0)).set 12 (.string ⟨#[]⟩)).set 13 (.slice none 0 0))
  have RS := (unhide HW1).only RO (by omega) (by omega) (by unfold tyAt; rw [unhide HB03]; simp)
  have RK := (unhide HK1).onlyNew RO (Nat.le_refl _)
  have RL := (RO.block lb (by omega)).trans (unhide HBL3)
  refine bodyPost_ret (v := .tuple #[.agg #[.int .i64 3, .int .i64 val, .string tx, .slice ao t.args.length cap, .string ⟨#[]⟩, .int .i64 0, .int .i64 0, .string ⟨#[]⟩, .slice none 0 0, .string ⟨#[]⟩, .int .i64 0, .int .i64 0, .string ⟨#[]⟩, .slice none 0 0], .bool true]) (by simp [results, Tryz.results80, go_sem, r]) rfl ?_
  exact ⟨⟨3, val, tx, ao, t.args.length, cap⟩, ⟨0, 0, ⟨#[]⟩, none, 0, 0⟩, ⟨0, 0, ⟨#[]⟩, none, 0, 0⟩, ⟨#[]⟩, ⟨#[]⟩, ns1, nv1, e1, rfl, (by have q := ItA.plain (b := ⟨0, 0, ⟨#[]⟩, none, 0, 0⟩) (c := ⟨0, 0, ⟨#[]⟩, none, 0, 0⟩) (unhide HTX) ((((KeepA.alloc _ _).trans (KeepA.below (unhide HBW))).trans (KeepA.only ((OnlyB.refl lb w2).set 1 (.bool true)) (by unfold tyAt; rw [unhide HBL2]; simp))).trans (KeepA.only RO (by unfold tyAt; rw [unhide HB03]; simp))); rw [unhide HAK] at q; exact q), RS, RL, RK⟩

end Go.Proofs.YthfjnfcekeknlaaGreatDoor
namespace Go.Proofs.YthfjnfcekeknlaaGreatDoor
open Go.RowKit

set_option maxHeartbeats 8000000 in
set_option maxRecDepth 100000 in
theorem item_k2_true_n_t (w : World) (rb lb : Nat) (s : ByteArray) (l : List Parl.Tok) (ns : List ByteArray) (nv iv : Value) (e0 : Int)  (h : St w rb s l ns nv e0) (hb : w.heap[lb]? = some (.cells #[iv, .bool true, .bool true] 82 (0, 0))) (hne : lb ≠ rb) (hn0 : lb ≠ 0) (t : Parl.Tm) (l1 : List Parl.Tok) (hkk : t.kind = 2) (hi : Parl.isInt t = false) (hT : Parl.term 8 l = .inr (t, l1)) (hsg : Parl.testSign l1 = false) (heq : Parl.sees l1 [61] = false) :
    Calls Tryz.prog 80 #[.pointer (some ⟨rb, 0, none⟩), .pointer (some ⟨lb, 0, none⟩)] w fun e w' => PIt rb lb iv s ns (.inr ((⟨t, [], none, [], none⟩, false, true), l1)) w e w' := by
  have hlt := h.lt
  have hlb : lb < w.heap.size := blk_lt hb
  obtain ⟨hS, hK, hB0, hB1⟩ := item_box h hb
  unfold boxZ at hS hK hB0 hB1
  have HS := hide hS
  have HK := hide hK
  have HB0 := hide hB0
  have HB1 := hide hB1
  have I := hide (fun W (hW : St W rb s l ns nv e0) => term_all 8 W rb s l ns nv e0 1 rfl hW)
  rw [hT] at I
  clear hS hK hB0 hB1 h hb
  go_enter Tryz.func80, Tryz.ntmps80
  go_wp2_with fail
  refine (unhide I _ (unhide HS)).mono ?_
  have hak : ak t.kind = 3 := by rw [hkk]; rfl
  have HKK := hide hkk
  clear hkk
  rintro e w1 ⟨val, tx, ao, cap, ns1, nv1, e1, rfl, htx, hs, hk⟩
  rw [hak]
  have HAK := hide hak
  clear hak
  have HTX := hide htx
  clear htx
  have HS0 := hide hs
  have HS1 := hide (hs.below ((Below.refl _ _).alloc (Nat.le_refl _) (.cells #[.int .i64 3, .int .i64 val, .string tx, .slice ao t.args.length cap] 76)))
  have HK0 := hide ((unhide HK).trans hk)
  have hb0 := blk_ka hk (unhide HB0) (by simp; omega)
  have hbl := blk_ka hk (unhide HB1) (by simpa using hne)
  have hz0 : w.heap.size < w1.heap.size := blk_lt hb0
  have hzl : lb < w1.heap.size := blk_lt hbl
  have HBZ := hide hb0
  have HBL := hide hbl
  have q := blkA hbl
  have y := blkX hbl
  clear hs hk hb0 hbl 
  go_wp2_with fail
  refine (seesTestSign_any _ rb s l1 ns1 nv1 e1 (unhide HS1)).mono ?_
  rintro e w2 ⟨rfl, hw⟩
  rw [hw]
  clear hw w2
  rw [hsg]
  go_wp2_with fail
  refine (sees_any _ rb s l1 ns1 nv1 e1 _ (unhide HS1)).mono ?_
  rintro e w2 ⟨rfl, hw⟩
  rw [hw]
  simp only [ByteArray.toList_mk]
  clear hw w2
  rw [heq]
  go_wp2_with fail
  have HII := hide (isIntTest_any (w1.alloc (.cells #[.int .i64 3, .int .i64 val, .string tx, .slice ao t.args.length cap] 76)) t val tx ao cap (unhide HTX).txt (by have := unhide HKK; omega))
  rw [unhide HAK] at HII
  refine (unhide HII).mono ?_
  rintro e w2 ⟨rfl, hbw⟩
  rw [hi]
  have HBW := hide hbw
  have HSW := hide ((unhide HS1).below hbw)
  have hz2 : w1.heap.size < w2.heap.size := by have := hbw.size; simp at this; omega
  have hbl2 := (hbw.block lb (by simp; omega)).trans (blk_alloc (unhide HBL) (.cells #[.int .i64 3, .int .i64 val, .string tx, .slice ao t.args.length cap] 76))
  have hbv2 := (hbw.block w1.heap.size (by simp)).trans (heap_alloc_new w1 (.cells #[.int .i64 3, .int .i64 val, .string tx, .slice ao t.args.length cap] 76))
  have hb02 := (hbw.block w.heap.size (by simp; omega)).trans (blk_alloc (unhide HBZ) (.cells #[.int .i64 3, .int .i64 val, .string tx, .slice ao t.args.length cap] 76))
  have HKW := hide (((unhide HK0).alloc (.cells #[.int .i64 3, .int .i64 val, .string tx, .slice ao t.args.length cap] 76)).trans (KA.of_below hbw))
  have q2 := blkA hbl2
  have y2 := blkX hbl2
  have vv := blkA hbv2
  have HBL2 := hide hbl2
  have HB02 := hide hb02
  clear hbw hbl2 hbv2 hb02 q y
  have HW1 : Hid (St (w2.setCell ⟨lb, 1, none⟩ (.bool false)) rb s l1 ns1 nv1 e1) := (unhide HSW).only ((OnlyB.refl lb _).set 1 (.bool false)) hne hn0 (by unfold tyAt; rw [unhide HBL2]; simp)
  have HK1 : Hid (KA rb [rb, lb] w (w2.setCell ⟨lb, 1, none⟩ (.bool false))) := (unhide HKW).wide.setIn (by simp) _
  have HBL3 : Hid ((w2.setCell ⟨lb, 1, none⟩ (.bool false)).heap[lb]? = some (.cells #[iv, .bool false, .bool true] 82 (0, 0))) := blk_set (unhide HBL2) 1 (.bool false)
  have HB03 : Hid ((w2.setCell ⟨lb, 1, none⟩ (.bool false)).heap[w.heap.size]? = some (.cells #[.int .i64 0, .int .i64 0, .string ⟨#[]⟩, .slice none 0 0, .string ⟨#[]⟩, .int .i64 0, .int .i64 0, .string ⟨#[]⟩, .slice none 0 0, .string ⟨#[]⟩, .int .i64 0, .int .i64 0, .string ⟨#[]⟩, .slice none 0 0] 151 (0, 0))) := blk_other (unhide HB02) (by omega) _ _
  have r := blkA (unhide HB02)
  have x := blkX (unhide HB02)
  go_wp2_with fail
  have RO := (((((((((((((((OnlyB.refl w.heap.size (w2.setCell ⟨lb, 1, none⟩ (.bool false))).set 0 (.int .i64 3)).set 1 (.int .i64 val)).set 2 (.string tx)).set 3 (.slice ao t.args.length cap)).set 4 (.string ⟨#[]⟩)).set 5 (.int .i64 0)).set 6 (.int .i64 0)).set 7 (.string ⟨#[]⟩)).set 8 (.slice none 0 0)).set 9 (.string ⟨#[]⟩)).set 10 (.int .i64 0)).set 11 (.int .i64 0)).set 12 (.string ⟨#[]⟩)).set 13 (.slice none 0 0))
  have RS := (unhide HW1).only RO (by omega) (by omega) (by unfold tyAt; rw [unhide HB03]; simp)
  have RK := (unhide HK1).onlyNew RO (Nat.le_refl _)
  have RL := (RO.block lb (by omega)).trans (unhide HBL3)
  refine bodyPost_ret (v := .tuple #[.agg #[.int .i64 3, .int .i64 val, .string tx, .slice ao t.args.length cap, .string ⟨#[]⟩, .int .i64 0, .int .i64 0, .string ⟨#[]⟩, .slice none 0 0, .string ⟨#[]⟩, .int .i64 0, .int .i64 0, .string ⟨#[]⟩, .slice none 0 0], .bool true]) (by simp [results, Tryz.results80, go_sem, r]) rfl ?_
  exact ⟨⟨3, val, tx, ao, t.args.length, cap⟩, ⟨0, 0, ⟨#[]⟩, none, 0, 0⟩, ⟨0, 0, ⟨#[]⟩, none, 0, 0⟩, ⟨#[]⟩, ⟨#[]⟩, ns1, nv1, e1, rfl, (by have q := ItA.plain (b := ⟨0, 0, ⟨#[]⟩, none, 0, 0⟩) (c := ⟨0, 0, ⟨#[]⟩, none, 0, 0⟩) (unhide HTX) ((((KeepA.alloc _ _).trans (KeepA.below (unhide HBW))).trans (KeepA.only ((OnlyB.refl lb w2).set 1 (.bool false)) (by unfold tyAt; rw [unhide HBL2]; simp))).trans (KeepA.only RO (by unfold tyAt; rw [unhide HB03]; simp))); rw [unhide HAK] at q; exact q), RS, RL, RK⟩

set_option maxHeartbeats 8000000 in
set_option maxRecDepth 100000 in
theorem item_k2_true_n_f (w : World) (rb lb : Nat) (s : ByteArray) (l : List Parl.Tok) (ns : List ByteArray) (nv iv : Value) (e0 : Int)  (h : St w rb s l ns nv e0) (hb : w.heap[lb]? = some (.cells #[iv, .bool true, .bool false] 82 (0, 0))) (hne : lb ≠ rb) (hn0 : lb ≠ 0) (t : Parl.Tm) (l1 : List Parl.Tok) (hkk : t.kind = 2) (hi : Parl.isInt t = false) (hT : Parl.term 8 l = .inr (t, l1)) (hsg : Parl.testSign l1 = false) (heq : Parl.sees l1 [61] = false) :
    Calls Tryz.prog 80 #[.pointer (some ⟨rb, 0, none⟩), .pointer (some ⟨lb, 0, none⟩)] w fun e w' => PIt rb lb iv s ns (Parl.bad 2 l1) w e w' := by
  have hlt := h.lt
  have hlb : lb < w.heap.size := blk_lt hb
  obtain ⟨hS, hK, hB0, hB1⟩ := item_box h hb
  unfold boxZ at hS hK hB0 hB1
  have HS := hide hS
  have HK := hide hK
  have HB0 := hide hB0
  have HB1 := hide hB1
  have I := hide (fun W (hW : St W rb s l ns nv e0) => term_all 8 W rb s l ns nv e0 1 rfl hW)
  rw [hT] at I
  clear hS hK hB0 hB1 h hb
  go_enter Tryz.func80, Tryz.ntmps80
  go_wp2_with fail
  refine (unhide I _ (unhide HS)).mono ?_
  have hak : ak t.kind = 3 := by rw [hkk]; rfl
  have HKK := hide hkk
  clear hkk
  rintro e w1 ⟨val, tx, ao, cap, ns1, nv1, e1, rfl, htx, hs, hk⟩
  rw [hak]
  have HAK := hide hak
  clear hak
  have HTX := hide htx
  clear htx
  have HS0 := hide hs
  have HS1 := hide (hs.below ((Below.refl _ _).alloc (Nat.le_refl _) (.cells #[.int .i64 3, .int .i64 val, .string tx, .slice ao t.args.length cap] 76)))
  have HK0 := hide ((unhide HK).trans hk)
  have hb0 := blk_ka hk (unhide HB0) (by simp; omega)
  have hbl := blk_ka hk (unhide HB1) (by simpa using hne)
  have hz0 : w.heap.size < w1.heap.size := blk_lt hb0
  have hzl : lb < w1.heap.size := blk_lt hbl
  have HBZ := hide hb0
  have HBL := hide hbl
  have q := blkA hbl
  have y := blkX hbl
  clear hs hk hb0 hbl 
  go_wp2_with fail
  refine (seesTestSign_any _ rb s l1 ns1 nv1 e1 (unhide HS1)).mono ?_
  rintro e w2 ⟨rfl, hw⟩
  rw [hw]
  clear hw w2
  rw [hsg]
  go_wp2_with fail
  refine (sees_any _ rb s l1 ns1 nv1 e1 _ (unhide HS1)).mono ?_
  rintro e w2 ⟨rfl, hw⟩
  rw [hw]
  simp only [ByteArray.toList_mk]
  clear hw w2
  rw [heq]
  go_wp2_with fail
  have HII := hide (isIntTest_any (w1.alloc (.cells #[.int .i64 3, .int .i64 val, .string tx, .slice ao t.args.length cap] 76)) t val tx ao cap (unhide HTX).txt (by have := unhide HKK; omega))
  rw [unhide HAK] at HII
  refine (unhide HII).mono ?_
  rintro e w2 ⟨rfl, hbw⟩
  rw [hi]
  have HBW := hide hbw
  have HSW := hide ((unhide HS1).below hbw)
  have hz2 : w1.heap.size < w2.heap.size := by have := hbw.size; simp at this; omega
  have hbl2 := (hbw.block lb (by simp; omega)).trans (blk_alloc (unhide HBL) (.cells #[.int .i64 3, .int .i64 val, .string tx, .slice ao t.args.length cap] 76))
  have hbv2 := (hbw.block w1.heap.size (by simp)).trans (heap_alloc_new w1 (.cells #[.int .i64 3, .int .i64 val, .string tx, .slice ao t.args.length cap] 76))
  have hb02 := (hbw.block w.heap.size (by simp; omega)).trans (blk_alloc (unhide HBZ) (.cells #[.int .i64 3, .int .i64 val, .string tx, .slice ao t.args.length cap] 76))
  have HKW := hide (((unhide HK0).alloc (.cells #[.int .i64 3, .int .i64 val, .string tx, .slice ao t.args.length cap] 76)).trans (KA.of_below hbw))
  have q2 := blkA hbl2
  have y2 := blkX hbl2
  have vv := blkA hbv2
  have HBL2 := hide hbl2
  have HB02 := hide hb02
  clear hbw hbl2 hbv2 hb02 q y
  have HW1 : Hid (St (w2.setCell ⟨lb, 1, none⟩ (.bool false)) rb s l1 ns1 nv1 e1) := (unhide HSW).only ((OnlyB.refl lb _).set 1 (.bool false)) hne hn0 (by unfold tyAt; rw [unhide HBL2]; simp)
  have HK1 : Hid (KA rb [rb, lb] w (w2.setCell ⟨lb, 1, none⟩ (.bool false))) := (unhide HKW).wide.setIn (by simp) _
  have HBL3 : Hid ((w2.setCell ⟨lb, 1, none⟩ (.bool false)).heap[lb]? = some (.cells #[iv, .bool false, .bool false] 82 (0, 0))) := blk_set (unhide HBL2) 1 (.bool false)
  have HB03 : Hid ((w2.setCell ⟨lb, 1, none⟩ (.bool false)).heap[w.heap.size]? = some (.cells #[.int .i64 0, .int .i64 0, .string ⟨#[]⟩, .slice none 0 0, .string ⟨#[]⟩, .int .i64 0, .int .i64 0, .string ⟨#[]⟩, .slice none 0 0, .string ⟨#[]⟩, .int .i64 0, .int .i64 0, .string ⟨#[]⟩, .slice none 0 0] 151 (0, 0))) := blk_other (unhide HB02) (by omega) _ _
  go_wp2_with fail
  refine (refuse_any _ rb s l1 ns1 nv1 e1 2 (unhide HW1)).mono ?_
  rintro e w3 ⟨rfl, hs3, hk3⟩
  have HS3 := hide hs3
  have HK3 := hide ((unhide HK1).trans hk3.wide)
  have hb3 := blk_ka hk3 (unhide HB03) (by simp; omega)
  have r := blkA hb3
  have x := blkX hb3
  have HB3 := hide hb3
  clear hs3 hk3 hb3
  go_wp2_with fail
  have RO := (((((((((((((((OnlyB.refl w.heap.size w3).set 0 (.int .i64 0)).set 1 (.int .i64 0)).set 2 (.string ⟨#[]⟩)).set 3 (.slice none 0 0)).set 4 (.string ⟨#[]⟩)).set 5 (.int .i64 0)).set 6 (.int .i64 0)).set 7 (.string ⟨#[]⟩)).set 8 (.slice none 0 0)).set 9 (.string ⟨#[]⟩)).set 10 (.int .i64 0)).set 11 (.int .i64 0)).set 12 (.string ⟨#[]⟩)).set 13 (.slice none 0 0))
  have RS := (unhide HS3).only RO (by omega) (by omega) (by unfold tyAt; rw [unhide HB3]; simp)
  have RK := (unhide HK3).onlyNew RO (Nat.le_refl _)
  refine bodyPost_ret (v := .tuple #[.agg #[.int .i64 0, .int .i64 0, .string ⟨#[]⟩, .slice none 0 0, .string ⟨#[]⟩, .int .i64 0, .int .i64 0, .string ⟨#[]⟩, .slice none 0 0, .string ⟨#[]⟩, .int .i64 0, .int .i64 0, .string ⟨#[]⟩, .slice none 0 0], .bool false]) (by simp [results, Tryz.results80, go_sem, r]) rfl ?_
  exact ⟨⟨0, 0, ⟨#[]⟩, none, 0, 0⟩, ⟨0, 0, ⟨#[]⟩, none, 0, 0⟩, ⟨0, 0, ⟨#[]⟩, none, 0, 0⟩, ⟨#[]⟩, ⟨#[]⟩, l1, ns1, nv1, rfl, RS, rfl, RK⟩

set_option maxHeartbeats 8000000 in
set_option maxRecDepth 100000 in
theorem item_k3_false_n_g (w : World) (rb lb : Nat) (s : ByteArray) (l : List Parl.Tok) (ns : List ByteArray) (nv iv : Value) (e0 : Int) (goals : Bool) (h : St w rb s l ns nv e0) (hb : w.heap[lb]? = some (.cells #[iv, .bool false, .bool goals] 82 (0, 0))) (hne : lb ≠ rb) (hn0 : lb ≠ 0) (t : Parl.Tm) (l1 : List Parl.Tok) (hkk : t.kind = 3) (hT : Parl.term 8 l = .inr (t, l1)) (hsg : Parl.testSign l1 = false) (heq : Parl.sees l1 [61] = false) (has : Parl.sees l1 [58, 61] = false) :
    Calls Tryz.prog 80 #[.pointer (some ⟨rb, 0, none⟩), .pointer (some ⟨lb, 0, none⟩)] w fun e w' => PIt rb lb iv s ns (Parl.bad 2 l1) w e w' := by
  have hlt := h.lt
  have hlb : lb < w.heap.size := blk_lt hb
  obtain ⟨hS, hK, hB0, hB1⟩ := item_box h hb
  unfold boxZ at hS hK hB0 hB1
  have HS := hide hS
  have HK := hide hK
  have HB0 := hide hB0
  have HB1 := hide hB1
  have I := hide (fun W (hW : St W rb s l ns nv e0) => term_all 8 W rb s l ns nv e0 1 rfl hW)
  rw [hT] at I
  clear hS hK hB0 hB1 h hb
  go_enter Tryz.func80, Tryz.ntmps80
  go_wp2_with fail
  refine (unhide I _ (unhide HS)).mono ?_
  have hak : ak t.kind = 1 := by rw [hkk]; rfl
  have HKK := hide hkk
  clear hkk
  rintro e w1 ⟨val, tx, ao, cap, ns1, nv1, e1, rfl, htx, hs, hk⟩
  rw [hak]
  have HAK := hide hak
  clear hak
  have HTX := hide htx
  clear htx
  have HS0 := hide hs
  have HS1 := hide (hs.below ((Below.refl _ _).alloc (Nat.le_refl _) (.cells #[.int .i64 1, .int .i64 val, .string tx, .slice ao t.args.length cap] 76)))
  have HK0 := hide ((unhide HK).trans hk)
  have hb0 := blk_ka hk (unhide HB0) (by simp; omega)
  have hbl := blk_ka hk (unhide HB1) (by simpa using hne)
  have hz0 : w.heap.size < w1.heap.size := blk_lt hb0
  have hzl : lb < w1.heap.size := blk_lt hbl
  have HBZ := hide hb0
  have HBL := hide hbl
  have q := blkA hbl
  have y := blkX hbl
  clear hs hk hb0 hbl 
  go_wp2_with fail
  refine (seesTestSign_any _ rb s l1 ns1 nv1 e1 (unhide HS1)).mono ?_
  rintro e w2 ⟨rfl, hw⟩
  rw [hw]
  clear hw w2
  rw [hsg]
  go_wp2_with fail
  refine (sees_any _ rb s l1 ns1 nv1 e1 _ (unhide HS1)).mono ?_
  rintro e w2 ⟨rfl, hw⟩
  rw [hw]
  simp only [ByteArray.toList_mk]
  clear hw w2
  rw [heq]
  go_wp2_with fail
  refine (sees_any _ rb s l1 ns1 nv1 e1 _ (unhide HS1)).mono ?_
  rintro e w2 ⟨rfl, hw⟩
  rw [hw]
  simp only [ByteArray.toList_mk]
  clear hw w2
  rw [has]
  go_wp2_with fail
  have HW1 : Hid (St ((w1.setCell ⟨lb, 1, none⟩ (.bool false)).alloc (.cells #[.int .i64 1, .int .i64 val, .string tx, .slice ao t.args.length cap] 76)) rb s l1 ns1 nv1 e1) := ((unhide HS0).only ((OnlyB.refl lb _).set 1 (.bool false)) hne hn0 (by unfold tyAt; rw [unhide HBL]; simp)).below ((Below.refl _ _).alloc (Nat.le_refl _) _)
  have HK1 : Hid (KA rb [rb, lb] w ((w1.setCell ⟨lb, 1, none⟩ (.bool false)).alloc (.cells #[.int .i64 1, .int .i64 val, .string tx, .slice ao t.args.length cap] 76))) := ((unhide HK0).wide.setIn (by simp) _).alloc _
  have HBL3 : Hid (((w1.setCell ⟨lb, 1, none⟩ (.bool false)).alloc (.cells #[.int .i64 1, .int .i64 val, .string tx, .slice ao t.args.length cap] 76)).heap[lb]? = some (.cells #[iv, .bool false, .bool goals] 82 (0, 0))) := blk_alloc (blk_set (unhide HBL) 1 (.bool false)) _
  have HB03 : Hid (((w1.setCell ⟨lb, 1, none⟩ (.bool false)).alloc (.cells #[.int .i64 1, .int .i64 val, .string tx, .slice ao t.args.length cap] 76)).heap[w.heap.size]? = some (.cells #[.int .i64 0, .int .i64 0, .string ⟨#[]⟩, .slice none 0 0, .string ⟨#[]⟩, .int .i64 0, .int .i64 0, .string ⟨#[]⟩, .slice none 0 0, .string ⟨#[]⟩, .int .i64 0, .int .i64 0, .string ⟨#[]⟩, .slice none 0 0] 151 (0, 0))) := blk_alloc (blk_other (unhide HBZ) (by omega) _ _) _
  go_wp2_with fail
  refine (refuse_any _ rb s l1 ns1 nv1 e1 2 (unhide HW1)).mono ?_
  rintro e w3 ⟨rfl, hs3, hk3⟩
  have HS3 := hide hs3
  have HK3 := hide ((unhide HK1).trans hk3.wide)
  have hb3 := blk_ka hk3 (unhide HB03) (by simp; omega)
  have r := blkA hb3
  have x := blkX hb3
  have HB3 := hide hb3
  clear hs3 hk3 hb3
  go_wp2_with fail
  have RO := (((((((((((((((OnlyB.refl w.heap.size w3).set 0 (.int .i64 0)).set 1 (.int .i64 0)).set 2 (.string ⟨#[]⟩)).set 3 (.slice none 0 0)).set 4 (.string ⟨#[]⟩)).set 5 (.int .i64 0)).set 6 (.int .i64 0)).set 7 (.string ⟨#[]⟩)).set 8 (.slice none 0 0)).set 9 (.string ⟨#[]⟩)).set 10 (.int .i64 0)).set 11 (.int .i64 0)).set 12 (.string ⟨#[]⟩)).set 13 (.slice none 0 0))
  have RS := (unhide HS3).only RO (by omega) (by omega) (by unfold tyAt; rw [unhide HB3]; simp)
  have RK := (unhide HK3).onlyNew RO (Nat.le_refl _)
  refine bodyPost_ret (v := .tuple #[.agg #[.int .i64 0, .int .i64 0, .string ⟨#[]⟩, .slice none 0 0, .string ⟨#[]⟩, .int .i64 0, .int .i64 0, .string ⟨#[]⟩, .slice none 0 0, .string ⟨#[]⟩, .int .i64 0, .int .i64 0, .string ⟨#[]⟩, .slice none 0 0], .bool false]) (by simp [results, Tryz.results80, go_sem, r]) rfl ?_
  exact ⟨⟨0, 0, ⟨#[]⟩, none, 0, 0⟩, ⟨0, 0, ⟨#[]⟩, none, 0, 0⟩, ⟨0, 0, ⟨#[]⟩, none, 0, 0⟩, ⟨#[]⟩, ⟨#[]⟩, l1, ns1, nv1, rfl, RS, rfl, RK⟩

end Go.Proofs.YthfjnfcekeknlaaGreatDoor
