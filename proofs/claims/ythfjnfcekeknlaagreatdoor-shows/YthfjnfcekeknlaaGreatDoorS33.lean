import Derived.Test.YthfjnfcekeknlaaGreatDoorS04
import Derived.Test.YthfjnfcekeknlaaGreatDoorS27
namespace Go.Proofs.YthfjnfcekeknlaaGreatDoor
open Go.RowKit

set_option maxHeartbeats 8000000 in
set_option maxRecDepth 100000 in
theorem assign_second (w : World) (rb : Nat) (s : ByteArray) (l : List Parl.Tok) (ns : List ByteArray) (nv : Value) (e0 : Int) (a : TV) (left : Parl.Tm) (t : Parl.Tm) (l2 : List Parl.Tok) (h : St w rb s l ns nv e0) (h0 : (Parl.hd l).kind ≠ 0) (hO : Parl.operand l.tail = .inr (t, l2)) (hop : Parl.operSign l2 = true) (er ps : Nat) (hO2 : Parl.operand l2.tail = .inl (er, ps)) :
    Calls Tryz.prog 135 #[.pointer (some ⟨rb, 0, none⟩), .agg #[.int .i64 a.k, .int .i64 a.val, .string a.tx, .slice a.ao a.n a.cap], .bool true] w fun e w' => PItem rb s a left ns (Parl.assignment left true l) w e w' := by
  have hlt := h.lt
  have h0' := hide h0
  have I := hide (fun W nv (hW : St W rb s l.tail ns nv e0) => operand_any W rb s l.tail ns nv e0 hW)
  rw [hO] at I
  obtain ⟨hS, hK, hB1, hB2, hz⟩ := side_boxes a (Parl.hd l).text h
  unfold boxL boxZ boxI at hS hK hB1 hB2 hz
  have HS := hide hS
  have HK := hide hK
  have HB1 := hide hB1
  have HB2 := hide hB2
  have HZ := hide hz
  clear hS hK hB1 hB2 hz
  obtain ⟨⟨c0, c1, c2, c3, c4, c5, f1, f2, f3, f4, f5⟩, own, chain, isn, few, short, signs, pos, lt⟩ := h
  clear own chain isn few short signs c0 c1 c2 c4 c5 f1 f2 f3 f4 f5 h0
  have hc2 : ∀ o1 o2, ((w.alloc o1).alloc o2).cell? ⟨rb, 3, none⟩ = some (.string (Parl.hd l).text) := fun o1 o2 => by rw [World.cell?_alloc_past _ _ _ (by simp; omega), World.cell?_alloc_past _ _ _ hlt]; exact c3
  have hc3 : ∀ o1 o2 o3, (((w.alloc o1).alloc o2).alloc o3).cell? ⟨rb, 3, none⟩ = some (.string (Parl.hd l).text) := fun o1 o2 o3 => by rw [World.cell?_alloc_past _ _ _ (by simp; omega)]; exact hc2 o1 o2
  have HA : Parl.assignment left true l = .inl (er, ps) := by unfold Parl.assignment; rw [if_pos rfl, hO]; simp only [hop, hO2]; rfl
  rw [HA]
  have I2 := hide (fun W nv ns e0 (hW : St W rb s l2.tail ns nv e0) => operand_any W rb s l2.tail ns nv e0 hW)
  rw [hO2] at I2
  have hk2 := hide (show (Parl.hd l2).kind ≠ 0 by simp only [Parl.operSign, Bool.or_eq_true] at hop; rcases hop with (q | q) | q <;> (rw [Parl.sees_kind q]; omega))
  clear HA hO hO2
  go_enter Tryz.func135, Tryz.ntmps135
  go_wp2_with fail
  go_big_region
  go_wp2_with fail
  refine (takeIf_any _ rb s l ns nv e0 true (unhide HS) (fun _ => unhide h0')).mono ?_
  rintro e w1 ⟨rfl, hs, hk⟩
  have HB1' := hide (blk_ka hk (unhide HB1) (by simp; omega))
  have HB2' := hide (blk_ka hk (unhide HB2) (by simp; omega))
  have HS1 := hide hs
  have HK1 := hide ((unhide HK).trans hk)
  clear hs hk hc2 hc3 c3
  go_wp2_with fail
  refine (unhide I _ _ (unhide HS1)).mono ?_
  rintro e w2 ⟨val, tx, ao, cap, ns', nv', e', rfl, htx, hs2, hk2⟩
  clear htx
  have hb1 := blk_ka hk2 (unhide HB1') (by simp; omega)
  have hb2 := blk_ka hk2 (unhide HB2') (by simp; omega)
  have hz1 : w.heap.size + 1 < w2.heap.size := blk_lt hb1
  have hz2 : w.heap.size + 1 + 1 < w2.heap.size := blk_lt hb2
  have HS2 := hide hs2
  have HK2 := hide ((unhide HK1).trans hk2)
  clear hs2 hk2
  have r := blkA hb1
  have x := blkX hb1
  have q := blkA hb2
  have y := blkX hb2
  have HB1'' := hide hb1
  have HB2'' := hide hb2
  clear hb1 hb2
  have RB := hide (box1_end (unhide HS2) (unhide HK2) hlt (by omega) (unhide HB2'') (((((OnlyB.refl _ _).set 5 (.int .i64 (ak t.kind))).set 6 (.int .i64 val)).set 7 (.string tx)).set 8 (.slice ao t.args.length cap)))
  go_wp2_with fail
  refine (seesOperator_any _ rb s l2 ns' nv' e' ((unhide RB).1.below ((Below.refl _ _).alloc (Nat.le_refl _) _))).mono ?_
  rintro e w3 ⟨rfl, hw⟩
  rw [hw]
  clear hw w3
  have c3' : (w2.alloc (.cells #[.int .i64 (ak t.kind), .int .i64 val, .string tx, .slice ao t.args.length cap] 76)).cell? ⟨rb, 3, none⟩ = some (.string (Parl.hd l2).text) := ((unhide HS2).below ((Below.refl _ _).alloc (Nat.le_refl _) _)).rd.c3
  have c3'' := (unhide HS2).rd.c3
  have hrw2 : rb < w2.heap.size := (unhide HS2).lt
  have RC := hide (box1_end (unhide HS2) (unhide HK2) hlt (by omega) (unhide HB2'') ((((((OnlyB.refl _ _).set 5 (.int .i64 (ak t.kind))).set 6 (.int .i64 val)).set 7 (.string tx)).set 8 (.slice ao t.args.length cap)).set 9 (.string (Parl.hd l2).text)))
  have HC2 : Hid (((((((w2.setCell ⟨w.heap.size + 1 + 1, 5, none⟩ (.int .i64 (ak t.kind))).setCell ⟨w.heap.size + 1 + 1, 6, none⟩ (.int .i64 val)).setCell ⟨w.heap.size + 1 + 1, 7, none⟩ (.string tx)).setCell ⟨w.heap.size + 1 + 1, 8, none⟩ (.slice ao t.args.length cap)).setCell ⟨w.heap.size + 1 + 1, 9, none⟩ (.string (Parl.hd l2).text)).alloc (.cells #[.int .i64 (ak t.kind), .int .i64 val, .string tx, .slice ao t.args.length cap] 76)).heap[w.heap.size + 1 + 1]? = some (.cells #[.int .i64 a.k, .int .i64 a.val, .string a.tx, .slice a.ao a.n a.cap, .string (Parl.hd l).text, .int .i64 (ak t.kind), .int .i64 val, .string tx, .slice ao t.args.length cap, .string (Parl.hd l2).text, .int .i64 0, .int .i64 0, .string ⟨#[]⟩, .slice none 0 0] 151 (0, 0))) := blk_alloc (blk_set5 _ _ _ _ _ (unhide HB2'')) _
  have HC1 : Hid (((((((w2.setCell ⟨w.heap.size + 1 + 1, 5, none⟩ (.int .i64 (ak t.kind))).setCell ⟨w.heap.size + 1 + 1, 6, none⟩ (.int .i64 val)).setCell ⟨w.heap.size + 1 + 1, 7, none⟩ (.string tx)).setCell ⟨w.heap.size + 1 + 1, 8, none⟩ (.slice ao t.args.length cap)).setCell ⟨w.heap.size + 1 + 1, 9, none⟩ (.string (Parl.hd l2).text)).alloc (.cells #[.int .i64 (ak t.kind), .int .i64 val, .string tx, .slice ao t.args.length cap] 76)).heap[w.heap.size + 1]? = some (.cells #[.int .i64 0, .int .i64 0, .string ⟨#[]⟩, .slice none 0 0, .string ⟨#[]⟩, .int .i64 0, .int .i64 0, .string ⟨#[]⟩, .slice none 0 0, .string ⟨#[]⟩, .int .i64 0, .int .i64 0, .string ⟨#[]⟩, .slice none 0 0] 151 (0, 0))) := blk_alloc (blk_other5 _ _ _ _ _ (unhide HB1'') (by omega)) _
  go_wp2_with fail
  refine (take_any _ rb s l2 ns' nv' e' ((unhide RC).1.below ((Below.refl _ _).alloc (Nat.le_refl _) _)) (unhide hk2)).mono ?_
  rintro e w4 ⟨rfl, hs4, hk4⟩
  have HS4 := hide hs4
  have HK4 := hide (((unhide RC).2.alloc _).trans hk4)
  have HD1 := hide (blk_ka hk4 (unhide HC1) (by simp; omega))
  have HD2 := hide (blk_ka hk4 (unhide HC2) (by simp; omega))
  clear hs4 hk4 r x q y c3' c3'' hrw2 HC1 HC2 RC RB HS2 HK2 HB1'' HB2'' hz1 hz2
  go_wp2_with fail
  refine (unhide I2 _ _ _ _ (unhide HS4)).mono ?_
  rintro e w5 ⟨k', val', tx', ao', n', cap', l'', ns'', nv'', rfl, hs5, hpos5, hk5⟩
  have HP := hide hpos5
  clear hpos5
  have hb1 := blk_ka hk5 (unhide HD1) (by simp; omega)
  have hb2 := blk_ka hk5 (unhide HD2) (by simp; omega)
  have hz1 : w.heap.size + 1 < w5.heap.size := blk_lt hb1
  have hz2 : w.heap.size + 1 + 1 < w5.heap.size := blk_lt hb2
  have HS5 := hide hs5
  have HK5 := hide ((unhide HK4).trans hk5)
  clear hs5 hk5
  have r := blkA hb1
  have x := blkX hb1
  have q := blkA hb2
  have y := blkX hb2
  have HE1 := hide hb1
  have HE2 := hide hb2
  clear hb1 hb2
  go_wp2_with fail
  have R := box2_end (unhide HS5) (unhide HK5) hlt (by omega) (by omega) (unhide HE2) (unhide HE1) (((((OnlyB.refl _ _).set 10 (.int .i64 k')).set 11 (.int .i64 val')).set 12 (.string tx')).set 13 (.slice ao' n' cap')) (((((((((((((((OnlyB.refl _ _).set 0 (.int .i64 a.k)).set 1 (.int .i64 a.val)).set 2 (.string a.tx)).set 3 (.slice a.ao a.n a.cap)).set 4 (.string (Parl.hd l).text)).set 5 (.int .i64 (ak t.kind))).set 6 (.int .i64 val)).set 7 (.string tx)).set 8 (.slice ao t.args.length cap)).set 9 (.string (Parl.hd l2).text)).set 10 (.int .i64 k')).set 11 (.int .i64 val')).set 12 (.string tx')).set 13 (.slice ao' n' cap'))
  refine bodyPost_ret (v := .tuple #[.agg #[.int .i64 a.k, .int .i64 a.val, .string a.tx, .slice a.ao a.n a.cap, .string (Parl.hd l).text, .int .i64 (ak t.kind), .int .i64 val, .string tx, .slice ao t.args.length cap, .string (Parl.hd l2).text, .int .i64 k', .int .i64 val', .string tx', .slice ao' n' cap'], .bool false]) (by simp [results, Tryz.results135, go_sem, hz1, r]) rfl ?_
  exact ⟨a, ⟨ak t.kind, val, tx, ao, t.args.length, cap⟩, ⟨k', val', tx', ao', n', cap'⟩, (Parl.hd l).text, (Parl.hd l2).text, l'', ns'', nv'', rfl, R.1.below ((Below.refl _ _).alloc (Nat.le_refl _) _), unhide HP, R.2.alloc _⟩

end Go.Proofs.YthfjnfcekeknlaaGreatDoor
namespace Go.Proofs.YthfjnfcekeknlaaGreatDoor
open Go.RowKit

theorem right_more {f g : Nat} {ns' ns'' : List ByteArray} {w w1 w2 : World} {P : Nat → Prop} {a : AV} {t t2 : Parl.Tm} {val : Int} {tx : ByteArray} {ao : Option Addr} {cap : Nat} (h : RA f (nmsA ns') P w a t) (q : TA g ns' ns'' w1 w2 val tx ao cap t2) : RA f (nmsA ns'') P w a t := by
  obtain ⟨M, hM, _⟩ := Parl.namesF_ext g t2 q.rep.ok3 (nmsA ns')
  rw [q.nms, hM]
  exact h.more M
set_option maxHeartbeats 8000000 in
set_option maxRecDepth 100000 in
theorem assign_full (w : World) (rb : Nat) (s : ByteArray) (l : List Parl.Tok) (ns : List ByteArray) (nv : Value) (e0 : Int) (a : TV) (left : Parl.Tm) (t : Parl.Tm) (l2 : List Parl.Tok) (h : St w rb s l ns nv e0) (h0 : (Parl.hd l).kind ≠ 0) (hO : Parl.operand l.tail = .inr (t, l2)) (hop : Parl.operSign l2 = true) (t2 : Parl.Tm) (l3 : List Parl.Tok) (hO2 : Parl.operand l2.tail = .inr (t2, l3)) :
    Calls Tryz.prog 135 #[.pointer (some ⟨rb, 0, none⟩), .agg #[.int .i64 a.k, .int .i64 a.val, .string a.tx, .slice a.ao a.n a.cap], .bool true] w fun e w' => PItem rb s a left ns (Parl.assignment left true l) w e w' := by
  have hlt := h.lt
  have h0' := hide h0
  have I := hide (fun W nv (hW : St W rb s l.tail ns nv e0) => operand_any W rb s l.tail ns nv e0 hW)
  rw [hO] at I
  obtain ⟨hS, hK, hB1, hB2, hz⟩ := side_boxes a (Parl.hd l).text h
  unfold boxL boxZ boxI at hS hK hB1 hB2 hz
  have HS := hide hS
  have HK := hide hK
  have HB1 := hide hB1
  have HB2 := hide hB2
  have HZ := hide hz
  clear hS hK hB1 hB2 hz
  obtain ⟨⟨c0, c1, c2, c3, c4, c5, f1, f2, f3, f4, f5⟩, own, chain, isn, few, short, signs, pos, lt⟩ := h
  clear own chain isn few short signs c0 c1 c2 c4 c5 f1 f2 f3 f4 f5 h0
  have hc2 : ∀ o1 o2, ((w.alloc o1).alloc o2).cell? ⟨rb, 3, none⟩ = some (.string (Parl.hd l).text) := fun o1 o2 => by rw [World.cell?_alloc_past _ _ _ (by simp; omega), World.cell?_alloc_past _ _ _ hlt]; exact c3
  have hc3 : ∀ o1 o2 o3, (((w.alloc o1).alloc o2).alloc o3).cell? ⟨rb, 3, none⟩ = some (.string (Parl.hd l).text) := fun o1 o2 o3 => by rw [World.cell?_alloc_past _ _ _ (by simp; omega)]; exact hc2 o1 o2
  have HA : Parl.assignment left true l = .inr (⟨left, (Parl.hd l).text.toList, some t, (Parl.hd l2).text.toList, some t2⟩, l3) := by unfold Parl.assignment; rw [if_pos rfl, hO]; simp only [hop, hO2]; rfl
  rw [HA]
  have I2 := hide (fun W nv ns e0 (hW : St W rb s l2.tail ns nv e0) => operand_any W rb s l2.tail ns nv e0 hW)
  rw [hO2] at I2
  have hk2 := hide (show (Parl.hd l2).kind ≠ 0 by simp only [Parl.operSign, Bool.or_eq_true] at hop; rcases hop with (q | q) | q <;> (rw [Parl.sees_kind q]; omega))
  clear HA hO hO2
  go_enter Tryz.func135, Tryz.ntmps135
  go_wp2_with fail
  go_big_region
  go_wp2_with fail
  refine (takeIf_any _ rb s l ns nv e0 true (unhide HS) (fun _ => unhide h0')).mono ?_
  rintro e w1 ⟨rfl, hs, hk⟩
  have HB1' := hide (blk_ka hk (unhide HB1) (by simp; omega))
  have HB2' := hide (blk_ka hk (unhide HB2) (by simp; omega))
  have HS1 := hide hs
  have HK1 := hide ((unhide HK).trans hk)
  clear hs hk hc2 hc3 c3
  go_wp2_with fail
  refine (unhide I _ _ (unhide HS1)).mono ?_
  rintro e w2 ⟨val, tx, ao, cap, ns', nv', e', rfl, htx, hs2, hk2⟩
  have HTX := hide htx
  clear htx
  have hb1 := blk_ka hk2 (unhide HB1') (by simp; omega)
  have hb2 := blk_ka hk2 (unhide HB2') (by simp; omega)
  have hz1 : w.heap.size + 1 < w2.heap.size := blk_lt hb1
  have hz2 : w.heap.size + 1 + 1 < w2.heap.size := blk_lt hb2
  have HS2 := hide hs2
  have HK2 := hide ((unhide HK1).trans hk2)
  clear hs2 hk2
  have r := blkA hb1
  have x := blkX hb1
  have q := blkA hb2
  have y := blkX hb2
  have HB1'' := hide hb1
  have HB2'' := hide hb2
  clear hb1 hb2
  have RB := hide (box1_end (unhide HS2) (unhide HK2) hlt (by omega) (unhide HB2'') (((((OnlyB.refl _ _).set 5 (.int .i64 (ak t.kind))).set 6 (.int .i64 val)).set 7 (.string tx)).set 8 (.slice ao t.args.length cap)))
  go_wp2_with fail
  refine (seesOperator_any _ rb s l2 ns' nv' e' ((unhide RB).1.below ((Below.refl _ _).alloc (Nat.le_refl _) _))).mono ?_
  rintro e w3 ⟨rfl, hw⟩
  rw [hw]
  clear hw w3
  have c3' : (w2.alloc (.cells #[.int .i64 (ak t.kind), .int .i64 val, .string tx, .slice ao t.args.length cap] 76)).cell? ⟨rb, 3, none⟩ = some (.string (Parl.hd l2).text) := ((unhide HS2).below ((Below.refl _ _).alloc (Nat.le_refl _) _)).rd.c3
  have c3'' := (unhide HS2).rd.c3
  have hrw2 : rb < w2.heap.size := (unhide HS2).lt
  have RCK := hide (box1_keep (unhide HS2) (unhide HK2) hlt (by omega) (unhide HB2'') ((((((OnlyB.refl _ _).set 5 (.int .i64 (ak t.kind))).set 6 (.int .i64 val)).set 7 (.string tx)).set 8 (.slice ao t.args.length cap)).set 9 (.string (Parl.hd l2).text)))
  have RC := hide (unhide RCK).1
  have HKP := hide ((unhide RCK).2.trans (KeepA.alloc _ (.cells #[.int .i64 (ak t.kind), .int .i64 val, .string tx, .slice ao t.args.length cap] 76)))
  clear RCK
  have HC2 : Hid (((((((w2.setCell ⟨w.heap.size + 1 + 1, 5, none⟩ (.int .i64 (ak t.kind))).setCell ⟨w.heap.size + 1 + 1, 6, none⟩ (.int .i64 val)).setCell ⟨w.heap.size + 1 + 1, 7, none⟩ (.string tx)).setCell ⟨w.heap.size + 1 + 1, 8, none⟩ (.slice ao t.args.length cap)).setCell ⟨w.heap.size + 1 + 1, 9, none⟩ (.string (Parl.hd l2).text)).alloc (.cells #[.int .i64 (ak t.kind), .int .i64 val, .string tx, .slice ao t.args.length cap] 76)).heap[w.heap.size + 1 + 1]? = some (.cells #[.int .i64 a.k, .int .i64 a.val, .string a.tx, .slice a.ao a.n a.cap, .string (Parl.hd l).text, .int .i64 (ak t.kind), .int .i64 val, .string tx, .slice ao t.args.length cap, .string (Parl.hd l2).text, .int .i64 0, .int .i64 0, .string ⟨#[]⟩, .slice none 0 0] 151 (0, 0))) := blk_alloc (blk_set5 _ _ _ _ _ (unhide HB2'')) _
  have HC1 : Hid (((((((w2.setCell ⟨w.heap.size + 1 + 1, 5, none⟩ (.int .i64 (ak t.kind))).setCell ⟨w.heap.size + 1 + 1, 6, none⟩ (.int .i64 val)).setCell ⟨w.heap.size + 1 + 1, 7, none⟩ (.string tx)).setCell ⟨w.heap.size + 1 + 1, 8, none⟩ (.slice ao t.args.length cap)).setCell ⟨w.heap.size + 1 + 1, 9, none⟩ (.string (Parl.hd l2).text)).alloc (.cells #[.int .i64 (ak t.kind), .int .i64 val, .string tx, .slice ao t.args.length cap] 76)).heap[w.heap.size + 1]? = some (.cells #[.int .i64 0, .int .i64 0, .string ⟨#[]⟩, .slice none 0 0, .string ⟨#[]⟩, .int .i64 0, .int .i64 0, .string ⟨#[]⟩, .slice none 0 0, .string ⟨#[]⟩, .int .i64 0, .int .i64 0, .string ⟨#[]⟩, .slice none 0 0] 151 (0, 0))) := blk_alloc (blk_other5 _ _ _ _ _ (unhide HB1'') (by omega)) _
  go_wp2_with fail
  refine (take_any _ rb s l2 ns' nv' e' ((unhide RC).1.below ((Below.refl _ _).alloc (Nat.le_refl _) _)) (unhide hk2)).mono ?_
  rintro e w4 ⟨rfl, hs4, hk4⟩
  have HKP4 := hide ((unhide HKP).trans (KeepA.ka ((unhide RC).1.below ((Below.refl _ _).alloc (Nat.le_refl _) _)) hk4))
  have HS4 := hide hs4
  have HK4 := hide (((unhide RC).2.alloc _).trans hk4)
  have HD1 := hide (blk_ka hk4 (unhide HC1) (by simp; omega))
  have HD2 := hide (blk_ka hk4 (unhide HC2) (by simp; omega))
  clear hs4 hk4 r x q y c3' c3'' hrw2 HC1 HC2 RC RB HS2 HK2 HB1'' HB2'' hz1 hz2
  go_wp2_with fail
  refine (unhide I2 _ _ _ _ (unhide HS4)).mono ?_
  rintro e w5 ⟨val', tx', ao', cap', ns'', nv'', e'', rfl, htx5, hs5, hk5⟩
  have HKP5 := hide ((unhide HKP4).trans (KeepA.ka (unhide HS4) hk5))
  have HTX5 := hide htx5
  clear htx5
  have hb1 := blk_ka hk5 (unhide HD1) (by simp; omega)
  have hb2 := blk_ka hk5 (unhide HD2) (by simp; omega)
  have hz1 : w.heap.size + 1 < w5.heap.size := blk_lt hb1
  have hz2 : w.heap.size + 1 + 1 < w5.heap.size := blk_lt hb2
  have HS5 := hide hs5
  have HK5 := hide ((unhide HK4).trans hk5)
  clear hs5 hk5
  have r := blkA hb1
  have x := blkX hb1
  have q := blkA hb2
  have y := blkX hb2
  have HE1 := hide hb1
  have HE2 := hide hb2
  clear hb1 hb2
  go_wp2_with fail
  have RK := box2_keep (unhide HS5) (unhide HK5) hlt (by omega) (by omega) (unhide HE2) (unhide HE1) (((((OnlyB.refl _ _).set 10 (.int .i64 (ak t2.kind))).set 11 (.int .i64 val')).set 12 (.string tx')).set 13 (.slice ao' t2.args.length cap')) (((((((((((((((OnlyB.refl _ _).set 0 (.int .i64 a.k)).set 1 (.int .i64 a.val)).set 2 (.string a.tx)).set 3 (.slice a.ao a.n a.cap)).set 4 (.string (Parl.hd l).text)).set 5 (.int .i64 (ak t.kind))).set 6 (.int .i64 val)).set 7 (.string tx)).set 8 (.slice ao t.args.length cap)).set 9 (.string (Parl.hd l2).text)).set 10 (.int .i64 (ak t2.kind))).set 11 (.int .i64 val')).set 12 (.string tx')).set 13 (.slice ao' t2.args.length cap'))
  have R := RK.1
  refine bodyPost_ret (v := .tuple #[.agg #[.int .i64 a.k, .int .i64 a.val, .string a.tx, .slice a.ao a.n a.cap, .string (Parl.hd l).text, .int .i64 (ak t.kind), .int .i64 val, .string tx, .slice ao t.args.length cap, .string (Parl.hd l2).text, .int .i64 (ak t2.kind), .int .i64 val', .string tx', .slice ao' t2.args.length cap'], .bool true]) (by simp [results, Tryz.results135, go_sem, hz1, r]) rfl ?_
  exact ⟨a, ⟨ak t.kind, val, tx, ao, t.args.length, cap⟩, ⟨ak t2.kind, val', tx', ao', t2.args.length, cap'⟩, (Parl.hd l).text, (Parl.hd l2).text, ns'', nv'', e'', rfl, ⟨rfl, rfl, rfl, (fun r q => by cases q; exact right_more (((unhide HKP5).trans (RK.2.trans (KeepA.alloc _ _))).ra (unhide HTX).rep) (unhide HTX5)), rfl, (fun z q => by cases q; exact (RK.2.trans (KeepA.alloc _ _)).ra (unhide HTX5).rep), by rw [(unhide HTX5).nms, (unhide HTX).nms]; rfl⟩, R.1.below ((Below.refl _ _).alloc (Nat.le_refl _) _), R.2.alloc _⟩

end Go.Proofs.YthfjnfcekeknlaaGreatDoor
