import Derived.Test.YthfjnfcekeknlaaGreatDoorC27
namespace Go.Proofs.YthfjnfcekeknlaaGreatDoor
open Go.RowKit

set_option maxHeartbeats 8000000 in
set_option maxRecDepth 100000 in
theorem assign_no (w : World) (rb : Nat) (s : ByteArray) (l : List Parl.Tok) (ns : List ByteArray) (nv : Value) (e0 : Int) (a : TV) (left : Parl.Tm) (h : St w rb s l ns nv e0) (h0 : (Parl.hd l).kind ≠ 0) :
    Calls Tryz.prog 135 #[.pointer (some ⟨rb, 0, none⟩), .agg #[.int .i64 a.k, .int .i64 a.val, .string a.tx, .slice a.ao a.n a.cap], .bool false] w fun e w' => PItem rb s a left ns (Parl.assignment left false l) w e w' := by
  have hlt := h.lt
  have h0' := hide h0
  obtain ⟨hS, hK, hB1, hB2, hz⟩ := side_boxes a (Parl.hd l).text h
  unfold boxL boxZ boxI at hS hK hB1 hB2 hz
  have HS := hide hS
  have HK := hide hK
  have HB1 := hide hB1
  have HB2 := hide hB2
  have HZ := hide hz
  clear hS hK hB1 hB2 hz
  obtain ⟨⟨c0, c1, c2, c3, c4, c5, f1, f2, f3, f4, f5⟩, own, chain, isn, few, short, signs, pos, lt⟩ := h
  clear own chain isn few short signs c0 c1 c2 c4 c5 f1 f2 f3 f4 f5 h0
  have hc2 : ∀ o1 o2, ((w.alloc o1).alloc o2).cell? ⟨rb, 3, none⟩ = some (.string (Parl.hd l).text) := fun o1 o2 => by rw [World.cell?_alloc_past _ _ _ (by simp; omega), World.cell?_alloc_past _ _ _ hlt]; exact c3
  have hc3 : ∀ o1 o2 o3, (((w.alloc o1).alloc o2).alloc o3).cell? ⟨rb, 3, none⟩ = some (.string (Parl.hd l).text) := fun o1 o2 o3 => by rw [World.cell?_alloc_past _ _ _ (by simp; omega)]; exact hc2 o1 o2
  show Calls _ _ _ _ fun e w' => PItem rb s a left ns (Parl.bad 2 l) w e w'
  go_enter Tryz.func135, Tryz.ntmps135
  go_wp2_with fail
  go_big_region
  go_wp2_with fail
  refine (takeIf_any _ rb s l ns nv e0 false (unhide HS) (fun q => by cases q)).mono ?_
  rintro e w1 ⟨rfl, hs, hk⟩
  have hb1 := blk_ka hk (unhide HB1) (by simp; omega)
  have hb2 := blk_ka hk (unhide HB2) (by simp; omega)
  have HS1 := hide hs
  have HK1 := hide ((unhide HK).trans hk)
  clear hs hk hc2 hc3 c3
  have r := blkA hb1
  have x := blkX hb1
  have q := blkA hb2
  have y := blkX hb2
  have HB1' := hide hb1
  clear hb1 hb2
  go_wp2_with fail
  have R := box1_end (unhide HS1) (unhide HK1) hlt (by omega) (unhide HB1') (((((((((((((((OnlyB.refl _ _).set 0 (.int .i64 a.k)).set 1 (.int .i64 a.val)).set 2 (.string a.tx)).set 3 (.slice a.ao a.n a.cap)).set 4 (.string (Parl.hd l).text)).set 5 (.int .i64 0)).set 6 (.int .i64 0)).set 7 (.string ⟨#[]⟩)).set 8 (.slice none 0 0)).set 9 (.string ⟨#[]⟩)).set 10 (.int .i64 0)).set 11 (.int .i64 0)).set 12 (.string ⟨#[]⟩)).set 13 (.slice none 0 0))
  refine bodyPost_ret (v := .tuple #[.agg #[.int .i64 a.k, .int .i64 a.val, .string a.tx, .slice a.ao a.n a.cap, .string (Parl.hd l).text, .int .i64 0, .int .i64 0, .string ⟨#[]⟩, .slice none 0 0, .string ⟨#[]⟩, .int .i64 0, .int .i64 0, .string ⟨#[]⟩, .slice none 0 0], .bool false]) (by simp [results, Tryz.results135, go_sem, r]) rfl ?_
  exact ⟨a, ⟨0, 0, ⟨#[]⟩, none, 0, 0⟩, ⟨0, 0, ⟨#[]⟩, none, 0, 0⟩, (Parl.hd l).text, ⟨#[]⟩, l, ns, nv, rfl, R.1, rfl, R.2⟩

set_option maxHeartbeats 8000000 in
set_option maxRecDepth 100000 in
theorem assign_first (w : World) (rb : Nat) (s : ByteArray) (l : List Parl.Tok) (ns : List ByteArray) (nv : Value) (e0 : Int) (a : TV) (left : Parl.Tm) (er ps : Nat) (h : St w rb s l ns nv e0) (h0 : (Parl.hd l).kind ≠ 0) (hO : Parl.operand l.tail = .inl (er, ps)) :
    Calls Tryz.prog 135 #[.pointer (some ⟨rb, 0, none⟩), .agg #[.int .i64 a.k, .int .i64 a.val, .string a.tx, .slice a.ao a.n a.cap], .bool true] w fun e w' => PItem rb s a left ns (Parl.assignment left true l) w e w' := by
  have hlt := h.lt
  have h0' := hide h0
  have I := hide (fun W nv (hW : St W rb s l.tail ns nv e0) => operand_any W rb s l.tail ns nv e0 hW)
  rw [hO] at I
  obtain ⟨hS, hK, hB1, hB2, hz⟩ := side_boxes a (Parl.hd l).text h
  unfold boxL boxZ boxI at hS hK hB1 hB2 hz
  have HS := hide hS
  have HK := hide hK
  have HB1 := hide hB1
  have HB2 := hide hB2
  have HZ := hide hz
  clear hS hK hB1 hB2 hz
  obtain ⟨⟨c0, c1, c2, c3, c4, c5, f1, f2, f3, f4, f5⟩, own, chain, isn, few, short, signs, pos, lt⟩ := h
  clear own chain isn few short signs c0 c1 c2 c4 c5 f1 f2 f3 f4 f5 h0
  have hc2 : ∀ o1 o2, ((w.alloc o1).alloc o2).cell? ⟨rb, 3, none⟩ = some (.string (Parl.hd l).text) := fun o1 o2 => by rw [World.cell?_alloc_past _ _ _ (by simp; omega), World.cell?_alloc_past _ _ _ hlt]; exact c3
  have hc3 : ∀ o1 o2 o3, (((w.alloc o1).alloc o2).alloc o3).cell? ⟨rb, 3, none⟩ = some (.string (Parl.hd l).text) := fun o1 o2 o3 => by rw [World.cell?_alloc_past _ _ _ (by simp; omega)]; exact hc2 o1 o2
  have HA : Parl.assignment left true l = .inl (er, ps) := by unfold Parl.assignment; rw [if_pos rfl, hO]
  rw [HA]
  clear HA hO
  go_enter Tryz.func135, Tryz.ntmps135
  go_wp2_with fail
  go_big_region
  go_wp2_with fail
  refine (takeIf_any _ rb s l ns nv e0 true (unhide HS) (fun _ => unhide h0')).mono ?_
  rintro e w1 ⟨rfl, hs, hk⟩
  have HB1' := hide (blk_ka hk (unhide HB1) (by simp; omega))
  have HB2' := hide (blk_ka hk (unhide HB2) (by simp; omega))
  have HS1 := hide hs
  have HK1 := hide ((unhide HK).trans hk)
  clear hs hk hc2 hc3 c3
  go_wp2_with fail
  refine (unhide I _ _ (unhide HS1)).mono ?_
  rintro e w2 ⟨k, val, tx, ao, n, cap, l', ns', nv', rfl, hs2, hpos, hk2⟩
  have HP := hide hpos
  clear hpos
  have hb1 := blk_ka hk2 (unhide HB1') (by simp; omega)
  have hb2 := blk_ka hk2 (unhide HB2') (by simp; omega)
  have hz1 : w.heap.size + 1 < w2.heap.size := blk_lt hb1
  have hz2 : w.heap.size + 1 + 1 < w2.heap.size := blk_lt hb2
  have HS2 := hide hs2
  have HK2 := hide ((unhide HK1).trans hk2)
  clear hs2 hk2
  have r := blkA hb1
  have x := blkX hb1
  have q := blkA hb2
  have y := blkX hb2
  have HB1'' := hide hb1
  have HB2'' := hide hb2
  clear hb1 hb2
  go_wp2_with fail
  have R := box2_end (unhide HS2) (unhide HK2) hlt (by omega) (by omega) (unhide HB2'') (unhide HB1'') (((((OnlyB.refl _ _).set 5 (.int .i64 k)).set 6 (.int .i64 val)).set 7 (.string tx)).set 8 (.slice ao n cap)) (((((((((((((((OnlyB.refl _ _).set 0 (.int .i64 a.k)).set 1 (.int .i64 a.val)).set 2 (.string a.tx)).set 3 (.slice a.ao a.n a.cap)).set 4 (.string (Parl.hd l).text)).set 5 (.int .i64 k)).set 6 (.int .i64 val)).set 7 (.string tx)).set 8 (.slice ao n cap)).set 9 (.string ⟨#[]⟩)).set 10 (.int .i64 0)).set 11 (.int .i64 0)).set 12 (.string ⟨#[]⟩)).set 13 (.slice none 0 0))
  refine bodyPost_ret (v := .tuple #[.agg #[.int .i64 a.k, .int .i64 a.val, .string a.tx, .slice a.ao a.n a.cap, .string (Parl.hd l).text, .int .i64 k, .int .i64 val, .string tx, .slice ao n cap, .string ⟨#[]⟩, .int .i64 0, .int .i64 0, .string ⟨#[]⟩, .slice none 0 0], .bool false]) (by simp [results, Tryz.results135, go_sem, hz1, r]) rfl ?_
  exact ⟨a, ⟨k, val, tx, ao, n, cap⟩, ⟨0, 0, ⟨#[]⟩, none, 0, 0⟩, (Parl.hd l).text, ⟨#[]⟩, l', ns', nv', rfl, R.1.below ((Below.refl _ _).alloc (Nat.le_refl _) _), unhide HP, R.2.alloc _⟩

end Go.Proofs.YthfjnfcekeknlaaGreatDoor
namespace Go.Proofs.YthfjnfcekeknlaaGreatDoor
open Go.RowKit

set_option maxHeartbeats 8000000 in
set_option maxRecDepth 100000 in
theorem assign_plain (w : World) (rb : Nat) (s : ByteArray) (l : List Parl.Tok) (ns : List ByteArray) (nv : Value) (e0 : Int) (a : TV) (left : Parl.Tm) (t : Parl.Tm) (l2 : List Parl.Tok) (h : St w rb s l ns nv e0) (h0 : (Parl.hd l).kind ≠ 0) (hO : Parl.operand l.tail = .inr (t, l2)) (hop : Parl.operSign l2 = false) :
    Calls Tryz.prog 135 #[.pointer (some ⟨rb, 0, none⟩), .agg #[.int .i64 a.k, .int .i64 a.val, .string a.tx, .slice a.ao a.n a.cap], .bool true] w fun e w' => PItem rb s a left ns (Parl.assignment left true l) w e w' := by
  have hlt := h.lt
  have h0' := hide h0
  have I := hide (fun W nv (hW : St W rb s l.tail ns nv e0) => operand_any W rb s l.tail ns nv e0 hW)
  rw [hO] at I
  obtain ⟨hS, hK, hB1, hB2, hz⟩ := side_boxes a (Parl.hd l).text h
  unfold boxL boxZ boxI at hS hK hB1 hB2 hz
  have HS := hide hS
  have HK := hide hK
  have HB1 := hide hB1
  have HB2 := hide hB2
  have HZ := hide hz
  clear hS hK hB1 hB2 hz
  obtain ⟨⟨c0, c1, c2, c3, c4, c5, f1, f2, f3, f4, f5⟩, own, chain, isn, few, short, signs, pos, lt⟩ := h
  clear own chain isn few short signs c0 c1 c2 c4 c5 f1 f2 f3 f4 f5 h0
  have hc2 : ∀ o1 o2, ((w.alloc o1).alloc o2).cell? ⟨rb, 3, none⟩ = some (.string (Parl.hd l).text) := fun o1 o2 => by rw [World.cell?_alloc_past _ _ _ (by simp; omega), World.cell?_alloc_past _ _ _ hlt]; exact c3
  have hc3 : ∀ o1 o2 o3, (((w.alloc o1).alloc o2).alloc o3).cell? ⟨rb, 3, none⟩ = some (.string (Parl.hd l).text) := fun o1 o2 o3 => by rw [World.cell?_alloc_past _ _ _ (by simp; omega)]; exact hc2 o1 o2
  have HA : Parl.assignment left true l = .inr (⟨left, (Parl.hd l).text.toList, some t, [], none⟩, l2) := by unfold Parl.assignment; rw [if_pos rfl, hO]; simp only [hop]; rfl
  rw [HA]
  clear HA hO
  go_enter Tryz.func135, Tryz.ntmps135
  go_wp2_with fail
  go_big_region
  go_wp2_with fail
  refine (takeIf_any _ rb s l ns nv e0 true (unhide HS) (fun _ => unhide h0')).mono ?_
  rintro e w1 ⟨rfl, hs, hk⟩
  have HB1' := hide (blk_ka hk (unhide HB1) (by simp; omega))
  have HB2' := hide (blk_ka hk (unhide HB2) (by simp; omega))
  have HS1 := hide hs
  have HK1 := hide ((unhide HK).trans hk)
  clear hs hk hc2 hc3 c3
  go_wp2_with fail
  refine (unhide I _ _ (unhide HS1)).mono ?_
  rintro e w2 ⟨val, tx, ao, cap, ns', nv', e', rfl, htx, hs2, hk2⟩
  have HTX := hide htx
  clear htx
  have hb1 := blk_ka hk2 (unhide HB1') (by simp; omega)
  have hb2 := blk_ka hk2 (unhide HB2') (by simp; omega)
  have hz1 : w.heap.size + 1 < w2.heap.size := blk_lt hb1
  have hz2 : w.heap.size + 1 + 1 < w2.heap.size := blk_lt hb2
  have HS2 := hide hs2
  have HK2 := hide ((unhide HK1).trans hk2)
  clear hs2 hk2
  have r := blkA hb1
  have x := blkX hb1
  have q := blkA hb2
  have y := blkX hb2
  have HB1'' := hide hb1
  have HB2'' := hide hb2
  clear hb1 hb2
  have RB := hide (box1_end (unhide HS2) (unhide HK2) hlt (by omega) (unhide HB2'') (((((OnlyB.refl _ _).set 5 (.int .i64 (ak t.kind))).set 6 (.int .i64 val)).set 7 (.string tx)).set 8 (.slice ao t.args.length cap)))
  go_wp2_with fail
  refine (seesOperator_any _ rb s l2 ns' nv' e' ((unhide RB).1.below ((Below.refl _ _).alloc (Nat.le_refl _) _))).mono ?_
  rintro e w3 ⟨rfl, hw⟩
  rw [hw]
  clear hw w3
  go_wp2_with fail
  have RK := box2_keep (unhide HS2) (unhide HK2) hlt (by omega) (by omega) (unhide HB2'') (unhide HB1'') (((((OnlyB.refl _ _).set 5 (.int .i64 (ak t.kind))).set 6 (.int .i64 val)).set 7 (.string tx)).set 8 (.slice ao t.args.length cap)) (((((((((((((((OnlyB.refl _ _).set 0 (.int .i64 a.k)).set 1 (.int .i64 a.val)).set 2 (.string a.tx)).set 3 (.slice a.ao a.n a.cap)).set 4 (.string (Parl.hd l).text)).set 5 (.int .i64 (ak t.kind))).set 6 (.int .i64 val)).set 7 (.string tx)).set 8 (.slice ao t.args.length cap)).set 9 (.string ⟨#[]⟩)).set 10 (.int .i64 0)).set 11 (.int .i64 0)).set 12 (.string ⟨#[]⟩)).set 13 (.slice none 0 0))
  have R := RK.1
  refine bodyPost_ret (v := .tuple #[.agg #[.int .i64 a.k, .int .i64 a.val, .string a.tx, .slice a.ao a.n a.cap, .string (Parl.hd l).text, .int .i64 (ak t.kind), .int .i64 val, .string tx, .slice ao t.args.length cap, .string ⟨#[]⟩, .int .i64 0, .int .i64 0, .string ⟨#[]⟩, .slice none 0 0], .bool true]) (by simp [results, Tryz.results135, go_sem, hz1, r]) rfl ?_
  exact ⟨a, ⟨ak t.kind, val, tx, ao, t.args.length, cap⟩, ⟨0, 0, ⟨#[]⟩, none, 0, 0⟩, (Parl.hd l).text, ⟨#[]⟩, ns', nv', e', rfl, ⟨rfl, rfl, rfl, (fun r q => by cases q; exact (RK.2.trans (KeepA.alloc _ _)).ra (unhide HTX).rep), empty_list, (fun z q => by cases q), (unhide HTX).nms⟩, R.1.below ((Below.refl _ _).alloc (Nat.le_refl _) _), R.2.alloc _⟩
end Go.Proofs.YthfjnfcekeknlaaGreatDoor
