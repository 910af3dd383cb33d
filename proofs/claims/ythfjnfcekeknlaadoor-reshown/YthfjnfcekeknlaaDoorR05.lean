import Derived.Test.YthfjnfcekeknlaaDoorR02
import Derived.Test.YthfjnfcekeknlaaDoorR04
import Derived.Deep.RegionWith
namespace Go.Proofs.YthfjnfcekeknlaaDoor
open Go.RowKit

/-- An item lies there. -/
structure ItA (ns ns' : List ByteArray) (w' : World) (a b c : TV) (sg op : ByteArray) (x : Parl.Itm) : Prop where
  left : RA 8 (nmsA ns') anyA w' a x.left
  sign : sg.toList = x.sign
  right : ∀ r, x.right = some r → RA 8 (nmsA ns') anyA w' b r
  op : op.toList = x.op
  last : ∀ z, x.last = some z → RA 8 (nmsA ns') anyA w' c z
  nms : nmsA ns' = Parl.namesI (nmsA ns) x
theorem ItA.of {ns ns1 ns' : List ByteArray} {W w1 w2 w' : World} {val : Int} {tx : ByteArray} {ao : Option Addr} {cap : Nat} {t : Parl.Tm} {a b c : TV} {sg op : ByteArray} {x : Parl.Itm} (hl : TA 8 ns ns1 W w1 val tx ao cap t) (ha : a = ⟨ak t.kind, val, tx, ao, t.args.length, cap⟩) (hx : x.left = t) (hr : RightA ns1 ns' w2 b c sg op x) (hk : KeepA w1 w2) (hk2 : KeepA w2 w') : ItA ns ns' w' a b c sg op x := by
  subst ha
  obtain ⟨M1, e1, _⟩ := Parl.nameO_ext (ns := nmsA ns1) (t := x.right) (fun r q => (hr.right r q).ok3)
  obtain ⟨M2, e2, _⟩ := Parl.nameO_ext (ns := Parl.nameO (nmsA ns1) x.right) (t := x.last) (fun r q => (hr.last r q).ok3)
  have he : nmsA ns' = nmsA ns1 ++ (M1 ++ M2) := by rw [hr.nms, e2, e1, List.append_assoc]
  refine ⟨?_, hr.sign, fun r q => hk2.ra (hr.right r q), hr.op, fun z q => hk2.ra (hr.last z q), ?_⟩
  · rw [hx, he]
    exact ((hk.trans hk2).ra hl.rep).more _
  · rw [hr.nms, hl.nms]
    unfold Parl.namesI
    rw [hx]
theorem ItA.plain {ns ns1 : List ByteArray} {W w1 w' : World} {val : Int} {tx : ByteArray} {ao : Option Addr} {cap : Nat} {t : Parl.Tm} {b c : TV} (hl : TA 8 ns ns1 W w1 val tx ao cap t) (hk : KeepA w1 w') : ItA ns ns1 w' ⟨ak t.kind, val, tx, ao, t.args.length, cap⟩ b c ⟨#[]⟩ ⟨#[]⟩ ⟨t, [], none, [], none⟩ :=
  ItA.of hl rfl rfl ⟨empty_list, (fun r q => by cases q), empty_list, (fun r q => by cases q), rfl⟩ hk (KeepA.refl _)
/-- What 'item' leaves: the list's own block is lb. -/
def PIt (rb lb : Nat) (iv : Value) (s : ByteArray) (ns : List ByteArray) (r : Parl.Res (Parl.Itm × Bool × Bool)) (w : World) (e : Ending) (w' : World) : Prop := match r with
  | .inl (er, pos) => ∃ (a b c : TV) (sg op : ByteArray) (l' : List Parl.Tok) (ns' : List ByteArray) (nv' : Value),
      e = .returned (.tuple #[.agg #[.int .i64 a.k, .int .i64 a.val, .string a.tx, .slice a.ao a.n a.cap, .string sg, .int .i64 b.k, .int .i64 b.val, .string b.tx, .slice b.ao b.n b.cap, .string op, .int .i64 c.k, .int .i64 c.val, .string c.tx, .slice c.ao c.n c.cap], .bool false]) ∧ St w' rb s l' ns' nv' (er : Int) ∧ (Parl.hd l').pos = pos ∧ KA rb [rb, lb] w w'
  | .inr ((x, t1, g1), l1) => ∃ (a b c : TV) (sg op : ByteArray) (ns' : List ByteArray) (nv' : Value) (e' : Int),
      e = .returned (.tuple #[.agg #[.int .i64 a.k, .int .i64 a.val, .string a.tx, .slice a.ao a.n a.cap, .string sg, .int .i64 b.k, .int .i64 b.val, .string b.tx, .slice b.ao b.n b.cap, .string op, .int .i64 c.k, .int .i64 c.val, .string c.tx, .slice c.ao c.n c.cap], .bool true]) ∧ ItA ns ns' w' a b c sg op x ∧ St w' rb s l1 ns' nv' e' ∧ w'.heap[lb]? = some (.cells #[iv, .bool t1, .bool g1] 119 (0, 0)) ∧ KA rb [rb, lb] w w'

theorem KA.wide {rb lb : Nat} {w w' : World} (h : KA rb [rb] w w') : KA rb [rb, lb] w w' := h.mono (by simp)

/-- The result's box, laid. -/
theorem item_box {w : World} {rb lb : Nat} {s : ByteArray} {l : List Parl.Tok} {ns : List ByteArray} {nv : Value} {e0 : Int} {C : Array Value} (h : St w rb s l ns nv e0) (hb : w.heap[lb]? = some (.cells C 119 (0, 0))) :
    St (w.alloc boxZ) rb s l ns nv e0 ∧ KA rb [rb] w (w.alloc boxZ) ∧ (w.alloc boxZ).heap[w.heap.size]? = some (.cells #[.int .i64 0, .int .i64 0, .string ⟨#[]⟩, .slice none 0 0, .string ⟨#[]⟩, .int .i64 0, .int .i64 0, .string ⟨#[]⟩, .slice none 0 0, .string ⟨#[]⟩, .int .i64 0, .int .i64 0, .string ⟨#[]⟩, .slice none 0 0] 123 (0, 0)) ∧ (w.alloc boxZ).heap[lb]? = some (.cells C 119 (0, 0)) :=
  ⟨h.below ((Below.refl _ _).alloc (Nat.le_refl _) _), (KA.refl _ _ _).alloc _, heap_alloc_new w _, blk_alloc hb _⟩

set_option maxHeartbeats 4000000 in
set_option maxRecDepth 100000 in
theorem item_bad (w : World) (rb lb : Nat) (s : ByteArray) (l : List Parl.Tok) (ns : List ByteArray) (nv iv : Value) (e0 : Int) (tests goals : Bool) (h : St w rb s l ns nv e0) (hb : w.heap[lb]? = some (.cells #[iv, .bool tests, .bool goals] 119 (0, 0))) (_hne : lb ≠ rb) (_hn0 : lb ≠ 0) (er ps : Nat) (hT : Parl.term 8 l = .inl (er, ps)) :
    Calls Tryd.prog 88 #[.pointer (some ⟨rb, 0, none⟩), .pointer (some ⟨lb, 0, none⟩)] w fun e w' => PIt rb lb iv s ns (.inl (er, ps)) w e w' := by
  have hlt := h.lt
  have hlb : lb < w.heap.size := blk_lt hb
  obtain ⟨hS, hK, hB0, hB1⟩ := item_box h hb
  unfold boxZ at hS hK hB0 hB1
  have HS := hide hS
  have HK := hide hK
  have HB0 := hide hB0
  have HB1 := hide hB1
  have I := hide (fun W (hW : St W rb s l ns nv e0) => term_all 8 W rb s l ns nv e0 1 rfl hW)
  rw [hT] at I
  clear hS hK hB0 hB1 h hb
  go_enter Tryd.func88, Tryd.ntmps88
  go_wp2_with fail
  refine (unhide I _ (unhide HS)).mono ?_
  rintro e w1 ⟨k, val, tx, ao, n, cap, l', ns', nv', rfl, hs, hpos, hk⟩
  have HS1 := hide hs
  have HP := hide hpos
  have HK1 := hide ((unhide HK).trans hk)
  have hb0 := blk_ka hk (unhide HB0) (by simp; omega)
  have hz0 : w.heap.size < w1.heap.size := blk_lt hb0
  have r := blkA hb0
  have x := blkX hb0
  have HB0' := hide hb0
  clear hs hpos hk hb0
  go_wp2_with fail
  have R := box1_end (unhide HS1) (unhide HK1) hlt (Nat.le_refl _) (unhide HB0') (((((((((((((((OnlyB.refl _ _).set 0 (.int .i64 0)).set 1 (.int .i64 0)).set 2 (.string ⟨#[]⟩)).set 3 (.slice none 0 0)).set 4 (.string ⟨#[]⟩)).set 5 (.int .i64 0)).set 6 (.int .i64 0)).set 7 (.string ⟨#[]⟩)).set 8 (.slice none 0 0)).set 9 (.string ⟨#[]⟩)).set 10 (.int .i64 0)).set 11 (.int .i64 0)).set 12 (.string ⟨#[]⟩)).set 13 (.slice none 0 0))
  refine bodyPost_ret (v := .tuple #[.agg #[.int .i64 0, .int .i64 0, .string ⟨#[]⟩, .slice none 0 0, .string ⟨#[]⟩, .int .i64 0, .int .i64 0, .string ⟨#[]⟩, .slice none 0 0, .string ⟨#[]⟩, .int .i64 0, .int .i64 0, .string ⟨#[]⟩, .slice none 0 0], .bool false]) (by simp [results, Tryd.results88, go_sem, hz0, r]) rfl ?_
  exact ⟨⟨0, 0, ⟨#[]⟩, none, 0, 0⟩, ⟨0, 0, ⟨#[]⟩, none, 0, 0⟩, ⟨0, 0, ⟨#[]⟩, none, 0, 0⟩, ⟨#[]⟩, ⟨#[]⟩, l', ns', nv', rfl, R.1.below ((Below.refl _ _).alloc (Nat.le_refl _) _), unhide HP, (R.2.alloc _).wide⟩

end Go.Proofs.YthfjnfcekeknlaaDoor
namespace Go.Proofs.YthfjnfcekeknlaaDoor
open Go.RowKit

set_option maxHeartbeats 8000000 in
set_option maxRecDepth 100000 in
theorem assign_second (w : World) (rb : Nat) (s : ByteArray) (l : List Parl.Tok) (ns : List ByteArray) (nv : Value) (e0 : Int) (a : TV) (left : Parl.Tm) (t : Parl.Tm) (l2 : List Parl.Tok) (h : St w rb s l ns nv e0) (h0 : (Parl.hd l).kind ≠ 0) (hO : Parl.operand l.tail = .inr (t, l2)) (hop : Parl.operSign l2 = true) (er ps : Nat) (hO2 : Parl.operand l2.tail = .inl (er, ps)) :
    Calls Tryd.prog 95 #[.pointer (some ⟨rb, 0, none⟩), .agg #[.int .i64 a.k, .int .i64 a.val, .string a.tx, .slice a.ao a.n a.cap], .bool true] w fun e w' => PItem rb s a left ns (Parl.assignment left true l) w e w' := by
  have hlt := h.lt
  have h0' := hide h0
  have I := hide (fun W nv (hW : St W rb s l.tail ns nv e0) => operand_any W rb s l.tail ns nv e0 hW)
  rw [hO] at I
  obtain ⟨hS, hK, hB1, hB2, hz⟩ := side_boxes a (Parl.hd l).text h
  unfold boxL boxZ boxI at hS hK hB1 hB2 hz
  have HS := hide hS
  have HK := hide hK
  have HB1 := hide hB1
  have HB2 := hide hB2
  have HZ := hide hz
  clear hS hK hB1 hB2 hz
  obtain ⟨⟨c0, c1, c2, c3, c4, c5, f1, f2, f3, f4, f5⟩, own, chain, isn, few, short, signs, pos, lt⟩ := h
  clear own chain isn few short signs c0 c1 c2 c4 c5 f1 f2 f3 f4 f5 h0
  have hc2 : ∀ o1 o2, ((w.alloc o1).alloc o2).cell? ⟨rb, 3, none⟩ = some (.string (Parl.hd l).text) := fun o1 o2 => by rw [World.cell?_alloc_past _ _ _ (by simp; omega), World.cell?_alloc_past _ _ _ hlt]; exact c3
  have hc3 : ∀ o1 o2 o3, (((w.alloc o1).alloc o2).alloc o3).cell? ⟨rb, 3, none⟩ = some (.string (Parl.hd l).text) := fun o1 o2 o3 => by rw [World.cell?_alloc_past _ _ _ (by simp; omega)]; exact hc2 o1 o2
  have HA : Parl.assignment left true l = .inl (er, ps) := by unfold Parl.assignment; rw [if_pos rfl, hO]; simp only [hop, hO2]; rfl
  rw [HA]
  have I2 := hide (fun W nv ns e0 (hW : St W rb s l2.tail ns nv e0) => operand_any W rb s l2.tail ns nv e0 hW)
  rw [hO2] at I2
  have hk2 := hide (show (Parl.hd l2).kind ≠ 0 by simp only [Parl.operSign, Bool.or_eq_true] at hop; rcases hop with (q | q) | q <;> (rw [Parl.sees_kind q]; omega))
  clear HA hO hO2
  go_enter Tryd.func95, Tryd.ntmps95
  go_wp2_with fail
  go_big_region
  go_wp2_with fail
  refine (takeIf_any _ rb s l ns nv e0 true (unhide HS) (fun _ => unhide h0')).mono ?_
  rintro e w1 ⟨rfl, hs, hk⟩
  have HB1' := hide (blk_ka hk (unhide HB1) (by simp; omega))
  have HB2' := hide (blk_ka hk (unhide HB2) (by simp; omega))
  have HS1 := hide hs
  have HK1 := hide ((unhide HK).trans hk)
  clear hs hk hc2 hc3 c3
  go_wp2_with fail
  refine (unhide I _ _ (unhide HS1)).mono ?_
  rintro e w2 ⟨val, tx, ao, cap, ns', nv', e', rfl, htx, hs2, hk2⟩
  clear htx
  have hb1 := blk_ka hk2 (unhide HB1') (by simp; omega)
  have hb2 := blk_ka hk2 (unhide HB2') (by simp; omega)
  have hz1 : w.heap.size + 1 < w2.heap.size := blk_lt hb1
  have hz2 : w.heap.size + 1 + 1 < w2.heap.size := blk_lt hb2
  have HS2 := hide hs2
  have HK2 := hide ((unhide HK1).trans hk2)
  clear hs2 hk2
  have r := blkA hb1
  have x := blkX hb1
  have q := blkA hb2
  have y := blkX hb2
  have HB1'' := hide hb1
  have HB2'' := hide hb2
  clear hb1 hb2
  have RB := hide (box1_end (unhide HS2) (unhide HK2) hlt (by omega) (unhide HB2'') (((((OnlyB.refl _ _).set 5 (.int .i64 (ak t.kind))).set 6 (.int .i64 val)).set 7 (.string tx)).set 8 (.slice ao t.args.length cap)))
  go_wp2_with fail
  refine (seesOperator_any _ rb s l2 ns' nv' e' ((unhide RB).1.below ((Below.refl _ _).alloc (Nat.le_refl _) _))).mono ?_
  rintro e w3 ⟨rfl, hw⟩
  rw [hw]
  clear hw w3
  have c3' : (w2.alloc (.cells #[.int .i64 (ak t.kind), .int .i64 val, .string tx, .slice ao t.args.length cap] 52)).cell? ⟨rb, 3, none⟩ = some (.string (Parl.hd l2).text) := ((unhide HS2).below ((Below.refl _ _).alloc (Nat.le_refl _) _)).rd.c3
  have c3'' := (unhide HS2).rd.c3
  have hrw2 : rb < w2.heap.size := (unhide HS2).lt
  have RC := hide (box1_end (unhide HS2) (unhide HK2) hlt (by omega) (unhide HB2'') ((((((OnlyB.refl _ _).set 5 (.int .i64 (ak t.kind))).set 6 (.int .i64 val)).set 7 (.string tx)).set 8 (.slice ao t.args.length cap)).set 9 (.string (Parl.hd l2).text)))
  have HC2 : Hid (((((((w2.setCell ⟨w.heap.size + 1 + 1, 5, none⟩ (.int .i64 (ak t.kind))).setCell ⟨w.heap.size + 1 + 1, 6, none⟩ (.int .i64 val)).setCell ⟨w.heap.size + 1 + 1, 7, none⟩ (.string tx)).setCell ⟨w.heap.size + 1 + 1, 8, none⟩ (.slice ao t.args.length cap)).setCell ⟨w.heap.size + 1 + 1, 9, none⟩ (.string (Parl.hd l2).text)).alloc (.cells #[.int .i64 (ak t.kind), .int .i64 val, .string tx, .slice ao t.args.length cap] 52)).heap[w.heap.size + 1 + 1]? = some (.cells #[.int .i64 a.k, .int .i64 a.val, .string a.tx, .slice a.ao a.n a.cap, .string (Parl.hd l).text, .int .i64 (ak t.kind), .int .i64 val, .string tx, .slice ao t.args.length cap, .string (Parl.hd l2).text, .int .i64 0, .int .i64 0, .string ⟨#[]⟩, .slice none 0 0] 123 (0, 0))) := blk_alloc (blk_set5 _ _ _ _ _ (unhide HB2'')) _
  have HC1 : Hid (((((((w2.setCell ⟨w.heap.size + 1 + 1, 5, none⟩ (.int .i64 (ak t.kind))).setCell ⟨w.heap.size + 1 + 1, 6, none⟩ (.int .i64 val)).setCell ⟨w.heap.size + 1 + 1, 7, none⟩ (.string tx)).setCell ⟨w.heap.size + 1 + 1, 8, none⟩ (.slice ao t.args.length cap)).setCell ⟨w.heap.size + 1 + 1, 9, none⟩ (.string (Parl.hd l2).text)).alloc (.cells #[.int .i64 (ak t.kind), .int .i64 val, .string tx, .slice ao t.args.length cap] 52)).heap[w.heap.size + 1]? = some (.cells #[.int .i64 0, .int .i64 0, .string ⟨#[]⟩, .slice none 0 0, .string ⟨#[]⟩, .int .i64 0, .int .i64 0, .string ⟨#[]⟩, .slice none 0 0, .string ⟨#[]⟩, .int .i64 0, .int .i64 0, .string ⟨#[]⟩, .slice none 0 0] 123 (0, 0))) := blk_alloc (blk_other5 _ _ _ _ _ (unhide HB1'') (by omega)) _
  go_wp2_with fail
  refine (take_any _ rb s l2 ns' nv' e' ((unhide RC).1.below ((Below.refl _ _).alloc (Nat.le_refl _) _)) (unhide hk2)).mono ?_
  rintro e w4 ⟨rfl, hs4, hk4⟩
  have HS4 := hide hs4
  have HK4 := hide (((unhide RC).2.alloc _).trans hk4)
  have HD1 := hide (blk_ka hk4 (unhide HC1) (by simp; omega))
  have HD2 := hide (blk_ka hk4 (unhide HC2) (by simp; omega))
  clear hs4 hk4 r x q y c3' c3'' hrw2 HC1 HC2 RC RB HS2 HK2 HB1'' HB2'' hz1 hz2
  go_wp2_with fail
  refine (unhide I2 _ _ _ _ (unhide HS4)).mono ?_
  rintro e w5 ⟨k', val', tx', ao', n', cap', l'', ns'', nv'', rfl, hs5, hpos5, hk5⟩
  have HP := hide hpos5
  clear hpos5
  have hb1 := blk_ka hk5 (unhide HD1) (by simp; omega)
  have hb2 := blk_ka hk5 (unhide HD2) (by simp; omega)
  have hz1 : w.heap.size + 1 < w5.heap.size := blk_lt hb1
  have hz2 : w.heap.size + 1 + 1 < w5.heap.size := blk_lt hb2
  have HS5 := hide hs5
  have HK5 := hide ((unhide HK4).trans hk5)
  clear hs5 hk5
  have r := blkA hb1
  have x := blkX hb1
  have q := blkA hb2
  have y := blkX hb2
  have HE1 := hide hb1
  have HE2 := hide hb2
  clear hb1 hb2
  go_wp2_with fail
  have R := box2_end (unhide HS5) (unhide HK5) hlt (by omega) (by omega) (unhide HE2) (unhide HE1) (((((OnlyB.refl _ _).set 10 (.int .i64 k')).set 11 (.int .i64 val')).set 12 (.string tx')).set 13 (.slice ao' n' cap')) (((((((((((((((OnlyB.refl _ _).set 0 (.int .i64 a.k)).set 1 (.int .i64 a.val)).set 2 (.string a.tx)).set 3 (.slice a.ao a.n a.cap)).set 4 (.string (Parl.hd l).text)).set 5 (.int .i64 (ak t.kind))).set 6 (.int .i64 val)).set 7 (.string tx)).set 8 (.slice ao t.args.length cap)).set 9 (.string (Parl.hd l2).text)).set 10 (.int .i64 k')).set 11 (.int .i64 val')).set 12 (.string tx')).set 13 (.slice ao' n' cap'))
  refine bodyPost_ret (v := .tuple #[.agg #[.int .i64 a.k, .int .i64 a.val, .string a.tx, .slice a.ao a.n a.cap, .string (Parl.hd l).text, .int .i64 (ak t.kind), .int .i64 val, .string tx, .slice ao t.args.length cap, .string (Parl.hd l2).text, .int .i64 k', .int .i64 val', .string tx', .slice ao' n' cap'], .bool false]) (by simp [results, Tryd.results95, go_sem, hz1, r]) rfl ?_
  exact ⟨a, ⟨ak t.kind, val, tx, ao, t.args.length, cap⟩, ⟨k', val', tx', ao', n', cap'⟩, (Parl.hd l).text, (Parl.hd l2).text, l'', ns'', nv'', rfl, R.1.below ((Below.refl _ _).alloc (Nat.le_refl _) _), unhide HP, R.2.alloc _⟩

end Go.Proofs.YthfjnfcekeknlaaDoor
