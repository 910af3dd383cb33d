import Derived.Test.YthfjnfcekeknlaaGreatDoorS04
import Derived.Test.YthfjnfcekeknlaaGreatDoorS27
import Derived.Deep.RegionWith
namespace Go.Proofs.YthfjnfcekeknlaaGreatDoor
open Go.RowKit

/-- An item lies there. -/
structure ItA (ns ns' : List ByteArray) (w' : World) (a b c : TV) (sg op : ByteArray) (x : Parl.Itm) : Prop where
  left : RA 8 (nmsA ns') anyA w' a x.left
  sign : sg.toList = x.sign
  right : ∀ r, x.right = some r → RA 8 (nmsA ns') anyA w' b r
  op : op.toList = x.op
  last : ∀ z, x.last = some z → RA 8 (nmsA ns') anyA w' c z
  nms : nmsA ns' = Parl.namesI (nmsA ns) x
theorem ItA.of {ns ns1 ns' : List ByteArray} {W w1 w2 w' : World} {val : Int} {tx : ByteArray} {ao : Option Addr} {cap : Nat} {t : Parl.Tm} {a b c : TV} {sg op : ByteArray} {x : Parl.Itm} (hl : TA 8 ns ns1 W w1 val tx ao cap t) (ha : a = ⟨ak t.kind, val, tx, ao, t.args.length, cap⟩) (hx : x.left = t) (hr : RightA ns1 ns' w2 b c sg op x) (hk : KeepA w1 w2) (hk2 : KeepA w2 w') : ItA ns ns' w' a b c sg op x := by
  subst ha
  obtain ⟨M1, e1, _⟩ := Parl.nameO_ext (ns := nmsA ns1) (t := x.right) (fun r q => (hr.right r q).ok3)
  obtain ⟨M2, e2, _⟩ := Parl.nameO_ext (ns := Parl.nameO (nmsA ns1) x.right) (t := x.last) (fun r q => (hr.last r q).ok3)
  have he : nmsA ns' = nmsA ns1 ++ (M1 ++ M2) := by rw [hr.nms, e2, e1, List.append_assoc]
  refine ⟨?_, hr.sign, fun r q => hk2.ra (hr.right r q), hr.op, fun z q => hk2.ra (hr.last z q), ?_⟩
  · rw [hx, he]
    exact ((hk.trans hk2).ra hl.rep).more _
  · rw [hr.nms, hl.nms]
    unfold Parl.namesI
    rw [hx]
theorem ItA.plain {ns ns1 : List ByteArray} {W w1 w' : World} {val : Int} {tx : ByteArray} {ao : Option Addr} {cap : Nat} {t : Parl.Tm} {b c : TV} (hl : TA 8 ns ns1 W w1 val tx ao cap t) (hk : KeepA w1 w') : ItA ns ns1 w' ⟨ak t.kind, val, tx, ao, t.args.length, cap⟩ b c ⟨#[]⟩ ⟨#[]⟩ ⟨t, [], none, [], none⟩ :=
  ItA.of hl rfl rfl ⟨empty_list, (fun r q => by cases q), empty_list, (fun r q => by cases q), rfl⟩ hk (KeepA.refl _)
/-- What 'item' leaves: the list's own block is lb. -/
def PIt (rb lb : Nat) (iv : Value) (s : ByteArray) (ns : List ByteArray) (r : Parl.Res (Parl.Itm × Bool × Bool)) (w : World) (e : Ending) (w' : World) : Prop := match r with
  | .inl (er, pos) => ∃ (a b c : TV) (sg op : ByteArray) (l' : List Parl.Tok) (ns' : List ByteArray) (nv' : Value),
      e = .returned (.tuple #[.agg #[.int .i64 a.k, .int .i64 a.val, .string a.tx, .slice a.ao a.n a.cap, .string sg, .int .i64 b.k, .int .i64 b.val, .string b.tx, .slice b.ao b.n b.cap, .string op, .int .i64 c.k, .int .i64 c.val, .string c.tx, .slice c.ao c.n c.cap], .bool false]) ∧ St w' rb s l' ns' nv' (er : Int) ∧ (Parl.hd l').pos = pos ∧ KA rb [rb, lb] w w'
  | .inr ((x, t1, g1), l1) => ∃ (a b c : TV) (sg op : ByteArray) (ns' : List ByteArray) (nv' : Value) (e' : Int),
      e = .returned (.tuple #[.agg #[.int .i64 a.k, .int .i64 a.val, .string a.tx, .slice a.ao a.n a.cap, .string sg, .int .i64 b.k, .int .i64 b.val, .string b.tx, .slice b.ao b.n b.cap, .string op, .int .i64 c.k, .int .i64 c.val, .string c.tx, .slice c.ao c.n c.cap], .bool true]) ∧ ItA ns ns' w' a b c sg op x ∧ St w' rb s l1 ns' nv' e' ∧ w'.heap[lb]? = some (.cells #[iv, .bool t1, .bool g1] 82 (0, 0)) ∧ KA rb [rb, lb] w w'

theorem KA.wide {rb lb : Nat} {w w' : World} (h : KA rb [rb] w w') : KA rb [rb, lb] w w' := h.mono (by simp)

/-- The result's box, laid. -/
theorem item_box {w : World} {rb lb : Nat} {s : ByteArray} {l : List Parl.Tok} {ns : List ByteArray} {nv : Value} {e0 : Int} {C : Array Value} (h : St w rb s l ns nv e0) (hb : w.heap[lb]? = some (.cells C 82 (0, 0))) :
    St (w.alloc boxZ) rb s l ns nv e0 ∧ KA rb [rb] w (w.alloc boxZ) ∧ (w.alloc boxZ).heap[w.heap.size]? = some (.cells #[.int .i64 0, .int .i64 0, .string ⟨#[]⟩, .slice none 0 0, .string ⟨#[]⟩, .int .i64 0, .int .i64 0, .string ⟨#[]⟩, .slice none 0 0, .string ⟨#[]⟩, .int .i64 0, .int .i64 0, .string ⟨#[]⟩, .slice none 0 0] 151 (0, 0)) ∧ (w.alloc boxZ).heap[lb]? = some (.cells C 82 (0, 0)) :=
  ⟨h.below ((Below.refl _ _).alloc (Nat.le_refl _) _), (KA.refl _ _ _).alloc _, heap_alloc_new w _, blk_alloc hb _⟩

set_option maxHeartbeats 4000000 in
set_option maxRecDepth 100000 in
theorem item_bad (w : World) (rb lb : Nat) (s : ByteArray) (l : List Parl.Tok) (ns : List ByteArray) (nv iv : Value) (e0 : Int) (tests goals : Bool) (h : St w rb s l ns nv e0) (hb : w.heap[lb]? = some (.cells #[iv, .bool tests, .bool goals] 82 (0, 0))) (_hne : lb ≠ rb) (_hn0 : lb ≠ 0) (er ps : Nat) (hT : Parl.term 8 l = .inl (er, ps)) :
    Calls Tryz.prog 80 #[.pointer (some ⟨rb, 0, none⟩), .pointer (some ⟨lb, 0, none⟩)] w fun e w' => PIt rb lb iv s ns (.inl (er, ps)) w e w' := by
  have hlt := h.lt
  have hlb : lb < w.heap.size := blk_lt hb
  obtain ⟨hS, hK, hB0, hB1⟩ := item_box h hb
  unfold boxZ at hS hK hB0 hB1
  have HS := hide hS
  have HK := hide hK
  have HB0 := hide hB0
  have HB1 := hide hB1
  have I := hide (fun W (hW : St W rb s l ns nv e0) => term_all 8 W rb s l ns nv e0 1 rfl hW)
  rw [hT] at I
  clear hS hK hB0 hB1 h hb
  go_enter Tryz.func80, Tryz.ntmps80
  go_wp2_with fail
  refine (unhide I _ (unhide HS)).mono ?_
  rintro e w1 ⟨k, val, tx, ao, n, cap, l', ns', nv', rfl, hs, hpos, hk⟩
  have HS1 := hide hs
  have HP := hide hpos
  have HK1 := hide ((unhide HK).trans hk)
  have hb0 := blk_ka hk (unhide HB0) (by simp; omega)
  have hz0 : w.heap.size < w1.heap.size := blk_lt hb0
  have r := blkA hb0
  have x := blkX hb0
  have HB0' := hide hb0
  clear hs hpos hk hb0
  go_wp2_with fail
  have R := box1_end (unhide HS1) (unhide HK1) hlt (Nat.le_refl _) (unhide HB0') (((((((((((((((OnlyB.refl _ _).set 0 (.int .i64 0)).set 1 (.int .i64 0)).set 2 (.string ⟨#[]⟩)).set 3 (.slice none 0 0)).set 4 (.string ⟨#[]⟩)).set 5 (.int .i64 0)).set 6 (.int .i64 0)).set 7 (.string ⟨#[]⟩)).set 8 (.slice none 0 0)).set 9 (.string ⟨#[]⟩)).set 10 (.int .i64 0)).set 11 (.int .i64 0)).set 12 (.string ⟨#[]⟩)).set 13 (.slice none 0 0))
  refine bodyPost_ret (v := .tuple #[.agg #[.int .i64 0, .int .i64 0, .string ⟨#[]⟩, .slice none 0 0, .string ⟨#[]⟩, .int .i64 0, .int .i64 0, .string ⟨#[]⟩, .slice none 0 0, .string ⟨#[]⟩, .int .i64 0, .int .i64 0, .string ⟨#[]⟩, .slice none 0 0], .bool false]) (by simp [results, Tryz.results80, go_sem, hz0, r]) rfl ?_
  exact ⟨⟨0, 0, ⟨#[]⟩, none, 0, 0⟩, ⟨0, 0, ⟨#[]⟩, none, 0, 0⟩, ⟨0, 0, ⟨#[]⟩, none, 0, 0⟩, ⟨#[]⟩, ⟨#[]⟩, l', ns', nv', rfl, R.1.below ((Below.refl _ _).alloc (Nat.le_refl _) _), unhide HP, (R.2.alloc _).wide⟩

end Go.Proofs.YthfjnfcekeknlaaGreatDoor
namespace Go.Proofs.YthfjnfcekeknlaaGreatDoor
open Go.RowKit

set_option maxHeartbeats 8000000 in
set_option maxRecDepth 100000 in
theorem item_test_no (w : World) (rb lb : Nat) (s : ByteArray) (l : List Parl.Tok) (ns : List ByteArray) (nv iv : Value) (e0 : Int) (tests goals : Bool) (h : St w rb s l ns nv e0) (hb : w.heap[lb]? = some (.cells #[iv, .bool tests, .bool goals] 82 (0, 0))) (hne : lb ≠ rb) (hn0 : lb ≠ 0) (t : Parl.Tm) (l1 : List Parl.Tok) (hT : Parl.term 8 l = .inr (t, l1)) (hsg : Parl.testSign l1 = true) (er ps : Nat) (hR : Parl.sides t tests l1 = .inl (er, ps)) :
    Calls Tryz.prog 80 #[.pointer (some ⟨rb, 0, none⟩), .pointer (some ⟨lb, 0, none⟩)] w fun e w' => PIt rb lb iv s ns (.inl (er, ps)) w e w' := by
  have hlt := h.lt
  have hlb : lb < w.heap.size := blk_lt hb
  obtain ⟨hS, hK, hB0, hB1⟩ := item_box h hb
  unfold boxZ at hS hK hB0 hB1
  have HS := hide hS
  have HK := hide hK
  have HB0 := hide hB0
  have HB1 := hide hB1
  have I := hide (fun W (hW : St W rb s l ns nv e0) => term_all 8 W rb s l ns nv e0 1 rfl hW)
  rw [hT] at I
  have hk0 : (Parl.hd l1).kind ≠ 0 := by simp only [Parl.testSign, Bool.or_eq_true] at hsg; rcases hsg with ((q | q) | q) | q <;> (rw [Parl.sees_kind q]; omega)
  have HH0 := hide hk0
  clear hS hK hB0 hB1 h hb hk0
  go_enter Tryz.func80, Tryz.ntmps80
  go_wp2_with fail
  refine (unhide I _ (unhide HS)).mono ?_
  rintro e w1 ⟨val, tx, ao, cap, ns1, nv1, e1, rfl, htx, hs, hk⟩
  have HS0 := hide hs
  have HS1 := hide (hs.below ((Below.refl _ _).alloc (Nat.le_refl _) (.cells #[.int .i64 (ak t.kind), .int .i64 val, .string tx, .slice ao t.args.length cap] 76)))
  have HK0 := hide ((unhide HK).trans hk)
  have hb0 := blk_ka hk (unhide HB0) (by simp; omega)
  have hbl := blk_ka hk (unhide HB1) (by simpa using hne)
  have hz0 : w.heap.size < w1.heap.size := blk_lt hb0
  have hzl : lb < w1.heap.size := blk_lt hbl
  have HBZ := hide hb0
  have HBL := hide hbl
  have q := blkA hbl
  have y := blkX hbl
  clear hs hk hb0 hbl htx
  go_wp2_with fail
  refine (seesTestSign_any _ rb s l1 ns1 nv1 e1 (unhide HS1)).mono ?_
  rintro e w2 ⟨rfl, hw⟩
  rw [hw]
  clear hw w2
  rw [hsg]
  go_wp2_with fail
  have HW0 : Hid (St (w1.setCell ⟨lb, 2, none⟩ (.bool false)) rb s l1 ns1 nv1 e1) := (unhide HS0).only ((OnlyB.refl lb _).set 2 (.bool false)) hne hn0 (by unfold tyAt; rw [unhide HBL]; simp)
  have HW : Hid (St ((w1.setCell ⟨lb, 2, none⟩ (.bool false)).alloc (.cells #[.int .i64 (ak t.kind), .int .i64 val, .string tx, .slice ao t.args.length cap] 76)).drew rb s l1 ns1 nv1 e1) := (unhide HW0).below ((Below.refl _ _).alloc (Nat.le_refl _) _).drew
  have HKW : Hid (KA rb [rb, lb] w ((w1.setCell ⟨lb, 2, none⟩ (.bool false)).alloc (.cells #[.int .i64 (ak t.kind), .int .i64 val, .string tx, .slice ao t.args.length cap] 76)).drew) := (((unhide HK0).wide.setIn (by simp) _).alloc _).drew
  have HB0W : Hid (((w1.setCell ⟨lb, 2, none⟩ (.bool false)).alloc (.cells #[.int .i64 (ak t.kind), .int .i64 val, .string tx, .slice ao t.args.length cap] 76)).drew.heap[w.heap.size]? = some (.cells #[.int .i64 0, .int .i64 0, .string ⟨#[]⟩, .slice none 0 0, .string ⟨#[]⟩, .int .i64 0, .int .i64 0, .string ⟨#[]⟩, .slice none 0 0, .string ⟨#[]⟩, .int .i64 0, .int .i64 0, .string ⟨#[]⟩, .slice none 0 0] 151 (0, 0))) := blk_alloc (blk_other (unhide HBZ) (by omega) _ _) _
  have HBLW : Hid (((w1.setCell ⟨lb, 2, none⟩ (.bool false)).alloc (.cells #[.int .i64 (ak t.kind), .int .i64 val, .string tx, .slice ao t.args.length cap] 76)).drew.heap[lb]? = some (.cells #[iv, .bool tests, .bool false] 82 (0, 0))) := blk_alloc (blk_set (unhide HBL) 2 (.bool false)) _
  have SD := hide (fun W (hW : St W rb s l1 ns1 nv1 e1) => sides_any W rb s l1 ns1 nv1 e1 ⟨ak t.kind, val, tx, ao, t.args.length, cap⟩ t tests hW (unhide HH0))
  rw [hR] at SD
  clear HS0 HS1 HK0 HBZ HW0 hR
  go_region_with (go_at_call 134; refine (unhide SD _ (unhide HW)).mono ?_; rintro e w2 ⟨a, b, c, sg, op, l', ns', nv', rfl, hs2, hpos, hk2⟩; have HP := hide hpos; clear hpos; have HS2 := hide hs2; have HK2 := hide ((unhide HKW).trans hk2.wide); have hb2 := blk_ka hk2 (unhide HB0W) (by simp; omega); have HBL2 := hide (blk_ka hk2 (unhide HBLW) (by simpa using hne)); have r := blkA hb2; have x := blkX hb2; have HB2 := hide hb2; clear hs2 hk2 hb2)
  all_goals
    go_wp2_with fail
    have RO := (((((((((((((((OnlyB.refl w.heap.size w2).set 0 (.int .i64 a.k)).set 1 (.int .i64 a.val)).set 2 (.string a.tx)).set 3 (.slice a.ao a.n a.cap)).set 4 (.string sg)).set 5 (.int .i64 b.k)).set 6 (.int .i64 b.val)).set 7 (.string b.tx)).set 8 (.slice b.ao b.n b.cap)).set 9 (.string op)).set 10 (.int .i64 c.k)).set 11 (.int .i64 c.val)).set 12 (.string c.tx)).set 13 (.slice c.ao c.n c.cap))
    have RS := (unhide HS2).only RO (by omega) (by omega) (by unfold tyAt; rw [unhide HB2]; simp)
    have RK := (unhide HK2).onlyNew RO (Nat.le_refl _)
    have RL := (RO.block lb (by omega)).trans (unhide HBL2)
    refine bodyPost_ret (v := .tuple #[.agg #[.int .i64 a.k, .int .i64 a.val, .string a.tx, .slice a.ao a.n a.cap, .string sg, .int .i64 b.k, .int .i64 b.val, .string b.tx, .slice b.ao b.n b.cap, .string op, .int .i64 c.k, .int .i64 c.val, .string c.tx, .slice c.ao c.n c.cap], .bool false]) (by simp [results, Tryz.results80, go_sem, r]) rfl ?_
    exact ⟨a, b, c, sg, op, l', ns', nv', rfl, RS, unhide HP, RK⟩

set_option maxHeartbeats 8000000 in
set_option maxRecDepth 100000 in
theorem item_test_yes (w : World) (rb lb : Nat) (s : ByteArray) (l : List Parl.Tok) (ns : List ByteArray) (nv iv : Value) (e0 : Int) (tests goals : Bool) (h : St w rb s l ns nv e0) (hb : w.heap[lb]? = some (.cells #[iv, .bool tests, .bool goals] 82 (0, 0))) (hne : lb ≠ rb) (hn0 : lb ≠ 0) (t : Parl.Tm) (l1 : List Parl.Tok) (hT : Parl.term 8 l = .inr (t, l1)) (hsg : Parl.testSign l1 = true) (x : Parl.Itm) (l2 : List Parl.Tok) (hR : Parl.sides t tests l1 = .inr (x, l2)) :
    Calls Tryz.prog 80 #[.pointer (some ⟨rb, 0, none⟩), .pointer (some ⟨lb, 0, none⟩)] w fun e w' => PIt rb lb iv s ns (.inr ((x, tests, false), l2)) w e w' := by
  have hlt := h.lt
  have hlb : lb < w.heap.size := blk_lt hb
  obtain ⟨hS, hK, hB0, hB1⟩ := item_box h hb
  unfold boxZ at hS hK hB0 hB1
  have HS := hide hS
  have HK := hide hK
  have HB0 := hide hB0
  have HB1 := hide hB1
  have I := hide (fun W (hW : St W rb s l ns nv e0) => term_all 8 W rb s l ns nv e0 1 rfl hW)
  rw [hT] at I
  have hk0 : (Parl.hd l1).kind ≠ 0 := by simp only [Parl.testSign, Bool.or_eq_true] at hsg; rcases hsg with ((q | q) | q) | q <;> (rw [Parl.sees_kind q]; omega)
  have HH0 := hide hk0
  clear hS hK hB0 hB1 h hb hk0
  go_enter Tryz.func80, Tryz.ntmps80
  go_wp2_with fail
  refine (unhide I _ (unhide HS)).mono ?_
  rintro e w1 ⟨val, tx, ao, cap, ns1, nv1, e1, rfl, htx, hs, hk⟩
  have HS0 := hide hs
  have HS1 := hide (hs.below ((Below.refl _ _).alloc (Nat.le_refl _) (.cells #[.int .i64 (ak t.kind), .int .i64 val, .string tx, .slice ao t.args.length cap] 76)))
  have HK0 := hide ((unhide HK).trans hk)
  have hb0 := blk_ka hk (unhide HB0) (by simp; omega)
  have hbl := blk_ka hk (unhide HB1) (by simpa using hne)
  have hz0 : w.heap.size < w1.heap.size := blk_lt hb0
  have hzl : lb < w1.heap.size := blk_lt hbl
  have HBZ := hide hb0
  have HBL := hide hbl
  have q := blkA hbl
  have y := blkX hbl
  have HTX := hide htx
  clear hs hk hb0 hbl htx
  go_wp2_with fail
  refine (seesTestSign_any _ rb s l1 ns1 nv1 e1 (unhide HS1)).mono ?_
  rintro e w2 ⟨rfl, hw⟩
  rw [hw]
  clear hw w2
  rw [hsg]
  go_wp2_with fail
  have HW0 : Hid (St (w1.setCell ⟨lb, 2, none⟩ (.bool false)) rb s l1 ns1 nv1 e1) := (unhide HS0).only ((OnlyB.refl lb _).set 2 (.bool false)) hne hn0 (by unfold tyAt; rw [unhide HBL]; simp)
  have HW : Hid (St ((w1.setCell ⟨lb, 2, none⟩ (.bool false)).alloc (.cells #[.int .i64 (ak t.kind), .int .i64 val, .string tx, .slice ao t.args.length cap] 76)).drew rb s l1 ns1 nv1 e1) := (unhide HW0).below ((Below.refl _ _).alloc (Nat.le_refl _) _).drew
  have HKW : Hid (KA rb [rb, lb] w ((w1.setCell ⟨lb, 2, none⟩ (.bool false)).alloc (.cells #[.int .i64 (ak t.kind), .int .i64 val, .string tx, .slice ao t.args.length cap] 76)).drew) := (((unhide HK0).wide.setIn (by simp) _).alloc _).drew
  have HB0W : Hid (((w1.setCell ⟨lb, 2, none⟩ (.bool false)).alloc (.cells #[.int .i64 (ak t.kind), .int .i64 val, .string tx, .slice ao t.args.length cap] 76)).drew.heap[w.heap.size]? = some (.cells #[.int .i64 0, .int .i64 0, .string ⟨#[]⟩, .slice none 0 0, .string ⟨#[]⟩, .int .i64 0, .int .i64 0, .string ⟨#[]⟩, .slice none 0 0, .string ⟨#[]⟩, .int .i64 0, .int .i64 0, .string ⟨#[]⟩, .slice none 0 0] 151 (0, 0))) := blk_alloc (blk_other (unhide HBZ) (by omega) _ _) _
  have HBLW : Hid (((w1.setCell ⟨lb, 2, none⟩ (.bool false)).alloc (.cells #[.int .i64 (ak t.kind), .int .i64 val, .string tx, .slice ao t.args.length cap] 76)).drew.heap[lb]? = some (.cells #[iv, .bool tests, .bool false] 82 (0, 0))) := blk_alloc (blk_set (unhide HBL) 2 (.bool false)) _
  have HKP : Hid (KeepA w1 ((w1.setCell ⟨lb, 2, none⟩ (.bool false)).alloc (.cells #[.int .i64 (ak t.kind), .int .i64 val, .string tx, .slice ao t.args.length cap] 76)).drew) := (KeepA.only ((OnlyB.refl lb w1).set 2 (.bool false)) (by unfold tyAt; rw [unhide HBL]; simp)).trans (KeepA.below ((Below.refl _ _).alloc (Nat.le_refl _) _).drew)
  have SD := hide (fun W (hW : St W rb s l1 ns1 nv1 e1) => sides_any W rb s l1 ns1 nv1 e1 ⟨ak t.kind, val, tx, ao, t.args.length, cap⟩ t tests hW (unhide HH0))
  rw [hR] at SD
  clear HS0 HS1 HK0 HBZ HW0 hR
  go_region_with (go_at_call 134; refine (unhide SD _ (unhide HW)).mono ?_; rintro e w2 ⟨a, b, c, sg, op, ns', nv', e', rfl, ⟨ha, hxl, hrt⟩, hs2, hk2⟩; have HRT := hide hrt; have HXL := hide hxl; have HA0 := hide ha; clear hrt hxl ha; have HKP2 := hide ((unhide HKP).trans (KeepA.ka (unhide HW) hk2)); have HS2 := hide hs2; have HK2 := hide ((unhide HKW).trans hk2.wide); have hb2 := blk_ka hk2 (unhide HB0W) (by simp; omega); have HBL2 := hide (blk_ka hk2 (unhide HBLW) (by simpa using hne)); have r := blkA hb2; have x := blkX hb2; have HB2 := hide hb2; clear hs2 hk2 hb2)
  all_goals
    go_wp2_with fail
    have RO := (((((((((((((((OnlyB.refl w.heap.size w2).set 0 (.int .i64 a.k)).set 1 (.int .i64 a.val)).set 2 (.string a.tx)).set 3 (.slice a.ao a.n a.cap)).set 4 (.string sg)).set 5 (.int .i64 b.k)).set 6 (.int .i64 b.val)).set 7 (.string b.tx)).set 8 (.slice b.ao b.n b.cap)).set 9 (.string op)).set 10 (.int .i64 c.k)).set 11 (.int .i64 c.val)).set 12 (.string c.tx)).set 13 (.slice c.ao c.n c.cap))
    have RS := (unhide HS2).only RO (by omega) (by omega) (by unfold tyAt; rw [unhide HB2]; simp)
    have RP := KeepA.only RO (by unfold tyAt; rw [unhide HB2]; simp)
    have RK := (unhide HK2).onlyNew RO (Nat.le_refl _)
    have RL := (RO.block lb (by omega)).trans (unhide HBL2)
    refine bodyPost_ret (v := .tuple #[.agg #[.int .i64 a.k, .int .i64 a.val, .string a.tx, .slice a.ao a.n a.cap, .string sg, .int .i64 b.k, .int .i64 b.val, .string b.tx, .slice b.ao b.n b.cap, .string op, .int .i64 c.k, .int .i64 c.val, .string c.tx, .slice c.ao c.n c.cap], .bool true]) (by simp [results, Tryz.results80, go_sem, r]) rfl ?_
    exact ⟨a, b, c, sg, op, ns', nv', e', rfl, ItA.of (unhide HTX) (unhide HA0) (unhide HXL) (unhide HRT) (unhide HKP2) RP, RS, RL, RK⟩

end Go.Proofs.YthfjnfcekeknlaaGreatDoor
