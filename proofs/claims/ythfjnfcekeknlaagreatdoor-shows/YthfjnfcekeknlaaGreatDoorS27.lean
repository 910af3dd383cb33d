import Derived.Test.YthfjnfcekeknlaaGreatDoorS26
namespace Go.Proofs.YthfjnfcekeknlaaGreatDoor
open Go.RowKit

def boxZ : Obj := .cells #[.int .i64 0, .int .i64 0, .string ⟨#[]⟩, .slice none 0 0, .string ⟨#[]⟩, .int .i64 0, .int .i64 0, .string ⟨#[]⟩, .slice none 0 0, .string ⟨#[]⟩, .int .i64 0, .int .i64 0, .string ⟨#[]⟩, .slice none 0 0] 151
def boxL (a : TV) : Obj := .cells #[.int .i64 a.k, .int .i64 a.val, .string a.tx, .slice a.ao a.n a.cap] 76
def boxI (a : TV) (tx : ByteArray) : Obj := .cells #[.int .i64 a.k, .int .i64 a.val, .string a.tx, .slice a.ao a.n a.cap, .string tx, .int .i64 0, .int .i64 0, .string ⟨#[]⟩, .slice none 0 0, .string ⟨#[]⟩, .int .i64 0, .int .i64 0, .string ⟨#[]⟩, .slice none 0 0] 151

/-- The three boxes of 'sides' and 'assignment', in the world in which the sign is taken. -/
theorem side_boxes {w : World} {rb : Nat} {s : ByteArray} {l : List Parl.Tok} {ns : List ByteArray} {nv : Value} {e0 : Int} (a : TV) (tx : ByteArray) (h : St w rb s l ns nv e0) :
    St (((w.alloc (boxL a)).alloc boxZ).alloc (boxI a tx)).drew rb s l ns nv e0 ∧ KA rb [rb] w (((w.alloc (boxL a)).alloc boxZ).alloc (boxI a tx)).drew ∧
    (((w.alloc (boxL a)).alloc boxZ).alloc (boxI a tx)).drew.heap[w.heap.size + 1]? = some (.cells #[.int .i64 0, .int .i64 0, .string ⟨#[]⟩, .slice none 0 0, .string ⟨#[]⟩, .int .i64 0, .int .i64 0, .string ⟨#[]⟩, .slice none 0 0, .string ⟨#[]⟩, .int .i64 0, .int .i64 0, .string ⟨#[]⟩, .slice none 0 0] 151 (0, 0)) ∧
    (((w.alloc (boxL a)).alloc boxZ).alloc (boxI a tx)).drew.heap[w.heap.size + 1 + 1]? = some (.cells #[.int .i64 a.k, .int .i64 a.val, .string a.tx, .slice a.ao a.n a.cap, .string tx, .int .i64 0, .int .i64 0, .string ⟨#[]⟩, .slice none 0 0, .string ⟨#[]⟩, .int .i64 0, .int .i64 0, .string ⟨#[]⟩, .slice none 0 0] 151 (0, 0)) ∧ w.heap.size + 1 + 1 < (((w.alloc (boxL a)).alloc boxZ).alloc (boxI a tx)).drew.heap.size := by
  refine ⟨h.below ((((Below.refl _ _).alloc (Nat.le_refl _) _).alloc (by simp) _).alloc (by simp; omega) _).drew, ((((KA.refl rb [rb] w).alloc _).alloc _).alloc _).drew, ?_, ?_, by show _ < (((w.alloc (boxL a)).alloc boxZ).alloc (boxI a tx)).heap.size; simp⟩
  · show (((w.alloc (boxL a)).alloc boxZ).alloc (boxI a tx)).heap[w.heap.size + 1]? = _
    refine blk_alloc ?_ _
    have := heap_alloc_new (w.alloc (boxL a)) boxZ
    rw [World.size_alloc] at this
    exact this
  · show (((w.alloc (boxL a)).alloc boxZ).alloc (boxI a tx)).heap[w.heap.size + 1 + 1]? = _
    have := heap_alloc_new ((w.alloc (boxL a)).alloc boxZ) (boxI a tx)
    rw [World.size_alloc, World.size_alloc] at this
    exact this

/-- Two boxes are written, one behind the other. -/
theorem box2_end {w w1 w2 w3 : World} {rb : Nat} {s : ByteArray} {l : List Parl.Tok} {ns : List ByteArray} {nv : Value} {e : Int} {b b' : Nat} {cs cs' : Array Value} {T T' : TypeId} (h : St w1 rb s l ns nv e) (hk : KA rb [rb] w w1) (hlt : rb < w.heap.size) (hb : w.heap.size ≤ b) (hb' : w.heap.size ≤ b') (hc : w1.heap[b]? = some (.cells cs T (0, 0))) (hc' : w1.heap[b']? = some (.cells cs' T' (0, 0))) (ho : OnlyB b w1 w2) (ho' : OnlyB b' w2 w3) (hT : T ≠ 9 := by decide) (hT' : T' ≠ 9 := by decide) :
    St w3 rb s l ns nv e ∧ KA rb [rb] w w3 := by
  have R := box1_end h hk hlt hb hc ho hT
  refine ⟨R.1.only ho' (by omega) (by omega) ?_, R.2.onlyNew ho' hb'⟩
  rw [ho.ty]; unfold tyAt; rw [hc']; simpa using hT'

theorem empty_list : (⟨#[]⟩ : ByteArray).toList = [] := by rw [ByteArray.toList_mk]
theorem box2_keep {w w1 w2 w3 : World} {rb : Nat} {s : ByteArray} {l : List Parl.Tok} {ns : List ByteArray} {nv : Value} {e : Int} {b b' : Nat} {cs cs' : Array Value} {T T' : TypeId} (h : St w1 rb s l ns nv e) (hk : KA rb [rb] w w1) (hlt : rb < w.heap.size) (hb : w.heap.size ≤ b) (hb' : w.heap.size ≤ b') (hc : w1.heap[b]? = some (.cells cs T (0, 0))) (hc' : w1.heap[b']? = some (.cells cs' T' (0, 0))) (ho : OnlyB b w1 w2) (ho' : OnlyB b' w2 w3) (hT : T ≠ 9 := by decide) (hT' : T' ≠ 9 := by decide) (hU : T ≠ 76 := by decide) (hU' : T' ≠ 76 := by decide) :
    (St w3 rb s l ns nv e ∧ KA rb [rb] w w3) ∧ KeepA w1 w3 :=
  ⟨box2_end h hk hlt hb hb' hc hc' ho ho' hT hT', (KeepA.only ho (by unfold tyAt; rw [hc]; simpa using hU)).trans (KeepA.only ho' (by rw [ho.ty]; unfold tyAt; rw [hc']; simpa using hU'))⟩
theorem sides_no {left : Parl.Tm} {l : List Parl.Tok} : Parl.sides left false l = Parl.bad 2 l := rfl
theorem sides_yes {left : Parl.Tm} {l : List Parl.Tok} : Parl.sides left true l = match Parl.term 8 l.tail with
    | .inl e => .inl e
    | .inr (r, l2) => .inr (⟨left, (Parl.hd l).text.toList, some r, [], none⟩, l2) := by
  unfold Parl.sides; rw [if_pos rfl]
  rcases Parl.term 8 l.tail with e | ⟨r, l2⟩ <;> rfl

set_option maxHeartbeats 8000000 in
set_option maxRecDepth 100000 in
theorem sides_any (w : World) (rb : Nat) (s : ByteArray) (l : List Parl.Tok) (ns : List ByteArray) (nv : Value) (e0 : Int) (a : TV) (left : Parl.Tm) (fits : Bool) (h : St w rb s l ns nv e0) (h0 : (Parl.hd l).kind ≠ 0) :
    Calls Tryz.prog 134 #[.pointer (some ⟨rb, 0, none⟩), .agg #[.int .i64 a.k, .int .i64 a.val, .string a.tx, .slice a.ao a.n a.cap], .bool fits] w fun e w' => PItem rb s a left ns (Parl.sides left fits l) w e w' := by
  have hlt := h.lt
  have h0' := hide h0
  have I := hide (fun W nv (hW : St W rb s l.tail ns nv e0) => term_all 8 W rb s l.tail ns nv e0 1 rfl hW)
  obtain ⟨hS, hK, hB1, hB2, hz⟩ := side_boxes a (Parl.hd l).text h
  unfold boxL boxZ boxI at hS hK hB1 hB2 hz
  have HS := hide hS
  have HK := hide hK
  have HB1 := hide hB1
  have HB2 := hide hB2
  have HZ := hide hz
  clear hS hK hB1 hB2 hz
  obtain ⟨⟨c0, c1, c2, c3, c4, c5, f1, f2, f3, f4, f5⟩, own, chain, isn, few, short, signs, pos, lt⟩ := h
  clear own chain isn few short signs c0 c1 c2 c4 c5 f1 f2 f3 f4 f5 h0
  have hc2 : ∀ o1 o2, ((w.alloc o1).alloc o2).cell? ⟨rb, 3, none⟩ = some (.string (Parl.hd l).text) := fun o1 o2 => by rw [World.cell?_alloc_past _ _ _ (by simp; omega), World.cell?_alloc_past _ _ _ hlt]; exact c3
  have hc3 : ∀ o1 o2 o3, (((w.alloc o1).alloc o2).alloc o3).cell? ⟨rb, 3, none⟩ = some (.string (Parl.hd l).text) := fun o1 o2 o3 => by rw [World.cell?_alloc_past _ _ _ (by simp; omega)]; exact hc2 o1 o2
  cases fits
  · rw [sides_no]
    clear I
    go_enter Tryz.func134, Tryz.ntmps134
    go_wp2_with fail
    go_big_region
    go_wp2_with fail
    refine (takeIf_any _ rb s l ns nv e0 false (unhide HS) (fun q => by cases q)).mono ?_
    rintro e w1 ⟨rfl, hs, hk⟩
    have hb1 := blk_ka hk (unhide HB1) (by simp; omega)
    have hb2 := blk_ka hk (unhide HB2) (by simp; omega)
    have HS1 := hide hs
    have HK1 := hide ((unhide HK).trans hk)
    clear hs hk hc2 hc3 c3
    have r := blkA hb1
    have x := blkX hb1
    have q := blkA hb2
    have y := blkX hb2
    have HB1' := hide hb1
    have HB2' := hide hb2
    clear hb1 hb2
    go_wp2_with fail
    have R := box1_end (unhide HS1) (unhide HK1) hlt (by omega) (unhide HB1') (((((((((((((((OnlyB.refl _ _).set 0 (.int .i64 a.k)).set 1 (.int .i64 a.val)).set 2 (.string a.tx)).set 3 (.slice a.ao a.n a.cap)).set 4 (.string (Parl.hd l).text)).set 5 (.int .i64 0)).set 6 (.int .i64 0)).set 7 (.string ⟨#[]⟩)).set 8 (.slice none 0 0)).set 9 (.string ⟨#[]⟩)).set 10 (.int .i64 0)).set 11 (.int .i64 0)).set 12 (.string ⟨#[]⟩)).set 13 (.slice none 0 0))
    refine bodyPost_ret (v := .tuple #[.agg #[.int .i64 a.k, .int .i64 a.val, .string a.tx, .slice a.ao a.n a.cap, .string (Parl.hd l).text, .int .i64 0, .int .i64 0, .string ⟨#[]⟩, .slice none 0 0, .string ⟨#[]⟩, .int .i64 0, .int .i64 0, .string ⟨#[]⟩, .slice none 0 0], .bool false]) (by simp [results, Tryz.results134, go_sem, r]) rfl ?_
    exact ⟨a, ⟨0, 0, ⟨#[]⟩, none, 0, 0⟩, ⟨0, 0, ⟨#[]⟩, none, 0, 0⟩, (Parl.hd l).text, ⟨#[]⟩, l, ns, nv, rfl, R.1, rfl, R.2⟩
  · rw [sides_yes]
    generalize Parl.term 8 l.tail = r at I ⊢
    rcases r with ⟨er, pos⟩ | ⟨t, l2⟩
    · show Calls _ _ _ _ fun e w' => PItem rb s a left ns (.inl (er, pos)) w e w'
      go_enter Tryz.func134, Tryz.ntmps134
      go_wp2_with fail
      go_big_region
      go_wp2_with fail
      refine (takeIf_any _ rb s l ns nv e0 true (unhide HS) (fun _ => unhide h0')).mono ?_
      rintro e w1 ⟨rfl, hs, hk⟩
      have HB1' := hide (blk_ka hk (unhide HB1) (by simp; omega))
      have HB2' := hide (blk_ka hk (unhide HB2) (by simp; omega))
      have HS1 := hide hs
      have HK1 := hide ((unhide HK).trans hk)
      clear hs hk hc2 hc3 c3
      go_wp2_with fail
      refine (unhide I _ _ (unhide HS1)).mono ?_
      rintro e w2 ⟨k, val, tx, ao, n, cap, l', ns', nv', rfl, hs2, hpos, hk2⟩
      have HP := hide hpos
      clear hpos
      have hb1 := blk_ka hk2 (unhide HB1') (by simp; omega)
      have hb2 := blk_ka hk2 (unhide HB2') (by simp; omega)
      have hz1 : w.heap.size + 1 < w2.heap.size := blk_lt hb1
      have hz2 : w.heap.size + 1 + 1 < w2.heap.size := blk_lt hb2
      have HS2 := hide hs2
      have HK2 := hide ((unhide HK1).trans hk2)
      clear hs2 hk2
      have r := blkA hb1
      have x := blkX hb1
      have q := blkA hb2
      have y := blkX hb2
      have HB1'' := hide hb1
      have HB2'' := hide hb2
      clear hb1 hb2
      go_wp2_with fail
      have R := box2_end (unhide HS2) (unhide HK2) hlt (by omega) (by omega) (unhide HB2'') (unhide HB1'') (((((OnlyB.refl _ _).set 5 (.int .i64 k)).set 6 (.int .i64 val)).set 7 (.string tx)).set 8 (.slice ao n cap)) (((((((((((((((OnlyB.refl _ _).set 0 (.int .i64 a.k)).set 1 (.int .i64 a.val)).set 2 (.string a.tx)).set 3 (.slice a.ao a.n a.cap)).set 4 (.string (Parl.hd l).text)).set 5 (.int .i64 k)).set 6 (.int .i64 val)).set 7 (.string tx)).set 8 (.slice ao n cap)).set 9 (.string ⟨#[]⟩)).set 10 (.int .i64 0)).set 11 (.int .i64 0)).set 12 (.string ⟨#[]⟩)).set 13 (.slice none 0 0))
      refine bodyPost_ret (v := .tuple #[.agg #[.int .i64 a.k, .int .i64 a.val, .string a.tx, .slice a.ao a.n a.cap, .string (Parl.hd l).text, .int .i64 k, .int .i64 val, .string tx, .slice ao n cap, .string ⟨#[]⟩, .int .i64 0, .int .i64 0, .string ⟨#[]⟩, .slice none 0 0], .bool false]) (by simp [results, Tryz.results134, go_sem, hz1, r]) rfl ?_
      exact ⟨a, ⟨k, val, tx, ao, n, cap⟩, ⟨0, 0, ⟨#[]⟩, none, 0, 0⟩, (Parl.hd l).text, ⟨#[]⟩, l', ns', nv', rfl, R.1.below ((Below.refl _ _).alloc (Nat.le_refl _) _), unhide HP, R.2.alloc _⟩
    · show Calls _ _ _ _ fun e w' => PItem rb s a left ns (.inr (⟨left, (Parl.hd l).text.toList, some t, [], none⟩, l2)) w e w'
      go_enter Tryz.func134, Tryz.ntmps134
      go_wp2_with fail
      go_big_region
      go_wp2_with fail
      refine (takeIf_any _ rb s l ns nv e0 true (unhide HS) (fun _ => unhide h0')).mono ?_
      rintro e w1 ⟨rfl, hs, hk⟩
      have HB1' := hide (blk_ka hk (unhide HB1) (by simp; omega))
      have HB2' := hide (blk_ka hk (unhide HB2) (by simp; omega))
      have HS1 := hide hs
      have HK1 := hide ((unhide HK).trans hk)
      clear hs hk hc2 hc3 c3
      go_wp2_with fail
      refine (unhide I _ _ (unhide HS1)).mono ?_
      rintro e w2 ⟨val, tx, ao, cap, ns', nv', e', rfl, htx, hs2, hk2⟩
      have HTX := hide htx
      clear htx
      have hb1 := blk_ka hk2 (unhide HB1') (by simp; omega)
      have hb2 := blk_ka hk2 (unhide HB2') (by simp; omega)
      have hz1 : w.heap.size + 1 < w2.heap.size := blk_lt hb1
      have hz2 : w.heap.size + 1 + 1 < w2.heap.size := blk_lt hb2
      have HS2 := hide hs2
      have HK2 := hide ((unhide HK1).trans hk2)
      clear hs2 hk2
      have r := blkA hb1
      have x := blkX hb1
      have q := blkA hb2
      have y := blkX hb2
      have HB1'' := hide hb1
      have HB2'' := hide hb2
      clear hb1 hb2
      go_wp2_with fail
      have RK := box2_keep (unhide HS2) (unhide HK2) hlt (by omega) (by omega) (unhide HB2'') (unhide HB1'') (((((OnlyB.refl _ _).set 5 (.int .i64 (ak t.kind))).set 6 (.int .i64 val)).set 7 (.string tx)).set 8 (.slice ao t.args.length cap)) (((((((((((((((OnlyB.refl _ _).set 0 (.int .i64 a.k)).set 1 (.int .i64 a.val)).set 2 (.string a.tx)).set 3 (.slice a.ao a.n a.cap)).set 4 (.string (Parl.hd l).text)).set 5 (.int .i64 (ak t.kind))).set 6 (.int .i64 val)).set 7 (.string tx)).set 8 (.slice ao t.args.length cap)).set 9 (.string ⟨#[]⟩)).set 10 (.int .i64 0)).set 11 (.int .i64 0)).set 12 (.string ⟨#[]⟩)).set 13 (.slice none 0 0))
      have R := RK.1
      refine bodyPost_ret (v := .tuple #[.agg #[.int .i64 a.k, .int .i64 a.val, .string a.tx, .slice a.ao a.n a.cap, .string (Parl.hd l).text, .int .i64 (ak t.kind), .int .i64 val, .string tx, .slice ao t.args.length cap, .string ⟨#[]⟩, .int .i64 0, .int .i64 0, .string ⟨#[]⟩, .slice none 0 0], .bool true]) (by simp [results, Tryz.results134, go_sem, hz1, r]) rfl ?_
      exact ⟨a, ⟨ak t.kind, val, tx, ao, t.args.length, cap⟩, ⟨0, 0, ⟨#[]⟩, none, 0, 0⟩, (Parl.hd l).text, ⟨#[]⟩, ns', nv', e', rfl, ⟨rfl, rfl, rfl, (fun r q => by cases q; exact (RK.2.trans (KeepA.alloc _ _)).ra (unhide HTX).rep), empty_list, (fun z q => by cases q), (unhide HTX).nms⟩, R.1.below ((Below.refl _ _).alloc (Nat.le_refl _) _), R.2.alloc _⟩
end Go.Proofs.YthfjnfcekeknlaaGreatDoor
