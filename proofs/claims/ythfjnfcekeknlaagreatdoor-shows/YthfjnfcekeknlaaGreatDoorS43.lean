import Derived.Test.YthfjnfcekeknlaaGreatDoorS01
import Derived.Test.YthfjnfcekeknlaaGreatDoorS21
import Derived.Test.YthfjnfcekeknlaaGreatDoorS40
import Derived.Test.YthfjnfcekeknlaaGreatDoorS42
namespace Go.Proofs.YthfjnfcekeknlaaGreatDoor
open Go.RowKit

/-- An item lies there, ahead of block xb. -/
structure ItemX (xb : Nat) (w : World) (v : IV) (x : Parl.Itm) : Prop where
  left : RB 8 (fun g => g < xb) w v.a x.left
  op : v.op.toList = x.sign
  right : ∀ r, x.right = some r → RB 8 (fun g => g < xb) w v.b r
  sg : v.sg.toList = x.op
  last : ∀ z, x.last = some z → RB 8 (fun g => g < xb) w v.c z
theorem ItemX.ok {xb : Nat} {w : World} {v : IV} {x : Parl.Itm} (h : ItemX xb w v x) : Parl.okI x := ⟨h.left.ok3, fun r q => (h.right r q).ok3, fun z q => (h.last z q).ok3⟩
theorem RB.blw {f xb : Nat} {w w' : World} {a : BV} {t : Parl.Tm} (h : RB f (fun g => g < xb) w a t) (hb : Below xb w w') : RB f (fun g => g < xb) w' a t := h.keep fun g _ hp hc _ => ⟨(hb.block g hp).trans hc, hp⟩
theorem ItemX.blw {xb : Nat} {w w' : World} {v : IV} {x : Parl.Itm} (h : ItemX xb w v x) (hb : Below xb w w') : ItemX xb w' v x := ⟨h.left.blw hb, h.op, fun r q => (h.right r q).blw hb, h.sg, fun z q => (h.last z q).blw hb⟩
theorem nms_len (us : List BV) : (nmsB us).length = us.length := by simp [nmsB]
theorem cnt_next {us us1 : List BV} {t : Parl.Tm} {c : Nat} (h : nmsB us1 = Parl.namesF 8 (nmsB us) t) (ho : Parl.ok3 8 t) (hc : us.length ≤ c) : us1.length ≤ c + 6561 := by
  obtain ⟨M, hM, hl⟩ := Parl.namesF_ext 8 t ho (nmsB us)
  have := nms_len us1
  have := nms_len us
  rw [h, hM, List.length_append] at *
  simp at hl
  omega
theorem str8_len {us : List BV} {t : Parl.Tm} (ho : Parl.ok3 8 t) (hc : us.length ≤ 1000000) : (Parl.strF 8 (nmsB us) t).length ≤ 1000000 :=
  Nat.le_trans (Parl.strF_len 8 t _ ho (by rw [nms_len]; omega) dec9) (lenS_le 8 (by omega))
/-- What 'list.item' leaves. -/
def PStrI (xb : Nat) (o : Option Addr) (us : List BV) (x : Parl.Itm) (w : World) (e : Ending) (w' : World) : Prop :=
  ∃ us' o' cap', e = .returned (.string ⟨(Parl.strI (nmsB us') x).toArray⟩) ∧ XL w' xb us' o' cap' ∧ nmsB us' = Parl.namesI (nmsB us) x ∧ FrX xb o o' w w'

set_option maxHeartbeats 4000000 in
set_option maxRecDepth 100000 in
theorem shI_0 (w : World) (xb : Nat) (us : List BV) (o : Option Addr) (cap : Nat) (v : IV) (x : Parl.Itm) (h : XL w xb us o cap) (hi : ItemX xb w v x) (hw : Parl.wfI x) (hl : us.length + 20000 ≤ 1000000) (hr : x.right = none) (hz : x.last = none) :
    Calls Tryz.prog 93 #[.pointer (some ⟨xb, 0, none⟩), .agg #[.string v.op, .string v.sg, .int .i64 v.a.k, .string v.a.nm, .int .i64 v.a.num, .slice v.a.ao v.a.n v.a.cap, .int .i64 v.b.k, .string v.b.nm, .int .i64 v.b.num, .slice v.b.ao v.b.n v.b.cap, .int .i64 v.c.k, .string v.c.nm, .int .i64 v.c.num, .slice v.c.ao v.c.n v.c.cap]] w fun e w' => PStrI xb o us x w e w' := by
  obtain ⟨_, hs1, hs2, hs3, hs4, _⟩ := hw
  have hlt := h.lt
  have hpast := hide h.past
  have HOLD := hide (show ∀ p, o = some p → p.block < w.heap.size from fun p q => (h.own.lt p.block (by rw [q]; rfl)).2)
  have hok := hi.ok
  have hop : (v.op.toList == []) = true := by rw [hi.op, hs1.2 hr]; rfl
  have hsg : (v.sg.toList == []) = true := by rw [hi.sg, hs2.2 hz]; rfl
  have HF := hide (Parl.strI_00 (ns := nmsB us) hr hz)
  have HX := hide (h.below ((Below.refl _ _).alloc (Nat.le_refl _) (.cells #[.string v.op, .string v.sg, .int .i64 v.a.k, .string v.a.nm, .int .i64 v.a.num, .slice v.a.ao v.a.n v.a.cap, .int .i64 v.b.k, .string v.b.nm, .int .i64 v.b.num, .slice v.b.ao v.b.n v.b.cap, .int .i64 v.c.k, .string v.c.nm, .int .i64 v.c.num, .slice v.c.ao v.c.n v.c.cap] 173)))
  have HI := hide (hi.blw ((Below.refl _ _).alloc (by omega) (.cells #[.string v.op, .string v.sg, .int .i64 v.a.k, .string v.a.nm, .int .i64 v.a.num, .slice v.a.ao v.a.n v.a.cap, .int .i64 v.b.k, .string v.b.nm, .int .i64 v.b.num, .slice v.b.ao v.b.n v.b.cap, .int .i64 v.c.k, .string v.c.nm, .int .i64 v.c.num, .slice v.c.ao v.c.n v.c.cap] 173)))
  have HBX := hide (heap_alloc_new w (.cells #[.string v.op, .string v.sg, .int .i64 v.a.k, .string v.a.nm, .int .i64 v.a.num, .slice v.a.ao v.a.n v.a.cap, .int .i64 v.b.k, .string v.b.nm, .int .i64 v.b.num, .slice v.b.ao v.b.n v.b.cap, .int .i64 v.c.k, .string v.c.nm, .int .i64 v.c.num, .slice v.c.ao v.c.n v.c.cap] 173))
  have HOK := hide hok
  clear h hi hs1 hs2 hs3 hs4 hok
  go_enter Tryz.func93, Tryz.ntmps93
  go_wp2_with fail
  refine (sh_all 8 _ xb us o cap v.a x.left (unhide HX) (unhide HI).left (by omega) (by omega)).mono ?_
  rintro e w1 ⟨us1, o1, cap1, rfl, hxl, hnm, hfr⟩
  have hc1 := cnt_next hnm (unhide HOK).1 (Nat.le_refl us.length)
  have hA1 := str8_len (us := us1) (unhide HOK).1 (by omega)
  have HN1 := hide hnm
  have HX1 := hide hxl
  have HF1 := hide hfr
  have HB1 := hide (hfr.below (unhide hpast) (by simp; omega))
  have HBX1 := hide ((hfr.block w.heap.size (by simp) (by omega) (fun p q => by have := unhide HOLD p q; omega)).trans (unhide HBX))
  have HAP1 := hide (show ∀ p, o1 = some p → w.heap.size ≠ p.block from fun p q => by
    rcases hfr.row p q with ⟨r, hr, hb⟩ | hb
    · have := unhide HOLD r hr; omega
    · simp at hb; omega)
  have r1 := blkA' (unhide HBX1)
  have z1 := blk_lt' (unhide HBX1)
  clear hxl hnm hfr
  generalize hAA1 : Parl.strF 8 (nmsB us1) x.left = A1 at *
  have HA1 := hide hAA1
  clear hAA1
  go_wp2_with fail
  go_ret
  have hnn : nmsB us1 = Parl.namesI (nmsB us) x := (unhide HN1).trans (unhide HF).1.symm
  refine ⟨us1, o1, cap1, ?_, unhide HX1, hnn, (FrX.of_below ((Below.refl _ _).alloc (Nat.le_refl _) _)).trans (unhide HF1)⟩
  rw [hnn, (unhide HF).2]
  rw [← unhide HN1, unhide HA1]
  rfl

set_option maxHeartbeats 4000000 in
set_option maxRecDepth 100000 in
theorem shI_1 (w : World) (xb : Nat) (us : List BV) (o : Option Addr) (cap : Nat) (v : IV) (x : Parl.Itm) (h : XL w xb us o cap) (hi : ItemX xb w v x) (hw : Parl.wfI x) (hl : us.length + 20000 ≤ 1000000) (r : Parl.Tm) (hr : x.right = some r) (hz : x.last = none) :
    Calls Tryz.prog 93 #[.pointer (some ⟨xb, 0, none⟩), .agg #[.string v.op, .string v.sg, .int .i64 v.a.k, .string v.a.nm, .int .i64 v.a.num, .slice v.a.ao v.a.n v.a.cap, .int .i64 v.b.k, .string v.b.nm, .int .i64 v.b.num, .slice v.b.ao v.b.n v.b.cap, .int .i64 v.c.k, .string v.c.nm, .int .i64 v.c.num, .slice v.c.ao v.c.n v.c.cap]] w fun e w' => PStrI xb o us x w e w' := by
  obtain ⟨_, hs1, hs2, hs3, hs4, _⟩ := hw
  have hlt := h.lt
  have hpast := hide h.past
  have HOLD := hide (show ∀ p, o = some p → p.block < w.heap.size from fun p q => (h.own.lt p.block (by rw [q]; rfl)).2)
  have hok := hi.ok
  have hop : (v.op.toList == []) = false := by rw [hi.op]; cases hx : x.sign with
    | nil => rw [hs1.1 hx] at hr; cases hr
    | cons a b => rfl
  have hos : v.op.size ≤ 2 := by rw [← Parl.bytes_len, hi.op]; exact hs3
  have HOP := hide (ba_list hi.op)
  have hsg : (v.sg.toList == []) = true := by rw [hi.sg, hs2.2 hz]; rfl
  have HF := hide (Parl.strI_10 (ns := nmsB us) hok hr hz)
  have HX := hide (h.below ((Below.refl _ _).alloc (Nat.le_refl _) (.cells #[.string v.op, .string v.sg, .int .i64 v.a.k, .string v.a.nm, .int .i64 v.a.num, .slice v.a.ao v.a.n v.a.cap, .int .i64 v.b.k, .string v.b.nm, .int .i64 v.b.num, .slice v.b.ao v.b.n v.b.cap, .int .i64 v.c.k, .string v.c.nm, .int .i64 v.c.num, .slice v.c.ao v.c.n v.c.cap] 173)))
  have HI := hide (hi.blw ((Below.refl _ _).alloc (by omega) (.cells #[.string v.op, .string v.sg, .int .i64 v.a.k, .string v.a.nm, .int .i64 v.a.num, .slice v.a.ao v.a.n v.a.cap, .int .i64 v.b.k, .string v.b.nm, .int .i64 v.b.num, .slice v.b.ao v.b.n v.b.cap, .int .i64 v.c.k, .string v.c.nm, .int .i64 v.c.num, .slice v.c.ao v.c.n v.c.cap] 173)))
  have HBX := hide (heap_alloc_new w (.cells #[.string v.op, .string v.sg, .int .i64 v.a.k, .string v.a.nm, .int .i64 v.a.num, .slice v.a.ao v.a.n v.a.cap, .int .i64 v.b.k, .string v.b.nm, .int .i64 v.b.num, .slice v.b.ao v.b.n v.b.cap, .int .i64 v.c.k, .string v.c.nm, .int .i64 v.c.num, .slice v.c.ao v.c.n v.c.cap] 173))
  have HOK := hide hok
  have HR := hide hr
  have HO2 := hide (hok.2.1 r hr)
  clear h hi hs1 hs2 hs3 hs4 hok
  go_enter Tryz.func93, Tryz.ntmps93
  go_wp2_with fail
  refine (sh_all 8 _ xb us o cap v.a x.left (unhide HX) (unhide HI).left (by omega) (by omega)).mono ?_
  rintro e w1 ⟨us1, o1, cap1, rfl, hxl, hnm, hfr⟩
  have hc1 := cnt_next hnm (unhide HOK).1 (Nat.le_refl us.length)
  have hA1 := str8_len (us := us1) (unhide HOK).1 (by omega)
  have HN1 := hide hnm
  have HX1 := hide hxl
  have HF1 := hide hfr
  have HB1 := hide (hfr.below (unhide hpast) (by simp; omega))
  have HBX1 := hide ((hfr.block w.heap.size (by simp) (by omega) (fun p q => by have := unhide HOLD p q; omega)).trans (unhide HBX))
  have HAP1 := hide (show ∀ p, o1 = some p → w.heap.size ≠ p.block from fun p q => by
    rcases hfr.row p q with ⟨r, hr, hb⟩ | hb
    · have := unhide HOLD r hr; omega
    · simp at hb; omega)
  have r1 := blkA' (unhide HBX1)
  have z1 := blk_lt' (unhide HBX1)
  have HBL1 := HB1
  clear hxl hnm hfr
  generalize hAA1 : Parl.strF 8 (nmsB us1) x.left = A1 at *
  have HA1 := hide hAA1
  clear hAA1
  go_wp2_with fail
  refine (sh_all 8 _ xb us1 o1 cap1 v.b r (unhide HX1) (((unhide HI).blw (unhide HBL1)).right _ (unhide HR)) (by omega) (by omega)).mono ?_
  rintro e w2 ⟨us2, o2, cap2, rfl, hxl, hnm, hfr⟩
  have hc2 := cnt_next hnm (unhide HO2) hc1
  have hA2 := str8_len (us := us2) (unhide HO2) (by omega)
  have HN2 := hide hnm
  have HX2 := hide hxl
  have HF2 := hide hfr
  have HBX2 := hide ((hfr.block w.heap.size z1 (by omega) (unhide HAP1)).trans (unhide HBX1))
  have r2 := blkA' (unhide HBX2)
  have z2 := blk_lt' (unhide HBX2)
  have HBL2 := hide ((unhide HBL1).trans (hfr.below (unhide HX1).past (by have := (unhide HX1).lt; omega)))
  have HAP2 := hide (show ∀ p, o2 = some p → w.heap.size ≠ p.block from fun p q => by
    rcases hfr.row p q with ⟨r, hr, hb⟩ | hb
    · rw [← hb]; exact unhide HAP1 r hr
    · omega)
  clear hxl hnm hfr r1
  generalize hAA2 : Parl.strF 8 (nmsB us2) r = A2 at *
  have HA2 := hide hAA2
  clear hAA2
  go_wp2_with fail
  go_ret
  have hnn : nmsB us2 = Parl.namesI (nmsB us) x := by rw [(unhide HF).1, ← unhide HN1]; exact unhide HN2
  refine ⟨us2, o2, cap2, ?_, unhide HX2, hnn, ((FrX.of_below ((Below.refl _ _).alloc (Nat.le_refl _) _)).trans (unhide HF1)).trans (unhide HF2)⟩
  rw [hnn, (unhide HF).2]
  rw [← unhide HN1, unhide HA1, ← unhide HN2, unhide HA2]
  show Ending.returned (Value.string (⟨A1.toArray⟩ ++ v.op ++ ⟨A2.toArray⟩)) = _
  rw [unhide HOP, ba_app, ba_app, List.append_assoc]

set_option maxHeartbeats 4000000 in
set_option maxRecDepth 100000 in
theorem shI_2 (w : World) (xb : Nat) (us : List BV) (o : Option Addr) (cap : Nat) (v : IV) (x : Parl.Itm) (h : XL w xb us o cap) (hi : ItemX xb w v x) (hw : Parl.wfI x) (hl : us.length + 20000 ≤ 1000000) (r z : Parl.Tm) (hr : x.right = some r) (hz : x.last = some z) :
    Calls Tryz.prog 93 #[.pointer (some ⟨xb, 0, none⟩), .agg #[.string v.op, .string v.sg, .int .i64 v.a.k, .string v.a.nm, .int .i64 v.a.num, .slice v.a.ao v.a.n v.a.cap, .int .i64 v.b.k, .string v.b.nm, .int .i64 v.b.num, .slice v.b.ao v.b.n v.b.cap, .int .i64 v.c.k, .string v.c.nm, .int .i64 v.c.num, .slice v.c.ao v.c.n v.c.cap]] w fun e w' => PStrI xb o us x w e w' := by
  obtain ⟨_, hs1, hs2, hs3, hs4, _⟩ := hw
  have hlt := h.lt
  have hpast := hide h.past
  have HOLD := hide (show ∀ p, o = some p → p.block < w.heap.size from fun p q => (h.own.lt p.block (by rw [q]; rfl)).2)
  have hok := hi.ok
  have hop : (v.op.toList == []) = false := by rw [hi.op]; cases hx : x.sign with
    | nil => rw [hs1.1 hx] at hr; cases hr
    | cons a b => rfl
  have hos : v.op.size ≤ 2 := by rw [← Parl.bytes_len, hi.op]; exact hs3
  have HOP := hide (ba_list hi.op)
  have hsg : (v.sg.toList == []) = false := by rw [hi.sg]; cases hx : x.op with
    | nil => rw [hs2.1 hx] at hz; cases hz
    | cons a b => rfl
  have hss : v.sg.size ≤ 2 := by rw [← Parl.bytes_len, hi.sg]; exact hs4
  have HSG := hide (ba_list hi.sg)
  have HF := hide (Parl.strI_11 (ns := nmsB us) hok hr hz)
  have HX := hide (h.below ((Below.refl _ _).alloc (Nat.le_refl _) (.cells #[.string v.op, .string v.sg, .int .i64 v.a.k, .string v.a.nm, .int .i64 v.a.num, .slice v.a.ao v.a.n v.a.cap, .int .i64 v.b.k, .string v.b.nm, .int .i64 v.b.num, .slice v.b.ao v.b.n v.b.cap, .int .i64 v.c.k, .string v.c.nm, .int .i64 v.c.num, .slice v.c.ao v.c.n v.c.cap] 173)))
  have HI := hide (hi.blw ((Below.refl _ _).alloc (by omega) (.cells #[.string v.op, .string v.sg, .int .i64 v.a.k, .string v.a.nm, .int .i64 v.a.num, .slice v.a.ao v.a.n v.a.cap, .int .i64 v.b.k, .string v.b.nm, .int .i64 v.b.num, .slice v.b.ao v.b.n v.b.cap, .int .i64 v.c.k, .string v.c.nm, .int .i64 v.c.num, .slice v.c.ao v.c.n v.c.cap] 173)))
  have HBX := hide (heap_alloc_new w (.cells #[.string v.op, .string v.sg, .int .i64 v.a.k, .string v.a.nm, .int .i64 v.a.num, .slice v.a.ao v.a.n v.a.cap, .int .i64 v.b.k, .string v.b.nm, .int .i64 v.b.num, .slice v.b.ao v.b.n v.b.cap, .int .i64 v.c.k, .string v.c.nm, .int .i64 v.c.num, .slice v.c.ao v.c.n v.c.cap] 173))
  have HOK := hide hok
  have HR := hide hr
  have HO2 := hide (hok.2.1 r hr)
  have HZ := hide hz
  have HO3 := hide (hok.2.2 z hz)
  clear h hi hs1 hs2 hs3 hs4 hok
  go_enter Tryz.func93, Tryz.ntmps93
  go_wp2_with fail
  refine (sh_all 8 _ xb us o cap v.a x.left (unhide HX) (unhide HI).left (by omega) (by omega)).mono ?_
  rintro e w1 ⟨us1, o1, cap1, rfl, hxl, hnm, hfr⟩
  have hc1 := cnt_next hnm (unhide HOK).1 (Nat.le_refl us.length)
  have hA1 := str8_len (us := us1) (unhide HOK).1 (by omega)
  have HN1 := hide hnm
  have HX1 := hide hxl
  have HF1 := hide hfr
  have HB1 := hide (hfr.below (unhide hpast) (by simp; omega))
  have HBX1 := hide ((hfr.block w.heap.size (by simp) (by omega) (fun p q => by have := unhide HOLD p q; omega)).trans (unhide HBX))
  have HAP1 := hide (show ∀ p, o1 = some p → w.heap.size ≠ p.block from fun p q => by
    rcases hfr.row p q with ⟨r, hr, hb⟩ | hb
    · have := unhide HOLD r hr; omega
    · simp at hb; omega)
  have r1 := blkA' (unhide HBX1)
  have z1 := blk_lt' (unhide HBX1)
  have HBL1 := HB1
  clear hxl hnm hfr
  generalize hAA1 : Parl.strF 8 (nmsB us1) x.left = A1 at *
  have HA1 := hide hAA1
  clear hAA1
  go_wp2_with fail
  refine (sh_all 8 _ xb us1 o1 cap1 v.b r (unhide HX1) (((unhide HI).blw (unhide HBL1)).right _ (unhide HR)) (by omega) (by omega)).mono ?_
  rintro e w2 ⟨us2, o2, cap2, rfl, hxl, hnm, hfr⟩
  have hc2 := cnt_next hnm (unhide HO2) hc1
  have hA2 := str8_len (us := us2) (unhide HO2) (by omega)
  have HN2 := hide hnm
  have HX2 := hide hxl
  have HF2 := hide hfr
  have HBX2 := hide ((hfr.block w.heap.size z1 (by omega) (unhide HAP1)).trans (unhide HBX1))
  have r2 := blkA' (unhide HBX2)
  have z2 := blk_lt' (unhide HBX2)
  have HBL2 := hide ((unhide HBL1).trans (hfr.below (unhide HX1).past (by have := (unhide HX1).lt; omega)))
  have HAP2 := hide (show ∀ p, o2 = some p → w.heap.size ≠ p.block from fun p q => by
    rcases hfr.row p q with ⟨r, hr, hb⟩ | hb
    · rw [← hb]; exact unhide HAP1 r hr
    · omega)
  clear hxl hnm hfr r1
  generalize hAA2 : Parl.strF 8 (nmsB us2) r = A2 at *
  have HA2 := hide hAA2
  clear hAA2
  go_wp2_with fail
  refine (sh_all 8 _ xb us2 o2 cap2 v.c z (unhide HX2) (((unhide HI).blw (unhide HBL2)).last _ (unhide HZ)) (by omega) (by omega)).mono ?_
  rintro e w3 ⟨us3, o3, cap3, rfl, hxl, hnm, hfr⟩
  have hc3 := cnt_next hnm (unhide HO3) hc2
  have hA3 := str8_len (us := us3) (unhide HO3) (by omega)
  have HN3 := hide hnm
  have HX3 := hide hxl
  have HF3 := hide hfr
  have HBX3 := hide ((hfr.block w.heap.size z2 (by omega) (unhide HAP2)).trans (unhide HBX2))
  have r3 := blkA' (unhide HBX3)
  have z3 := blk_lt' (unhide HBX3)
  clear hxl hnm hfr r2
  generalize hAA3 : Parl.strF 8 (nmsB us3) z = A3 at *
  have HA3 := hide hAA3
  clear hAA3
  go_wp2_with fail
  go_ret
  have hnn : nmsB us3 = Parl.namesI (nmsB us) x := by rw [(unhide HF).1, ← unhide HN1, ← unhide HN2]; exact unhide HN3
  refine ⟨us3, o3, cap3, ?_, unhide HX3, hnn, (((FrX.of_below ((Below.refl _ _).alloc (Nat.le_refl _) _)).trans (unhide HF1)).trans (unhide HF2)).trans (unhide HF3)⟩
  rw [hnn, (unhide HF).2]
  rw [← unhide HN1, unhide HA1, ← unhide HN2, unhide HA2, ← unhide HN3, unhide HA3]
  show Ending.returned (Value.string (⟨A1.toArray⟩ ++ v.op ++ ⟨A2.toArray⟩ ++ v.sg ++ ⟨A3.toArray⟩)) = _
  rw [unhide HOP, unhide HSG, ba_app, ba_app, ba_app, ba_app]
  simp only [List.append_assoc]

theorem shI_any (w : World) (xb : Nat) (us : List BV) (o : Option Addr) (cap : Nat) (v : IV) (x : Parl.Itm) (h : XL w xb us o cap) (hi : ItemX xb w v x) (hw : Parl.wfI x) (hl : us.length + 20000 ≤ 1000000) :
    Calls Tryz.prog 93 #[.pointer (some ⟨xb, 0, none⟩), .agg #[.string v.op, .string v.sg, .int .i64 v.a.k, .string v.a.nm, .int .i64 v.a.num, .slice v.a.ao v.a.n v.a.cap, .int .i64 v.b.k, .string v.b.nm, .int .i64 v.b.num, .slice v.b.ao v.b.n v.b.cap, .int .i64 v.c.k, .string v.c.nm, .int .i64 v.c.num, .slice v.c.ao v.c.n v.c.cap]] w fun e w' => PStrI xb o us x w e w' := by
  rcases hr : x.right with _ | r
  · exact shI_0 w xb us o cap v x h hi hw hl hr (hw.2.2.2.2.2 hr)
  · rcases hz : x.last with _ | z
    · exact shI_1 w xb us o cap v x h hi hw hl r hr hz
    · exact shI_2 w xb us o cap v x h hi hw hl r z hr hz
end Go.Proofs.YthfjnfcekeknlaaGreatDoor
namespace Go.Proofs.YthfjnfcekeknlaaGreatDoor
open Go.RowKit

/-- The items lie there, ahead of block xb. -/
def ItemsX (xb : Nat) (w : World) (lo : Option Addr) (n : Nat) (ys : List Parl.Itm) : Prop := n = ys.length ∧ (ys ≠ [] → ∃ (g : Nat) (vs : List IV) (cs : Array Value), lo = some ⟨g, 0, none⟩ ∧ g < xb ∧ w.heap[g]? = some (.cells cs 173 (0, 0)) ∧ cs.toList.take (vs.length * 14) = vs.flatMap ivC ∧ All2 (ItemX xb w) vs ys)
theorem ItemsX.blw {xb : Nat} {w w' : World} {lo : Option Addr} {n : Nat} {ys : List Parl.Itm} (h : ItemsX xb w lo n ys) (hb : Below xb w w') : ItemsX xb w' lo n ys :=
  ⟨h.1, fun q => by
    obtain ⟨g, vs, cs, h1, h2, h3, h4, h5⟩ := h.2 q
    exact ⟨g, vs, cs, h1, h2, (hb.block g h2).trans h3, h4, h5.imp fun _ _ q => q.blw hb⟩⟩
theorem ivC_at {us : List IV} {i : Nat} (h : i < us.length) (j : Nat) (hj : j < 14) : (us.flatMap ivC)[i * 14 + j]? = (ivC us[i])[j]? := by
  induction us generalizing i with
  | nil => simp at h
  | cons t r ih =>
    cases i with
    | zero => rw [List.flatMap_cons, List.getElem?_append_left (by simp [ivC]; omega)]; simp
    | succ i =>
      rw [List.flatMap_cons, List.getElem?_append_right (by simp [ivC]; omega)]
      simp only [show (ivC t).length = 14 from rfl]
      rw [show (i + 1) * 14 + j - 14 = i * 14 + j by omega]
      simpa using ih (by simpa using h)
/-- What 'list.items' leaves. -/
def PStrL (xb : Nat) (o : Option Addr) (us : List BV) (ys : List Parl.Itm) (w : World) (e : Ending) (w' : World) : Prop :=
  ∃ us' o' cap', e = .returned (.string ⟨(Parl.strL (nmsB us') ys).toArray⟩) ∧ XL w' xb us' o' cap' ∧ nmsB us' = Parl.namesL (nmsB us) ys ∧ FrX xb o o' w w'
def LL (w : World) (xb : Nat) (o : Option Addr) (us : List BV) (ys : List Parl.Itm) (k : Nat) (sv iv : Value) (wr : World) : Prop :=
  ∃ (j : Nat) (us' : List BV) (o' : Option Addr) (cap' : Nat), k + j = ys.length ∧ iv = .int .i64 (j : Int) ∧ sv = .string ⟨(Parl.joinC ((ys.take j).map (Parl.strI (nmsB us')))).toArray⟩ ∧ XL wr xb us' o' cap' ∧ nmsB us' = (ys.take j).foldl Parl.namesI (nmsB us) ∧ FrX xb o o' w wr
theorem cnt_nextI {us1 us2 : List BV} {x : Parl.Itm} (h : nmsB us2 = Parl.namesI (nmsB us1) x) (ho : Parl.okI x) : us2.length ≤ us1.length + 20000 := by
  obtain ⟨M, hM, hl⟩ := Parl.namesI_ext x ho (nmsB us1)
  have h1 := nms_len us2
  have h2 := nms_len us1
  rw [h, hM, List.length_append] at h1
  omega
set_option maxHeartbeats 4000000 in
set_option maxRecDepth 100000 in
theorem shL_some (w : World) (xb : Nat) (us : List BV) (o : Option Addr) (cap : Nat) (lo : Option Addr) (n cp : Nat) (ys : List Parl.Itm) (h : XL w xb us o cap) (hy : ItemsX xb w lo n ys) (hne : ys ≠ []) (hw : ∀ x ∈ ys, Parl.wfI x) (h6 : ys.length ≤ 6) (hl : us.length + 140000 ≤ 1000000) :
    Calls Tryz.prog 51 #[.pointer (some ⟨xb, 0, none⟩), .slice lo n cp] w fun e w' => PStrL xb o us ys w e w' := by
  obtain ⟨rfl, hy2⟩ := hy
  obtain ⟨g, vs, cs, rfl, hgx, hcs, htk, hall⟩ := hy2 hne
  have hvl := hall.length
  have hlt := h.lt
  have HOK := hide (show ∀ u ∈ ys, Parl.okI u from fun u hu => by
    obtain ⟨i, hi, rfl⟩ := List.getElem_of_mem hu
    exact (hall.at i (by omega) hi).ok)
  have HWF := hide hw
  have hpast := hide h.past
  have HL := hide (show LL w xb o us ys ys.length (.string ⟨#[]⟩) (.int .i64 0) w from ⟨0, us, o, cap, by omega, rfl, by simp [Parl.joinC], h, by simp, FrX.of_below (Below.refl _ _)⟩)
  have HCS := hide hcs
  have HTK := hide htk
  have HALL := hide hall
  have HVL := hide hvl
  have HL6 := hide h6
  have HUL := hide hl
  have HNE := hide hne
  clear hcs htk hall hvl hy2 h hw h6 hl hne
  go_enter Tryz.func51, Tryz.ntmps51
  go_wp2_with fail
  go_loopg [5, 6] ys.length (fun k s i wr => LL w xb o us ys k s i wr)
  case atStart => exact unhide HL
  case round =>
    clear HL
    obtain ⟨j, us1, o1, cap1, hkj, rfl, rfl, hxl, hnm, hfr⟩ := hrel
    have h6 := unhide HL6
    have hul := unhide HUL
    have HXL := hide hxl
    have HNM := hide hnm
    have HFR := hide hfr
    have hcnt : us1.length ≤ us.length + j * 20000 := by
      obtain ⟨M, hM, hl⟩ := Parl.foldI_ext (ys.take j) (fun u hu => unhide HOK u (List.mem_of_mem_take hu)) (nmsB us)
      have h1 := nms_len us1
      have h2 := nms_len us
      rw [hnm, hM, List.length_append] at h1
      have h3 := Nat.mul_le_mul_right 20000 (List.length_take_le j ys)
      omega
    have hc2 : us1.length + 20000 ≤ 1000000 := by
      have : j * 20000 ≤ 6 * 20000 := Nat.mul_le_mul_right _ (by omega)
      omega
    have HC2 := hide hc2
    have hlS : (Parl.joinC ((ys.take j).map (Parl.strI (nmsB us1)))).length ≤ 30000000 := by
      have h3 := Parl.joinC_len (c := 3000004) ((ys.take j).map (Parl.strI (nmsB us1))) (fun x hx => by
        obtain ⟨u, hu, rfl⟩ := List.mem_map.1 hx
        have hu' := List.mem_of_mem_take hu
        exact Parl.strI_len _ _ (unhide HOK u hu') (unhide HWF u hu').2.2.2.1 (unhide HWF u hu').2.2.2.2.1 (fun t ht => str8_len ht (by omega)))
      have h4 : ((ys.take j).map (Parl.strI (nmsB us1))).length ≤ 6 := by simp; omega
      have h5 := Nat.mul_le_mul_right (3000004 + 2) h4
      omega
    clear hxl hnm hfr hcnt hc2 hul
    by_cases hlt' : j < ys.length
    · have hjv : j < vs.length := by have := unhide HVL; omega
      have BW : Below xb w wr := (unhide HFR).below (unhide hpast) (by omega)
      have hcw : wr.heap[g]? = some (.cells cs 173 (0, 0)) := (BW.block g hgx).trans (unhide HCS)
      have fc : ∀ i, i < 14 → wr.cell? ⟨g, j * 14 + i, none⟩ = (ivC vs[j])[i]? := fun i hi => by
        rw [blkA' hcw, ← Array.getElem?_toList, ← ivC_at hjv i hi, ← unhide HTK, List.getElem?_take_of_lt (by omega)]
      have f0 := fc 0 (by omega)
      have f1 := fc 1 (by omega)
      have f2 := fc 2 (by omega)
      have f3 := fc 3 (by omega)
      have f4 := fc 4 (by omega)
      have f5 := fc 5 (by omega)
      have f6 := fc 6 (by omega)
      have f7 := fc 7 (by omega)
      have f8 := fc 8 (by omega)
      have f9 := fc 9 (by omega)
      have f10 := fc 10 (by omega)
      have f11 := fc 11 (by omega)
      have f12 := fc 12 (by omega)
      have f13 := fc 13 (by omega)
      simp [ivC] at f0 f1 f2 f3 f4 f5 f6 f7 f8 f9 f10 f11 f12 f13
      have hit := ((unhide HALL).at j hjv hlt').blw BW
      have IC := hide (shI_any wr xb us1 o1 cap1 vs[j] ys[j] (unhide HXL) hit (unhide HWF _ (List.getElem_mem hlt')) (unhide HC2))
      have hgw : g < wr.heap.size := blk_lt' hcw
      have i0 : (0 : Int) ≤ (j : Int) := by omega
      have i1 : (j : Int) < (ys.length : Int) := by omega
      have HKJ := hide hkj
      have HLT := hide hlt'
      have HJV := hide hjv
      have hj6 : j ≤ 6 := by omega
      clear hit fc hcw BW hkj h6
      generalize hSS : Parl.joinC ((ys.take j).map (Parl.strI (nmsB us1))) = S at *
      have HSS := hide hSS
      clear hSS
      by_cases hj0 : j = 0
      · subst hj0
        go_wp2_with fail
        refine (unhide IC).mono ?_
        rintro e w2 ⟨us2, o2, cap2, rfl, hxl2, hnm2, hfr2⟩
        have hA : (Parl.strI (nmsB us2) ys[0]).length ≤ 3000004 := Parl.strI_len _ _ (unhide HOK _ (List.getElem_mem hlt')) (unhide HWF _ (List.getElem_mem hlt')).2.2.2.1 (unhide HWF _ (List.getElem_mem hlt')).2.2.2.2.1 (fun t ht => str8_len ht (by
          have h1 := cnt_nextI hnm2 (unhide HOK _ (List.getElem_mem hlt'))
          have h3 := unhide HC2
          omega))
        have HST := hide (Parl.ll_step hlt' (unhide HOK) (unhide HNM) hnm2)
        have HXL2 := hide hxl2
        have HFR2 := hide ((unhide HFR).trans hfr2)
        clear hxl2 hnm2 hfr2
        generalize hAA : Parl.strI (nmsB us2) ys[0] = A at *
        clear hAA
        go_wp2_with fail
        go_roundg (gk - 1)
        case measure => have := unhide HKJ; have := unhide HLT; omega
        case rel => exact ⟨0 + 1, us2, o2, cap2, by have := unhide HKJ; have := unhide HLT; omega, by go_num, by rw [(unhide HST).2, ← unhide HSS]; exact congrArg Value.string (ll_str0 _ _ (by simp)), unhide HXL2, (unhide HST).1, unhide HFR2⟩
      · have hj0' : decide (0 < (j : Int)) = true := by simp; omega
        go_wp2_with fail
        refine (unhide IC).mono ?_
        rintro e w2 ⟨us2, o2, cap2, rfl, hxl2, hnm2, hfr2⟩
        have hA : (Parl.strI (nmsB us2) ys[j]).length ≤ 3000004 := Parl.strI_len _ _ (unhide HOK _ (List.getElem_mem hlt')) (unhide HWF _ (List.getElem_mem hlt')).2.2.2.1 (unhide HWF _ (List.getElem_mem hlt')).2.2.2.2.1 (fun t ht => str8_len ht (by
          have h1 := cnt_nextI hnm2 (unhide HOK _ (List.getElem_mem hlt'))
          have h3 := unhide HC2
          omega))
        have HST := hide (Parl.ll_step hlt' (unhide HOK) (unhide HNM) hnm2)
        have HXL2 := hide hxl2
        have HFR2 := hide ((unhide HFR).trans hfr2)
        clear hxl2 hnm2 hfr2
        generalize hAA : Parl.strI (nmsB us2) ys[j] = A at *
        clear hAA
        go_wp2_with fail
        go_roundg (gk - 1)
        case measure => have := unhide HKJ; have := unhide HLT; omega
        case rel => exact ⟨j + 1, us2, o2, cap2, by have := unhide HKJ; have := unhide HLT; omega, by go_num, by rw [(unhide HST).2, ← unhide HSS]; exact congrArg Value.string (ll_str1 _ _ (fun q => by have h1 := unhide HLT; rw [List.map_eq_nil_iff, List.take_eq_nil_iff] at q; rcases q with q | q; omega; rw [q] at h1; simp at h1)), unhide HXL2, (unhide HST).1, unhide HFR2⟩
    · obtain rfl : j = ys.length := by omega
      have HNN := hide (show nmsB us1 = Parl.namesL (nmsB us) ys by unfold Parl.namesL; rw [unhide HNM, List.take_length])
      have HEND := hide (show Parl.strL (nmsB us1) ys = Parl.joinC ((ys.take ys.length).map (Parl.strI (nmsB us1))) by unfold Parl.strL; rw [List.take_length])
      generalize hSS : Parl.joinC ((ys.take ys.length).map (Parl.strI (nmsB us1))) = S at *
      clear hSS hkj h6
      go_wp2_with fail
      go_ret
      refine ⟨us1, o1, cap1, ?_, unhide HXL, unhide HNN, unhide HFR⟩
      rw [unhide HEND]
      rfl

set_option maxHeartbeats 1000000 in
theorem shL_none (w : World) (xb : Nat) (us : List BV) (o : Option Addr) (cap : Nat) (lo : Option Addr) (cp : Nat) (h : XL w xb us o cap) :
    Calls Tryz.prog 51 #[.pointer (some ⟨xb, 0, none⟩), .slice lo 0 cp] w fun e w' => PStrL xb o us [] w e w' := by
  have H := hide h
  clear h
  go_enter Tryz.func51, Tryz.ntmps51
  go_wp2_with fail
  refine wp_loop_rounds 1 ?_
  rw [rounds_succ]
  go_wp2_with fail
  go_ret
  exact ⟨us, o, cap, rfl, unhide H, rfl, FrX.of_below (Below.refl _ _)⟩
theorem shL_any (w : World) (xb : Nat) (us : List BV) (o : Option Addr) (cap : Nat) (lo : Option Addr) (n cp : Nat) (ys : List Parl.Itm) (h : XL w xb us o cap) (hy : ItemsX xb w lo n ys) (hw : ∀ x ∈ ys, Parl.wfI x) (h6 : ys.length ≤ 6) (hl : us.length + 140000 ≤ 1000000) :
    Calls Tryz.prog 51 #[.pointer (some ⟨xb, 0, none⟩), .slice lo n cp] w fun e w' => PStrL xb o us ys w e w' := by
  by_cases hne : ys = []
  · subst hne
    obtain ⟨rfl, _⟩ := hy
    exact shL_none w xb us o cap lo cp h
  · exact shL_some w xb us o cap lo n cp ys h hy hne hw h6 hl
end Go.Proofs.YthfjnfcekeknlaaGreatDoor
