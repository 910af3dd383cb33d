import Derived.Test.YthfjnfcekeknlaaGreatDoorU01
import Derived.Deep.QuietTactic
import Derived.BigQuiet
namespace Go.Proofs.YthfjnfcekeknlaaGreatDoor
open Go.RowKit

def PTermB (rb tb cap : Nat) (s : ByteArray) (L : List Parl.Tok) (p0 : Int) (r : Parl.Res Parl.Tm) (w : World) (e : Ending) (w' : World) : Prop := match r with
  | .inl (er, pos) => ∃ a : BV, e = .returned (.agg #[.int .i64 a.k, .string a.nm, .int .i64 a.num, .slice a.ao a.n a.cap]) ∧ EB w' rb tb cap s L (er : Int) (pos : Int) ∧ KB [rb] w w'
  | .inr (t, l1) => ∃ (nm : ByteArray) (num : Int) (ao : Option Addr) (cp j : Nat), e = .returned (.agg #[.int .i64 (bk t.kind), .string nm, .int .i64 num, .slice ao t.args.length cp]) ∧ (t.kind ≠ 4 → nm = t.text) ∧ L.drop j = l1 ∧ SB w' rb tb cap s L j 0 p0 ∧ KB [rb] w w' ∧ VB (fun g => w.heap.size ≤ g) w' ⟨bk t.kind, nm, num, ao, t.args.length, cp⟩ t
def PErrB (rb tb cap : Nat) (s : ByteArray) (L : List Parl.Tok) (e0 p0 : Int) (w : World) (e : Ending) (w' : World) : Prop :=
  ∃ a : BV, e = .returned (.agg #[.int .i64 a.k, .string a.nm, .int .i64 a.num, .slice a.ao a.n a.cap]) ∧ EB w' rb tb cap s L e0 p0 ∧ KB [rb] w w'

theorem bad_any (w : World) (rb tb cap : Nat) (s : ByteArray) (L : List Parl.Tok) (i : Nat) (e0 p0 er : Int) (h : SB w rb tb cap s L i e0 p0) :
    Calls Tryz.prog 148 #[.pointer (some ⟨rb, 0, none⟩), .int .i64 er] w fun e w' => e = .returned (.tuple #[]) ∧ SB w' rb tb cap s L i (if e0 = 0 then er else e0) (if e0 = 0 then ((Parl.hd (L.drop i)).pos : Int) else p0) ∧ KB [rb] w w' := by
  by_cases he : e0 = 0
  · subst he
    rw [if_pos rfl, if_pos rfl]
    exact bad_first w rb tb cap s L i p0 er h
  · rw [if_neg he, if_neg he]
    refine (bad_later w rb tb cap s L i e0 p0 er h he).mono ?_
    rintro e w' ⟨rfl, rfl⟩
    exact ⟨rfl, h, KB.refl _ _⟩
theorem mix_ne {e0 er : Int} (h : er ≠ 0) : (if e0 = 0 then er else e0) ≠ 0 := by split <;> assumption

theorem blkA' {w : World} {b : Nat} {cs : Array Value} {T : TypeId} (h : w.heap[b]? = some (.cells cs T (0, 0))) : ∀ i, w.cell? ⟨b, i, none⟩ = cs[i]? := fun i => by simp [World.cell?, h]
theorem blkX' {w : World} {b : Nat} {cs : Array Value} {T : TypeId} (h : w.heap[b]? = some (.cells cs T (0, 0))) : ∀ i, w.frozen? ⟨b, i, none⟩ = false := fun i => by simp [World.frozen?, h]
theorem blk_kb {w w' : World} {b : Nat} {X : List Nat} {x : Obj} (hk : KB X w w') (h : w.heap[b]? = some x) (hb : b ∉ X) : w'.heap[b]? = some x := (hk.block b (Array.getElem?_eq_some_iff.1 h).1 hb).trans h
theorem blk_lt' {w : World} {b : Nat} {x : Obj} (h : w.heap[b]? = some x) : b < w.heap.size := (Array.getElem?_eq_some_iff.1 h).1
theorem blk_alloc' {w : World} {b : Nat} {x : Obj} (h : w.heap[b]? = some x) (o : Obj) : (w.alloc o).heap[b]? = some x := by
  rw [Below.heap_alloc _ _ _ (Array.getElem?_eq_some_iff.1 h).1]; exact h

def boxRB : Obj := .cells #[.int .i64 0, .string ⟨#[]⟩, .int .i64 0, .slice none 0 0] 109
def boxTB (t : Parl.Tok) : Obj := .cells #[.int .i64 (bk t.kind), .string t.text, .int .i64 (t.pos : Int)] 168
theorem term_boxes {w : World} {rb tb cap : Nat} {s : ByteArray} {L : List Parl.Tok} {i : Nat} {e p : Int} (t : Parl.Tok) (h : SB w rb tb cap s L i e p) :
    SB ((w.alloc boxRB).alloc (boxTB t)).drew rb tb cap s L i e p ∧ KB [rb] w ((w.alloc boxRB).alloc (boxTB t)).drew ∧
    ((w.alloc boxRB).alloc (boxTB t)).drew.heap[w.heap.size]? = some (.cells #[.int .i64 0, .string ⟨#[]⟩, .int .i64 0, .slice none 0 0] 109 (0, 0)) ∧
    ((w.alloc boxRB).alloc (boxTB t)).drew.heap[w.heap.size + 1]? = some (.cells #[.int .i64 (bk t.kind), .string t.text, .int .i64 (t.pos : Int)] 168 (0, 0)) := by
  refine ⟨h.below (((Below.refl _ _).alloc (Nat.le_refl _) _).alloc (by simp) _).drew, (((KB.refl [rb] w).alloc _).alloc _).drew, ?_, ?_⟩
  · show ((w.alloc boxRB).alloc (boxTB t)).heap[w.heap.size]? = _
    exact blk_alloc' (heap_alloc_new w _) _
  · show ((w.alloc boxRB).alloc (boxTB t)).heap[w.heap.size + 1]? = _
    have := heap_alloc_new (w.alloc boxRB) (boxTB t)
    rw [World.size_alloc] at this
    exact this
theorem KB.onlyNew {X : List Nat} {u w : World} (h : KB X u w) {b : Nat} (hb : u.heap.size ≤ b) (v0 v1 v2 v3 : Value) : KB X u ((((w.setCell ⟨b, 0, none⟩ v0).setCell ⟨b, 1, none⟩ v1).setCell ⟨b, 2, none⟩ v2).setCell ⟨b, 3, none⟩ v3) :=
  (((h.setNew hb _).setNew hb _).setNew hb _).setNew hb _
theorem SB.box {w : World} {rb tb cap : Nat} {s : ByteArray} {L : List Parl.Tok} {i : Nat} {e p : Int} (h : SB w rb tb cap s L i e p) {b : Nat} (h1 : b ≠ rb) (h2 : b ≠ tb) (v0 v1 v2 v3 : Value) : SB ((((w.setCell ⟨b, 0, none⟩ v0).setCell ⟨b, 1, none⟩ v1).setCell ⟨b, 2, none⟩ v2).setCell ⟨b, 3, none⟩ v3) rb tb cap s L i e p :=
  h.kb (X := [b]) ((((((KB.refl [b] w).setIn (by simp) _).setIn (by simp) _).setIn (by simp) _).setIn (by simp) _)) (by simpa using Ne.symm h1) (by simpa using Ne.symm h2)

set_option maxHeartbeats 4000000 in
set_option maxRecDepth 100000 in
theorem trm_nobegin (w : World) (rb tb cap : Nat) (s : ByteArray) (L : List Parl.Tok) (i : Nat) (e0 p0 : Int) (d : Nat) (h : SB w rb tb cap s L i e0 p0) (hn : ¬ ((Parl.hd (L.drop i)).kind = 2 ∨ (Parl.hd (L.drop i)).kind = 3 ∨ (Parl.hd (L.drop i)).kind = 4)) :
    Calls Tryz.prog 149 #[.pointer (some ⟨rb, 0, none⟩), .int .i64 (d : Int)] w fun e w' => PErrB rb tb cap s L (if e0 = 0 then 2 else e0) (if e0 = 0 then ((Parl.hd (L.drop i)).pos : Int) else p0) w e w' := by
  obtain ⟨hS, hK, hB0, hB1⟩ := term_boxes (Parl.hd (L.drop i)) h
  unfold boxRB boxTB at hS hK hB0 hB1
  have HS := hide hS
  have HK := hide hK
  have HB0 := hide hB0
  have HB1 := hide hB1
  have hlt := h.hlt
  have htl := h.tblt
  have hk5 := h.kind
  have hz := h.tsize
  clear hS hK hB0 hB1
  obtain ⟨k0, k1, k2⟩ := h.tok
  obtain ⟨c0, c1, c2, c3, f1, f2, f3, own, ne, lt, chain, few, kinds, hlt'⟩ := h
  clear own chain kinds f1 f2 f3 c2 c3
  have BAD := hide (fun W (hW : SB W rb tb cap s L i e0 p0) => bad_any W rb tb cap s L i e0 p0 2 hW)
  have HE := hide (mix_ne (e0 := e0) (er := 2) (by omega))
  generalize (if e0 = 0 then (2 : Int) else e0) = e1 at BAD HE ⊢
  generalize (if e0 = 0 then ((Parl.hd (L.drop i)).pos : Int) else p0) = p1 at BAD ⊢
  have b1 : (bk (Parl.hd (L.drop i)).kind != 1) = true := by generalize (Parl.hd (L.drop i)).kind = k at *; rcases (show k = 0 ∨ k = 1 ∨ k = 5 by omega) with rfl | rfl | rfl <;> rfl
  have b2 : (bk (Parl.hd (L.drop i)).kind != 2) = true := by generalize (Parl.hd (L.drop i)).kind = k at *; rcases (show k = 0 ∨ k = 1 ∨ k = 5 by omega) with rfl | rfl | rfl <;> rfl
  have b3 : (bk (Parl.hd (L.drop i)).kind != 3) = true := by generalize (Parl.hd (L.drop i)).kind = k at *; rcases (show k = 0 ∨ k = 1 ∨ k = 5 by omega) with rfl | rfl | rfl <;> rfl
  have b4 : (bk (Parl.hd (L.drop i)).kind == 3) = false := by generalize (Parl.hd (L.drop i)).kind = k at *; rcases (show k = 0 ∨ k = 1 ∨ k = 5 by omega) with rfl | rfl | rfl <;> rfl
  clear hn hk5
  generalize bk (Parl.hd (L.drop i)).kind = q at *
  go_enter Tryz.func149, Tryz.ntmps149
  go_wp2_with fail
  go_big_region
  go_wp2_with fail
  refine (unhide BAD _ (unhide HS)).mono ?_
  rintro e w1 ⟨rfl, hs1, hk1⟩
  have HS1 := hide hs1
  have HK1 := hide ((unhide HK).trans hk1)
  have HB01 := hide (blk_kb hk1 (unhide HB0) (by simp; omega))
  have HB11 := hide (blk_kb hk1 (unhide HB1) (by simp; omega))
  clear hs1 hk1
  go_wp2_with fail
  refine (pass_any _ rb tb cap s L e1 p1 ⟨i, unhide HS1⟩).mono ?_
  rintro e w2 ⟨rfl, ⟨j, hs2⟩, hk2⟩
  have HS2 := hide hs2
  have HK2 := hide ((unhide HK1).trans hk2)
  have hb0 := blk_kb hk2 (unhide HB01) (by simp; omega)
  have hb1 := blk_kb hk2 (unhide HB11) (by simp; omega)
  have hz0 : w.heap.size < w2.heap.size := blk_lt' hb0
  have hz1 : w.heap.size + 1 < w2.heap.size := blk_lt' hb1
  have r := blkA' hb0
  have x := blkX' hb0
  have y := blkA' hb1
  clear hs2 hk2 hb0 hb1 k0 k1 k2 c0 c1
  go_wp2_with fail
  refine (is_any _ rb tb cap s L j e1 p1 _ ((unhide HS2).below ((Below.refl _ _).alloc (Nat.le_refl _) _))).mono ?_
  rintro e w3 ⟨rfl, n, rfl⟩
  go_wp2_with fail
  refine bodyPost_ret (v := .agg #[.int .i64 q, .string (Parl.hd (L.drop i)).text, .int .i64 0, .slice none 0 0]) (by simp [results, Tryz.results149, go_sem, hz0, r]) rfl ?_
  exact ⟨⟨q, (Parl.hd (L.drop i)).text, 0, none, 0, 0⟩, rfl, ⟨j, SB.box (((unhide HS2).below ((Below.refl _ _).alloc (Nat.le_refl _) _)).draws n) (by omega) (by omega) _ _ _ _⟩, (((unhide HK2).alloc _).drewN n).onlyNew (Nat.le_refl _) _ _ _ _⟩

end Go.Proofs.YthfjnfcekeknlaaGreatDoor
namespace Go.Proofs.YthfjnfcekeknlaaGreatDoor
open Go.RowKit

set_option maxHeartbeats 4000000 in
set_option maxRecDepth 100000 in
theorem trm_err_var (w : World) (rb tb cap : Nat) (s : ByteArray) (L : List Parl.Tok) (i : Nat) (e1 p1 : Int) (d : Nat) (h : SB w rb tb cap s L i e1 p1) (hkk : (Parl.hd (L.drop i)).kind = 3) (hd8 : d ≤ 8) (he : e1 ≠ 0) :
    Calls Tryz.prog 149 #[.pointer (some ⟨rb, 0, none⟩), .int .i64 (d : Int)] w fun e w' => PErrB rb tb cap s L e1 p1 w e w' := by
  obtain ⟨hS, hK, hB0, hB1⟩ := term_boxes (Parl.hd (L.drop i)) h
  unfold boxRB boxTB at hS hK hB0 hB1
  have HS := hide hS
  have HK := hide hK
  have HB0 := hide hB0
  have HB1 := hide hB1
  have hlt := h.hlt
  have htl := h.tblt
  have hk5 := h.kind
  have hz := h.tsize
  clear hS hK hB0 hB1
  obtain ⟨k0, k1, k2⟩ := h.tok
  obtain ⟨c0, c1, c2, c3, f1, f2, f3, own, ne, lt, chain, few, kinds, hlt'⟩ := h
  clear own chain kinds f1 f2 f3 c2 c3
  have hq : bk (Parl.hd (L.drop i)).kind = 2 := by rw [hkk]; rfl
  rw [hq] at k0 HB1 HS HK HB0
  clear hkk hk5 hq
  have HE := hide he
  clear he
  go_enter Tryz.func149, Tryz.ntmps149
  go_wp2_with fail
  go_big_region
  go_wp2_with fail
  refine (pass_any _ rb tb cap s L e1 p1 ⟨i, unhide HS⟩).mono ?_
  rintro e w2 ⟨rfl, ⟨j, hs2⟩, hk2⟩
  have HS2 := hide hs2
  have HK2 := hide ((unhide HK).trans hk2)
  have hb0 := blk_kb hk2 (unhide HB0) (by simp; omega)
  have hb1 := blk_kb hk2 (unhide HB1) (by simp; omega)
  have hz0 : w.heap.size < w2.heap.size := blk_lt' hb0
  have hz1 : w.heap.size + 1 < w2.heap.size := blk_lt' hb1
  have r := blkA' hb0
  have x := blkX' hb0
  have y := blkA' hb1
  clear hs2 hk2 hb0 hb1 k0 k1 k2 c0 c1
  go_wp2_with fail
  refine (is_any _ rb tb cap s L j e1 p1 _ ((unhide HS2).below ((Below.refl _ _).alloc (Nat.le_refl _) _))).mono ?_
  rintro e w3 ⟨rfl, n, rfl⟩
  go_wp2_with fail
  refine bodyPost_ret (v := .agg #[.int .i64 2, .string (Parl.hd (L.drop i)).text, .int .i64 0, .slice none 0 0]) (by simp [results, Tryz.results149, go_sem, hz0, r]) rfl ?_
  exact ⟨⟨2, (Parl.hd (L.drop i)).text, 0, none, 0, 0⟩, rfl, ⟨j, SB.box (((unhide HS2).below ((Below.refl _ _).alloc (Nat.le_refl _) _)).draws n) (by omega) (by omega) _ _ _ _⟩, (((unhide HK2).alloc _).drewN n).onlyNew (Nat.le_refl _) _ _ _ _⟩

set_option maxHeartbeats 4000000 in
set_option maxRecDepth 100000 in
theorem trm_err_num (w : World) (rb tb cap : Nat) (s : ByteArray) (L : List Parl.Tok) (i : Nat) (e1 p1 : Int) (d : Nat) (h : SB w rb tb cap s L i e1 p1) (hkk : (Parl.hd (L.drop i)).kind = 4) (hd8 : d ≤ 8) (h6 : (Parl.hd (L.drop i)).text.size ≤ 6) (he : e1 ≠ 0) :
    Calls Tryz.prog 149 #[.pointer (some ⟨rb, 0, none⟩), .int .i64 (d : Int)] w fun e w' => PErrB rb tb cap s L e1 p1 w e w' := by
  obtain ⟨hS, hK, hB0, hB1⟩ := term_boxes (Parl.hd (L.drop i)) h
  unfold boxRB boxTB at hS hK hB0 hB1
  have HS := hide hS
  have HK := hide hK
  have HB0 := hide hB0
  have HB1 := hide hB1
  have hlt := h.hlt
  have htl := h.tblt
  have hk5 := h.kind
  have hz := h.tsize
  clear hS hK hB0 hB1
  obtain ⟨k0, k1, k2⟩ := h.tok
  obtain ⟨c0, c1, c2, c3, f1, f2, f3, own, ne, lt, chain, few, kinds, hlt'⟩ := h
  clear own chain kinds f1 f2 f3 c2 c3
  have hq : bk (Parl.hd (L.drop i)).kind = 3 := by rw [hkk]; rfl
  rw [hq] at k0 HB1 HS HK HB0
  clear hkk hk5 hq
  have HE := hide he
  clear he
  go_enter Tryz.func149, Tryz.ntmps149
  go_wp2_with fail
  go_big_region
  go_wp2_with fail
  refine (pass_any _ rb tb cap s L e1 p1 ⟨i, unhide HS⟩).mono ?_
  rintro e w2 ⟨rfl, ⟨j, hs2⟩, hk2⟩
  have HS2 := hide hs2
  have HK2 := hide ((unhide HK).trans hk2)
  have hb0 := blk_kb hk2 (unhide HB0) (by simp; omega)
  have hb1 := blk_kb hk2 (unhide HB1) (by simp; omega)
  have hz0 : w.heap.size < w2.heap.size := blk_lt' hb0
  have hz1 : w.heap.size + 1 < w2.heap.size := blk_lt' hb1
  have r := blkA' hb0
  have x := blkX' hb0
  have y := blkA' hb1
  clear hs2 hk2 hb0 hb1 k0 k1 k2 c0 c1
  go_wp2_with fail
  refine (number_any _ _ hz).mono ?_
  rintro e w3 ⟨⟨n, rfl⟩, rfl⟩
  go_wp2_with fail
  refine bodyPost_ret (v := .agg #[.int .i64 3, .string ⟨#[]⟩, .int .i64 n, .slice none 0 0]) (by simp [results, Tryz.results149, go_sem, hz0, r]) rfl ?_
  exact ⟨⟨3, ⟨#[]⟩, n, none, 0, 0⟩, rfl, ⟨j, (SB.box (unhide HS2) (by omega) (by omega) _ _ _ _).below ((Below.refl _ _).alloc (Nat.le_refl _) _)⟩, ((unhide HK2).onlyNew (Nat.le_refl _) _ _ _ _).alloc _⟩

set_option maxHeartbeats 4000000 in
set_option maxRecDepth 100000 in
theorem trm_err_name (w : World) (rb tb cap : Nat) (s : ByteArray) (L : List Parl.Tok) (i : Nat) (e1 p1 : Int) (d : Nat) (h : SB w rb tb cap s L i e1 p1) (hkk : (Parl.hd (L.drop i)).kind = 2) (hd8 : d ≤ 8) (he : e1 ≠ 0) :
    Calls Tryz.prog 149 #[.pointer (some ⟨rb, 0, none⟩), .int .i64 (d : Int)] w fun e w' => PErrB rb tb cap s L e1 p1 w e w' := by
  obtain ⟨hS, hK, hB0, hB1⟩ := term_boxes (Parl.hd (L.drop i)) h
  unfold boxRB boxTB at hS hK hB0 hB1
  have HS := hide hS
  have HK := hide hK
  have HB0 := hide hB0
  have HB1 := hide hB1
  have hlt := h.hlt
  have htl := h.tblt
  have hk5 := h.kind
  have hz := h.tsize
  clear hS hK hB0 hB1
  obtain ⟨k0, k1, k2⟩ := h.tok
  obtain ⟨c0, c1, c2, c3, f1, f2, f3, own, ne, lt, chain, few, kinds, hlt'⟩ := h
  clear own chain kinds f1 f2 f3 c2 c3
  have hq : bk (Parl.hd (L.drop i)).kind = 1 := by rw [hkk]; rfl
  rw [hq] at k0 HB1 HS HK HB0
  clear hkk hk5 hq
  have HE := hide he
  clear he
  go_enter Tryz.func149, Tryz.ntmps149
  go_wp2_with fail
  go_big_region
  go_wp2_with fail
  refine (pass_any _ rb tb cap s L e1 p1 ⟨i, unhide HS⟩).mono ?_
  rintro e w2 ⟨rfl, ⟨j, hs2⟩, hk2⟩
  have HS2 := hide hs2
  have HK2 := hide ((unhide HK).trans hk2)
  have hb0 := blk_kb hk2 (unhide HB0) (by simp; omega)
  have hb1 := blk_kb hk2 (unhide HB1) (by simp; omega)
  have hz0 : w.heap.size < w2.heap.size := blk_lt' hb0
  have hz1 : w.heap.size + 1 < w2.heap.size := blk_lt' hb1
  have r := blkA' hb0
  have x := blkX' hb0
  have y := blkA' hb1
  clear hs2 hk2 hb0 hb1 k0 k1 k2 c0 c1
  go_wp2_with fail
  have d2 : ∀ o, (w2.alloc o).cell? ⟨rb, 2, none⟩ = some (.int .i64 e1) := fun o => ((unhide HS2).below ((Below.refl _ _).alloc (Nat.le_refl _) o)).c2
  have he1 : (e1 != 0) = true := by simpa using unhide HE
  refine (is_any _ rb tb cap s L j e1 p1 _ ((unhide HS2).below ((Below.refl _ _).alloc (Nat.le_refl _) _))).mono ?_
  rintro e w3 ⟨rfl, n, rfl⟩
  generalize Parl.sees (L.drop j) _ = bb
  cases bb
  all_goals
    go_wp2_with fail
    refine bodyPost_ret (v := .agg #[.int .i64 1, .string (Parl.hd (L.drop i)).text, .int .i64 0, .slice none 0 0]) (by simp [results, Tryz.results149, go_sem, hz0, r]) rfl ?_
    exact ⟨⟨1, (Parl.hd (L.drop i)).text, 0, none, 0, 0⟩, rfl, ⟨j, SB.box (((unhide HS2).below ((Below.refl _ _).alloc (Nat.le_refl _) _)).draws n) (by omega) (by omega) _ _ _ _⟩, (((unhide HK2).alloc _).drewN n).onlyNew (Nat.le_refl _) _ _ _ _⟩

end Go.Proofs.YthfjnfcekeknlaaGreatDoor
namespace Go.Proofs.YthfjnfcekeknlaaGreatDoor
open Go.RowKit

set_option maxHeartbeats 4000000 in
set_option maxRecDepth 100000 in
theorem trm_deep_var (w : World) (rb tb cap : Nat) (s : ByteArray) (L : List Parl.Tok) (i : Nat) (e0 p0 : Int) (d : Nat) (h : SB w rb tb cap s L i e0 p0) (hkk : (Parl.hd (L.drop i)).kind = 3) (hb : 8 < d) :
    Calls Tryz.prog 149 #[.pointer (some ⟨rb, 0, none⟩), .int .i64 (d : Int)] w fun e w' => PErrB rb tb cap s L (if e0 = 0 then 3 else e0) (if e0 = 0 then ((Parl.hd (L.drop i)).pos : Int) else p0) w e w' := by
  obtain ⟨hS, hK, hB0, hB1⟩ := term_boxes (Parl.hd (L.drop i)) h
  unfold boxRB boxTB at hS hK hB0 hB1
  have HS := hide hS
  have HK := hide hK
  have HB0 := hide hB0
  have HB1 := hide hB1
  have hlt := h.hlt
  have htl := h.tblt
  have hk5 := h.kind
  have hz := h.tsize
  clear hS hK hB0 hB1
  obtain ⟨k0, k1, k2⟩ := h.tok
  obtain ⟨c0, c1, c2, c3, f1, f2, f3, own, ne, lt, chain, few, kinds, hlt'⟩ := h
  clear own chain kinds f1 f2 f3 c2 c3
  have BAD := hide (fun W (hW : SB W rb tb cap s L i e0 p0) => bad_any W rb tb cap s L i e0 p0 3 hW)
  have HE := hide (mix_ne (e0 := e0) (er := 3) (by omega))
  generalize (if e0 = 0 then (3 : Int) else e0) = e1 at BAD HE ⊢
  generalize (if e0 = 0 then ((Parl.hd (L.drop i)).pos : Int) else p0) = p1 at BAD ⊢
  have hq : bk (Parl.hd (L.drop i)).kind = 2 := by rw [hkk]; rfl
  rw [hq] at k0 HB1 HS HK HB0
  clear hkk hk5 hq
  go_enter Tryz.func149, Tryz.ntmps149
  go_wp2_with fail
  go_big_region
  go_wp2_with fail
  refine (unhide BAD _ (unhide HS)).mono ?_
  rintro e w1 ⟨rfl, hs1, hk1⟩
  have HS1 := hide hs1
  have HK1 := hide ((unhide HK).trans hk1)
  have HB01 := hide (blk_kb hk1 (unhide HB0) (by simp; omega))
  have HB11 := hide (blk_kb hk1 (unhide HB1) (by simp; omega))
  clear hs1 hk1
  go_wp2_with fail
  refine (pass_any _ rb tb cap s L e1 p1 ⟨i, unhide HS1⟩).mono ?_
  rintro e w2 ⟨rfl, ⟨j, hs2⟩, hk2⟩
  have HS2 := hide hs2
  have HK2 := hide ((unhide HK1).trans hk2)
  have hb0 := blk_kb hk2 (unhide HB01) (by simp; omega)
  have hb1 := blk_kb hk2 (unhide HB11) (by simp; omega)
  have hz0 : w.heap.size < w2.heap.size := blk_lt' hb0
  have hz1 : w.heap.size + 1 < w2.heap.size := blk_lt' hb1
  have r := blkA' hb0
  have x := blkX' hb0
  have y := blkA' hb1
  clear hs2 hk2 hb0 hb1 k0 k1 k2 c0 c1
  go_wp2_with fail
  refine (is_any _ rb tb cap s L j e1 p1 _ ((unhide HS2).below ((Below.refl _ _).alloc (Nat.le_refl _) _))).mono ?_
  rintro e w3 ⟨rfl, n, rfl⟩
  go_wp2_with fail
  refine bodyPost_ret (v := .agg #[.int .i64 2, .string (Parl.hd (L.drop i)).text, .int .i64 0, .slice none 0 0]) (by simp [results, Tryz.results149, go_sem, hz0, r]) rfl ?_
  exact ⟨⟨2, (Parl.hd (L.drop i)).text, 0, none, 0, 0⟩, rfl, ⟨j, SB.box (((unhide HS2).below ((Below.refl _ _).alloc (Nat.le_refl _) _)).draws n) (by omega) (by omega) _ _ _ _⟩, (((unhide HK2).alloc _).drewN n).onlyNew (Nat.le_refl _) _ _ _ _⟩

set_option maxHeartbeats 4000000 in
set_option maxRecDepth 100000 in
theorem trm_deep_name (w : World) (rb tb cap : Nat) (s : ByteArray) (L : List Parl.Tok) (i : Nat) (e0 p0 : Int) (d : Nat) (h : SB w rb tb cap s L i e0 p0) (hkk : (Parl.hd (L.drop i)).kind = 2) (hb : 8 < d) :
    Calls Tryz.prog 149 #[.pointer (some ⟨rb, 0, none⟩), .int .i64 (d : Int)] w fun e w' => PErrB rb tb cap s L (if e0 = 0 then 3 else e0) (if e0 = 0 then ((Parl.hd (L.drop i)).pos : Int) else p0) w e w' := by
  obtain ⟨hS, hK, hB0, hB1⟩ := term_boxes (Parl.hd (L.drop i)) h
  unfold boxRB boxTB at hS hK hB0 hB1
  have HS := hide hS
  have HK := hide hK
  have HB0 := hide hB0
  have HB1 := hide hB1
  have hlt := h.hlt
  have htl := h.tblt
  have hk5 := h.kind
  have hz := h.tsize
  clear hS hK hB0 hB1
  obtain ⟨k0, k1, k2⟩ := h.tok
  obtain ⟨c0, c1, c2, c3, f1, f2, f3, own, ne, lt, chain, few, kinds, hlt'⟩ := h
  clear own chain kinds f1 f2 f3 c2 c3
  have BAD := hide (fun W (hW : SB W rb tb cap s L i e0 p0) => bad_any W rb tb cap s L i e0 p0 3 hW)
  have HE := hide (mix_ne (e0 := e0) (er := 3) (by omega))
  generalize (if e0 = 0 then (3 : Int) else e0) = e1 at BAD HE ⊢
  generalize (if e0 = 0 then ((Parl.hd (L.drop i)).pos : Int) else p0) = p1 at BAD ⊢
  have hq : bk (Parl.hd (L.drop i)).kind = 1 := by rw [hkk]; rfl
  rw [hq] at k0 HB1 HS HK HB0
  clear hkk hk5 hq
  go_enter Tryz.func149, Tryz.ntmps149
  go_wp2_with fail
  go_big_region
  go_wp2_with fail
  refine (unhide BAD _ (unhide HS)).mono ?_
  rintro e w1 ⟨rfl, hs1, hk1⟩
  have HS1 := hide hs1
  have HK1 := hide ((unhide HK).trans hk1)
  have HB01 := hide (blk_kb hk1 (unhide HB0) (by simp; omega))
  have HB11 := hide (blk_kb hk1 (unhide HB1) (by simp; omega))
  clear hs1 hk1
  go_wp2_with fail
  refine (pass_any _ rb tb cap s L e1 p1 ⟨i, unhide HS1⟩).mono ?_
  rintro e w2 ⟨rfl, ⟨j, hs2⟩, hk2⟩
  have HS2 := hide hs2
  have HK2 := hide ((unhide HK1).trans hk2)
  have hb0 := blk_kb hk2 (unhide HB01) (by simp; omega)
  have hb1 := blk_kb hk2 (unhide HB11) (by simp; omega)
  have hz0 : w.heap.size < w2.heap.size := blk_lt' hb0
  have hz1 : w.heap.size + 1 < w2.heap.size := blk_lt' hb1
  have r := blkA' hb0
  have x := blkX' hb0
  have y := blkA' hb1
  clear hs2 hk2 hb0 hb1 k0 k1 k2 c0 c1
  go_wp2_with fail
  have d2 : ∀ o, (w2.alloc o).cell? ⟨rb, 2, none⟩ = some (.int .i64 e1) := fun o => ((unhide HS2).below ((Below.refl _ _).alloc (Nat.le_refl _) o)).c2
  have he1 : (e1 != 0) = true := by simpa using unhide HE
  refine (is_any _ rb tb cap s L j e1 p1 _ ((unhide HS2).below ((Below.refl _ _).alloc (Nat.le_refl _) _))).mono ?_
  rintro e w3 ⟨rfl, n, rfl⟩
  generalize Parl.sees (L.drop j) _ = bb
  cases bb
  all_goals
    go_wp2_with fail
    refine bodyPost_ret (v := .agg #[.int .i64 1, .string (Parl.hd (L.drop i)).text, .int .i64 0, .slice none 0 0]) (by simp [results, Tryz.results149, go_sem, hz0, r]) rfl ?_
    exact ⟨⟨1, (Parl.hd (L.drop i)).text, 0, none, 0, 0⟩, rfl, ⟨j, SB.box (((unhide HS2).below ((Below.refl _ _).alloc (Nat.le_refl _) _)).draws n) (by omega) (by omega) _ _ _ _⟩, (((unhide HK2).alloc _).drewN n).onlyNew (Nat.le_refl _) _ _ _ _⟩

end Go.Proofs.YthfjnfcekeknlaaGreatDoor
namespace Go.Proofs.YthfjnfcekeknlaaGreatDoor
open Go.RowKit

theorem blk_set {w : World} {b : Nat} {cs : Array Value} {T : TypeId} (h : w.heap[b]? = some (.cells cs T (0, 0))) (i : Nat) (v : Value) : (w.setCell ⟨b, i, none⟩ v).heap[b]? = some (.cells (cs.setIfInBounds i v) T (0, 0)) := by
  simp [World.setCell, Array.getElem?_modify, h]
theorem blk_other {w : World} {b : Nat} {x : Obj} (h : w.heap[b]? = some x) {b' : Nat} (hne : b ≠ b') (i : Nat) (v : Value) : (w.setCell ⟨b', i, none⟩ v).heap[b]? = some x := (Below.heap_setCell _ _ _ _ hne).trans h
end Go.Proofs.YthfjnfcekeknlaaGreatDoor
namespace Go.Proofs.YthfjnfcekeknlaaGreatDoor
open Go.RowKit

/-- The table of the signs of two bytes lies where the program lays it. -/
structure Signs (w : World) : Prop where
  s0 : w.cell? ⟨0, 0, none⟩ = some (.string ⟨#[58, 45]⟩)
  s1 : w.cell? ⟨0, 1, none⟩ = some (.string ⟨#[58, 61]⟩)
  s2 : w.cell? ⟨0, 2, none⟩ = some (.string ⟨#[61, 61]⟩)
  s3 : w.cell? ⟨0, 3, none⟩ = some (.string ⟨#[92, 61]⟩)
  s4 : w.cell? ⟨0, 4, none⟩ = some (.string ⟨#[61, 60]⟩)

theorem signLen_two {r : ByteArray} (h : 2 ≤ r.size) (hl : Parl.longSign (Parl.bAt r 0) (Parl.bAt r 1) = true) : Parl.signLen r 0 = 2 := by
  unfold Parl.signLen; rw [if_pos ⟨by omega, hl⟩]
theorem signLen_one {r : ByteArray} (h : 0 < r.size) (hl : 2 ≤ r.size → Parl.longSign (Parl.bAt r 0) (Parl.bAt r 1) = false) (hs : Parl.shortSign (Parl.bAt r 0) = true) : Parl.signLen r 0 = 1 := by
  unfold Parl.signLen; rw [if_neg (by rintro ⟨a, b⟩; rw [hl (by omega)] at b; cases b), if_pos ⟨h, hs⟩]
theorem signLen_none {r : ByteArray} (hl : 2 ≤ r.size → Parl.longSign (Parl.bAt r 0) (Parl.bAt r 1) = false) (hs : 0 < r.size → Parl.shortSign (Parl.bAt r 0) = false) : Parl.signLen r 0 = 0 := by
  unfold Parl.signLen; rw [if_neg (by rintro ⟨a, b⟩; rw [hl (by omega)] at b; cases b), if_neg (by rintro ⟨a, b⟩; rw [hs a] at b; cases b)]

def shortB : ByteArray := ⟨#[61, 60, 43, 45, 42, 40, 41, 44, 124, 46]⟩
theorem shorts_at (k : Nat) (h : k < shortB.size) : Parl.shorts[k]? = some (shortB[k]'h).toNat := by
  have h' : k < 10 := h
  rcases (show k = 0 ∨ k = 1 ∨ k = 2 ∨ k = 3 ∨ k = 4 ∨ k = 5 ∨ k = 6 ∨ k = 7 ∨ k = 8 ∨ k = 9 by omega) with rfl | rfl | rfl | rfl | rfl | rfl | rfl | rfl | rfl | rfl <;> rfl
theorem short_hit {r : ByteArray} {k : Nat} (h0 : 0 < r.size) (hk : k < shortB.size) (h : (((r[0]'h0).toNat : Int) == ((shortB[k]'hk).toNat : Int)) = true) : Parl.shortSign (Parl.bAt r 0) = true := by
  rw [Parl.shortSign_in]
  refine ⟨k, hk, ?_⟩
  rw [shorts_at k hk, Parl.bAt_lt h0]
  have : ((r[0]'h0).toNat : Int) = ((shortB[k]'hk).toNat : Int) := by simpa using h
  rw [show (r[0]'h0).toNat = (shortB[k]'hk).toNat by omega]
theorem short_miss {r : ByteArray} {k : Nat} (h0 : 0 < r.size) (hk : k < shortB.size) (h : (((r[0]'h0).toNat : Int) == ((shortB[k]'hk).toNat : Int)) = false) (ho : ∀ j, j < k → Parl.shorts[j]? ≠ some (Parl.bAt r 0)) : ∀ j, j < k + 1 → Parl.shorts[j]? ≠ some (Parl.bAt r 0) := by
  intro j hj e
  by_cases hjk : j < k
  · exact ho j hjk e
  · obtain rfl : j = k := by omega
    rw [shorts_at j hk, Parl.bAt_lt h0] at e
    have e' := Option.some.inj e
    simp [e'] at h
theorem short_none {c k : Nat} (h : ¬ k < 10) (ho : ∀ j, j < k → Parl.shorts[j]? ≠ some c) : Parl.shortSign c = false := by
  cases hs : Parl.shortSign c with
  | false => rfl
  | true =>
    obtain ⟨j, hj, e⟩ := (Parl.shortSign_in c).1 hs
    exact absurd e (ho j (by omega))
theorem not_empty {r : ByteArray} (h : 0 < r.size) : r.toList.isEmpty = false := by
  rw [ByteArray.toList_eq]
  cases hx : r.data.toList with
  | nil => have := Parl.len_eq r; rw [hx] at this; simp at this; omega
  | cons => rfl

set_option maxHeartbeats 2000000 in
theorem signLength_any (r : ByteArray) (w : World) (hr : r.size ≤ maxLen) (h : Signs w) : Calls Tryz.prog 127 #[.string r] w fun e w' => e = .returned (.int .i64 ((Parl.signLen r 0 : Nat) : Int)) ∧ ∃ n, w' = w.drewN n := by
  obtain ⟨s0, s1, s2, s3, s4⟩ := h
  unfold maxLen at hr
  have i0 : ∀ w, (Instr.index 238 (.agg #[.string ⟨#[58, 45]⟩, .string ⟨#[58, 61]⟩, .string ⟨#[61, 61]⟩, .string ⟨#[92, 61]⟩, .string ⟨#[61, 60]⟩]) (.int .i64 0)).run Tryz.prog w = .ok (.string ⟨#[58, 45]⟩) w := fun _ => by kernel_rfl
  have i1 : ∀ w, (Instr.index 238 (.agg #[.string ⟨#[58, 45]⟩, .string ⟨#[58, 61]⟩, .string ⟨#[61, 61]⟩, .string ⟨#[92, 61]⟩, .string ⟨#[61, 60]⟩]) (.int .i64 1)).run Tryz.prog w = .ok (.string ⟨#[58, 61]⟩) w := fun _ => by kernel_rfl
  have i2 : ∀ w, (Instr.index 238 (.agg #[.string ⟨#[58, 45]⟩, .string ⟨#[58, 61]⟩, .string ⟨#[61, 61]⟩, .string ⟨#[92, 61]⟩, .string ⟨#[61, 60]⟩]) (.int .i64 2)).run Tryz.prog w = .ok (.string ⟨#[61, 61]⟩) w := fun _ => by kernel_rfl
  have i3 : ∀ w, (Instr.index 238 (.agg #[.string ⟨#[58, 45]⟩, .string ⟨#[58, 61]⟩, .string ⟨#[61, 61]⟩, .string ⟨#[92, 61]⟩, .string ⟨#[61, 60]⟩]) (.int .i64 3)).run Tryz.prog w = .ok (.string ⟨#[92, 61]⟩) w := fun _ => by kernel_rfl
  have i4 : ∀ w, (Instr.index 238 (.agg #[.string ⟨#[58, 45]⟩, .string ⟨#[58, 61]⟩, .string ⟨#[61, 61]⟩, .string ⟨#[92, 61]⟩, .string ⟨#[61, 60]⟩]) (.int .i64 4)).run Tryz.prog w = .ok (.string ⟨#[61, 60]⟩) w := fun _ => by kernel_rfl
  have LS : Hid (2 ≤ r.size → Parl.longSign (Parl.bAt r 0) (Parl.bAt r 1) = (((r.extract 0 2).toList == [58, 45]) || ((r.extract 0 2).toList == [58, 61]) || ((r.extract 0 2).toList == [61, 61]) || ((r.extract 0 2).toList == [92, 61]) || ((r.extract 0 2).toList == [61, 60]))) := fun h => Parl.longSign_two (i := 0) (by omega)
  by_cases h2 : 2 ≤ r.size
  · cases b0 : ((r.extract 0 2).toList == [58, 45])
    · cases b1 : ((r.extract 0 2).toList == [58, 61])
      · cases b2 : ((r.extract 0 2).toList == [61, 61])
        · cases b3 : ((r.extract 0 2).toList == [92, 61])
          · cases b4 : ((r.extract 0 2).toList == [61, 60])
            · have LN : Hid (Parl.longSign (Parl.bAt r 0) (Parl.bAt r 1) = false) := by rw [Hid, LS.out h2, b0, b1, b2, b3, b4]; rfl
              go_enter Tryz.func127, Tryz.ntmps127
              go_wp2
              refine wp_loop_rounds 6 ?_
              rw [rounds_succ]
              go_wp2
              rw [rounds_succ]
              go_wp2
              rw [rounds_succ]
              go_wp2
              rw [rounds_succ]
              go_wp2
              rw [rounds_succ]
              go_wp2
              rw [rounds_succ]
              go_wp2
              clear i0 i1 i2 i3 i4 b0 b1 b2 b3 b4
              go_loopw [5] (fun i wr => ∃ k n : Nat, k ≤ 10 ∧ i = .int .i64 k ∧ wr = w.drewN n ∧ Hid (∀ j, j < k → Parl.shorts[j]? ≠ some (Parl.bAt r 0))) (fun i _ => 10 - (intOf i).toNat)
              case atStart => exact ⟨0, 0, by omega, rfl, rfl, fun j h => absurd h (Nat.not_lt_zero _)⟩
              case round =>
                obtain ⟨k, n, hk, rfl, rfl, hno⟩ := hrel
                by_cases hlt : k < 10
                · by_cases h0 : 0 < r.size
                  · have hE := not_empty h0
                    have HM : Hid (∀ hk : k < shortB.size, (((r[0]'h0).toNat : Int) == ((shortB[k]'hk).toNat : Int)) = false → ∀ j, j < k + 1 → Parl.shorts[j]? ≠ some (Parl.bAt r 0)) := fun hk h => short_miss h0 hk h hno.out
                    go_wp2
                    go_big_region
                    go_wp2
                    · go_ret
                      exact ⟨ret_int (by rw [signLen_one h0 (fun _ => LN.out) (short_hit (k := k) h0 hlt (by assumption))]; rfl), n + 1, rfl⟩
                    · go_roundw
                      case rel => exact ⟨k + 1, n + 1, by omega, by go_num, rfl, HM.out hlt (by assumption)⟩
                      case measure => simp [intOf]; omega
                  · exact absurd (show 0 < r.size by omega) h0
                · have hS : Hid (Parl.shortSign (Parl.bAt r 0) = false) := short_none hlt hno.out
                  go_wp2
                  go_ret
                  exact ⟨ret_int (by rw [signLen_none (fun _ => LN.out) (fun _ => hS.out)]; rfl), n, rfl⟩
            · have LN : Hid (Parl.longSign (Parl.bAt r 0) (Parl.bAt r 1) = true) := by rw [Hid, LS.out h2, b0, b1, b2, b3, b4]; simp
              go_enter Tryz.func127, Tryz.ntmps127
              go_wp2
              refine wp_loop_rounds 6 ?_
              rw [rounds_succ]
              go_wp2
              rw [rounds_succ]
              go_wp2
              rw [rounds_succ]
              go_wp2
              rw [rounds_succ]
              go_wp2
              rw [rounds_succ]
              go_wp2
              go_ret
              exact ⟨ret_int (by rw [signLen_two h2 LN.out]; rfl), 0, rfl⟩
          · have LN : Hid (Parl.longSign (Parl.bAt r 0) (Parl.bAt r 1) = true) := by rw [Hid, LS.out h2, b0, b1, b2, b3]; simp
            go_enter Tryz.func127, Tryz.ntmps127
            go_wp2
            refine wp_loop_rounds 6 ?_
            rw [rounds_succ]
            go_wp2
            rw [rounds_succ]
            go_wp2
            rw [rounds_succ]
            go_wp2
            rw [rounds_succ]
            go_wp2
            go_ret
            exact ⟨ret_int (by rw [signLen_two h2 LN.out]; rfl), 0, rfl⟩
        · have LN : Hid (Parl.longSign (Parl.bAt r 0) (Parl.bAt r 1) = true) := by rw [Hid, LS.out h2, b0, b1, b2]; simp
          go_enter Tryz.func127, Tryz.ntmps127
          go_wp2
          refine wp_loop_rounds 6 ?_
          rw [rounds_succ]
          go_wp2
          rw [rounds_succ]
          go_wp2
          rw [rounds_succ]
          go_wp2
          go_ret
          exact ⟨ret_int (by rw [signLen_two h2 LN.out]; rfl), 0, rfl⟩
      · have LN : Hid (Parl.longSign (Parl.bAt r 0) (Parl.bAt r 1) = true) := by rw [Hid, LS.out h2, b0, b1]; simp
        go_enter Tryz.func127, Tryz.ntmps127
        go_wp2
        refine wp_loop_rounds 6 ?_
        rw [rounds_succ]
        go_wp2
        rw [rounds_succ]
        go_wp2
        go_ret
        exact ⟨ret_int (by rw [signLen_two h2 LN.out]; rfl), 0, rfl⟩
    · have LN : Hid (Parl.longSign (Parl.bAt r 0) (Parl.bAt r 1) = true) := by rw [Hid, LS.out h2, b0]; simp
      go_enter Tryz.func127, Tryz.ntmps127
      go_wp2
      refine wp_loop_rounds 6 ?_
      rw [rounds_succ]
      go_wp2
      go_ret
      exact ⟨ret_int (by rw [signLen_two h2 LN.out]; rfl), 0, rfl⟩
  · have LN : Hid (2 ≤ r.size → Parl.longSign (Parl.bAt r 0) (Parl.bAt r 1) = false) := fun h => absurd h h2
    go_enter Tryz.func127, Tryz.ntmps127
    go_wp2
    refine wp_loop_rounds 6 ?_
    rw [rounds_succ]
    go_wp2
    rw [rounds_succ]
    go_wp2
    rw [rounds_succ]
    go_wp2
    rw [rounds_succ]
    go_wp2
    rw [rounds_succ]
    go_wp2
    rw [rounds_succ]
    go_wp2
    clear i0 i1 i2 i3 i4 LS
    go_loopw [5] (fun i wr => ∃ k n : Nat, k ≤ 10 ∧ i = .int .i64 k ∧ wr = w.drewN n ∧ Hid (∀ j, j < k → Parl.shorts[j]? ≠ some (Parl.bAt r 0))) (fun i _ => 10 - (intOf i).toNat)
    case atStart => exact ⟨0, 0, by omega, rfl, rfl, fun j h => absurd h (Nat.not_lt_zero _)⟩
    case round =>
      obtain ⟨k, n, hk, rfl, rfl, hno⟩ := hrel
      by_cases hlt : k < 10
      · by_cases h0 : 0 < r.size
        · have hE := not_empty h0
          have HM : Hid (∀ hk : k < shortB.size, (((r[0]'h0).toNat : Int) == ((shortB[k]'hk).toNat : Int)) = false → ∀ j, j < k + 1 → Parl.shorts[j]? ≠ some (Parl.bAt r 0)) := fun hk h => short_miss h0 hk h hno.out
          go_wp2
          go_big_region
          go_wp2
          · go_ret
            exact ⟨ret_int (by rw [signLen_one h0 LN.out (short_hit (k := k) h0 hlt (by assumption))]; rfl), n + 1, rfl⟩
          · go_roundw
            case rel => exact ⟨k + 1, n + 1, by omega, by go_num, rfl, HM.out hlt (by assumption)⟩
            case measure => simp [intOf]; omega
        · have hE : r.toList.isEmpty = true := by rw [ByteArray.toList_eq]; have := Parl.len_eq r; cases hx : r.data.toList with
              | nil => rfl
              | cons a l => rw [hx] at this; simp at this; omega
          have HM : Hid (∀ j, j < k + 1 → Parl.shorts[j]? ≠ some (Parl.bAt r 0)) := fun j hj e => by
              have e0 : Parl.bAt r 0 = 0 := by unfold Parl.bAt; rw [dif_neg h0]
              rw [e0] at e
              have hm := List.mem_of_getElem? e
              simp [Parl.shorts] at hm
          go_wp2
          go_big_region
          go_wp2
          go_roundw
          case rel => exact ⟨k + 1, n + 1, by omega, by go_num, rfl, HM.out⟩
          case measure => simp [intOf]; omega
      · have hS : Hid (Parl.shortSign (Parl.bAt r 0) = false) := short_none hlt hno.out
        go_wp2
        go_ret
        exact ⟨ret_int (by rw [signLen_none LN.out (fun _ => hS.out)]; rfl), n, rfl⟩
end Go.Proofs.YthfjnfcekeknlaaGreatDoor
namespace Parl
/-- What a match has found so far: what the pattern's variables stand for, who is waited for, whether there was a No. -/
structure Lk where
  st : List (List UInt8 × Tm)
  wt : List (List UInt8)
  no : Bool
def Lk.wait (l : Lk) (x : List UInt8) : Lk := ⟨l.st, addN l.wt x, l.no⟩
def Lk.bad (l : Lk) : Lk := ⟨l.st, l.wt, true⟩
def Lk.none : Lk := ⟨[], [], false⟩
/-- The same number, or the same name with as many arguments. -/
def alike (a b : Tm) : Bool := a.kind == b.kind && ((if a.kind = 4 then numOf a.text == numOf b.text else a.text.toList == b.text.toList) && a.args.length == b.args.length)
/-- Two lists of terms, one by one. -/
def two (g : Tm → Tm → Lk → Lk) : List Tm → List Tm → Lk → Lk
  | a :: ps, b :: qs, l => two g ps qs (g a b l)
  | _, _, l => l
def Lk.says (l : Lk) : Nat := if l.no = true then 2 else if l.wt = [] then 1 else 3
/-- A text as one term. -/
def whole (l : List Tok) : Res Tm := match term 8 l with
  | .inl e => .inl e
  | .inr (t, l1) => if (hd l1).kind = 0 then .inr (t, l1) else bad 2 l1
def erT (r : Res Tm) : Nat := match r with
  | .inl e => e.1
  | .inr _ => 0
/-- The error of two texts as terms. -/
def bothE (a b : ByteArray) (la lb : List Tok) : Nat := if 64 < a.size ∨ 64 < b.size then 1 else match whole la with
  | .inl (e, _) => e
  | .inr _ => erT (whole lb)
/-- The kinds that terms have; a name alone has arguments. -/
def wfK : Nat → Tm → Prop
  | 0, _ => False
  | f + 1, t => (t.kind = 2 ∨ t.kind = 3 ∨ t.kind = 4) ∧ (t.kind ≠ 2 → t.args = []) ∧ t.args.length ≤ 3 ∧ ∀ a ∈ t.args, wfK f a
theorem args_all {Q : Tm → Prop} {p : List Tok → Res Tm} (hp : ∀ l t l1, p l = .inr (t, l1) → Q t) : ∀ (k : Nat) (l : List Tok) (ts : List Tm) (l2 : List Tok), argsOf p k l = .inr (ts, l2) → (∀ t ∈ ts, Q t) ∧ ts.length ≤ k + 1 := by
  intro k
  induction k with
  | zero =>
    intro l ts l2 h
    unfold argsOf at h
    rcases hq : p l with e | ⟨t, l1⟩
    · rw [hq] at h; cases h
    · rw [hq] at h
      dsimp only at h
      by_cases h1 : sees l1 [44] = true
      · rw [if_pos h1] at h; cases h
      · rw [if_neg h1] at h
        by_cases h2 : sees l1 [41] = true
        · rw [if_pos h2] at h
          cases h
          refine ⟨fun x hx => ?_, by simp⟩
          obtain rfl : x = t := by simpa using hx
          exact hp _ _ _ hq
        · rw [if_neg h2] at h; cases h
  | succ k ih =>
    intro l ts l2 h
    rw [argsOf] at h
    rcases hq : p l with e | ⟨t, l1⟩
    · rw [hq] at h; cases h
    · rw [hq] at h
      dsimp only at h
      by_cases h1 : sees l1 [44] = true
      · rw [if_pos h1] at h
        rcases hr : argsOf p k l1.tail with e | ⟨us, l3⟩
        · rw [hr] at h; cases h
        · rw [hr] at h
          cases h
          obtain ⟨i1, i2⟩ := ih _ _ _ hr
          refine ⟨fun x hx => ?_, by simpa using i2⟩
          rcases List.mem_cons.1 hx with rfl | hx
          · exact hp _ _ _ hq
          · exact i1 x hx
      · rw [if_neg h1] at h
        by_cases h2 : sees l1 [41] = true
        · rw [if_pos h2] at h
          cases h
          refine ⟨fun x hx => ?_, by simp⟩
          obtain rfl : x = t := by simpa using hx
          exact hp _ _ _ hq
        · rw [if_neg h2] at h; cases h
theorem wfK_term : ∀ (f : Nat) (l : List Tok) (t : Tm) (l1 : List Tok), term f l = .inr (t, l1) → wfK f t := by
  intro f
  induction f with
  | zero => intro l t l1 h; rw [term] at h; split at h <;> cases h
  | succ f ih =>
    intro l t l1 h
    rw [term] at h
    by_cases hb : begins (hd l) = true
    · rw [if_pos hb] at h
      by_cases hc : (hd l).kind = 4 ∧ 6 < (hd l).text.size
      · rw [if_pos hc] at h; cases h
      · rw [if_neg hc] at h
        by_cases h2 : (hd l).kind = 2
        · rw [if_pos h2] at h
          by_cases hs : sees l.tail [40] = true
          · rw [if_pos hs] at h
            rcases hq : argsOf (term f) 2 l.tail.tail with x | ⟨us, l2⟩
            · rw [hq] at h; cases h
            · rw [hq] at h; cases h
              obtain ⟨i1, i2⟩ := args_all ih _ _ _ _ hq
              exact ⟨Or.inl rfl, fun q => absurd rfl q, i2, i1⟩
          · rw [if_neg hs] at h; cases h
            exact ⟨Or.inl rfl, fun q => absurd rfl q, by simp, fun a ha => by cases ha⟩
        · rw [if_neg h2] at h; cases h
          refine ⟨?_, fun _ => rfl, by simp, fun a ha => by cases ha⟩
          unfold begins at hb
          simp at hb
          rcases hb with (h3 | h3) | h3
          · exact Or.inl h3
          · exact Or.inr (Or.inl h3)
          · exact Or.inr (Or.inr h3)
    · rw [if_neg hb] at h; cases h
theorem whole_is {l : List Tok} {t : Tm} {l1 : List Tok} (h : whole l = .inr (t, l1)) : term 8 l = .inr (t, l1) ∧ (hd l1).kind = 0 := by
  unfold whole at h
  rcases hq : term 8 l with e | ⟨u, l2⟩
  · rw [hq] at h; cases h
  · rw [hq] at h
    dsimp only at h
    by_cases hk : (hd l2).kind = 0
    · rw [if_pos hk] at h; cases h; exact ⟨rfl, hk⟩
    · rw [if_neg hk] at h; cases h
end Parl
namespace Parl
end Parl
namespace Parl
theorem wfK.up : ∀ {f : Nat} {t : Tm}, wfK f t → wfK (f + 1) t
  | _ + 1, _, ⟨h1, h2, h3, h4⟩ => ⟨h1, h2, h3, fun a ha => (h4 a ha).up⟩
theorem wfK.le {f k : Nat} {t : Tm} (h : wfK f t) (hk : f ≤ k) : wfK k t := by
  induction hk with
  | refl => exact h
  | step _ ih => exact ih.up
end Parl
namespace Parl
end Parl
namespace Parl
theorem bothE_a {a b : ByteArray} {la lb : List Tok} {er ps : Nat} (h : ¬ (64 < a.size ∨ 64 < b.size)) (hq : whole la = .inl (er, ps)) : bothE a b la lb = er := by
  unfold bothE; rw [if_neg h, hq]
theorem bothE_b {a b : ByteArray} {la lb : List Tok} {p : Tm} {l1 : List Tok} (h : ¬ (64 < a.size ∨ 64 < b.size)) (hq : whole la = .inr (p, l1)) : bothE a b la lb = erT (whole lb) := by
  unfold bothE; rw [if_neg h, hq]
end Parl
namespace Parl
end Parl
namespace Parl
end Parl
namespace Parl
theorem namesV_ext : ∀ (f : Nat) (t : Tm) (ns : List (List UInt8)), ∃ K, namesF f ns t = ns ++ K
  | 0, _, ns => ⟨[], by simp [namesF]⟩
  | f + 1, t, ns => by
    unfold namesF
    split
    · obtain ⟨M, hM, _⟩ := addN_ext ns t.text.toList
      exact ⟨M, hM⟩
    · split
      · exact ⟨[], by simp⟩
      · have : ∀ (ts : List Tm) (ns : List (List UInt8)), ∃ K, ts.foldl (namesF f) ns = ns ++ K := by
          intro ts
          induction ts with
          | nil => exact fun ns => ⟨[], by simp⟩
          | cons u ts ih =>
            intro ns
            obtain ⟨K, hK⟩ := namesV_ext f u ns
            obtain ⟨K2, hK2⟩ := ih (namesF f ns u)
            exact ⟨K ++ K2, by rw [List.foldl_cons, hK2, hK, List.append_assoc]⟩
        exact this t.args ns
theorem namesW_ext (f : Nat) (ts : List Tm) (ns : List (List UInt8)) : ∃ K, ts.foldl (namesF f) ns = ns ++ K := by
  induction ts generalizing ns with
  | nil => exact ⟨[], by simp⟩
  | cons u ts ih =>
    obtain ⟨K, hK⟩ := namesV_ext f u ns
    obtain ⟨K2, hK2⟩ := ih (namesF f ns u)
    exact ⟨K ++ K2, by rw [List.foldl_cons, hK2, hK, List.append_assoc]⟩
end Parl
namespace Go.Proofs.YthfjnfcekeknlaaGreatDoor
open Go.RowKit
theorem RB.ok3 {P : Nat → Prop} {w : World} : ∀ {f : Nat} {a : BV} {t : Parl.Tm}, RB f P w a t → Parl.ok3 f t
  | f + 1, a, t, ⟨h, q⟩ => by
    obtain ⟨h1, h2, h3, h4, h5, h6⟩ := h
    refine ⟨h5, h6, fun k => (h4 k).2.1, ?_⟩
    intro u hu
    obtain ⟨g, us, cs, _, _, _, _, ha⟩ := q (fun e => by rw [e] at hu; cases hu)
    have : ∀ (us : List BV) (ts : List Parl.Tm), All2 (RB f P w) us ts → ∀ u ∈ ts, Parl.ok3 f u := by
      intro us
      induction us with
      | nil => intro ts ha u hu; cases ts with
        | nil => cases hu
        | cons t ts => exact ha.elim
      | cons v us ih => intro ts ha u hu; cases ts with
        | nil => cases hu
        | cons t ts =>
          rcases List.mem_cons.1 hu with rfl | hu
          · exact RB.ok3 ha.1
          · exact ih ts ha.2 u hu
    exact this us t.args ha u hu
/-- A term of that depth needs no more. -/
theorem RB.cut {P : Nat → Prop} {w : World} : ∀ {k f : Nat} {a : BV} {t : Parl.Tm}, RB f P w a t → Parl.wfD k t → RB k P w a t
  | 0, _, _, _, _, hw => hw.elim
  | k + 1, f + 1, a, t, ⟨h, q⟩, hw => ⟨h, fun n => by
    obtain ⟨g, us, cs, h1, h2, h3, h4, ha⟩ := q n
    refine ⟨g, us, cs, h1, h2, h3, h4, ?_⟩
    have : ∀ (us : List BV) (ts : List Parl.Tm), All2 (RB f P w) us ts → (∀ u ∈ ts, Parl.wfD k u) → All2 (RB k P w) us ts := by
      intro us
      induction us with
      | nil => intro ts ha _; cases ts with
        | nil => exact trivial
        | cons t ts => exact ha.elim
      | cons v us ih => intro ts ha hw; cases ts with
        | nil => exact ha.elim
        | cons t ts => exact ⟨RB.cut ha.1 (hw t (by simp)), ih ts ha.2 (fun u hu => hw u (by simp [hu]))⟩
    exact this us t.args ha hw⟩
end Go.Proofs.YthfjnfcekeknlaaGreatDoor
