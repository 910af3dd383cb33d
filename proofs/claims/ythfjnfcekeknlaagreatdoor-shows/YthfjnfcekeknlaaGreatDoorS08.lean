import Derived.Test.YthfjnfcekeknlaaGreatDoorS01
import Derived.Test.YthfjnfcekeknlaaGreatDoorS05
import Derived.Test.YthfjnfcekeknlaaGreatDoorS06
import Derived.Test.YthfjnfcekeknlaaGreatDoorS07
namespace Go.Proofs.YthfjnfcekeknlaaGreatDoor
open Go.RowKit

theorem asg_no {left : Parl.Tm} {l : List Parl.Tok} {e : Nat × Nat} (hO : Parl.operand l.tail = .inl e) : Parl.assignment left true l = .inl e := by
  unfold Parl.assignment; rw [if_pos rfl, hO]
theorem asg_plain {left t : Parl.Tm} {l l2 : List Parl.Tok} (hO : Parl.operand l.tail = .inr (t, l2)) (hop : Parl.operSign l2 = false) : Parl.assignment left true l = .inr (⟨left, (Parl.hd l).text.toList, some t, [], none⟩, l2) := by
  unfold Parl.assignment; rw [if_pos rfl, hO]; simp only [hop]; rfl
theorem asg_more {left t : Parl.Tm} {l l2 : List Parl.Tok} (hO : Parl.operand l.tail = .inr (t, l2)) (hop : Parl.operSign l2 = true) : Parl.assignment left true l = asgR (fun z => ⟨left, (Parl.hd l).text.toList, some t, (Parl.hd l2).text.toList, some z⟩) (Parl.operand l2.tail) := by
  unfold Parl.assignment; rw [if_pos rfl, hO]; simp only [hop]
  rcases Parl.operand l2.tail with e | ⟨z, l3⟩ <;> rfl

theorem asB_any (w : World) (rb tb cap : Nat) (s : ByteArray) (L : List Parl.Tok) (i : Nat) (p0 : Int) (a : BV) (left : Parl.Tm) (h : SB w rb tb cap s L i 0 p0) (hk0 : (Parl.hd (L.drop i)).kind ≠ 0) (hsg : (Parl.hd (L.drop i)).text.toList = [58, 61]) :
    Calls Tryz.prog 200 #[.pointer (some ⟨rb, 0, none⟩), .agg #[.int .i64 a.k, .string a.nm, .int .i64 a.num, .slice a.ao a.n a.cap]] w fun e w' => PUniI rb tb cap s L p0 a (Parl.assignment left true (L.drop i)) w e w' := by
  have et : (L.drop i).tail = L.drop (i + 1) := by simp
  rcases hO : Parl.operand (L.drop (i + 1)) with ⟨er, ps⟩ | ⟨t, l2⟩
  · rw [asg_no (by rw [et]; exact hO)]
    refine (asB_first w rb tb cap s L i p0 a left h hk0 er ps hO).mono ?_
    rintro e w' ⟨a1, b1, c1, op, sg, rfl, ⟨j, hs⟩, hk⟩
    have := operand_err _ _ hO
    exact ⟨a1, b1, c1, op, sg, j, _, _, rfl, hs, hk, ⟨rfl, rfl, by dsimp only at this; omega⟩, trivial⟩
  · have hO' : Parl.operand (L.drop i).tail = .inr (t, l2) := by rw [et]; exact hO
    cases h0 : Parl.sees l2 [43]
    · cases h1 : Parl.sees l2 [45]
      · cases h2 : Parl.sees l2 [42]
        · rw [asg_plain hO' (by simp [Parl.operSign, h0, h1, h2])]
          exact asB_none w rb tb cap s L i p0 a left h hk0 t l2 hO hsg h0 h1 h2
        · rw [asg_more hO' (by simp [Parl.operSign, h2])]
          exact asB_hit2 w rb tb cap s L i p0 a left h hk0 t l2 hO h0 h1 h2 _ rfl _ (fun z => ⟨hsg, rfl, Parl.sees_text h2, rfl⟩)
      · rw [asg_more hO' (by simp [Parl.operSign, h1])]
        exact asB_hit1 w rb tb cap s L i p0 a left h hk0 t l2 hO h0 h1 _ rfl _ (fun z => ⟨hsg, rfl, Parl.sees_text h1, rfl⟩)
    · rw [asg_more hO' (by simp [Parl.operSign, h0])]
      exact asB_hit0 w rb tb cap s L i p0 a left h hk0 t l2 hO h0 _ rfl _ (fun z => ⟨hsg, rfl, Parl.sees_text h0, rfl⟩)
end Go.Proofs.YthfjnfcekeknlaaGreatDoor
namespace Go.Proofs.YthfjnfcekeknlaaGreatDoor
open Go.RowKit

/-- What the list may be behind an item. -/
def WayR {α : Type} (r : Parl.Res (α × Bool × Bool)) (t1 g1 : Bool) : Prop := match r with
  | .inl _ => True
  | .inr ((_, t, g), _) => t1 = t ∧ g1 = g
/-- An item lies there. -/
def ItemB (w' : World) (a b c : BV) (op sg : ByteArray) (x : Parl.Itm) : Prop := VB anyB w' a x.left ∧ RightB anyB w' b c op sg x
def ValW (w' : World) (r : Parl.Res (Parl.Itm × Bool × Bool)) (a b c : BV) (op sg : ByteArray) : Prop := match r with
  | .inl _ => True
  | .inr ((x, _, _), _) => ItemB w' a b c op sg x
theorem val_plain {P : Nat → Prop} {w' : World} {a b c : BV} {t : Parl.Tm} {x y : Bool} {l : List Parl.Tok} (h : VB P w' a t) : ValW w' (.inr ((⟨t, [], none, [], none⟩, x, y), l)) a b c ⟨#[]⟩ ⟨#[]⟩ :=
  ⟨h.imp fun _ _ _ => trivial, (by simp), (fun r q => by cases q), (by simp), (fun r q => by cases q)⟩
theorem val_sides {P Q : Nat → Prop} {w' : World} {a b c : BV} {op : ByteArray} {t : Parl.Tm} {x y : Bool} {l : List Parl.Tok} (h : VB P w' a t) (ho : op.toList = (Parl.hd l).text.toList) (hb : ∀ r l2, Parl.term 8 l.tail = .inr (r, l2) → VB Q w' b r) : ValW w' (Parl.wayed x y (Parl.sides t true l)) a b c op ⟨#[]⟩ := by
  unfold Parl.sides
  rw [if_pos rfl]
  rcases hr : Parl.term 8 l.tail with e | ⟨r, l2⟩
  · exact trivial
  · exact ⟨h.imp fun _ _ _ => trivial, ho, (fun r' q => by cases q; exact (hb r l2 hr).imp fun _ _ _ => trivial), (by simp), (fun r q => by cases q)⟩
theorem val_set {P Q : Nat → Prop} {w' : World} {a0 a b c : BV} {op sg : ByteArray} {x y : Bool} {t : Parl.Tm} {f : Bool} {l : List Parl.Tok} (h : VB P w' a0 t) (hr : ValA Q w' (Parl.assignment t f l) a0 a b c op sg) : ValW w' (Parl.wayed x y (Parl.assignment t f l)) a b c op sg := by
  have hl : ∀ z l2, Parl.assignment t f l = .inr (z, l2) → z.left = t := by
    intro z l2 q
    unfold Parl.assignment at q
    cases f
    · cases q
    · rw [if_pos rfl] at q
      rcases h1 : Parl.operand l.tail with e | ⟨r, l3⟩
      · rw [h1] at q; cases q
      · rw [h1] at q
        dsimp only at q
        by_cases ho : Parl.operSign l3 = true
        · rw [if_pos ho] at q
          rcases h2 : Parl.operand l3.tail with e | ⟨r2, l4⟩
          · rw [h2] at q; cases q
          · rw [h2] at q; cases q; rfl
        · rw [if_neg ho] at q; cases q; rfl
  rcases hq : Parl.assignment t f l with e | ⟨z, l2⟩
  · exact trivial
  · rw [hq] at hr
    obtain ⟨rfl, hrr⟩ := hr
    exact ⟨by rw [hl z l2 hq]; exact h.imp fun _ _ _ => trivial, hrr.imp fun _ _ h => h.imp fun _ _ _ => trivial⟩
/-- What 'item' leaves there: an item, the way, how the reader stands. -/
def PUniW (rb tb cap : Nat) (s : ByteArray) (L : List Parl.Tok) (p0 : Int) (r : Parl.Res (Parl.Itm × Bool × Bool)) (w : World) (e : Ending) (w' : World) : Prop :=
  ∃ (a b c : BV) (op sg : ByteArray) (t1 g1 : Bool) (j : Nat) (e1 p1 : Int), e = .returned (.tuple #[.agg #[.string op, .string sg, .int .i64 a.k, .string a.nm, .int .i64 a.num, .slice a.ao a.n a.cap, .int .i64 b.k, .string b.nm, .int .i64 b.num, .slice b.ao b.n b.cap, .int .i64 c.k, .string c.nm, .int .i64 c.num, .slice c.ao c.n c.cap], .agg #[.bool t1, .bool g1]]) ∧ SB w' rb tb cap s L j e1 p1 ∧ KB [rb] w w' ∧ UniR L p0 r j e1 p1 ∧ WayR r t1 g1 ∧ ValW w' r a b c op sg
/-- The same behind an error: of the way nothing is asked. -/
def PErrW (rb tb cap : Nat) (s : ByteArray) (L : List Parl.Tok) (e0 p0 : Int) (w : World) (e : Ending) (w' : World) : Prop :=
  ∃ (a b c : BV) (op sg : ByteArray) (t1 g1 : Bool), e = .returned (.tuple #[.agg #[.string op, .string sg, .int .i64 a.k, .string a.nm, .int .i64 a.num, .slice a.ao a.n a.cap, .int .i64 b.k, .string b.nm, .int .i64 b.num, .slice b.ao b.n b.cap, .int .i64 c.k, .string c.nm, .int .i64 c.num, .slice c.ao c.n c.cap], .agg #[.bool t1, .bool g1]]) ∧ EB w' rb tb cap s L e0 p0 ∧ KB [rb] w w'

theorem OnB.c14 (b : Nat) (w : World) (v0 v1 v2 v3 v4 v5 v6 v7 v8 v9 v10 v11 v12 v13 : Value) : OnB b w ((((((((((((((w.setCell ⟨b, 0, none⟩ v0).setCell ⟨b, 1, none⟩ v1).setCell ⟨b, 2, none⟩ v2).setCell ⟨b, 3, none⟩ v3).setCell ⟨b, 4, none⟩ v4).setCell ⟨b, 5, none⟩ v5).setCell ⟨b, 6, none⟩ v6).setCell ⟨b, 7, none⟩ v7).setCell ⟨b, 8, none⟩ v8).setCell ⟨b, 9, none⟩ v9).setCell ⟨b, 10, none⟩ v10).setCell ⟨b, 11, none⟩ v11).setCell ⟨b, 12, none⟩ v12).setCell ⟨b, 13, none⟩ v13) :=
  ((((((((((((((OnB.refl b w).set 0 v0).set 1 v1).set 2 v2).set 3 v3).set 4 v4).set 5 v5).set 6 v6).set 7 v7).set 8 v8).set 9 v9).set 10 v10).set 11 v11).set 12 v12).set 13 v13
theorem OnB.c2 (b : Nat) (w : World) (v0 v1 : Value) : OnB b w ((w.setCell ⟨b, 0, none⟩ v0).setCell ⟨b, 1, none⟩ v1) := ((OnB.refl b w).set 0 v0).set 1 v1

theorem uni_wayed {α : Type} {L : List Parl.Tok} {p0 : Int} {r : Parl.Res α} {j : Nat} {e p : Int} {t g : Bool} (h : UniR L p0 r j e p) : UniR L p0 (Parl.wayed t g r) j e p := by
  rcases r with ⟨er, ps⟩ | ⟨z, l3⟩ <;> exact h
theorem way_wayed {α : Type} (t g : Bool) (r : Parl.Res α) : WayR (Parl.wayed t g r) t g := by
  rcases r with ⟨er, ps⟩ | ⟨z, l3⟩
  · exact trivial
  · exact ⟨rfl, rfl⟩
theorem uni_sides {L : List Parl.Tok} {p0 : Int} {l : List Parl.Tok} {j : Nat} {e p : Int} (t : Parl.Tm) (h : UniR L p0 (Parl.term 8 l.tail) j e p) : UniR L p0 (Parl.sides t true l) j e p := by
  unfold Parl.sides
  rw [if_pos rfl]
  generalize Parl.term 8 l.tail = r at *
  rcases r with ⟨er, ps⟩ | ⟨z, l3⟩ <;> exact h
theorem OnB.m4 (b : Nat) (w : World) (v6 v7 v8 v9 : Value) : OnB b w ((((w.setCell ⟨b, 6, none⟩ v6).setCell ⟨b, 7, none⟩ v7).setCell ⟨b, 8, none⟩ v8).setCell ⟨b, 9, none⟩ v9) := ((((OnB.refl b w).set 6 v6).set 7 v7).set 8 v8).set 9 v9
theorem set2B {w : World} {b : Nat} {T : TypeId} {c0 c1 : Value} (v : Value) (h : w.heap[b]? = some (.cells #[c0, c1] T (0, 0))) :
    (w.setCell ⟨b, 0, none⟩ v).heap[b]? = some (.cells #[v, c1] T (0, 0)) := by
  have := blk_set h 0 v
  simpa using this
theorem set2C {w : World} {b : Nat} {T : TypeId} {c0 c1 : Value} (v : Value) (h : w.heap[b]? = some (.cells #[c0, c1] T (0, 0))) :
    (w.setCell ⟨b, 1, none⟩ v).heap[b]? = some (.cells #[c0, v] T (0, 0)) := by
  have := blk_set h 1 v
  simpa using this

def wyB (t g : Bool) : Obj := .cells #[.bool t, .bool g] 220
theorem itm_boxes {w : World} {rb tb cap : Nat} {s : ByteArray} {L : List Parl.Tok} {i : Nat} {e p : Int} (t g : Bool) (h : SB w rb tb cap s L i e p) :
    SB (((w.alloc (wyB t g)).alloc bxZ).alloc (wyB false false)) rb tb cap s L i e p ∧ KB [rb] w (((w.alloc (wyB t g)).alloc bxZ).alloc (wyB false false)) ∧
    (((w.alloc (wyB t g)).alloc bxZ).alloc (wyB false false)).heap[w.heap.size]? = some (.cells #[.bool t, .bool g] 220 (0, 0)) ∧
    (((w.alloc (wyB t g)).alloc bxZ).alloc (wyB false false)).heap[w.heap.size + 1]? = some (.cells #[.string ⟨#[]⟩, .string ⟨#[]⟩, .int .i64 0, .string ⟨#[]⟩, .int .i64 0, .slice none 0 0, .int .i64 0, .string ⟨#[]⟩, .int .i64 0, .slice none 0 0, .int .i64 0, .string ⟨#[]⟩, .int .i64 0, .slice none 0 0] 173 (0, 0)) ∧
    (((w.alloc (wyB t g)).alloc bxZ).alloc (wyB false false)).heap[w.heap.size + 1 + 1]? = some (.cells #[.bool false, .bool false] 220 (0, 0)) := by
  refine ⟨h.below ((((Below.refl _ _).alloc (Nat.le_refl _) _).alloc (by simp) _).alloc (by simp; omega) _), (((KB.refl [rb] w).alloc _).alloc _).alloc _, ?_, ?_, ?_⟩
  · exact blk_alloc' (blk_alloc' (heap_alloc_new w _) _) _
  · refine blk_alloc' ?_ _
    have := heap_alloc_new (w.alloc (wyB t g)) bxZ
    rw [World.size_alloc] at this
    exact this
  · have := heap_alloc_new ((w.alloc (wyB t g)).alloc bxZ) (wyB false false)
    rw [World.size_alloc, World.size_alloc] at this
    exact this
end Go.Proofs.YthfjnfcekeknlaaGreatDoor
namespace Go.Proofs.YthfjnfcekeknlaaGreatDoor
open Go.RowKit

set_option maxHeartbeats 8000000 in
set_option maxRecDepth 100000 in
theorem itB_err (w : World) (rb tb cap : Nat) (s : ByteArray) (L : List Parl.Tok) (i : Nat) (e0 p0 : Int) (tests goals : Bool) (h : SB w rb tb cap s L i e0 p0) (he : e0 ≠ 0) :
    Calls Tryz.prog 186 #[.pointer (some ⟨rb, 0, none⟩), .agg #[.bool tests, .bool goals]] w fun e w' => PErrW rb tb cap s L e0 p0 w e w' := by
  have hlt := h.hlt
  have htl := h.tblt
  obtain ⟨hS, hK, hB0, hB1, hB2⟩ := itm_boxes tests goals h
  unfold bxZ wyB at hS hK hB0 hB1 hB2
  have HS := hide hS
  have HK := hide hK
  have HB0 := hide hB0
  have HB1 := hide hB1
  have HB2 := hide hB2
  clear hS hK hB0 hB1 hB2 h
  have he' : (e0 != 0) = true := by simpa using he
  go_enter Tryz.func186, Tryz.ntmps186
  go_wp2_with fail
  refine (trm_err _ rb tb cap s L e0 p0 1 ⟨i, unhide HS⟩ he).mono ?_
  rintro e w2 ⟨a, rfl, ⟨j, hs2⟩, hk2⟩
  have HK2 := hide ((unhide HK).trans hk2)
  have hb0 := blk_kb hk2 (unhide HB0) (by simp; omega)
  have hb1 := blk_kb hk2 (unhide HB1) (by simp; omega)
  have hb2 := blk_kb hk2 (unhide HB2) (by simp; omega)
  have hz0 : w.heap.size < w2.heap.size := blk_lt' hb0
  have hz1 : w.heap.size + 1 < w2.heap.size := blk_lt' hb1
  have hz2 : w.heap.size + 1 + 1 < w2.heap.size := blk_lt' hb2
  have r0 := blkA' hb0
  have x0 := blkX' hb0
  have r1 := blkA' hb1
  have x1 := blkX' hb1
  have r2 := blkA' hb2
  have x2 := blkX' hb2
  have HB02 := hide hb0
  have HB12 := hide hb1
  have HB22 := hide hb2
  have c2 := hs2.c2
  have hrw : rb < w2.heap.size := hs2.hlt
  have HS2 := hide hs2
  clear hs2 hk2 hb0 hb1 hb2
  go_wp2_with fail
  go_big_region
  go_wp2_with fail
  refine bodyPost_ret (v := .tuple #[.agg #[.string ⟨#[]⟩, .string ⟨#[]⟩, .int .i64 0, .string ⟨#[]⟩, .int .i64 0, .slice none 0 0, .int .i64 0, .string ⟨#[]⟩, .int .i64 0, .slice none 0 0, .int .i64 0, .string ⟨#[]⟩, .int .i64 0, .slice none 0 0], .agg #[.bool tests, .bool goals]]) (by simp [results, Tryz.results186, go_sem, hz1, hz2, r1, r2]) rfl ?_
  have RP := OnB.c14 (w.heap.size + 1) w2 (.string ⟨#[]⟩) (.string ⟨#[]⟩) (.int .i64 0) (.string ⟨#[]⟩) (.int .i64 0) (.slice none 0 0) (.int .i64 0) (.string ⟨#[]⟩) (.int .i64 0) (.slice none 0 0) (.int .i64 0) (.string ⟨#[]⟩) (.int .i64 0) (.slice none 0 0)
  have RQ := fun W => OnB.c2 (w.heap.size + 1 + 1) W (.bool tests) (.bool goals)
  exact ⟨⟨0, ⟨#[]⟩, 0, none, 0, 0⟩, ⟨0, ⟨#[]⟩, 0, none, 0, 0⟩, ⟨0, ⟨#[]⟩, 0, none, 0, 0⟩, ⟨#[]⟩, ⟨#[]⟩, tests, goals, rfl, ⟨j, (((unhide HS2).onb RP (by omega) (by omega)).onb (RQ _) (by omega) (by omega)).below (((Below.refl _ _).alloc (Nat.le_refl _) _).drew)⟩, ((((unhide HK2).onb RP (by omega)).onb (RQ _) (by omega)).alloc _).drew⟩
end Go.Proofs.YthfjnfcekeknlaaGreatDoor
namespace Go.Proofs.YthfjnfcekeknlaaGreatDoor
open Go.RowKit

set_option maxHeartbeats 8000000 in
set_option maxRecDepth 100000 in
theorem itB_term (w : World) (rb tb cap : Nat) (s : ByteArray) (L : List Parl.Tok) (i : Nat) (p0 : Int) (tests goals : Bool) (h : SB w rb tb cap s L i 0 p0) (er ps : Nat) (hT : Parl.term 8 (L.drop i) = .inl (er, ps)) :
    Calls Tryz.prog 186 #[.pointer (some ⟨rb, 0, none⟩), .agg #[.bool tests, .bool goals]] w fun e w' => PErrW rb tb cap s L (er : Int) (ps : Int) w e w' := by
  have hlt := h.hlt
  have htl := h.tblt
  obtain ⟨hS, hK, hB0, hB1, hB2⟩ := itm_boxes tests goals h
  unfold bxZ wyB at hS hK hB0 hB1 hB2
  have HS := hide hS
  have HK := hide hK
  have HB0 := hide hB0
  have HB1 := hide hB1
  have HB2 := hide hB2
  clear hS hK hB0 hB1 hB2 h
  have I := hide (fun W (hW : SB W rb tb cap s L i 0 p0) => trm_all 8 W rb tb cap s L i p0 1 rfl hW)
  rw [hT] at I
  have he : (er : Int) ≠ 0 := by have := Parl.term_err _ _ _ hT; dsimp only at this; omega
  have he' : ((er : Int) != 0) = true := by simpa using he
  clear he hT
  go_enter Tryz.func186, Tryz.ntmps186
  go_wp2_with fail
  refine (unhide I _ (unhide HS)).mono ?_
  rintro e w2 ⟨a, rfl, ⟨j, hs2⟩, hk2⟩
  have HK2 := hide ((unhide HK).trans hk2)
  have hb0 := blk_kb hk2 (unhide HB0) (by simp; omega)
  have hb1 := blk_kb hk2 (unhide HB1) (by simp; omega)
  have hb2 := blk_kb hk2 (unhide HB2) (by simp; omega)
  have hz0 : w.heap.size < w2.heap.size := blk_lt' hb0
  have hz1 : w.heap.size + 1 < w2.heap.size := blk_lt' hb1
  have hz2 : w.heap.size + 1 + 1 < w2.heap.size := blk_lt' hb2
  have r0 := blkA' hb0
  have x0 := blkX' hb0
  have r1 := blkA' hb1
  have x1 := blkX' hb1
  have r2 := blkA' hb2
  have x2 := blkX' hb2
  have HB02 := hide hb0
  have HB12 := hide hb1
  have HB22 := hide hb2
  have c2 := hs2.c2
  have hrw : rb < w2.heap.size := hs2.hlt
  have HS2 := hide hs2
  clear hs2 hk2 hb0 hb1 hb2
  go_wp2_with fail
  go_big_region
  go_wp2_with fail
  refine bodyPost_ret (v := .tuple #[.agg #[.string ⟨#[]⟩, .string ⟨#[]⟩, .int .i64 0, .string ⟨#[]⟩, .int .i64 0, .slice none 0 0, .int .i64 0, .string ⟨#[]⟩, .int .i64 0, .slice none 0 0, .int .i64 0, .string ⟨#[]⟩, .int .i64 0, .slice none 0 0], .agg #[.bool tests, .bool goals]]) (by simp [results, Tryz.results186, go_sem, hz1, hz2, r1, r2]) rfl ?_
  have RP := OnB.c14 (w.heap.size + 1) w2 (.string ⟨#[]⟩) (.string ⟨#[]⟩) (.int .i64 0) (.string ⟨#[]⟩) (.int .i64 0) (.slice none 0 0) (.int .i64 0) (.string ⟨#[]⟩) (.int .i64 0) (.slice none 0 0) (.int .i64 0) (.string ⟨#[]⟩) (.int .i64 0) (.slice none 0 0)
  have RQ := fun W => OnB.c2 (w.heap.size + 1 + 1) W (.bool tests) (.bool goals)
  exact ⟨⟨0, ⟨#[]⟩, 0, none, 0, 0⟩, ⟨0, ⟨#[]⟩, 0, none, 0, 0⟩, ⟨0, ⟨#[]⟩, 0, none, 0, 0⟩, ⟨#[]⟩, ⟨#[]⟩, tests, goals, rfl, ⟨j, (((unhide HS2).onb RP (by omega) (by omega)).onb (RQ _) (by omega) (by omega)).below (((Below.refl _ _).alloc (Nat.le_refl _) _).drew)⟩, ((((unhide HK2).onb RP (by omega)).onb (RQ _) (by omega)).alloc _).drew⟩
end Go.Proofs.YthfjnfcekeknlaaGreatDoor
namespace Go.Proofs.YthfjnfcekeknlaaGreatDoor
open Go.RowKit

set_option maxHeartbeats 8000000 in
set_option maxRecDepth 100000 in
theorem itB_set (w : World) (rb tb cap : Nat) (s : ByteArray) (L : List Parl.Tok) (i : Nat) (p0 : Int) (tests _goals : Bool) (h : SB w rb tb cap s L i 0 p0) (t : Parl.Tm) (l1 : List Parl.Tok) (hT : Parl.term 8 (L.drop i) = .inr (t, l1)) (hk3 : t.kind = 3) (hg : Parl.sees l1 [61] = false) (hm : Parl.sees l1 [58, 61] = true) :
    Calls Tryz.prog 186 #[.pointer (some ⟨rb, 0, none⟩), .agg #[.bool tests, .bool true]] w fun e w' => PUniW rb tb cap s L p0 (Parl.item0 tests true (L.drop i)) w e w' := by
  have hlt := h.hlt
  have htl := h.tblt
  obtain ⟨hS, hK, hB0, hB1, hB2⟩ := itm_boxes tests true h
  unfold bxZ wyB at hS hK hB0 hB1 hB2
  have HS := hide hS
  have HK := hide hK
  have HB0 := hide hB0
  have HB1 := hide hB1
  have HB2 := hide hB2
  clear hS hK hB0 hB1 hB2 h
  have I := hide (fun W (hW : SB W rb tb cap s L i 0 p0) => trm_all 8 W rb tb cap s L i p0 1 rfl hW)
  rw [hT] at I
  rw [Parl.item0_set hT hk3 hm]
  go_enter Tryz.func186, Tryz.ntmps186
  go_wp2_with fail
  refine (unhide I _ (unhide HS)).mono ?_
  rintro e w2 ⟨nm, num, ao, cp, j, rfl, hnm, hj, hs2, hk2, hv2⟩
  have HV2 := hide (hv2.imp (Q := fun g => w.heap.size + 3 ≤ g ∧ g < w2.heap.size) (fun g q h => ⟨by simp at q; omega, h⟩))
  clear hv2
  subst hj
  have HNM := hide hnm
  clear hnm
  have HK2 := hide ((unhide HK).trans hk2)
  have hb0 := blk_kb hk2 (unhide HB0) (by simp; omega)
  have hb1 := blk_kb hk2 (unhide HB1) (by simp; omega)
  have hb2 := blk_kb hk2 (unhide HB2) (by simp; omega)
  have hz0 : w.heap.size < w2.heap.size := blk_lt' hb0
  have hz1 : w.heap.size + 1 < w2.heap.size := blk_lt' hb1
  have hz2 : w.heap.size + 1 + 1 < w2.heap.size := blk_lt' hb2
  have r0 := blkA' hb0
  have x0 := blkX' hb0
  have r1 := blkA' hb1
  have x1 := blkX' hb1
  have r2 := blkA' hb2
  have x2 := blkX' hb2
  have HB02 := hide hb0
  have HB12 := hide hb1
  have HB22 := hide hb2
  have c2 := hs2.c2
  have hrw : rb < w2.heap.size := hs2.hlt
  have HS2 := hide hs2
  clear hs2 hk2 hb0 hb1 hb2
  have hq : bk t.kind = 2 := by rw [hk3]; rfl
  rw [hq]
  rw [hq] at HV2
  clear hq hk3 hT
  have HZW := hide hz2
  have HSG := hide (Parl.sees_text hm)
  have hkj := hide (show (Parl.hd (L.drop j)).kind ≠ 0 by rw [Parl.sees_kind hm]; omega)
  go_wp2_with fail
  refine (is_any _ rb tb cap s L j 0 _ _ ((unhide HS2).below ((Below.refl _ _).alloc (Nat.le_refl _) _))).mono ?_
  rintro e wn ⟨rfl, n0, rfl⟩
  simp only [ByteArray.toList_mk]
  rw [hg]
  go_wp2_with fail
  refine (is_any _ rb tb cap s L j 0 _ _ (((unhide HS2).below ((Below.refl _ _).alloc (Nat.le_refl _) _)).draws _)).mono ?_
  rintro e wn ⟨rfl, n1, rfl⟩
  simp only [ByteArray.toList_mk]
  rw [hm]
  go_wp2_with fail
  have RO := fun W => (OnB.refl w.heap.size W).set 0 (.bool false)
  have HKA := hide ((((unhide HK2).alloc (.cells #[.int .i64 2, .string nm, .int .i64 num, .slice ao t.args.length cp] 109)).drewN (n0 + n1)).onb (RO _) (Nat.le_refl _))
  have HBA0 := hide (set2B (.bool false) (show ((w2.alloc (.cells #[.int .i64 2, .string nm, .int .i64 num, .slice ao t.args.length cp] 109)).drewN (n0 + n1)).heap[w.heap.size]? = _ from blk_alloc' (unhide HB02) _))
  have HBA1 := hide (blk_other (show ((w2.alloc (.cells #[.int .i64 2, .string nm, .int .i64 num, .slice ao t.args.length cp] 109)).drewN (n0 + n1)).heap[w.heap.size + 1]? = _ from blk_alloc' (unhide HB12) _) (show w.heap.size + 1 ≠ w.heap.size by omega) 0 (.bool false))
  have HBA2 := hide (blk_other (show ((w2.alloc (.cells #[.int .i64 2, .string nm, .int .i64 num, .slice ao t.args.length cp] 109)).drewN (n0 + n1)).heap[w.heap.size + 1 + 1]? = _ from blk_alloc' (unhide HB22) _) (show w.heap.size + 1 + 1 ≠ w.heap.size by omega) 0 (.bool false))
  have HSA := hide ((show SB ((w2.alloc (.cells #[.int .i64 2, .string nm, .int .i64 num, .slice ao t.args.length cp] 109)).drewN (n0 + n1)) rb tb cap s L j 0 p0 from (((unhide HS2).below ((Below.refl _ _).alloc (Nat.le_refl _) _)).draws _)).onb (RO _) (by omega) (by omega))
  have HVA := hide ((show VB (fun g => w.heap.size + 3 ≤ g ∧ g < w2.heap.size) ((w2.alloc (.cells #[.int .i64 2, .string nm, .int .i64 num, .slice ao t.args.length cp] 109)).drewN (n0 + n1)) ⟨2, nm, num, ao, t.args.length, cp⟩ t from (unhide HV2).kb (((KB.refl [] w2).alloc _).drewN _) (by simp)).onb (RO _) (fun g q => by omega))
  clear HV2
  refine (asB_any _ rb tb cap s L j _ ⟨2, nm, num, ao, t.args.length, cp⟩ t (unhide HSA) (unhide hkj) (unhide HSG)).mono ?_
  have hrw0 : rb < w2.heap.size := hrw
  clear r0 x0 r1 x1 r2 x2 hz0 hz1 hz2 c2 hrw
  rintro e w5 ⟨a1, b1, c1, op, sg, j2, e1, p1, rfl, hs5, hk5, hu, hva⟩
  have HV5 := hide ((unhide HVA).kbs (unhide HSA) hk5)
  have HVR := hide hva
  clear hva HVA
  have HU := hide hu
  have HS5 := hide hs5
  have HK5 := hide ((unhide HKA).trans hk5)
  have hb0 := blk_kb hk5 (unhide HBA0) (by simp; omega)
  have hb1 := blk_kb hk5 (unhide HBA1) (by simp; omega)
  have hb2 := blk_kb hk5 (unhide HBA2) (by simp; omega)
  have hz0 : w.heap.size < w5.heap.size := blk_lt' hb0
  have hz1 : w.heap.size + 1 < w5.heap.size := blk_lt' hb1
  have hz2 : w.heap.size + 1 + 1 < w5.heap.size := blk_lt' hb2
  have r0 := blkA' hb0
  have x0 := blkX' hb0
  have r1 := blkA' hb1
  have x1 := blkX' hb1
  have r2 := blkA' hb2
  have x2 := blkX' hb2
  have hrw : rb < w5.heap.size := hs5.hlt
  clear hs5 hk5 hu hb0 hb1 hb2
  go_wp2_with fail
  go_big_region
  go_wp2_with fail
  refine bodyPost_ret (v := .tuple #[.agg #[.string op, .string sg, .int .i64 a1.k, .string a1.nm, .int .i64 a1.num, .slice a1.ao a1.n a1.cap, .int .i64 b1.k, .string b1.nm, .int .i64 b1.num, .slice b1.ao b1.n b1.cap, .int .i64 c1.k, .string c1.nm, .int .i64 c1.num, .slice c1.ao c1.n c1.cap], .agg #[.bool false, .bool true]]) (by simp [results, Tryz.results186, go_sem, hz1, hz2, r1, r2]) rfl ?_
  have RP := OnB.c14 (w.heap.size + 1) w5 (.string op) (.string sg) (.int .i64 a1.k) (.string a1.nm) (.int .i64 a1.num) (.slice a1.ao a1.n a1.cap) (.int .i64 b1.k) (.string b1.nm) (.int .i64 b1.num) (.slice b1.ao b1.n b1.cap) (.int .i64 c1.k) (.string c1.nm) (.int .i64 c1.num) (.slice c1.ao c1.n c1.cap)
  have RQ := fun W => OnB.c2 (w.heap.size + 1 + 1) W (.bool false) (.bool true)
  exact ⟨a1, b1, c1, op, sg, false, true, j2, e1, p1, rfl, (((unhide HS5).onb RP (by omega) (by omega)).onb (RQ _) (by omega) (by omega)).below (((Below.refl _ _).alloc (Nat.le_refl _) _).drew), ((((unhide HK5).onb RP (by omega)).onb (RQ _) (by omega)).alloc _).drew, uni_wayed (unhide HU), way_wayed _ _ _, val_set ((((unhide HV5).onb RP (fun g q => by omega)).onb (RQ _) (fun g q => by omega)).below (((Below.refl _ _).alloc (Nat.le_refl _) _).drew)) ((unhide HVR).imp fun a t h => (((h.onb RP (fun g q => by have := unhide HZW; simp at q; omega)).onb (RQ _) (fun g q => by have := unhide HZW; simp at q; omega)).below (((Below.refl _ _).alloc (Nat.le_refl _) _).drew)))⟩

end Go.Proofs.YthfjnfcekeknlaaGreatDoor
namespace Go.Proofs.YthfjnfcekeknlaaGreatDoor
open Go.RowKit

set_option maxHeartbeats 8000000 in
set_option maxRecDepth 100000 in
theorem itB_setno (w : World) (rb tb cap : Nat) (s : ByteArray) (L : List Parl.Tok) (i : Nat) (p0 : Int) (tests _goals : Bool) (h : SB w rb tb cap s L i 0 p0) (t : Parl.Tm) (l1 : List Parl.Tok) (hT : Parl.term 8 (L.drop i) = .inr (t, l1)) (hk3 : t.kind = 3) (hg : Parl.sees l1 [61] = false) (hm : Parl.sees l1 [58, 61] = true) :
    Calls Tryz.prog 186 #[.pointer (some ⟨rb, 0, none⟩), .agg #[.bool tests, .bool false]] w fun e w' => PErrW rb tb cap s L 2 ((Parl.hd l1).pos : Int) w e w' := by
  have hlt := h.hlt
  have htl := h.tblt
  obtain ⟨hS, hK, hB0, hB1, hB2⟩ := itm_boxes tests false h
  unfold bxZ wyB at hS hK hB0 hB1 hB2
  have HS := hide hS
  have HK := hide hK
  have HB0 := hide hB0
  have HB1 := hide hB1
  have HB2 := hide hB2
  clear hS hK hB0 hB1 hB2 h
  have I := hide (fun W (hW : SB W rb tb cap s L i 0 p0) => trm_all 8 W rb tb cap s L i p0 1 rfl hW)
  rw [hT] at I
  go_enter Tryz.func186, Tryz.ntmps186
  go_wp2_with fail
  refine (unhide I _ (unhide HS)).mono ?_
  rintro e w2 ⟨nm, num, ao, cp, j, rfl, hnm, hj, hs2, hk2, -⟩
  subst hj
  have HNM := hide hnm
  clear hnm
  have HK2 := hide ((unhide HK).trans hk2)
  have hb0 := blk_kb hk2 (unhide HB0) (by simp; omega)
  have hb1 := blk_kb hk2 (unhide HB1) (by simp; omega)
  have hb2 := blk_kb hk2 (unhide HB2) (by simp; omega)
  have hz0 : w.heap.size < w2.heap.size := blk_lt' hb0
  have hz1 : w.heap.size + 1 < w2.heap.size := blk_lt' hb1
  have hz2 : w.heap.size + 1 + 1 < w2.heap.size := blk_lt' hb2
  have r0 := blkA' hb0
  have x0 := blkX' hb0
  have r1 := blkA' hb1
  have x1 := blkX' hb1
  have r2 := blkA' hb2
  have x2 := blkX' hb2
  have HB02 := hide hb0
  have HB12 := hide hb1
  have HB22 := hide hb2
  have c2 := hs2.c2
  have hrw : rb < w2.heap.size := hs2.hlt
  have HS2 := hide hs2
  clear hs2 hk2 hb0 hb1 hb2
  have hq : bk t.kind = 2 := by rw [hk3]; rfl
  rw [hq]
  clear hq hk3 hT
  have hkj := hide (show (Parl.hd (L.drop j)).kind ≠ 0 by rw [Parl.sees_kind hm]; omega)
  go_wp2_with fail
  refine (is_any _ rb tb cap s L j 0 _ _ ((unhide HS2).below ((Below.refl _ _).alloc (Nat.le_refl _) _))).mono ?_
  rintro e wn ⟨rfl, n0, rfl⟩
  simp only [ByteArray.toList_mk]
  rw [hg]
  go_wp2_with fail
  refine (is_any _ rb tb cap s L j 0 _ _ (((unhide HS2).below ((Below.refl _ _).alloc (Nat.le_refl _) _)).draws _)).mono ?_
  rintro e wn ⟨rfl, n1, rfl⟩
  simp only [ByteArray.toList_mk]
  rw [hm]
  go_wp2_with fail
  have HKA := hide (((unhide HK2).alloc (.cells #[.int .i64 2, .string nm, .int .i64 num, .slice ao t.args.length cp] 109)).drewN (n0 + n1))
  have HBA0 := hide (show ((w2.alloc (.cells #[.int .i64 2, .string nm, .int .i64 num, .slice ao t.args.length cp] 109)).drewN (n0 + n1)).heap[w.heap.size]? = _ from blk_alloc' (unhide HB02) _)
  have HBA1 := hide (show ((w2.alloc (.cells #[.int .i64 2, .string nm, .int .i64 num, .slice ao t.args.length cp] 109)).drewN (n0 + n1)).heap[w.heap.size + 1]? = _ from blk_alloc' (unhide HB12) _)
  have HBA2 := hide (show ((w2.alloc (.cells #[.int .i64 2, .string nm, .int .i64 num, .slice ao t.args.length cp] 109)).drewN (n0 + n1)).heap[w.heap.size + 1 + 1]? = _ from blk_alloc' (unhide HB22) _)
  have HBAa := hide (show ((w2.alloc (.cells #[.int .i64 2, .string nm, .int .i64 num, .slice ao t.args.length cp] 109)).drewN (n0 + n1)).heap[w2.heap.size]? = some (.cells #[.int .i64 2, .string nm, .int .i64 num, .slice ao t.args.length cp] 109 (0, 0)) from heap_alloc_new w2 _)
  have HHZ : w.heap.size + 1 + 1 < w2.heap.size := hz2
  refine (bad_first _ rb tb cap s L j _ 2 ((((unhide HS2).below ((Below.refl _ _).alloc (Nat.le_refl _) _)).draws _))).mono ?_
  have hrw0 : rb < w2.heap.size := hrw
  clear r0 x0 r1 x1 r2 x2 hz0 hz1 hz2 c2 hrw
  rintro e w4 ⟨rfl, hs4, hk4⟩
  have hba := blk_kb hk4 (unhide HBAa) (by simp; omega)
  have hza : w2.heap.size < w4.heap.size := blk_lt' hba
  have ra := blkA' hba
  have xa := blkX' hba
  have HS4 := hide hs4
  have HK4 := hide ((unhide HKA).trans hk4)
  have hb0 := blk_kb hk4 (unhide HBA0) (by simp; omega)
  have hb1 := blk_kb hk4 (unhide HBA1) (by simp; omega)
  have hb2 := blk_kb hk4 (unhide HBA2) (by simp; omega)
  have hz0 : w.heap.size < w4.heap.size := blk_lt' hb0
  have hz1 : w.heap.size + 1 < w4.heap.size := blk_lt' hb1
  have hz2 : w.heap.size + 1 + 1 < w4.heap.size := blk_lt' hb2
  have r0 := blkA' hb0
  have x0 := blkX' hb0
  have r1 := blkA' hb1
  have x1 := blkX' hb1
  have r2 := blkA' hb2
  have x2 := blkX' hb2
  have HB04 := hide hb0
  have HB14 := hide hb1
  have HB24 := hide hb2
  have hrw : rb < w4.heap.size := hs4.hlt
  clear hs4 hk4 hb0 hb1 hb2 HBA0 HBA1 HBA2 HKA
  go_wp2_with fail
  have RO := fun W => (OnB.refl w.heap.size W).set 0 (.bool false)
  have HKA := hide ((unhide HK4).onb (RO _) (Nat.le_refl _))
  have HBA0 := hide (set2B (.bool false) (unhide HB04))
  have HBA1 := hide (blk_other (unhide HB14) (show w.heap.size + 1 ≠ w.heap.size by omega) 0 (.bool false))
  have HBA2 := hide (blk_other (unhide HB24) (show w.heap.size + 1 + 1 ≠ w.heap.size by omega) 0 (.bool false))
  refine (asB_err _ rb tb cap s L j _ _ ⟨2, nm, num, ao, t.args.length, cp⟩ t ((unhide HS4).onb (RO _) (by omega) (by omega)) (by omega)).mono ?_
  clear r0 x0 r1 x1 r2 x2 hz0 hz1 hz2 hrw
  rintro e w5 ⟨a1, b1, c1, op, sg, rfl, ⟨j2, hs5⟩, hk5⟩
  have HS5 := hide hs5
  have HK5 := hide ((unhide HKA).trans hk5)
  have hb0 := blk_kb hk5 (unhide HBA0) (by simp; omega)
  have hb1 := blk_kb hk5 (unhide HBA1) (by simp; omega)
  have hb2 := blk_kb hk5 (unhide HBA2) (by simp; omega)
  have hz0 : w.heap.size < w5.heap.size := blk_lt' hb0
  have hz1 : w.heap.size + 1 < w5.heap.size := blk_lt' hb1
  have hz2 : w.heap.size + 1 + 1 < w5.heap.size := blk_lt' hb2
  have r0 := blkA' hb0
  have x0 := blkX' hb0
  have r1 := blkA' hb1
  have x1 := blkX' hb1
  have r2 := blkA' hb2
  have x2 := blkX' hb2
  have hrw : rb < w5.heap.size := hs5.hlt
  clear hs5 hk5 hb0 hb1 hb2
  go_wp2_with fail
  go_big_region
  go_wp2_with fail
  refine bodyPost_ret (v := .tuple #[.agg #[.string op, .string sg, .int .i64 a1.k, .string a1.nm, .int .i64 a1.num, .slice a1.ao a1.n a1.cap, .int .i64 b1.k, .string b1.nm, .int .i64 b1.num, .slice b1.ao b1.n b1.cap, .int .i64 c1.k, .string c1.nm, .int .i64 c1.num, .slice c1.ao c1.n c1.cap], .agg #[.bool false, .bool false]]) (by simp [results, Tryz.results186, go_sem, hz1, hz2, r1, r2]) rfl ?_
  have RP := OnB.c14 (w.heap.size + 1) w5 (.string op) (.string sg) (.int .i64 a1.k) (.string a1.nm) (.int .i64 a1.num) (.slice a1.ao a1.n a1.cap) (.int .i64 b1.k) (.string b1.nm) (.int .i64 b1.num) (.slice b1.ao b1.n b1.cap) (.int .i64 c1.k) (.string c1.nm) (.int .i64 c1.num) (.slice c1.ao c1.n c1.cap)
  have RQ := fun W => OnB.c2 (w.heap.size + 1 + 1) W (.bool false) (.bool false)
  exact ⟨a1, b1, c1, op, sg, false, false, rfl, ⟨j2, (((unhide HS5).onb RP (by omega) (by omega)).onb (RQ _) (by omega) (by omega)).below (((Below.refl _ _).alloc (Nat.le_refl _) _).drew)⟩, ((((unhide HK5).onb RP (by omega)).onb (RQ _) (by omega)).alloc _).drew⟩

end Go.Proofs.YthfjnfcekeknlaaGreatDoor
