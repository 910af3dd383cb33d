import Derived.Test.YthfjnfcekeknlaaGreatDoorC01
import Derived.Test.YthfjnfcekeknlaaGreatDoorC02
import Derived.Test.YthfjnfcekeknlaaGreatDoorC03
import Derived.Test.YthfjnfcekeknlaaGreatDoorC04
import Derived.Deep.LoopGhost
import Derived.Maps.AppendAt
namespace Go.Proofs.YthfjnfcekeknlaaGreatDoor
open Go.RowKit

theorem Tryz.info109 : (Tryz.prog.info? 109).map (fun i => (i.zero, i.size, i.bytes)) = some (some (.agg #[.int .i64 0, .string ⟨#[]⟩, .int .i64 0, .slice none 0 0]), 4, 56) := by kernel_rfl

def TrmSaid (f : Nat) : Prop := ∀ (w : World) (rb tb cap : Nat) (s : ByteArray) (L : List Parl.Tok) (i : Nat) (p0 : Int) (d : Nat), f + d = 9 → SB w rb tb cap s L i 0 p0 →
  Calls Tryz.prog 149 #[.pointer (some ⟨rb, 0, none⟩), .int .i64 (d : Int)] w fun e w' => PTermB rb tb cap s L p0 (Parl.term f (L.drop i)) w e w'

/-- How the reader stands behind a term, error or not. -/
def UniR {α : Type} (L : List Parl.Tok) (p0 : Int) (r : Parl.Res α) (j : Nat) (e1 p1 : Int) : Prop := match r with
  | .inl (er, pos) => e1 = (er : Int) ∧ p1 = (pos : Int) ∧ e1 ≠ 0
  | .inr (_, l1) => e1 = 0 ∧ p1 = p0 ∧ L.drop j = l1
def ValB (w w' : World) (r : Parl.Res Parl.Tm) (a : BV) : Prop := match r with
  | .inl _ => True
  | .inr (t, _) => VB (fun g => w.heap.size ≤ g) w' a t
def PUni (rb tb cap : Nat) (s : ByteArray) (L : List Parl.Tok) (p0 : Int) (r : Parl.Res Parl.Tm) (w : World) (e : Ending) (w' : World) : Prop :=
  ∃ (a : BV) (j : Nat) (e1 p1 : Int), e = .returned (.agg #[.int .i64 a.k, .string a.nm, .int .i64 a.num, .slice a.ao a.n a.cap]) ∧ SB w' rb tb cap s L j e1 p1 ∧ KB [rb] w w' ∧ UniR L p0 r j e1 p1 ∧ ValB w w' r a

theorem trm_uni {f : Nat} (IH : TrmSaid f) (w : World) (rb tb cap : Nat) (s : ByteArray) (L : List Parl.Tok) (i : Nat) (p0 : Int) (d : Nat) (hfd : f + d = 9) (h : SB w rb tb cap s L i 0 p0) :
    Calls Tryz.prog 149 #[.pointer (some ⟨rb, 0, none⟩), .int .i64 (d : Int)] w fun e w' => PUni rb tb cap s L p0 (Parl.term f (L.drop i)) w e w' := by
  refine (IH w rb tb cap s L i p0 d hfd h).mono ?_
  have hE := Parl.term_err f (L.drop i)
  generalize Parl.term f (L.drop i) = r at *
  rcases r with ⟨er, pos⟩ | ⟨t, l1⟩
  · rintro e w' ⟨a, rfl, ⟨j, hs⟩, hk⟩
    have := hE _ rfl
    exact ⟨a, j, _, _, rfl, hs, hk, ⟨rfl, rfl, by dsimp only at this; omega⟩, trivial⟩
  · rintro e w' ⟨nm, num, ao, cp, j, rfl, _, hj, hs, hk, hv⟩
    exact ⟨⟨_, nm, num, ao, _, cp⟩, j, _, _, rfl, hs, hk, ⟨rfl, rfl, hj⟩, hv⟩

theorem SB.blw {w w' : World} {rb tb cap B : Nat} {s : ByteArray} {L : List Parl.Tok} {i : Nat} {e p : Int} (h : SB w rb tb cap s L i e p) (hb : Below B w w') (h1 : rb < B) (h2 : tb < B) : SB w' rb tb cap s L i e p := by
  have c : ∀ o, w'.cell? ⟨rb, o, none⟩ = w.cell? ⟨rb, o, none⟩ := fun o => hb.cell (p := ⟨rb, o, none⟩) h1
  have f : ∀ o, w'.frozen? ⟨rb, o, none⟩ = w.frozen? ⟨rb, o, none⟩ := fun o => hb.frozen (p := ⟨rb, o, none⟩) h1
  refine ⟨(c 0).trans h.c0, (c 1).trans h.c1, (c 2).trans h.c2, (c 3).trans h.c3, (f 1).trans h.f1, (f 2).trans h.f2, (f 3).trans h.f3, ⟨h.own.1, ?_⟩, h.ne, h.lt, h.chain, h.few, h.kinds, by have := hb.size; have := h.hlt; omega⟩
  rcases h.own.2 with ⟨q, _⟩ | ⟨g, cp, cur, a, b', c', d⟩
  · cases q
  · refine Or.inr ⟨g, cp, cur, a, b', ?_, d⟩
    simp only [Value.slice.injEq, Option.some.injEq, Addr.mk.injEq, and_true, true_and] at a
    obtain ⟨rfl, rfl⟩ := a
    rw [hb.block tb h2]
    exact c'

theorem own_at {w w' : World} {b0 : Nat} {e : TypeId} {sz : Nat} {v : Value} {n : Nat} {xs : List Value} (h : w.ownsRow b0 e sz v n xs) (hb : ∀ k, b0 ≤ k → k < w.heap.size → w'.heap[k]? = w.heap[k]?) : w'.ownsRow b0 e sz v n xs :=
  ⟨h.1, h.2.imp id fun ⟨g, cap, cur, a, b, c, d⟩ => ⟨g, cap, cur, a, b, (hb g b (Array.getElem?_eq_some_iff.1 c).1).trans c, d⟩⟩
theorem own_kb {w w' : World} {b0 : Nat} {e : TypeId} {sz : Nat} {v : Value} {n : Nat} {xs : List Value} {X : List Nat} (h : w.ownsRow b0 e sz v n xs) (hk : KB X w w') (hX : ∀ x ∈ X, x < b0) : w'.ownsRow b0 e sz v n xs :=
  own_at h (fun k hk1 hk2 => hk.block k hk2 (fun q => by have := hX k q; omega))

/-- What has been read lies there, beside the boxes and the row. -/
def RowB (w : World) (b0 b2 b3 : Nat) (av : Value) (xs : List Value) (wr : World) (ts : List Parl.Tm) : Prop :=
  ∃ us : List BV, xs = us.flatMap bvC ∧ All2 (VB (fun g => w.heap.size ≤ g ∧ g ≠ b0 ∧ g ≠ b2 ∧ g ≠ b3 ∧ some g ≠ av.ownBlock) wr) us ts
/-- The loop's relation. -/
def LB (w : World) (rb tb cap : Nat) (s : ByteArray) (L : List Parl.Tok) (p0 : Int) (f : Nat) (l0 : List Parl.Tok) (b0 b2 b3 : Nat) (tx : ByteArray) (k : Nat) (more : Value) (wr : World) : Prop :=
  ∃ (n : Nat) (av : Value) (xs : List Value) (a : BV) (j : Nat) (e1 p1 : Int), more = .bool (Parl.sees (L.drop j) [44]) ∧ SB wr rb tb cap s L j e1 p1 ∧ KB [rb] w wr ∧
    wr.heap[b0]? = some (.cells #[.int .i64 0, .string ⟨#[]⟩, .int .i64 0, .slice none 0 0] 109 (0, 0)) ∧
    wr.heap[b2]? = some (.cells #[.int .i64 1, .string tx, .int .i64 0, av] 109 (0, 0)) ∧
    wr.heap[b3]? = some (.cells #[.int .i64 a.k, .string a.nm, .int .i64 a.num, .slice a.ao a.n a.cap] 109 (0, 0)) ∧
    wr.ownsRow (b3 + 1) 109 4 av n xs ∧ 1 ≤ n ∧ n ≤ 4 ∧ k + n = 5 ∧
    ((e1 = 0 ∧ p1 = p0 ∧ n ≤ 3 ∧ ∃ ts : List Parl.Tm, ts.length = n ∧ Parl.argsOf (Parl.term f) 2 l0 = Parl.preT ts (Parl.contArgs (Parl.term f) (3 - n) (L.drop j)) ∧ RowB w b0 b2 b3 av xs wr ts) ∨
     (e1 ≠ 0 ∧ ∃ er pos : Nat, e1 = (er : Int) ∧ p1 = (pos : Int) ∧ Parl.argsOf (Parl.term f) 2 l0 = .inl (er, pos)))

theorem new4 (W : World) (o : Obj) (a b c d : Value) (T : TypeId) : ∀ j u, ([a, b, c, d] : List Value)[j]? = some u → ((W.alloc o).alloc (.cells #[a, b, c, d] T)).cell? ((⟨W.heap.size + 1, 0, none⟩ : Addr).add j) = some u := by
  intro j u hj
  match j, hj with
  | 0, hj => simp at hj; subst hj; simp [Addr.add]
  | 1, hj => simp at hj; subst hj; simp [Addr.add]
  | 2, hj => simp at hj; subst hj; simp [Addr.add]
  | 3, hj => simp at hj; subst hj; simp [Addr.add]
theorem new4' (W : World) (a b c d : Value) (T : TypeId) : ∀ j u, ([a, b, c, d] : List Value)[j]? = some u → (W.alloc (.cells #[a, b, c, d] T)).cell? ((⟨W.heap.size, 0, none⟩ : Addr).add j) = some u := by
  intro j u hj
  match j, hj with
  | 0, hj => simp at hj; subst hj; simp [Addr.add]
  | 1, hj => simp at hj; subst hj; simp [Addr.add]
  | 2, hj => simp at hj; subst hj; simp [Addr.add]
  | 3, hj => simp at hj; subst hj; simp [Addr.add]
theorem newS (W : World) (n : Nat) (a b c d : Value) (T : TypeId) (hn : n = W.heap.size) : ∀ j u, ([a, b, c, d] : List Value)[j]? = some u → (W.alloc (.cells #[a, b, c, d] T)).cell? ((⟨n, 0, none⟩ : Addr).add j) = some u := by
  subst hn; exact new4' W a b c d T
theorem one4 (a b : Int) (c : ByteArray) (ao : Option Addr) (n cap : Nat) : ∀ u ∈ ([.int .i64 a, .string c, .int .i64 b, .slice ao n cap] : List Value), u.oneCell' = true := by
  intro u hu; simp at hu; rcases hu with rfl | rfl | rfl | rfl <;> rfl
theorem ownB_some {w : World} {b : Nat} {e : TypeId} {sz : Nat} {v : Value} {n : Nat} {xs : List Value} (h : w.ownsRow b e sz v (n + 1) xs) : ∃ g cap, v = .slice (some ⟨g, 0, none⟩) (n + 1) cap ∧ cap ≤ maxLen := by
  rcases h.2 with ⟨_, q⟩ | ⟨g, cap, cur, q, _, _, _, m, _⟩
  · omega
  · exact ⟨g, cap, q, m⟩

/-- What stands behind an append to the arguments. -/
theorem lb_mk {w W w7 : World} {rb tb cap : Nat} {s : ByteArray} {L : List Parl.Tok} {j : Nat} {e1 p1 : Int} {b0 b2 b3 n m : Nat} {tx : ByteArray} {av v' : Value} {xs xs' : List Value} {A : Obj} {C0 C3 : Array Value}
    (hS : SB W rb tb cap s L j e1 p1) (hK : KB [rb] w W) (hr : rb < w.heap.size) (ht : tb < w.heap.size) (h02 : w.heap.size ≤ b2) (_h0 : w.heap.size ≤ b0) (h0' : b0 < b2) (h23 : b2 < b3)
    (hb0 : W.heap[b0]? = some (.cells C0 109 (0, 0))) (hb2 : W.heap[b2]? = some (.cells #[.int .i64 1, .string tx, .int .i64 0, av] 109 (0, 0))) (hb3 : W.heap[b3]? = some (.cells C3 109 (0, 0)))
    (ho : W.ownsRow (b3 + 1) 109 4 av n xs) (hg : (W.alloc A).grownBy w7 av.ownBlock) (ho' : w7.ownsRow (b3 + 1) 109 4 v' (n + 1) xs') :
    SB (w7.setCell ⟨b2, 3, none⟩ v') rb tb cap s L j e1 p1 ∧ KB [rb] w ((w7.setCell ⟨b2, 3, none⟩ v').drewN m) ∧ ((w7.setCell ⟨b2, 3, none⟩ v').drewN m).heap[b0]? = some (.cells C0 109 (0, 0)) ∧
    ((w7.setCell ⟨b2, 3, none⟩ v').drewN m).heap[b2]? = some (.cells #[.int .i64 1, .string tx, .int .i64 0, v'] 109 (0, 0)) ∧ ((w7.setCell ⟨b2, 3, none⟩ v').drewN m).heap[b3]? = some (.cells C3 109 (0, 0)) ∧
    ((w7.setCell ⟨b2, 3, none⟩ v').drewN m).ownsRow (b3 + 1) 109 4 v' (n + 1) xs' := by
  have hl3 : b3 < W.heap.size := blk_lt' hb3
  have hB : Below (b3 + 1) W w7 := ((Below.refl _ _).alloc (by omega) A).grown hg (by simp; omega) (fun k q => (ho.lt k q).1)
  have q0 := (hB.block b0 (by omega)).trans hb0
  have q2 := (hB.block b2 (by omega)).trans hb2
  have q3 := (hB.block b3 (by omega)).trans hb3
  have hS7 : SB w7 rb tb cap s L j e1 p1 := hS.blw hB (by omega) (by omega)
  have hK7 : KB [rb] w w7 := (hK.alloc A).grown hg (fun k q => by have := (ho.lt k q).1; omega)
  refine ⟨hS7.kb (X := [b2]) ((KB.refl _ _).setIn (by simp) _) (by simp; omega) (by simp; omega), (hK7.setNew (by exact h02) _).drewN m, blk_other q0 (by omega) _ _, ?_, blk_other q3 (by omega) _ _, ?_⟩
  · exact blk_set q2 3 v'
  · exact own_at ho' (fun k hk1 hk2 => Below.heap_setCell _ _ _ _ (by show k ≠ b2; omega))

/-- The new term is laid in its box. -/
theorem x_set {w W : World} {rb tb cap : Nat} {s : ByteArray} {L : List Parl.Tok} {j : Nat} {e1 p1 : Int} {b0 b2 b3 n : Nat} {av : Value} {xs : List Value} {C0 C2 : Array Value} {c0 c1 c2 c3 : Value} (v0 v1 v2 v3 : Value)
    (hS : SB W rb tb cap s L j e1 p1) (hK : KB [rb] w W) (hr : rb < w.heap.size) (ht : tb < w.heap.size) (h02 : w.heap.size ≤ b2) (h0' : b0 < b2) (h23 : b2 < b3)
    (hb0 : W.heap[b0]? = some (.cells C0 109 (0, 0))) (hb2 : W.heap[b2]? = some (.cells C2 109 (0, 0))) (hb3 : W.heap[b3]? = some (.cells #[c0, c1, c2, c3] 109 (0, 0)))
    (ho : W.ownsRow (b3 + 1) 109 4 av n xs) :
    SB ((((W.setCell ⟨b3, 0, none⟩ v0).setCell ⟨b3, 1, none⟩ v1).setCell ⟨b3, 2, none⟩ v2).setCell ⟨b3, 3, none⟩ v3) rb tb cap s L j e1 p1 ∧ KB [rb] w ((((W.setCell ⟨b3, 0, none⟩ v0).setCell ⟨b3, 1, none⟩ v1).setCell ⟨b3, 2, none⟩ v2).setCell ⟨b3, 3, none⟩ v3) ∧
    ((((W.setCell ⟨b3, 0, none⟩ v0).setCell ⟨b3, 1, none⟩ v1).setCell ⟨b3, 2, none⟩ v2).setCell ⟨b3, 3, none⟩ v3).heap[b0]? = some (.cells C0 109 (0, 0)) ∧
    ((((W.setCell ⟨b3, 0, none⟩ v0).setCell ⟨b3, 1, none⟩ v1).setCell ⟨b3, 2, none⟩ v2).setCell ⟨b3, 3, none⟩ v3).heap[b2]? = some (.cells C2 109 (0, 0)) ∧
    ((((W.setCell ⟨b3, 0, none⟩ v0).setCell ⟨b3, 1, none⟩ v1).setCell ⟨b3, 2, none⟩ v2).setCell ⟨b3, 3, none⟩ v3).heap[b3]? = some (.cells #[v0, v1, v2, v3] 109 (0, 0)) ∧
    ((((W.setCell ⟨b3, 0, none⟩ v0).setCell ⟨b3, 1, none⟩ v1).setCell ⟨b3, 2, none⟩ v2).setCell ⟨b3, 3, none⟩ v3).ownsRow (b3 + 1) 109 4 av n xs := by
  refine ⟨hS.box (by omega) (by omega) _ _ _ _, hK.onlyNew (by omega) _ _ _ _, blk_other (blk_other (blk_other (blk_other hb0 (by omega) _ _) (by omega) _ _) (by omega) _ _) (by omega) _ _, blk_other (blk_other (blk_other (blk_other hb2 (by omega) _ _) (by omega) _ _) (by omega) _ _) (by omega) _ _, ?_, ?_⟩
  · exact blk_set (blk_set (blk_set (blk_set hb3 0 v0) 1 v1) 2 v2) 3 v3
  · refine own_at ho (fun k hk1 _ => ?_)
    have hne : k ≠ b3 := by omega
    rw [Below.heap_setCell _ _ _ _ hne, Below.heap_setCell _ _ _ _ hne, Below.heap_setCell _ _ _ _ hne, Below.heap_setCell _ _ _ _ hne]

theorem heap_set (w : World) (b i : Nat) (v : Value) {g : Nat} (h : g ≠ b) : (w.setCell ⟨b, i, none⟩ v).heap[g]? = w.heap[g]? := Below.heap_setCell _ _ _ _ h
theorem size_set (w : World) (p : Addr) (v : Value) : (w.setCell p v).heap.size = w.heap.size := by simp [World.setCell]
/-- The first argument lies there. -/
theorem row_first {w w4 w5 w7 : World} {b0 b2 : Nat} {a : BV} {t : Parl.Tm} {X A : Obj} {v' : Value} (hv : VB (fun g => w4.heap.size ≤ g) w5 a t) (h0 : w.heap.size ≤ b0) (h02 : b0 < b2) (h24 : b2 < w4.heap.size) (hg : ((w5.alloc X).alloc A).grownBy w7 none) (hat : v'.ownBlock = none ∨ v'.ownBlock = some ((w5.alloc X).alloc A).heap.size) (m : Nat) (u : Value) (xs : List Value) (hx : xs = bvC a) :
    RowB w b0 b2 w5.heap.size v' xs ((w7.setCell ⟨b2, 3, none⟩ u).drewN m) [t] := by
  refine ⟨[a], by rw [hx]; simp, ⟨hv.keep fun g cs hp hc _ => ?_, trivial⟩⟩
  have hl := (Array.getElem?_eq_some_iff.1 hc).1
  refine ⟨?_, by omega, by omega, by omega, by omega, ?_⟩
  · show (w7.setCell ⟨b2, 3, none⟩ u).heap[g]? = _
    rw [heap_set _ _ _ _ (by omega), hg.block g (by simp; omega) (by simp), Below.heap_alloc _ _ _ (by simp; omega), Below.heap_alloc _ _ _ hl]
    exact hc
  · rcases hat with e | e <;> rw [e] <;> simp
    omega
/-- One more lies there. -/
theorem row_next {w wr wb wc w7 : World} {rb b0 b2 b3 : Nat} {av v' : Value} {xs : List Value} {ts : List Parl.Tm} {a2 : BV} {t : Parl.Tm} {A : Obj} (h : RowB w b0 b2 b3 av xs wr ts) (hr : rb < w.heap.size) (hk : KB [rb] wr wc) (hkb : wr.heap.size ≤ wb.heap.size) (hv : VB (fun g => wb.heap.size ≤ g) wc a2 t) (hl3 : b3 < wr.heap.size) (h23 : b2 < b3) (h02 : b0 < b2) (h0 : w.heap.size ≤ b0) (hav : ∀ k, av.ownBlock = some k → k < wr.heap.size) {v0 v1 v2 v3 : Value}
    (hg : (((((wc.setCell ⟨b3, 0, none⟩ v0).setCell ⟨b3, 1, none⟩ v1).setCell ⟨b3, 2, none⟩ v2).setCell ⟨b3, 3, none⟩ v3).alloc A).grownBy w7 av.ownBlock) (hat : v'.ownBlock = av.ownBlock ∨ v'.ownBlock = some (((((wc.setCell ⟨b3, 0, none⟩ v0).setCell ⟨b3, 1, none⟩ v1).setCell ⟨b3, 2, none⟩ v2).setCell ⟨b3, 3, none⟩ v3).alloc A).heap.size) (m : Nat) (u : Value) (ys : List Value) (hx : ys = bvC a2) :
    RowB w b0 b2 b3 v' (xs ++ ys) ((w7.setCell ⟨b2, 3, none⟩ u).drewN m) (ts ++ [t]) := by
  obtain ⟨us, rfl, ha⟩ := h
  have hsz := hk.size
  have keep : ∀ g, g < wc.heap.size → g ≠ b2 → g ≠ b3 → some g ≠ av.ownBlock → ((w7.setCell ⟨b2, 3, none⟩ u).drewN m).heap[g]? = wc.heap[g]? := fun g h1 h2 h3 h4 => by
    show (w7.setCell ⟨b2, 3, none⟩ u).heap[g]? = _
    rw [heap_set _ _ _ _ h2, hg.block g (by simp; omega) h4, Below.heap_alloc _ _ _ (by simp; omega), heap_set _ _ _ _ h3, heap_set _ _ _ _ h3, heap_set _ _ _ _ h3, heap_set _ _ _ _ h3]
  have away : ∀ g, g < wc.heap.size → some g ≠ av.ownBlock → some g ≠ v'.ownBlock := fun g h1 h2 => by
    rcases hat with e | e <;> rw [e]
    · exact h2
    · simp; omega
  refine ⟨us ++ [a2], by rw [hx]; simp, All2.snoc (hv.keep fun g cs hp hc _ => ?_) (ha.imp fun a t q => q.keep fun g cs hp hc _ => ?_)⟩
  · have hl := (Array.getElem?_eq_some_iff.1 hc).1
    have h4 : some g ≠ av.ownBlock := fun e => by have := hav g e.symm; omega
    exact ⟨(keep g hl (by omega) (by omega) h4).trans hc, by omega, by omega, by omega, by omega, away g hl h4⟩
  · have hl := (Array.getElem?_eq_some_iff.1 hc).1
    obtain ⟨p1, p2, p3, p4, p5⟩ := hp
    have hc' : wc.heap[g]? = some (.cells cs 109 (0, 0)) := (hk.block g hl (by simp; omega)).trans hc
    exact ⟨(keep g (by omega) p3 p4 p5).trans hc', p1, p2, p3, p4, away g (by omega) p5⟩
/-- The whole term lies there. -/
theorem row_end {w wr w9 : World} {rb b2 b3 g n cp : Nat} {xs : List Value} {ts : List Parl.Tm} {tx : ByteArray} (h : RowB w w.heap.size b2 b3 (.slice (some ⟨g, 0, none⟩) n cp) xs wr ts) (ho : wr.ownsRow (b3 + 1) 109 4 (.slice (some ⟨g, 0, none⟩) n cp) n xs) (hts : ts.length = n) (hn3 : n ≤ 3) (htx : tx.size ≤ 240) (hr : rb < w.heap.size) (hb3 : w.heap.size < b3) (hk : KB [rb] wr w9) (v0 v1 v2 v3 : Value) :
    VB (fun g => w.heap.size ≤ g) ((((w9.setCell ⟨w.heap.size, 0, none⟩ v0).setCell ⟨w.heap.size, 1, none⟩ v1).setCell ⟨w.heap.size, 2, none⟩ v2).setCell ⟨w.heap.size, 3, none⟩ v3) ⟨bk 2, tx, 0, some ⟨g, 0, none⟩, ts.length, cp⟩ ⟨2, tx, ts⟩ := by
  obtain ⟨us, rfl, ha⟩ := h
  have keep : ∀ k, k < wr.heap.size → w.heap.size < k → ((((w9.setCell ⟨w.heap.size, 0, none⟩ v0).setCell ⟨w.heap.size, 1, none⟩ v1).setCell ⟨w.heap.size, 2, none⟩ v2).setCell ⟨w.heap.size, 3, none⟩ v3).heap[k]? = wr.heap[k]? := fun k h1 h2 => by
    rw [heap_set _ _ _ _ (by omega), heap_set _ _ _ _ (by omega), heap_set _ _ _ _ (by omega), heap_set _ _ _ _ (by omega)]
    exact hk.block k h1 (by simp; omega)
  rcases ho.2 with ⟨q, _⟩ | ⟨g', cap, cur, q, hb, hc, _, _, _, ht⟩
  · cases q
  · simp only [Value.slice.injEq, Option.some.injEq, Addr.mk.injEq, and_true, true_and] at q
    obtain ⟨rfl, rfl⟩ := q
    have hl := (Array.getElem?_eq_some_iff.1 hc).1
    have hlen := ha.length
    refine VB.node (g := g) (us := us) (cs := cur) ⟨rfl, rfl, fun _ => ⟨rfl, rfl⟩, fun q => absurd q (by simp), htx, by show ts.length ≤ 3; omega⟩ rfl (by omega) ((keep g hl (by omega)).trans hc) (by rw [hlen, hts]; exact ht) (ha.imp fun a t q => q.keep fun k cs hp hc' _ => ?_)
    obtain ⟨p1, p2, _⟩ := hp
    exact ⟨(keep k (Array.getElem?_eq_some_iff.1 hc').1 (by omega)).trans hc', p1⟩

theorem uni_first {f : Nat} {L : List Parl.Tok} {p0 : Int} {l0 : List Parl.Tok} {r : Parl.Res Parl.Tm} {j : Nat} {e1 p1 : Int} (hr : Parl.term f l0 = r) (hu : UniR L p0 r j e1 p1) (R : List Parl.Tm → Prop) (hR : ∀ t l1, r = .inr (t, l1) → R [t]) :
    ((e1 = 0 ∧ p1 = p0 ∧ 1 ≤ 3 ∧ ∃ ts : List Parl.Tm, ts.length = 1 ∧ Parl.argsOf (Parl.term f) 2 l0 = Parl.preT ts (Parl.contArgs (Parl.term f) (3 - 1) (L.drop j)) ∧ R ts) ∨
     (e1 ≠ 0 ∧ ∃ er pos : Nat, e1 = (er : Int) ∧ p1 = (pos : Int) ∧ Parl.argsOf (Parl.term f) 2 l0 = .inl (er, pos))) := by
  rw [Parl.args_cont, hr]
  rcases r with ⟨er, pos⟩ | ⟨t, l1⟩
  · obtain ⟨a, b, c⟩ := hu
    exact Or.inr ⟨c, er, pos, a, b, rfl⟩
  · obtain ⟨a, b, c⟩ := hu
    exact Or.inl ⟨a, b, by omega, [t], rfl, by rw [c], hR t l1 rfl⟩
theorem uni_next {f n : Nat} {L : List Parl.Tok} {p0 : Int} {l0 lj : List Parl.Tok} {ts : List Parl.Tm} {r : Parl.Res Parl.Tm} {j : Nat} {e1 p1 : Int} (hn : n < 3) (hl : ts.length = n) (ht : Parl.argsOf (Parl.term f) 2 l0 = Parl.preT ts (Parl.contArgs (Parl.term f) (3 - n) lj)) (hc : Parl.sees lj [44] = true) (hr : Parl.term f lj.tail = r) (hu : UniR L p0 r j e1 p1) (R : List Parl.Tm → Prop) (hR : ∀ t l1, r = .inr (t, l1) → R (ts ++ [t])) :
    ((e1 = 0 ∧ p1 = p0 ∧ n + 1 ≤ 3 ∧ ∃ ts : List Parl.Tm, ts.length = n + 1 ∧ Parl.argsOf (Parl.term f) 2 l0 = Parl.preT ts (Parl.contArgs (Parl.term f) (3 - (n + 1)) (L.drop j)) ∧ R ts) ∨
     (e1 ≠ 0 ∧ ∃ er pos : Nat, e1 = (er : Int) ∧ p1 = (pos : Int) ∧ Parl.argsOf (Parl.term f) 2 l0 = .inl (er, pos))) := by
  have hk : Parl.contArgs (Parl.term f) (3 - n) lj = Parl.argsOf (Parl.term f) (3 - (n + 1)) lj.tail := by
    unfold Parl.contArgs
    rw [if_pos hc, show 3 - n = (3 - (n + 1)) + 1 by omega]
  rw [ht, hk, Parl.args_cont, hr]
  rcases r with ⟨er, pos⟩ | ⟨t, l1⟩
  · obtain ⟨a, b, c⟩ := hu
    exact Or.inr ⟨c, er, pos, a, b, rfl⟩
  · obtain ⟨a, b, c⟩ := hu
    exact Or.inl ⟨a, b, by omega, ts ++ [t], by simp [hl], by rw [c]; exact Parl.preT_preT _ _ _, hR t l1 rfl⟩
theorem cont_full {f : Nat} {lj : List Parl.Tok} (ts : List Parl.Tm) (hc : Parl.sees lj [44] = true) : Parl.preT ts (Parl.contArgs (Parl.term f) (3 - 3) lj) = .inl (3, (Parl.hd lj).pos) := by
  unfold Parl.contArgs; rw [if_pos hc]; rfl
theorem cont_end {f k : Nat} {lj : List Parl.Tok} (ts : List Parl.Tm) (hc : Parl.sees lj [44] = false) (hb : Parl.sees lj [41] = true) : Parl.preT ts (Parl.contArgs (Parl.term f) k lj) = .inr (ts, lj.tail) := by
  unfold Parl.contArgs; rw [if_neg (by rw [hc]; simp), if_pos hb]; simp [Parl.preT]
theorem cont_bad {f k : Nat} {lj : List Parl.Tok} (ts : List Parl.Tm) (hc : Parl.sees lj [44] = false) (hb : Parl.sees lj [41] = false) : Parl.preT ts (Parl.contArgs (Parl.term f) k lj) = .inl (2, (Parl.hd lj).pos) := by
  unfold Parl.contArgs; rw [if_neg (by rw [hc]; simp), if_neg (by rw [hb]; simp)]; rfl
end Go.Proofs.YthfjnfcekeknlaaGreatDoor
namespace Go.Proofs.YthfjnfcekeknlaaGreatDoor
open Go.RowKit

set_option maxHeartbeats 4000000 in
set_option maxRecDepth 100000 in
theorem trm_call {f : Nat} (IH : TrmSaid f) (w : World) (rb tb cap : Nat) (s : ByteArray) (L : List Parl.Tok) (i : Nat) (p0 : Int) (d : Nat) (hfd : f + 1 + d = 9) (h : SB w rb tb cap s L i 0 p0) (hkk : (Parl.hd (L.drop i)).kind = 2) (hop : Parl.sees (L.drop (i + 1)) [40] = true) :
    Calls Tryz.prog 149 #[.pointer (some ⟨rb, 0, none⟩), .int .i64 (d : Int)] w fun e w' => PTermB rb tb cap s L p0 (match Parl.argsOf (Parl.term f) 2 (L.drop (i + 2)) with
      | .inl e => .inl e
      | .inr (ts, l2) => .inr (⟨2, (Parl.hd (L.drop i)).text, ts⟩, l2)) w e w' := by
  obtain ⟨hS, hK, hB0, hB1⟩ := term_boxes (Parl.hd (L.drop i)) h
  unfold boxRB boxTB at hS hK hB0 hB1
  have HS := hide hS
  have HK := hide hK
  have HB0 := hide hB0
  have HB1 := hide hB1
  have hlt := h.hlt
  have htl := h.tblt
  have HZT := hide h.tsize
  have hd8 : d ≤ 8 := by omega
  have hd8' : decide (8 < (d : Int)) = false := by simp; omega
  have hk0 := hide (show (Parl.hd (L.drop i)).kind ≠ 0 by omega)
  have hk1 := hide (show (Parl.hd (L.drop (i + 1))).kind ≠ 0 by rw [Parl.sees_kind hop]; omega)
  have UNI := hide (fun W j (hW : SB W rb tb cap s L j 0 p0) => trm_uni IH W rb tb cap s L j p0 (d + 1) (by omega) hW)
  obtain ⟨ti, hi, hz0', hz1', hz2'⟩ := info_parts Tryz.info109
  clear hS hK hB0 hB1 IH
  obtain ⟨k0, k1, k2⟩ := h.tok
  obtain ⟨c0, c1, c2, c3, f1, f2, f3, own, ne, lt, chain, few, kinds, hlt'⟩ := h
  clear own chain kinds f1 f2 f3 c2 c3
  have hq : bk (Parl.hd (L.drop i)).kind = 1 := by rw [hkk]; rfl
  rw [hq] at k0 HB1 HS HK HB0
  clear hkk hq
  generalize hPP : (fun e w' => PTermB rb tb cap s L p0 (match Parl.argsOf (Parl.term f) 2 (L.drop (i + 2)) with
      | .inl e => .inl e
      | .inr (ts, l2) => .inr (⟨2, (Parl.hd (L.drop i)).text, ts⟩, l2)) w e w') = PP
  have HPP := hide hPP
  clear hPP
  go_enter Tryz.func149, Tryz.ntmps149
  go_wp2_with fail
  go_big_region
  go_wp2_with fail
  refine (pass_on _ rb tb cap s L i 0 p0 (unhide HS) (unhide hk0)).mono ?_
  rintro e w2 ⟨rfl, hs2, hk2⟩
  have HS2 := hide hs2
  have HK2 := hide ((unhide HK).trans hk2)
  have hb0 := blk_kb hk2 (unhide HB0) (by simp; omega)
  have hb1 := blk_kb hk2 (unhide HB1) (by simp; omega)
  have hz0 : w.heap.size < w2.heap.size := blk_lt' hb0
  have hz1 : w.heap.size + 1 < w2.heap.size := blk_lt' hb1
  have y := blkA' hb1
  have HB02 := hide hb0
  clear hs2 hk2 hb0 hb1 k0 k1 k2 c0 c1
  go_wp2_with fail
  refine (is_any _ rb tb cap s L (i + 1) 0 p0 _ ((unhide HS2).below ((Below.refl _ _).alloc (Nat.le_refl _) _))).mono ?_
  rintro e w3 ⟨rfl, n, rfl⟩
  simp only [ByteArray.toList_mk]
  rw [hop]
  have HS3 := hide (((unhide HS2).below ((Below.refl _ _).alloc (Nat.le_refl _) (.cells #[.int .i64 1, .string (Parl.hd (L.drop i)).text, .int .i64 0, .slice none 0 0] 109))).draws n)
  have HK3 := hide (((unhide HK2).alloc (.cells #[.int .i64 1, .string (Parl.hd (L.drop i)).text, .int .i64 0, .slice none 0 0] 109)).drewN n)
  have d2 : (w2.alloc (.cells #[.int .i64 1, .string (Parl.hd (L.drop i)).text, .int .i64 0, .slice none 0 0] 109)).cell? ⟨rb, 2, none⟩ = some (.int .i64 0) := (unhide HS3).c2
  go_wp2_with fail
  refine (pass_on _ rb tb cap s L (i + 1) 0 p0 (unhide HS3) (unhide hk1)).mono ?_
  rintro e w4 ⟨rfl, hs4, hk4⟩
  have HS4 := hide hs4
  have HK4 := hide ((unhide HK3).trans hk4)
  have HB04 := hide (blk_kb hk4 (show ((w2.alloc (.cells #[.int .i64 1, .string (Parl.hd (L.drop i)).text, .int .i64 0, .slice none 0 0] 109)).drewN n).heap[w.heap.size]? = _ from blk_alloc' (unhide HB02) _) (by simp; omega))
  have HB24 := hide (blk_kb hk4 (show ((w2.alloc (.cells #[.int .i64 1, .string (Parl.hd (L.drop i)).text, .int .i64 0, .slice none 0 0] 109)).drewN n).heap[w2.heap.size]? = some (.cells #[.int .i64 1, .string (Parl.hd (L.drop i)).text, .int .i64 0, .slice none 0 0] 109 (0, 0)) from heap_alloc_new w2 _) (by simp; omega))
  clear hs4 hk4 HS3 HK3 d2 y
  go_wp2_with fail
  rw [show ((d : Int) + 1) = ((d + 1 : Nat) : Int) by omega]
  refine (unhide UNI _ (i + 2) (unhide HS4)).mono ?_
  generalize hr : Parl.term f (L.drop (i + 2)) = r
  have HR := hide hr
  clear hr
  rintro e w5 ⟨a, j, e1, p1, rfl, hs5, hk5, hu, hva⟩
  have HVA := hide hva
  have hz4 : w2.heap.size < w4.heap.size := blk_lt' (unhide HB24)
  clear hva
  have HS5 := hide hs5
  have HU := hide hu
  have HK5 := hide ((unhide HK4).trans hk5)
  have HB05 := hide (blk_kb hk5 (unhide HB04) (by simp; omega))
  have hb2 := blk_kb hk5 (unhide HB24) (by simp; omega)
  have hz2 : w2.heap.size < w5.heap.size := blk_lt' hb2
  have y := blkA' hb2
  have yx := blkX' hb2
  have HB25 := hide hb2
  clear hs5 hk5 hu hb2 HS4 HK4 HB04 HB24 HS HK HB0 HB1 HK2 HB02
  go_wp2_with (first | (at_builtin; refine wpList_append_own_at _ rfl (.tmp 90) (.tmp 92) 104 rfl (w5.heap.size + 1) 109 ti (.agg #[.int .i64 0, .string ⟨#[]⟩, .int .i64 0, .slice none 0 0]) 4 56 Tryz.underlying104 hi hz0' hz1' hz2' rfl (by decide) _ 0 [] rfl (World.ownsRow_nil _ _ _ _) ⟨w5.heap.size + 1, 0, none⟩ 1 1 [.int .i64 a.k, .string a.nm, .int .i64 a.num, .slice a.ao a.n a.cap] rfl rfl (new4 _ _ _ _ _ _ _) (one4 _ _ _ _ _ _) (by unfold maxLen; omega) (by omega) (by simp) ?_; intro v' w7 hown' hgrow _ hat; have HAT := hide hat; have HOWN7 := hide hown'; have HB7 := hide ((Below.refl _ _).grown hgrow (Nat.le_refl _) (fun k h => by cases h)); have hb27 := ((unhide HB7).block w2.heap.size (by simp; omega)).trans (blk_alloc' (blk_alloc' (unhide HB25) _) _); have z := blkA' hb27; have zx := blkX' hb27; have HB27 := hide hb27; clear hb27; have HG := hide hgrow; obtain ⟨g', cap', hv, hcm⟩ := ownB_some hown'; rw [hv] at HOWN7 HAT ⊢; clear hown' hgrow hv hat))
  have R7 := fun m => lb_mk (m := m) (w := w) (W := w5.alloc (.cells #[.int .i64 a.k, .string a.nm, .int .i64 a.num, .slice a.ao a.n a.cap] 109)) (b0 := w.heap.size) (b2 := w2.heap.size) (b3 := w5.heap.size) (tx := (Parl.hd (L.drop i)).text) ((unhide HS5).below ((Below.refl _ _).alloc (Nat.le_refl _) _)) ((unhide HK5).alloc _) hlt htl (by omega) (Nat.le_refl _) hz0 hz2 (blk_alloc' (unhide HB05) _) (blk_alloc' (unhide HB25) _) (heap_alloc_new w5 _) (World.ownsRow_nil _ _ _ _) (unhide HG) (unhide HOWN7)
  have HR7 := hide R7
  clear R7 z zx y yx
  refine (is_any _ rb tb cap s L j e1 p1 _ (unhide HR7 0).1).mono ?_
  rintro e w8 ⟨rfl, m, rfl⟩
  simp only [ByteArray.toList_mk]
  have HL := hide (show LB w rb tb cap s L p0 f (L.drop (i + 2)) w.heap.size w2.heap.size w5.heap.size (Parl.hd (L.drop i)).text 4 (.bool (Parl.sees (L.drop j) [44])) ((w7.setCell ⟨w2.heap.size, 3, none⟩ (.slice (some ⟨g', 0, none⟩) (0 + 1) cap')).drewN m) from
    ⟨1, _, _, a, j, e1, p1, rfl, (unhide HR7 m).1.draws m, (unhide HR7 m).2.1, (unhide HR7 m).2.2.1, (unhide HR7 m).2.2.2.1, (unhide HR7 m).2.2.2.2.1, (unhide HR7 m).2.2.2.2.2, by omega, by omega, by omega, uni_first (unhide HR) (unhide HU) _ (fun t l1 q => by subst q; exact row_first (unhide HVA) (Nat.le_refl _) hz0 hz4 (unhide HG) (unhide HAT) m _ _ rfl)⟩)
  have h02 : w.heap.size < w2.heap.size := hz0
  have h23 : w2.heap.size < w5.heap.size := hz2
  generalize hb5 : w5.heap.size = b3 at *
  generalize hb2 : w2.heap.size = b2 at *
  clear HR7 HS5 HK5 HB05 HB25 HG HOWN7 HB7 HB27 HU HR HVA HAT hz4 hb5 hb2
  go_wp2_with fail
  go_loopg [9] 4 (fun k more wr => LB w rb tb cap s L p0 f (L.drop (i + 2)) w.heap.size b2 b3 (Parl.hd (L.drop i)).text k more wr)
  case atStart => exact unhide HL
  case round =>
    obtain ⟨n, av, xs, a1, j, e1, p1, rfl, hs, hk, hb0, hb2, hb3, ho, hn1, hn4, hkn, hcase⟩ := hrel
    obtain ⟨n', rfl⟩ : ∃ n', n = n' + 1 := ⟨n - 1, by omega⟩
    obtain ⟨g9, cap9, rfl, hcm9⟩ := ownB_some ho
    have HS := hide hs
    have HK := hide hk
    have HB0 := hide hb0
    have HB2 := hide hb2
    have HB3 := hide hb3
    have HO := hide ho
    have hwr : w.heap.size ≤ wr.heap.size := hk.size
    have c2 := hs.c2
    have q2 := blkA' hb2
    clear hs hk hb0 hb2 hb3 ho
    rcases hcase with ⟨rfl, rfl, hn3, ts, hts, htot, hrow⟩ | ⟨hne, er, pos, he, hp, htot⟩
    · have HROW := hide hrow
      clear hrow
      cases hc : Parl.sees (L.drop j) [44]
      · cases hb : Parl.sees (L.drop j) [41]
        · have HTOT := hide (htot.trans (cont_bad ts hc hb))
          clear htot
          go_wp2_with fail
          refine (want_no _ rb tb cap s L j _ _ (unhide HS) (by simpa using hb)).mono ?_
          rintro e w9 ⟨rfl, ⟨j9, hs9⟩, hk9⟩
          have hb09 := blk_kb hk9 (unhide HB0) (by simp; omega)
          have hb29 := blk_kb hk9 (unhide HB2) (by simp; omega)
          have r := blkA' hb09
          have x := blkX' hb09
          have y := blkA' hb29
          have HS9 := hide hs9
          have HK9 := hide ((unhide HK).trans hk9)
          clear hs9 hk9 hb09 hb29 q2 c2
          go_wp2_with fail
          refine bodyPost_ret (v := .agg #[.int .i64 1, .string (Parl.hd (L.drop i)).text, .int .i64 0, .slice (some ⟨g9, 0, none⟩) (n' + 1) cap9]) (by simp [results, Tryz.results149, go_sem, r]) rfl ?_
          rw [← unhide HPP]
          dsimp only
          rw [unhide HTOT]
          exact ⟨⟨1, _, 0, _, _, cap9⟩, rfl, ⟨j9, SB.box (unhide HS9) (by omega) (by omega) _ _ _ _⟩, (unhide HK9).onlyNew (Nat.le_refl _) _ _ _ _⟩
        · have HTOT := hide (htot.trans (cont_end ts hc hb))
          clear htot
          go_wp2_with fail
          refine (want_yes _ rb tb cap s L j _ _ _ (unhide HS) (by simpa using hb)).mono ?_
          rintro e w9 ⟨rfl, hs9, hk9⟩
          have hb09 := blk_kb hk9 (unhide HB0) (by simp; omega)
          have hb29 := blk_kb hk9 (unhide HB2) (by simp; omega)
          have r := blkA' hb09
          have x := blkX' hb09
          have y := blkA' hb29
          have HKz9 := hide hk9
          have HS9 := hide hs9
          have HK9 := hide ((unhide HK).trans hk9)
          clear hs9 hk9 hb09 hb29 q2 c2
          go_wp2_with fail
          refine bodyPost_ret (v := .agg #[.int .i64 1, .string (Parl.hd (L.drop i)).text, .int .i64 0, .slice (some ⟨g9, 0, none⟩) (n' + 1) cap9]) (by simp [results, Tryz.results149, go_sem, r]) rfl ?_
          rw [← unhide HPP]
          dsimp only
          rw [unhide HTOT]
          exact ⟨_, 0, some ⟨g9, 0, none⟩, cap9, j + 1, by rw [← hts]; rfl, fun _ => rfl, by simp, SB.box (unhide HS9) (by omega) (by omega) _ _ _ _, (unhide HK9).onlyNew (Nat.le_refl _) _ _ _ _, row_end (unhide HROW) (unhide HO) hts hn3 (unhide HZT) hlt (by omega) (unhide HKz9) _ _ _ _⟩
      · have hkj := hide (show (Parl.hd (L.drop j)).kind ≠ 0 by rw [Parl.sees_kind hc]; omega)
        by_cases hn : n' + 1 = 3
        · obtain rfl : n' = 2 := by omega
          have HTOT := hide (htot.trans (cont_full ts hc))
          clear htot
          go_wp2_with fail
          refine (bad_first _ rb tb cap s L j _ 3 (unhide HS)).mono ?_
          rintro e wa ⟨rfl, hsa, hka⟩
          have HSa := hide hsa
          have HKa := hide hka
          clear hsa hka
          go_wp2_with fail
          refine (pass_any _ rb tb cap s L _ _ ⟨j, unhide HSa⟩).mono ?_
          rintro e wb ⟨rfl, hsb, hkb⟩
          have HSb := hide hsb
          have HKb := hide ((unhide HKa).trans hkb)
          clear hsb hkb
          go_wp2_with fail
          rw [show ((d : Int) + 1) = ((d + 1 : Nat) : Int) by omega]
          refine (trm_err _ rb tb cap s L _ _ (d + 1) (unhide HSb) (by omega)).mono ?_
          rintro e wc ⟨a2, rfl, ⟨j2, hsc⟩, hkc⟩
          have HSx := hide hsc
          have HKr := hide ((unhide HKb).trans hkc)
          have HKx := hide ((unhide HK).trans (unhide HKr))
          have HB0x := hide (blk_kb (unhide HKr) (unhide HB0) (by simp; omega))
          have HB2x := hide (blk_kb (unhide HKr) (unhide HB2) (by simp; omega))
          have HB3x := hide (blk_kb (unhide HKr) (unhide HB3) (by simp; omega))
          have HOx := hide (own_kb (unhide HO) (unhide HKr) (by simp; omega))
          clear hsc hkc HSb HKb HSa HKa q2 c2
          have X := hide (x_set (w := w) (.int .i64 a2.k) (.string a2.nm) (.int .i64 a2.num) (.slice a2.ao a2.n a2.cap) (unhide HSx) (unhide HKx) hlt htl (by omega) h02 h23 (unhide HB0x) (unhide HB2x) (unhide HB3x) (unhide HOx))
          have y2 := blkA' (unhide HB2x)
          have y2x := blkX' (unhide HB2x)
          have y3 := blkA' (unhide HB3x)
          have y3x := blkX' (unhide HB3x)
          go_wp2_with (first | (at_builtin; go_must (refine wpList_append_own _ rfl (.tmp 118) (.tmp 120) 104 rfl (b3 + 1) 109 ti (.agg #[.int .i64 0, .string ⟨#[]⟩, .int .i64 0, .slice none 0 0]) 4 56 Tryz.underlying104 hi hz0' hz1' hz2' rfl (by decide) _ 3 xs rfl ((unhide X).2.2.2.2.2.alloc _) ⟨wc.heap.size, 0, none⟩ 1 1 [.int .i64 a2.k, .string a2.nm, .int .i64 a2.num, .slice a2.ao a2.n a2.cap] rfl rfl (by exact newS _ _ _ _ _ _ _ (by simp)) (one4 _ _ _ _ _ _) (by unfold maxLen; omega) (by omega) (by have := blk_lt' (unhide HB3x); simp; omega) ?_); go_must (intro v' w7 hown' hgrow _; have HOWN7 := hide hown'; have HG := hide hgrow; have hb27 := (((Below.refl _ _).alloc (by have := blk_lt' (unhide X).2.2.2.2.1; omega) _).grown hgrow (by have := blk_lt' (unhide X).2.2.2.2.1; simp at this ⊢; omega) (fun k q => ((unhide X).2.2.2.2.2.lt k q).1) : Below (b3 + 1) _ w7).block b2 (by omega); have hb27' := hb27.trans (unhide X).2.2.2.1; have z := blkA' hb27'; have zx := blkX' hb27'; clear hb27 hb27'; obtain ⟨g', cap', hv, hcm⟩ := ownB_some hown'; rw [hv] at HOWN7 ⊢; clear hown' hgrow hv)))
          have HR7 := hide (fun m => lb_mk (m := m) (unhide X).1 (unhide X).2.1 hlt htl (by omega) (Nat.le_refl _) h02 h23 (unhide X).2.2.1 (unhide X).2.2.2.1 (unhide X).2.2.2.2.1 (unhide X).2.2.2.2.2 (unhide HG) (unhide HOWN7))
          clear z zx y2 y2x y3 y3x
          refine (is_any _ rb tb cap s L j2 _ _ _ (unhide HR7 0).1).mono ?_
          rintro e w8 ⟨rfl, m, rfl⟩
          simp only [ByteArray.toList_mk]
          go_wp2_with fail
          go_roundg (gk - 1)
          case measure => omega
          case rel => exact ⟨4, _, _, a2, j2, 3, _, rfl, (unhide HR7 m).1.draws m, (unhide HR7 m).2.1, (unhide HR7 m).2.2.1, (unhide HR7 m).2.2.2.1, (unhide HR7 m).2.2.2.2.1, (unhide HR7 m).2.2.2.2.2, by omega, by omega, by omega, Or.inr ⟨by omega, 3, _, rfl, rfl, unhide HTOT⟩⟩
        · have hn' : (((n' : Int) + 1) == 3) = false := by simp; omega
          have HTOT := hide (fun (pz : Int) r j2 e1 p1 => uni_next (p0 := pz) (r := r) (L := L) (j := j2) (e1 := e1) (p1 := p1) (by omega) hts htot hc)
          clear htot
          have HTL := hide (show (L.drop j).tail = L.drop (j + 1) by simp)
          go_wp2_with fail
          refine (pass_on _ rb tb cap s L j _ _ (unhide HS) (unhide hkj)).mono ?_
          rintro e wb ⟨rfl, hsb, hkb⟩
          have HSb := hide hsb
          have HKb := hide hkb
          have HKbs := hide hkb.size
          clear hsb hkb
          go_wp2_with fail
          rw [show ((d : Int) + 1) = ((d + 1 : Nat) : Int) by omega]
          refine (unhide UNI _ (j + 1) (unhide HSb)).mono ?_
          generalize hr : Parl.term f (L.drop (j + 1)) = r
          have HR := hide hr
          clear hr
          rintro e wc ⟨a2, j2, e2, p2, rfl, hsc, hkc, hu, hva⟩
          have HVA := hide hva
          clear hva
          have HU := hide hu
          have HSx := hide hsc
          have HKr := hide ((unhide HKb).trans hkc)
          have HKx := hide ((unhide HK).trans (unhide HKr))
          have HB0x := hide (blk_kb (unhide HKr) (unhide HB0) (by simp; omega))
          have HB2x := hide (blk_kb (unhide HKr) (unhide HB2) (by simp; omega))
          have HB3x := hide (blk_kb (unhide HKr) (unhide HB3) (by simp; omega))
          have HOx := hide (own_kb (unhide HO) (unhide HKr) (by simp; omega))
          clear hsc hkc HSb HKb q2 c2 hu
          have X := hide (x_set (w := w) (.int .i64 a2.k) (.string a2.nm) (.int .i64 a2.num) (.slice a2.ao a2.n a2.cap) (unhide HSx) (unhide HKx) hlt htl (by omega) h02 h23 (unhide HB0x) (unhide HB2x) (unhide HB3x) (unhide HOx))
          have y2 := blkA' (unhide HB2x)
          have y2x := blkX' (unhide HB2x)
          have y3 := blkA' (unhide HB3x)
          have y3x := blkX' (unhide HB3x)
          go_wp2_with (first | (at_builtin; go_must (refine wpList_append_own_at _ rfl (.tmp 118) (.tmp 120) 104 rfl (b3 + 1) 109 ti (.agg #[.int .i64 0, .string ⟨#[]⟩, .int .i64 0, .slice none 0 0]) 4 56 Tryz.underlying104 hi hz0' hz1' hz2' rfl (by decide) _ (n' + 1) xs rfl ((unhide X).2.2.2.2.2.alloc _) ⟨wc.heap.size, 0, none⟩ 1 1 [.int .i64 a2.k, .string a2.nm, .int .i64 a2.num, .slice a2.ao a2.n a2.cap] rfl rfl (by exact newS _ _ _ _ _ _ _ (by simp)) (one4 _ _ _ _ _ _) (by unfold maxLen; omega) (by omega) (by have := blk_lt' (unhide HB3x); simp; omega) ?_); go_must (intro v' w7 hown' hgrow _ hat; have HAT := hide hat; clear hat; have HOWN7 := hide hown'; have HG := hide hgrow; have hb27 := (((Below.refl _ _).alloc (by have := blk_lt' (unhide X).2.2.2.2.1; omega) _).grown hgrow (by have := blk_lt' (unhide X).2.2.2.2.1; simp at this ⊢; omega) (fun k q => ((unhide X).2.2.2.2.2.lt k q).1) : Below (b3 + 1) _ w7).block b2 (by omega); have hb27' := hb27.trans (unhide X).2.2.2.1; have z := blkA' hb27'; have zx := blkX' hb27'; clear hb27 hb27'; obtain ⟨g', cap', hv, hcm⟩ := ownB_some hown'; rw [hv] at HOWN7 HAT ⊢; clear hown' hgrow hv)))
          have HR7 := hide (fun m => lb_mk (m := m) (unhide X).1 (unhide X).2.1 hlt htl (by omega) (Nat.le_refl _) h02 h23 (unhide X).2.2.1 (unhide X).2.2.2.1 (unhide X).2.2.2.2.1 (unhide X).2.2.2.2.2 (unhide HG) (unhide HOWN7))
          clear z zx y2 y2x y3 y3x
          refine (is_any _ rb tb cap s L j2 _ _ _ (unhide HR7 0).1).mono ?_
          rintro e w8 ⟨rfl, m, rfl⟩
          simp only [ByteArray.toList_mk]
          go_wp2_with fail
          go_roundg (gk - 1)
          case measure => omega
          case rel => exact ⟨n' + 1 + 1, _, _, a2, j2, e2, p2, rfl, (unhide HR7 m).1.draws m, (unhide HR7 m).2.1, (unhide HR7 m).2.2.1, (unhide HR7 m).2.2.2.1, (unhide HR7 m).2.2.2.2.1, (unhide HR7 m).2.2.2.2.2, by omega, by omega, by omega, unhide HTOT _ r j2 e2 p2 (by rw [unhide HTL]; exact unhide HR) (unhide HU) _ (fun t l1 q => by subst q; exact row_next (unhide HROW) hlt (unhide HKr) (unhide HKbs) (unhide HVA) (blk_lt' (unhide HB3)) h23 h02 (Nat.le_refl _) (fun k q => ((unhide HO).lt k q).2) (unhide HG) (unhide HAT) m _ _ rfl)⟩
    · have HTOT := hide htot
      have HNE := hide hne
      have HE := hide he
      have HP := hide hp
      have hne' : (e1 == 0) = false := by simpa using hne
      clear htot hne he hp
      cases hc : Parl.sees (L.drop j) [44]
      · go_wp2_with fail
        refine (want_err _ rb tb cap s L e1 p1 _ ⟨j, unhide HS⟩ (unhide HNE)).mono ?_
        rintro e w9 ⟨rfl, ⟨j9, hs9⟩, hk9⟩
        have hb09 := blk_kb hk9 (unhide HB0) (by simp; omega)
        have hb29 := blk_kb hk9 (unhide HB2) (by simp; omega)
        have r := blkA' hb09
        have x := blkX' hb09
        have y := blkA' hb29
        have HS9 := hide hs9
        have HK9 := hide ((unhide HK).trans hk9)
        clear hs9 hk9 hb09 hb29 q2 c2
        go_wp2_with fail
        refine bodyPost_ret (v := .agg #[.int .i64 1, .string (Parl.hd (L.drop i)).text, .int .i64 0, .slice (some ⟨g9, 0, none⟩) (n' + 1) cap9]) (by simp [results, Tryz.results149, go_sem, r]) rfl ?_
        rw [← unhide HPP]
        dsimp only
        rw [unhide HTOT]
        rw [unhide HE, unhide HP] at HS9
        exact ⟨⟨1, _, 0, _, _, cap9⟩, rfl, ⟨j9, SB.box (unhide HS9) (by omega) (by omega) _ _ _ _⟩, (unhide HK9).onlyNew (Nat.le_refl _) _ _ _ _⟩
      · go_wp2_with fail
        refine (want_err _ rb tb cap s L e1 p1 _ ⟨j, unhide HS⟩ (unhide HNE)).mono ?_
        rintro e w9 ⟨rfl, ⟨j9, hs9⟩, hk9⟩
        have hb09 := blk_kb hk9 (unhide HB0) (by simp; omega)
        have hb29 := blk_kb hk9 (unhide HB2) (by simp; omega)
        have r := blkA' hb09
        have x := blkX' hb09
        have y := blkA' hb29
        have HS9 := hide hs9
        have HK9 := hide ((unhide HK).trans hk9)
        clear hs9 hk9 hb09 hb29 q2 c2
        go_wp2_with fail
        refine bodyPost_ret (v := .agg #[.int .i64 1, .string (Parl.hd (L.drop i)).text, .int .i64 0, .slice (some ⟨g9, 0, none⟩) (n' + 1) cap9]) (by simp [results, Tryz.results149, go_sem, r]) rfl ?_
        rw [← unhide HPP]
        dsimp only
        rw [unhide HTOT]
        rw [unhide HE, unhide HP] at HS9
        exact ⟨⟨1, _, 0, _, _, cap9⟩, rfl, ⟨j9, SB.box (unhide HS9) (by omega) (by omega) _ _ _ _⟩, (unhide HK9).onlyNew (Nat.le_refl _) _ _ _ _⟩
end Go.Proofs.YthfjnfcekeknlaaGreatDoor
namespace Go.Proofs.YthfjnfcekeknlaaGreatDoor
open Go.RowKit

theorem mayR_zero (l : List Parl.Tok) : Parl.term 0 l = Parl.bad (mayR 9 (Parl.hd l)) l := by
  unfold Parl.term mayR
  by_cases h : Parl.begins (Parl.hd l) = true
  · rw [if_pos h, if_pos h, if_pos (by omega)]
  · rw [if_neg h, if_neg h]
theorem mayR9 (t : Parl.Tok) : mayR 9 t ≠ 0 := by unfold mayR; split <;> (try rw [if_pos (by omega)]) <;> omega
theorem mayR_bad {f d : Nat} {l : List Parl.Tok} (hd : d ≤ 8) (h : mayR d (Parl.hd l) ≠ 0) : Parl.term (f + 1) l = Parl.bad (mayR d (Parl.hd l)) l := by
  unfold Parl.term mayR at *
  by_cases hb : Parl.begins (Parl.hd l) = true
  · rw [if_pos hb] at h ⊢
    rw [if_pos hb]
    by_cases hc : (Parl.hd l).kind = 4 ∧ 6 < (Parl.hd l).text.size
    · rw [if_pos hc, if_pos (Or.inl hc)]
    · rw [if_neg (by omega)] at h; exact absurd rfl h
  · rw [if_neg hb, if_neg hb]
theorem mayR_fine {d : Nat} {t : Parl.Tok} (h : mayR d t = 0) : (t.kind = 2 ∨ t.kind = 3 ∨ t.kind = 4) ∧ d ≤ 8 ∧ (t.kind = 4 → t.text.size ≤ 6) := by
  unfold mayR at h
  by_cases hb : Parl.begins t = true
  · rw [if_pos hb] at h
    have hk : t.kind = 2 ∨ t.kind = 3 ∨ t.kind = 4 := by simpa [Parl.begins, or_assoc] using hb
    by_cases hc : t.kind = 4 ∧ 6 < t.text.size ∨ 8 < d
    · rw [if_pos hc] at h; omega
    · exact ⟨hk, by omega, fun q => by omega⟩
  · rw [if_neg hb] at h; omega
theorem term_nm {f : Nat} {l : List Parl.Tok} (hk : (Parl.hd l).kind = 2) : Parl.term (f + 1) l = if Parl.sees l.tail [40] = true then (match Parl.argsOf (Parl.term f) 2 l.tail.tail with
    | .inl e => .inl e
    | .inr (ts, l2) => .inr (⟨2, (Parl.hd l).text, ts⟩, l2)) else .inr (⟨2, (Parl.hd l).text, []⟩, l.tail) := by
  have hb : Parl.begins (Parl.hd l) = true := by simp [Parl.begins, hk]
  rw [Parl.term, if_pos hb, if_neg (by omega), if_pos hk]
  by_cases hs : Parl.sees l.tail [40] = true
  · rw [if_pos hs, if_pos hs]
    rcases Parl.argsOf (Parl.term f) 2 l.tail.tail with e | ⟨ts, l2⟩ <;> rfl
  · rw [if_neg hs, if_neg hs]
theorem term_lf {f : Nat} {l : List Parl.Tok} (hk : (Parl.hd l).kind = 3 ∨ (Parl.hd l).kind = 4) (h6 : (Parl.hd l).kind = 4 → (Parl.hd l).text.size ≤ 6) : Parl.term (f + 1) l = .inr (⟨(Parl.hd l).kind, (Parl.hd l).text, []⟩, l.tail) := by
  have hb : Parl.begins (Parl.hd l) = true := by rcases hk with e | e <;> simp [Parl.begins, e]
  have hc : ¬ ((Parl.hd l).kind = 4 ∧ 6 < (Parl.hd l).text.size) := fun q => by have := h6 q.1; omega
  rw [Parl.term, if_pos hb, if_neg hc, if_neg (by omega)]
theorem perr_of {rb tb cap : Nat} {s : ByteArray} {L : List Parl.Tok} {p0 : Int} {l : List Parl.Tok} {w : World} {e : Ending} {w' : World} {m : Nat} (h : PErrB rb tb cap s L (if (0 : Int) = 0 then (m : Int) else 0) (if (0 : Int) = 0 then ((Parl.hd l).pos : Int) else p0) w e w') : PTermB rb tb cap s L p0 (Parl.bad m l) w e w' := by
  rw [if_pos rfl, if_pos rfl] at h
  exact h

theorem trm_step (f : Nat) (IH : TrmSaid f) : TrmSaid (f + 1) := by
  intro w rb tb cap s L i p0 d hfd h
  by_cases hm : mayR d (Parl.hd (L.drop i)) = 0
  · obtain ⟨hk, hd8, h6⟩ := mayR_fine hm
    rcases hk with hk | hk | hk
    · rw [term_nm hk]
      have e1 : (L.drop i).tail = L.drop (i + 1) := by simp
      have e2 : (L.drop i).tail.tail = L.drop (i + 2) := by simp
      cases hs : Parl.sees (L.drop (i + 1)) [40]
      · rw [e1, hs, ← e1]
        exact trm_atom w rb tb cap s L i p0 d h hk hd8 hs
      · rw [e2, e1, hs, if_pos rfl]
        exact trm_call IH w rb tb cap s L i p0 d hfd h hk hs
    · rw [term_lf (Or.inl hk) h6, hk]
      exact trm_var w rb tb cap s L i p0 d h hk hd8
    · rw [term_lf (Or.inr hk) h6, hk]
      exact trm_num w rb tb cap s L i p0 d h hk hd8 (h6 hk)
  · rw [mayR_bad (by omega) hm]
    exact (trm_bad w rb tb cap s L i 0 p0 d h hm).mono fun e w' q => perr_of q
theorem trm_zero : TrmSaid 0 := by
  intro w rb tb cap s L i p0 d hfd h
  obtain rfl : d = 9 := by omega
  rw [mayR_zero]
  exact (trm_bad w rb tb cap s L i 0 p0 9 h (mayR9 _)).mono fun e w' q => perr_of q
theorem trm_all : ∀ f, TrmSaid f
  | 0 => trm_zero
  | f + 1 => trm_step f (trm_all f)
end Go.Proofs.YthfjnfcekeknlaaGreatDoor
namespace Go.Proofs.YthfjnfcekeknlaaGreatDoor
open Go.RowKit

theorem box_past (w : World) {o : Obj} : ∀ g, (w.alloc o).drew.heap.size ≤ g → g ≠ w.heap.size ∧ w.heap.size ≤ g := fun g q => by
  have q' : w.heap.size + 1 ≤ g := by simpa using q
  omega
theorem VB.set4 {P Q : Nat → Prop} {w : World} {a : BV} {t : Parl.Tm} {b : Nat} (h : VB P w a t) (hP : ∀ g, P g → g ≠ b ∧ Q g) (v0 v1 v2 v3 : Value) : VB Q ((((w.setCell ⟨b, 0, none⟩ v0).setCell ⟨b, 1, none⟩ v1).setCell ⟨b, 2, none⟩ v2).setCell ⟨b, 3, none⟩ v3) a t :=
  h.keep fun g _ hp hc _ => ⟨by rw [heap_set _ _ _ _ (hP g hp).1, heap_set _ _ _ _ (hP g hp).1, heap_set _ _ _ _ (hP g hp).1, heap_set _ _ _ _ (hP g hp).1]; exact hc, (hP g hp).2⟩

set_option maxHeartbeats 4000000 in
set_option maxRecDepth 100000 in
theorem opB_name (w : World) (rb tb cap : Nat) (s : ByteArray) (L : List Parl.Tok) (i : Nat) (e0 p0 : Int) (h : SB w rb tb cap s L i e0 p0) (hkk : (Parl.hd (L.drop i)).kind = 2) :
    Calls Tryz.prog 211 #[.pointer (some ⟨rb, 0, none⟩)] w fun e w' => PErrB rb tb cap s L (if e0 = 0 then 2 else e0) (if e0 = 0 then ((Parl.hd (L.drop i)).pos : Int) else p0) w e w' := by
  have hlt := h.hlt
  have htl := h.tblt
  have hk5 := h.kind
  have HS := hide (show SB ((w.alloc (.cells #[.int .i64 0, .string ⟨#[]⟩, .int .i64 0, .slice none 0 0] 109)).drew) rb tb cap s L i e0 p0 from h.below ((Below.refl _ _).alloc (Nat.le_refl _) _).drew)
  have HK := hide (show KB [rb] w ((w.alloc (.cells #[.int .i64 0, .string ⟨#[]⟩, .int .i64 0, .slice none 0 0] 109)).drew) from ((KB.refl [rb] w).alloc _).drew)
  have HB0 := hide (show ((w.alloc (.cells #[.int .i64 0, .string ⟨#[]⟩, .int .i64 0, .slice none 0 0] 109)).drew).heap[w.heap.size]? = some (.cells #[.int .i64 0, .string ⟨#[]⟩, .int .i64 0, .slice none 0 0] 109 (0, 0)) from heap_alloc_new w _)
  obtain ⟨k0, k1, k2⟩ := h.tok
  obtain ⟨c0, c1, c2, c3, f1, f2, f3, own, ne, lt, chain, few, kinds, hlt'⟩ := h
  clear own chain kinds f1 f2 f3 c2 c3 k1 k2
  have BAD := hide (fun W (hW : SB W rb tb cap s L i e0 p0) => bad_any W rb tb cap s L i e0 p0 2 hW)
  have HE := hide (mix_ne (e0 := e0) (er := 2) (by omega))
  generalize (if e0 = 0 then (2 : Int) else e0) = e1 at BAD HE ⊢
  generalize (if e0 = 0 then ((Parl.hd (L.drop i)).pos : Int) else p0) = p1 at BAD ⊢
  have hq : (bk (Parl.hd (L.drop i)).kind == 1) = true := by generalize (Parl.hd (L.drop i)).kind = k at *; rcases (show k = 0 ∨ k = 1 ∨ k = 2 ∨ k = 3 ∨ k = 4 ∨ k = 5 by omega) with rfl | rfl | rfl | rfl | rfl | rfl <;> first | rfl | (exact absurd rfl hkk) | (exact absurd hkk (by decide))
  clear hkk hk5
  generalize bk (Parl.hd (L.drop i)).kind = q at *
  go_enter Tryz.func211, Tryz.ntmps211
  go_wp2_with fail
  go_big_region
  go_wp2_with fail
  refine (unhide BAD _ (unhide HS)).mono ?_
  rintro e w1 ⟨rfl, hs1, hk1⟩
  have HS1 := hide hs1
  have HKP := hide ((unhide HK).trans hk1)
  have HBP := hide (blk_kb hk1 (unhide HB0) (by simp; omega))
  clear hs1 hk1 k0 c0 c1
  go_wp2_with fail
  refine (trm_err _ rb tb cap s L e1 p1 1 ⟨i, unhide HS1⟩ (unhide HE)).mono ?_
  rintro e w2 ⟨a, rfl, ⟨j, hs2⟩, hk2⟩
  have HK2 := hide ((unhide HKP).trans hk2)
  have hb2 := blk_kb hk2 (unhide HBP) (by simp; omega)
  have r := blkA' hb2
  have x := blkX' hb2
  have HS2 := hide hs2
  clear hs2 hk2 hb2
  go_wp2_with fail
  refine bodyPost_ret (v := .agg #[.int .i64 a.k, .string a.nm, .int .i64 a.num, .slice a.ao a.n a.cap]) (by simp [results, Tryz.results211, go_sem, r]) rfl ?_
  exact ⟨a, rfl, ⟨j, SB.box (unhide HS2) (by omega) (by omega) _ _ _ _⟩, (unhide HK2).onlyNew (Nat.le_refl _) _ _ _ _⟩

set_option maxHeartbeats 4000000 in
set_option maxRecDepth 100000 in
theorem opB_err (w : World) (rb tb cap : Nat) (s : ByteArray) (L : List Parl.Tok) (i : Nat) (e0 p0 : Int) (h : SB w rb tb cap s L i e0 p0) (hkk : (Parl.hd (L.drop i)).kind ≠ 2) (he : e0 ≠ 0) :
    Calls Tryz.prog 211 #[.pointer (some ⟨rb, 0, none⟩)] w fun e w' => PErrB rb tb cap s L e0 p0 w e w' := by
  have hlt := h.hlt
  have htl := h.tblt
  have hk5 := h.kind
  have HS := hide (show SB ((w.alloc (.cells #[.int .i64 0, .string ⟨#[]⟩, .int .i64 0, .slice none 0 0] 109)).drew) rb tb cap s L i e0 p0 from h.below ((Below.refl _ _).alloc (Nat.le_refl _) _).drew)
  have HK := hide (show KB [rb] w ((w.alloc (.cells #[.int .i64 0, .string ⟨#[]⟩, .int .i64 0, .slice none 0 0] 109)).drew) from ((KB.refl [rb] w).alloc _).drew)
  have HB0 := hide (show ((w.alloc (.cells #[.int .i64 0, .string ⟨#[]⟩, .int .i64 0, .slice none 0 0] 109)).drew).heap[w.heap.size]? = some (.cells #[.int .i64 0, .string ⟨#[]⟩, .int .i64 0, .slice none 0 0] 109 (0, 0)) from heap_alloc_new w _)
  obtain ⟨k0, k1, k2⟩ := h.tok
  obtain ⟨c0, c1, c2, c3, f1, f2, f3, own, ne, lt, chain, few, kinds, hlt'⟩ := h
  clear own chain kinds f1 f2 f3 c2 c3 k1 k2
  have HE := hide he
  clear he
  have hq : (bk (Parl.hd (L.drop i)).kind == 1) = false := by generalize (Parl.hd (L.drop i)).kind = k at *; rcases (show k = 0 ∨ k = 1 ∨ k = 2 ∨ k = 3 ∨ k = 4 ∨ k = 5 by omega) with rfl | rfl | rfl | rfl | rfl | rfl <;> first | rfl | (exact absurd rfl hkk) | (exact absurd hkk (by decide))
  clear hkk hk5
  generalize bk (Parl.hd (L.drop i)).kind = q at *
  go_enter Tryz.func211, Tryz.ntmps211
  go_wp2_with fail
  go_big_region
  go_wp2_with fail
  have HKP := HK
  have HBP := HB0
  clear k0 c0 c1
  refine (trm_err _ rb tb cap s L e0 p0 1 ⟨i, unhide HS⟩ (unhide HE)).mono ?_
  rintro e w2 ⟨a, rfl, ⟨j, hs2⟩, hk2⟩
  have HK2 := hide ((unhide HKP).trans hk2)
  have hb2 := blk_kb hk2 (unhide HBP) (by simp; omega)
  have r := blkA' hb2
  have x := blkX' hb2
  have HS2 := hide hs2
  clear hs2 hk2 hb2
  go_wp2_with fail
  refine bodyPost_ret (v := .agg #[.int .i64 a.k, .string a.nm, .int .i64 a.num, .slice a.ao a.n a.cap]) (by simp [results, Tryz.results211, go_sem, r]) rfl ?_
  exact ⟨a, rfl, ⟨j, SB.box (unhide HS2) (by omega) (by omega) _ _ _ _⟩, (unhide HK2).onlyNew (Nat.le_refl _) _ _ _ _⟩

set_option maxHeartbeats 4000000 in
set_option maxRecDepth 100000 in
theorem opB_fine (w : World) (rb tb cap : Nat) (s : ByteArray) (L : List Parl.Tok) (i : Nat) (p0 : Int) (h : SB w rb tb cap s L i 0 p0) (hkk : (Parl.hd (L.drop i)).kind ≠ 2) :
    Calls Tryz.prog 211 #[.pointer (some ⟨rb, 0, none⟩)] w fun e w' => PTermB rb tb cap s L p0 (Parl.term 8 (L.drop i)) w e w' := by
  have hlt := h.hlt
  have htl := h.tblt
  have hk5 := h.kind
  have HS := hide (show SB ((w.alloc (.cells #[.int .i64 0, .string ⟨#[]⟩, .int .i64 0, .slice none 0 0] 109)).drew) rb tb cap s L i 0 p0 from h.below ((Below.refl _ _).alloc (Nat.le_refl _) _).drew)
  have HK := hide (show KB [rb] w ((w.alloc (.cells #[.int .i64 0, .string ⟨#[]⟩, .int .i64 0, .slice none 0 0] 109)).drew) from ((KB.refl [rb] w).alloc _).drew)
  have HB0 := hide (show ((w.alloc (.cells #[.int .i64 0, .string ⟨#[]⟩, .int .i64 0, .slice none 0 0] 109)).drew).heap[w.heap.size]? = some (.cells #[.int .i64 0, .string ⟨#[]⟩, .int .i64 0, .slice none 0 0] 109 (0, 0)) from heap_alloc_new w _)
  obtain ⟨k0, k1, k2⟩ := h.tok
  obtain ⟨c0, c1, c2, c3, f1, f2, f3, own, ne, lt, chain, few, kinds, hlt'⟩ := h
  clear own chain kinds f1 f2 f3 c2 c3 k1 k2
  have I := hide (fun W (hW : SB W rb tb cap s L i 0 p0) => trm_all 8 W rb tb cap s L i p0 1 rfl hW)
  generalize Parl.term 8 (L.drop i) = res at I ⊢
  have hq : (bk (Parl.hd (L.drop i)).kind == 1) = false := by generalize (Parl.hd (L.drop i)).kind = k at *; rcases (show k = 0 ∨ k = 1 ∨ k = 2 ∨ k = 3 ∨ k = 4 ∨ k = 5 by omega) with rfl | rfl | rfl | rfl | rfl | rfl <;> first | rfl | (exact absurd rfl hkk) | (exact absurd hkk (by decide))
  clear hkk hk5
  generalize bk (Parl.hd (L.drop i)).kind = q at *
  rcases res with ⟨er, ps⟩ | ⟨t, l1⟩
  · go_enter Tryz.func211, Tryz.ntmps211
    go_wp2_with fail
    go_big_region
    go_wp2_with fail
    have HKP := HK
    have HBP := HB0
    clear k0 c0 c1
    refine (unhide I _ (unhide HS)).mono ?_
    rintro e w2 ⟨a, rfl, ⟨j, hs2⟩, hk2⟩
    have HK2 := hide ((unhide HKP).trans hk2)
    have hb2 := blk_kb hk2 (unhide HBP) (by simp; omega)
    have r := blkA' hb2
    have x := blkX' hb2
    have HS2 := hide hs2
    clear hs2 hk2 hb2
    go_wp2_with fail
    refine bodyPost_ret (v := .agg #[.int .i64 a.k, .string a.nm, .int .i64 a.num, .slice a.ao a.n a.cap]) (by simp [results, Tryz.results211, go_sem, r]) rfl ?_
    exact ⟨a, rfl, ⟨j, SB.box (unhide HS2) (by omega) (by omega) _ _ _ _⟩, (unhide HK2).onlyNew (Nat.le_refl _) _ _ _ _⟩
  · go_enter Tryz.func211, Tryz.ntmps211
    go_wp2_with fail
    go_big_region
    go_wp2_with fail
    have HKP := HK
    have HBP := HB0
    clear k0 c0 c1
    refine (unhide I _ (unhide HS)).mono ?_
    rintro e w2 ⟨nm, num, ao, cp, j, rfl, hnm, hj, hs2, hk2, hv2⟩
    have HV2 := hide hv2
    clear hv2
    have HNM := hide hnm
    have HJ := hide hj
    clear hnm hj
    have HK2 := hide ((unhide HKP).trans hk2)
    have hb2 := blk_kb hk2 (unhide HBP) (by simp; omega)
    have r := blkA' hb2
    have x := blkX' hb2
    have HS2 := hide hs2
    clear hs2 hk2 hb2
    go_wp2_with fail
    refine bodyPost_ret (v := .agg #[.int .i64 (bk t.kind), .string nm, .int .i64 num, .slice ao t.args.length cp]) (by simp [results, Tryz.results211, go_sem, r]) rfl ?_
    exact ⟨nm, num, ao, cp, j, rfl, unhide HNM, unhide HJ, SB.box (unhide HS2) (by omega) (by omega) _ _ _ _, (unhide HK2).onlyNew (Nat.le_refl _) _ _ _ _, (unhide HV2).set4 (box_past w) _ _ _ _⟩

theorem opB_any (w : World) (rb tb cap : Nat) (s : ByteArray) (L : List Parl.Tok) (i : Nat) (p0 : Int) (h : SB w rb tb cap s L i 0 p0) :
    Calls Tryz.prog 211 #[.pointer (some ⟨rb, 0, none⟩)] w fun e w' => PTermB rb tb cap s L p0 (Parl.operand (L.drop i)) w e w' := by
  unfold Parl.operand
  by_cases hk : (Parl.hd (L.drop i)).kind = 2
  · rw [if_pos hk]
    exact (opB_name w rb tb cap s L i 0 p0 h hk).mono fun e w' q => perr_of (m := 2) q
  · rw [if_neg hk]
    exact opB_fine w rb tb cap s L i p0 h hk
theorem opB_errs (w : World) (rb tb cap : Nat) (s : ByteArray) (L : List Parl.Tok) (e0 p0 : Int) (h : EB w rb tb cap s L e0 p0) (he : e0 ≠ 0) :
    Calls Tryz.prog 211 #[.pointer (some ⟨rb, 0, none⟩)] w fun e w' => PErrB rb tb cap s L e0 p0 w e w' := by
  obtain ⟨i, h⟩ := h
  by_cases hk : (Parl.hd (L.drop i)).kind = 2
  · have := opB_name w rb tb cap s L i e0 p0 h hk
    rw [if_neg he, if_neg he] at this
    exact this
  · exact opB_err w rb tb cap s L i e0 p0 h hk he
theorem operand_err (l : List Parl.Tok) (e : Nat × Nat) (h : Parl.operand l = .inl e) : e.1 = 2 ∨ e.1 = 3 := by
  unfold Parl.operand at h
  by_cases hk : (Parl.hd l).kind = 2
  · rw [if_pos hk] at h; injection h with h; subst h; exact Or.inl rfl
  · rw [if_neg hk] at h; exact Parl.term_err _ _ _ h
theorem opB_uni (w : World) (rb tb cap : Nat) (s : ByteArray) (L : List Parl.Tok) (i : Nat) (p0 : Int) (h : SB w rb tb cap s L i 0 p0) :
    Calls Tryz.prog 211 #[.pointer (some ⟨rb, 0, none⟩)] w fun e w' => PUni rb tb cap s L p0 (Parl.operand (L.drop i)) w e w' := by
  refine (opB_any w rb tb cap s L i p0 h).mono ?_
  have hE := operand_err (L.drop i)
  generalize Parl.operand (L.drop i) = r at *
  rcases r with ⟨er, pos⟩ | ⟨t, l1⟩
  · rintro e w' ⟨a, rfl, ⟨j, hs⟩, hk⟩
    have := hE _ rfl
    exact ⟨a, j, _, _, rfl, hs, hk, ⟨rfl, rfl, by dsimp only at this; omega⟩, trivial⟩
  · rintro e w' ⟨nm, num, ao, cp, j, rfl, _, hj, hs, hk, hv⟩
    exact ⟨⟨_, nm, num, ao, _, cp⟩, j, _, _, rfl, hs, hk, ⟨rfl, rfl, hj⟩, hv⟩
end Go.Proofs.YthfjnfcekeknlaaGreatDoor
namespace Go.Proofs.YthfjnfcekeknlaaGreatDoor
open Go.RowKit

/-- Only block b has turned (the document's side). -/
structure OnB (b : Nat) (w w' : World) : Prop where
  os : w'.os = w.os
  tape : w'.tape = w.tape
  output : w'.output = w.output
  size : w'.heap.size = w.heap.size
  block : ∀ k, k ≠ b → w'.heap[k]? = w.heap[k]?
theorem OnB.refl (b : Nat) (w : World) : OnB b w w := ⟨rfl, rfl, rfl, rfl, fun _ _ => rfl⟩
theorem OnB.set {b : Nat} {a w : World} (h : OnB b a w) (i : Nat) (v : Value) : OnB b a (w.setCell ⟨b, i, none⟩ v) :=
  ⟨h.os, h.tape, h.output, by simp [World.setCell]; exact h.size, fun k hk => (Below.heap_setCell _ _ _ _ hk).trans (h.block k hk)⟩
theorem OnB.kb {b : Nat} {w w' : World} (h : OnB b w w') : KB [b] w w' := ⟨h.os, h.tape, h.output, by rw [h.size]; exact Nat.le_refl _, fun k _ hX => h.block k (by simpa using hX)⟩
theorem SB.onb {w w' : World} {rb tb cap : Nat} {s : ByteArray} {L : List Parl.Tok} {i : Nat} {e p : Int} {b : Nat} (h : SB w rb tb cap s L i e p) (ho : OnB b w w') (h1 : b ≠ rb) (h2 : b ≠ tb) : SB w' rb tb cap s L i e p :=
  h.kb ho.kb (by simpa using Ne.symm h1) (by simpa using Ne.symm h2)
theorem KB.onb {X : List Nat} {u w w' : World} {b : Nat} (h : KB X u w) (ho : OnB b w w') (hb : u.heap.size ≤ b) : KB X u w' :=
  ⟨ho.os.trans h.os, ho.tape.trans h.tape, ho.output.trans h.output, by rw [ho.size]; exact h.size, fun k hk hX => (ho.block k (by omega)).trans (h.block k hk hX)⟩

theorem VB.onb {P : Nat → Prop} {w w' : World} {a : BV} {t : Parl.Tm} {b : Nat} (h : VB P w a t) (ho : OnB b w w') (hP : ∀ g, P g → g ≠ b) : VB P w' a t :=
  h.keep fun g _ hp hc _ => ⟨(ho.block g (hP g hp)).trans hc, hp⟩
def anyB : Nat → Prop := fun _ => True
/-- The right sides of an item lie there. -/
def RightB (P : Nat → Prop) (w' : World) (b c : BV) (op sg : ByteArray) (x : Parl.Itm) : Prop :=
  op.toList = x.sign ∧ (∀ r, x.right = some r → VB P w' b r) ∧ sg.toList = x.op ∧ (∀ z, x.last = some z → VB P w' c z)
theorem RightB.imp {P Q : Nat → Prop} {w w' : World} {b c : BV} {op sg : ByteArray} {x : Parl.Itm} (h : ∀ a t, VB P w a t → VB Q w' a t) (q : RightB P w b c op sg x) : RightB Q w' b c op sg x :=
  ⟨q.1, fun r e => h _ _ (q.2.1 r e), q.2.2.1, fun r e => h _ _ (q.2.2.2 r e)⟩
def ValA (P : Nat → Prop) (w' : World) (r : Parl.Res Parl.Itm) (a0 a b c : BV) (op sg : ByteArray) : Prop := match r with
  | .inl _ => True
  | .inr (x, _) => a = a0 ∧ RightB P w' b c op sg x
theorem ValA.imp {P Q : Nat → Prop} {w w' : World} {r : Parl.Res Parl.Itm} {a0 a b c : BV} {op sg : ByteArray} (h : ∀ a t, VB P w a t → VB Q w' a t) (q : ValA P w r a0 a b c op sg) : ValA Q w' r a0 a b c op sg := by
  rcases r with e | ⟨x, l⟩
  · exact trivial
  · exact ⟨q.1, q.2.imp h⟩
def PUniI (rb tb cap : Nat) (s : ByteArray) (L : List Parl.Tok) (p0 : Int) (a0 : BV) (r : Parl.Res Parl.Itm) (w : World) (e : Ending) (w' : World) : Prop :=
  ∃ (a b c : BV) (op sg : ByteArray) (j : Nat) (e1 p1 : Int), e = .returned (.agg #[.string op, .string sg, .int .i64 a.k, .string a.nm, .int .i64 a.num, .slice a.ao a.n a.cap, .int .i64 b.k, .string b.nm, .int .i64 b.num, .slice b.ao b.n b.cap, .int .i64 c.k, .string c.nm, .int .i64 c.num, .slice c.ao c.n c.cap]) ∧ SB w' rb tb cap s L j e1 p1 ∧ KB [rb] w w' ∧ UniR L p0 r j e1 p1 ∧ ValA (fun g => w.heap.size ≤ g) w' r a0 a b c op sg
def PErrI (rb tb cap : Nat) (s : ByteArray) (L : List Parl.Tok) (e0 p0 : Int) (w : World) (e : Ending) (w' : World) : Prop :=
  ∃ (a b c : BV) (op sg : ByteArray), e = .returned (.agg #[.string op, .string sg, .int .i64 a.k, .string a.nm, .int .i64 a.num, .slice a.ao a.n a.cap, .int .i64 b.k, .string b.nm, .int .i64 b.num, .slice b.ao b.n b.cap, .int .i64 c.k, .string c.nm, .int .i64 c.num, .slice c.ao c.n c.cap]) ∧ EB w' rb tb cap s L e0 p0 ∧ KB [rb] w w'

def asgR (x : Parl.Tm → Parl.Itm) (r2 : Parl.Res Parl.Tm) : Parl.Res Parl.Itm := match r2 with
  | .inl e => .inl e
  | .inr (z, l3) => .inr (x z, l3)
theorem uni_asg {L : List Parl.Tok} {p0 : Int} {r2 : Parl.Res Parl.Tm} {j : Nat} {e p : Int} (x : Parl.Tm → Parl.Itm) (h : UniR L p0 r2 j e p) : UniR L p0 (asgR x r2) j e p := by
  rcases r2 with ⟨er, ps⟩ | ⟨z, l3⟩ <;> exact h

theorem val_asg {w' : World} {t : Parl.Tm} {r2 : Parl.Res Parl.Tm} {a b c : BV} {op sg : ByteArray} {xx : Parl.Tm → Parl.Itm} {o1 o2 : List UInt8} {P : Nat → Prop} (hxx : ∀ z, (xx z).sign = o1 ∧ (xx z).right = some t ∧ (xx z).op = o2 ∧ (xx z).last = some z) (h1 : op.toList = o1) (h2 : sg.toList = o2) (hb : VB P w' b t) (hc : ∀ z l3, r2 = .inr (z, l3) → VB P w' c z) : ValA P w' (asgR xx r2) a a b c op sg := by
  rcases r2 with e | ⟨z, l3⟩
  · exact trivial
  · obtain ⟨q1, q2, q3, q4⟩ := hxx z
    refine ⟨rfl, h1.trans q1.symm, fun r q => ?_, h2.trans q3.symm, fun y q => ?_⟩
    · rw [q2] at q; cases q; exact hb
    · rw [q4] at q; cases q; exact hc z l3 rfl

def bxA (a : BV) : Obj := .cells #[.int .i64 a.k, .string a.nm, .int .i64 a.num, .slice a.ao a.n a.cap] 109
def bxZ : Obj := .cells #[.string ⟨#[]⟩, .string ⟨#[]⟩, .int .i64 0, .string ⟨#[]⟩, .int .i64 0, .slice none 0 0, .int .i64 0, .string ⟨#[]⟩, .int .i64 0, .slice none 0 0, .int .i64 0, .string ⟨#[]⟩, .int .i64 0, .slice none 0 0] 173
def bxX (a : BV) : Obj := .cells #[.string ⟨#[58, 61]⟩, .string ⟨#[]⟩, .int .i64 a.k, .string a.nm, .int .i64 a.num, .slice a.ao a.n a.cap, .int .i64 0, .string ⟨#[]⟩, .int .i64 0, .slice none 0 0, .int .i64 0, .string ⟨#[]⟩, .int .i64 0, .slice none 0 0] 173
theorem ass_boxes {w : World} {rb tb cap : Nat} {s : ByteArray} {L : List Parl.Tok} {i : Nat} {e p : Int} (a : BV) (h : SB w rb tb cap s L i e p) :
    SB (((w.alloc (bxA a)).alloc bxZ).alloc (bxX a)) rb tb cap s L i e p ∧ KB [rb] w (((w.alloc (bxA a)).alloc bxZ).alloc (bxX a)) ∧
    (((w.alloc (bxA a)).alloc bxZ).alloc (bxX a)).heap[w.heap.size + 1]? = some (.cells #[.string ⟨#[]⟩, .string ⟨#[]⟩, .int .i64 0, .string ⟨#[]⟩, .int .i64 0, .slice none 0 0, .int .i64 0, .string ⟨#[]⟩, .int .i64 0, .slice none 0 0, .int .i64 0, .string ⟨#[]⟩, .int .i64 0, .slice none 0 0] 173 (0, 0)) ∧
    (((w.alloc (bxA a)).alloc bxZ).alloc (bxX a)).heap[w.heap.size + 1 + 1]? = some (.cells #[.string ⟨#[58, 61]⟩, .string ⟨#[]⟩, .int .i64 a.k, .string a.nm, .int .i64 a.num, .slice a.ao a.n a.cap, .int .i64 0, .string ⟨#[]⟩, .int .i64 0, .slice none 0 0, .int .i64 0, .string ⟨#[]⟩, .int .i64 0, .slice none 0 0] 173 (0, 0)) := by
  refine ⟨h.below ((((Below.refl _ _).alloc (Nat.le_refl _) _).alloc (by simp) _).alloc (by simp; omega) _), (((KB.refl [rb] w).alloc _).alloc _).alloc _, ?_, ?_⟩
  · refine blk_alloc' ?_ _
    have := heap_alloc_new (w.alloc (bxA a)) bxZ
    rw [World.size_alloc] at this
    exact this
  · have := heap_alloc_new ((w.alloc (bxA a)).alloc bxZ) (bxX a)
    rw [World.size_alloc, World.size_alloc] at this
    exact this
theorem set4B {w : World} {b : Nat} {T : TypeId} {c0 c1 c2 c3 c4 c5 c6 c7 c8 c9 c10 c11 c12 c13 : Value} (v6 v7 v8 v9 : Value) (h : w.heap[b]? = some (.cells #[c0, c1, c2, c3, c4, c5, c6, c7, c8, c9, c10, c11, c12, c13] T (0, 0))) :
    ((((w.setCell ⟨b, 6, none⟩ v6).setCell ⟨b, 7, none⟩ v7).setCell ⟨b, 8, none⟩ v8).setCell ⟨b, 9, none⟩ v9).heap[b]? = some (.cells #[c0, c1, c2, c3, c4, c5, v6, v7, v8, v9, c10, c11, c12, c13] T (0, 0)) := by
  have := blk_set (blk_set (blk_set (blk_set h 6 v6) 7 v7) 8 v8) 9 v9
  simpa using this
theorem oth4B {w : World} {b b' : Nat} {x : Obj} (v6 v7 v8 v9 : Value) (h : w.heap[b']? = some x) (hne : b' ≠ b) :
    ((((w.setCell ⟨b, 6, none⟩ v6).setCell ⟨b, 7, none⟩ v7).setCell ⟨b, 8, none⟩ v8).setCell ⟨b, 9, none⟩ v9).heap[b']? = some x :=
  blk_other (blk_other (blk_other (blk_other h hne 6 v6) hne 7 v7) hne 8 v8) hne 9 v9
theorem set1B {w : World} {b : Nat} {T : TypeId} {c0 c1 c2 c3 c4 c5 c6 c7 c8 c9 c10 c11 c12 c13 : Value} (v1 : Value) (h : w.heap[b]? = some (.cells #[c0, c1, c2, c3, c4, c5, c6, c7, c8, c9, c10, c11, c12, c13] T (0, 0))) :
    (w.setCell ⟨b, 1, none⟩ v1).heap[b]? = some (.cells #[c0, v1, c2, c3, c4, c5, c6, c7, c8, c9, c10, c11, c12, c13] T (0, 0)) := by
  have := blk_set h 1 v1
  simpa using this
end Go.Proofs.YthfjnfcekeknlaaGreatDoor
namespace Go.Proofs.YthfjnfcekeknlaaGreatDoor
open Go.RowKit

set_option maxHeartbeats 8000000 in
set_option maxRecDepth 100000 in
theorem asB_hit0 (w : World) (rb tb cap : Nat) (s : ByteArray) (L : List Parl.Tok) (i : Nat) (p0 : Int) (a : BV) (_left : Parl.Tm) (h : SB w rb tb cap s L i 0 p0) (hk0 : (Parl.hd (L.drop i)).kind ≠ 0) (t : Parl.Tm) (l2 : List Parl.Tok) (hO : Parl.operand (L.drop (i + 1)) = .inr (t, l2)) (hm0 : Parl.sees l2 [43] = true) (r2 : Parl.Res Parl.Tm) (hO2 : Parl.operand l2.tail = r2) (xx : Parl.Tm → Parl.Itm) (hxx : ∀ z, (xx z).sign = [58, 61] ∧ (xx z).right = some t ∧ (xx z).op = [43] ∧ (xx z).last = some z) :
    Calls Tryz.prog 200 #[.pointer (some ⟨rb, 0, none⟩), .agg #[.int .i64 a.k, .string a.nm, .int .i64 a.num, .slice a.ao a.n a.cap]] w fun e w' => PUniI rb tb cap s L p0 a (asgR xx r2) w e w' := by
  have hlt := h.hlt
  have htl := h.tblt
  obtain ⟨hS, hK, hB1, hB2⟩ := ass_boxes a h
  unfold bxA bxZ bxX at hS hK hB1 hB2
  have HS := hide hS
  have HK := hide hK
  have HB1 := hide hB1
  have HB2 := hide hB2
  clear hS hK hB1 hB2 h
  have hk0' := hide hk0
  have OPU := hide (fun W (hW : SB W rb tb cap s L (i + 1) 0 p0) => opB_uni W rb tb cap s L (i + 1) p0 hW)
  rw [hO] at OPU
  have HO2 := hide hO2
  clear hO2
  go_enter Tryz.func200, Tryz.ntmps200
  go_wp2_with fail
  refine (pass_on _ rb tb cap s L i 0 p0 (unhide HS) (unhide hk0')).mono ?_
  rintro e w2 ⟨rfl, hs2, hk2⟩
  have HK2 := hide ((unhide HK).trans hk2)
  have HB12 := hide (blk_kb hk2 (unhide HB1) (by simp; omega))
  have HB22 := hide (blk_kb hk2 (unhide HB2) (by simp; omega))
  have HS2 := hide hs2
  clear hs2 hk2
  go_wp2_with fail
  refine (unhide OPU _ (unhide HS2)).mono ?_
  rintro e w3 ⟨b, j, e1, p1, rfl, hs3, hk3, ⟨rfl, rfl, hj⟩, hvb⟩
  have hz2w : w.heap.size + 1 + 1 < w2.heap.size := blk_lt' (unhide HB22)
  have HVB := hide ((show VB (fun g => w2.heap.size ≤ g) w3 b t from hvb).imp (Q := fun g => w.heap.size + 3 ≤ g) (fun g q _ => by omega))
  clear hvb hz2w
  subst hj
  have hkj := hide (show (Parl.hd (L.drop j)).kind ≠ 0 by rw [Parl.sees_kind hm0]; omega)
  have OP2 := hide (fun W (hW : SB W rb tb cap s L (j + 1) 0 p1) => opB_uni W rb tb cap s L (j + 1) p1 hW)
  rw [show L.drop (j + 1) = (L.drop j).tail by simp, unhide HO2] at OP2
  have HK3 := hide ((unhide HK2).trans hk3)
  have hb1 := blk_kb hk3 (unhide HB12) (by simp; omega)
  have hb2 := blk_kb hk3 (unhide HB22) (by simp; omega)
  have hz1 : w.heap.size + 1 < w3.heap.size := blk_lt' hb1
  have hz2 : w.heap.size + 1 + 1 < w3.heap.size := blk_lt' hb2
  have r := blkA' hb1
  have x := blkX' hb1
  have q := blkA' hb2
  have y := blkX' hb2
  have HB13 := hide hb1
  have HB23 := hide hb2
  have HS3 := hide hs3
  have c2 := hs3.c2
  have hrw : rb < w3.heap.size := hs3.hlt
  clear hs3 hk3 hb1 hb2
  go_wp2_with fail
  refine wp_loop_rounds 4 ?_
  rw [rounds_succ]
  go_wp2_with fail
  refine (is_any _ rb tb cap s L j 0 _ _ (((unhide HS3).onb ((((((OnB.refl (w.heap.size + 1 + 1) w3).set 6 (.int .i64 b.k)).set 7 (.string b.nm)).set 8 (.int .i64 b.num)).set 9 (.slice b.ao b.n b.cap))) (by omega) (by omega)).below ((Below.refl _ _).alloc (Nat.le_refl _) _))).mono ?_
  rintro e wn ⟨rfl, n0, rfl⟩
  simp only [ByteArray.toList_mk]
  rw [hm0]
  go_wp2_with fail
  have RO := (((((OnB.refl (w.heap.size + 1 + 1) w3).set 6 (.int .i64 b.k)).set 7 (.string b.nm)).set 8 (.int .i64 b.num)).set 9 (.slice b.ao b.n b.cap))
  have RQ := (OnB.refl (w.heap.size + 1 + 1) ((((((w3.setCell ⟨w.heap.size + 1 + 1, 6, none⟩ (.int .i64 b.k)).setCell ⟨w.heap.size + 1 + 1, 7, none⟩ (.string b.nm)).setCell ⟨w.heap.size + 1 + 1, 8, none⟩ (.int .i64 b.num)).setCell ⟨w.heap.size + 1 + 1, 9, none⟩ (.slice b.ao b.n b.cap)).alloc (.cells #[.string ⟨#[43]⟩, .string ⟨#[45]⟩, .string ⟨#[42]⟩] 9)).drewN (n0))).set 1 (.string ⟨#[43]⟩)
  have HSH := hide (((((unhide HS3).onb RO (by omega) (by omega)).below ((Below.refl _ _).alloc (Nat.le_refl _) _)).draws _).onb RQ (by omega) (by omega))
  have HVH := hide ((((unhide HVB).onb RO (fun g q => by omega)).below (((Below.refl _ _).alloc (Nat.le_refl _) _))).kb ((KB.refl [] _).drewN _) (by simp) |>.onb RQ (fun g q => by omega))
  have HKH := hide (((((unhide HK3).onb RO (by omega)).alloc _).drewN _).onb RQ (by omega))
  have HBH2 : Hid ((((((((w3.setCell ⟨w.heap.size + 1 + 1, 6, none⟩ (.int .i64 b.k)).setCell ⟨w.heap.size + 1 + 1, 7, none⟩ (.string b.nm)).setCell ⟨w.heap.size + 1 + 1, 8, none⟩ (.int .i64 b.num)).setCell ⟨w.heap.size + 1 + 1, 9, none⟩ (.slice b.ao b.n b.cap)).alloc (.cells #[.string ⟨#[43]⟩, .string ⟨#[45]⟩, .string ⟨#[42]⟩] 9)).drewN (n0)).setCell ⟨w.heap.size + 1 + 1, 1, none⟩ (.string ⟨#[43]⟩)).heap[w.heap.size + 1 + 1]? = some (.cells #[.string ⟨#[58, 61]⟩, .string ⟨#[43]⟩, .int .i64 a.k, .string a.nm, .int .i64 a.num, .slice a.ao a.n a.cap, .int .i64 b.k, .string b.nm, .int .i64 b.num, .slice b.ao b.n b.cap, .int .i64 0, .string ⟨#[]⟩, .int .i64 0, .slice none 0 0] 173 (0, 0))) := set1B _ (show ((((((w3.setCell ⟨w.heap.size + 1 + 1, 6, none⟩ (.int .i64 b.k)).setCell ⟨w.heap.size + 1 + 1, 7, none⟩ (.string b.nm)).setCell ⟨w.heap.size + 1 + 1, 8, none⟩ (.int .i64 b.num)).setCell ⟨w.heap.size + 1 + 1, 9, none⟩ (.slice b.ao b.n b.cap)).alloc (.cells #[.string ⟨#[43]⟩, .string ⟨#[45]⟩, .string ⟨#[42]⟩] 9)).drewN (n0)).heap[w.heap.size + 1 + 1]? = _ from blk_alloc' (set4B _ _ _ _ (unhide HB23)) _)
  have HBH1 : Hid ((((((((w3.setCell ⟨w.heap.size + 1 + 1, 6, none⟩ (.int .i64 b.k)).setCell ⟨w.heap.size + 1 + 1, 7, none⟩ (.string b.nm)).setCell ⟨w.heap.size + 1 + 1, 8, none⟩ (.int .i64 b.num)).setCell ⟨w.heap.size + 1 + 1, 9, none⟩ (.slice b.ao b.n b.cap)).alloc (.cells #[.string ⟨#[43]⟩, .string ⟨#[45]⟩, .string ⟨#[42]⟩] 9)).drewN (n0)).setCell ⟨w.heap.size + 1 + 1, 1, none⟩ (.string ⟨#[43]⟩)).heap[w.heap.size + 1]? = some (.cells #[.string ⟨#[]⟩, .string ⟨#[]⟩, .int .i64 0, .string ⟨#[]⟩, .int .i64 0, .slice none 0 0, .int .i64 0, .string ⟨#[]⟩, .int .i64 0, .slice none 0 0, .int .i64 0, .string ⟨#[]⟩, .int .i64 0, .slice none 0 0] 173 (0, 0))) := blk_other (show ((((((w3.setCell ⟨w.heap.size + 1 + 1, 6, none⟩ (.int .i64 b.k)).setCell ⟨w.heap.size + 1 + 1, 7, none⟩ (.string b.nm)).setCell ⟨w.heap.size + 1 + 1, 8, none⟩ (.int .i64 b.num)).setCell ⟨w.heap.size + 1 + 1, 9, none⟩ (.slice b.ao b.n b.cap)).alloc (.cells #[.string ⟨#[43]⟩, .string ⟨#[45]⟩, .string ⟨#[42]⟩] 9)).drewN (n0)).heap[w.heap.size + 1]? = _ from blk_alloc' (oth4B _ _ _ _ (unhide HB13) (by omega)) _) (by omega) _ _
  clear RO RQ
  refine (pass_on _ rb tb cap s L j 0 _ (unhide HSH) (unhide hkj)).mono ?_
  rintro e w5 ⟨rfl, hs5, hk5⟩
  have HV5 := hide ((unhide HVH).kbs (unhide HSH) hk5)
  have HS5 := hide hs5
  have HK5 := hide ((unhide HKH).trans hk5)
  have HB15 := hide (blk_kb hk5 (unhide HBH1) (by simp; omega))
  have HB25 := hide (blk_kb hk5 (unhide HBH2) (by simp; omega))
  clear hs5 hk5 r x q y c2 hrw hz1 hz2 HSH HKH HBH1 HBH2 HS3 HK3 HB13 HB23
  go_wp2_with fail
  refine (unhide OP2 _ (unhide HS5)).mono ?_
  rintro e w6 ⟨c, j2, e2, p2, rfl, hs6, hk6, hu, hvc⟩
  have HV6 := hide ((unhide HV5).kbs (unhide HS5) hk6)
  have HVC := hide hvc
  have HZ5 := hide (blk_lt' (unhide HB25))
  clear hvc
  have HU := hide hu
  have HS6 := hide hs6
  have HK6 := hide ((unhide HK5).trans hk6)
  have hb1 := blk_kb hk6 (unhide HB15) (by simp; omega)
  have hb2 := blk_kb hk6 (unhide HB25) (by simp; omega)
  have r := blkA' hb1
  have x := blkX' hb1
  have q := blkA' hb2
  have y := blkX' hb2
  clear hs6 hk6 hb1 hb2 hu
  go_wp2_with fail
  rw [rounds_succ]
  go_wp2_with fail
  have RO := (((((OnB.refl (w.heap.size + 1 + 1) w6).set 10 (.int .i64 c.k)).set 11 (.string c.nm)).set 12 (.int .i64 c.num)).set 13 (.slice c.ao c.n c.cap))
  have RP := (((((((((((((((OnB.refl (w.heap.size + 1) ((((w6.setCell ⟨w.heap.size + 1 + 1, 10, none⟩ (.int .i64 c.k)).setCell ⟨w.heap.size + 1 + 1, 11, none⟩ (.string c.nm)).setCell ⟨w.heap.size + 1 + 1, 12, none⟩ (.int .i64 c.num)).setCell ⟨w.heap.size + 1 + 1, 13, none⟩ (.slice c.ao c.n c.cap))).set 0 (.string ⟨#[58, 61]⟩)).set 1 (.string ⟨#[43]⟩)).set 2 (.int .i64 a.k)).set 3 (.string a.nm)).set 4 (.int .i64 a.num)).set 5 (.slice a.ao a.n a.cap)).set 6 (.int .i64 b.k)).set 7 (.string b.nm)).set 8 (.int .i64 b.num)).set 9 (.slice b.ao b.n b.cap)).set 10 (.int .i64 c.k)).set 11 (.string c.nm)).set 12 (.int .i64 c.num)).set 13 (.slice c.ao c.n c.cap))
  refine bodyPost_ret (v := .agg #[.string ⟨#[58, 61]⟩, .string ⟨#[43]⟩, .int .i64 a.k, .string a.nm, .int .i64 a.num, .slice a.ao a.n a.cap, .int .i64 b.k, .string b.nm, .int .i64 b.num, .slice b.ao b.n b.cap, .int .i64 c.k, .string c.nm, .int .i64 c.num, .slice c.ao c.n c.cap]) (by simp [results, Tryz.results200, go_sem, r]) rfl ?_
  exact ⟨a, b, c, ⟨#[58, 61]⟩, ⟨#[43]⟩, j2, e2, p2, rfl, ((unhide HS6).onb RO (by omega) (by omega)).onb RP (by omega) (by omega), ((unhide HK6).onb RO (by omega)).onb RP (by omega), uni_asg xx (unhide HU), val_asg hxx (by simp) (by simp) ((((unhide HV6).onb RO (fun g q => by omega)).onb RP (fun g q => by omega)).imp (fun g q _ => by omega)) (fun z l3 q => by subst q; have hz5 := unhide HZ5; exact (((show VB (fun g => w5.heap.size ≤ g) w6 c z from unhide HVC).imp (Q := fun g => w.heap.size + 3 ≤ g) (fun g q _ => by omega)).onb RO (fun g q => by omega)).onb RP (fun g q => by omega) |>.imp (fun g q _ => by omega))⟩

end Go.Proofs.YthfjnfcekeknlaaGreatDoor
