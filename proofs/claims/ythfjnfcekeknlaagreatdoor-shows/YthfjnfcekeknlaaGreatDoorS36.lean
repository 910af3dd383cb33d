import Derived.Test.YthfjnfcekeknlaaGreatDoorS28
import Derived.Test.YthfjnfcekeknlaaGreatDoorS29
import Derived.Test.YthfjnfcekeknlaaGreatDoorS30
import Derived.Test.YthfjnfcekeknlaaGreatDoorS31
import Derived.Test.YthfjnfcekeknlaaGreatDoorS35
import Derived.Deep.LoopGhost
namespace Go.Proofs.YthfjnfcekeknlaaGreatDoor
open Go.RowKit

theorem term_kinds (f : Nat) (l : List Parl.Tok) (t : Parl.Tm) (l1 : List Parl.Tok) (h : Parl.term f l = .inr (t, l1)) : t.kind = 2 ∨ t.kind = 3 ∨ t.kind = 4 := by
  cases f with
  | zero =>
    rw [Parl.term] at h
    by_cases hb : Parl.begins (Parl.hd l) = true
    · rw [if_pos hb] at h; cases h
    · rw [if_neg hb] at h; cases h
  | succ f =>
    rw [Parl.term] at h
    by_cases hb : Parl.begins (Parl.hd l) = true
    · rw [if_pos hb] at h
      have hk : (Parl.hd l).kind = 2 ∨ (Parl.hd l).kind = 3 ∨ (Parl.hd l).kind = 4 := by simpa [Parl.begins, or_assoc] using hb
      by_cases hl : (Parl.hd l).kind = 4 ∧ 6 < (Parl.hd l).text.size
      · rw [if_pos hl] at h; cases h
      · rw [if_neg hl] at h
        by_cases h2 : (Parl.hd l).kind = 2
        · rw [if_pos h2] at h
          by_cases hs : Parl.sees l.tail [40] = true
          · rw [if_pos hs] at h
            rcases hq : Parl.argsOf (Parl.term f) 2 l.tail.tail with x | ⟨us, l2⟩
            · rw [hq] at h; cases h
            · rw [hq] at h; injection h with h; injection h with h _; subst h; exact Or.inl rfl
          · rw [if_neg hs] at h; injection h with h; injection h with h _; subst h; exact Or.inl rfl
        · rw [if_neg h2] at h; injection h with h; injection h with h _; subst h; exact hk
    · rw [if_neg hb] at h; cases h

theorem item_any (w : World) (rb lb : Nat) (s : ByteArray) (l : List Parl.Tok) (ns : List ByteArray) (nv iv : Value) (e0 : Int) (tests goals : Bool) (h : St w rb s l ns nv e0) (hb : w.heap[lb]? = some (.cells #[iv, .bool tests, .bool goals] 82 (0, 0))) (hne : lb ≠ rb) (hn0 : lb ≠ 0) :
    Calls Tryz.prog 80 #[.pointer (some ⟨rb, 0, none⟩), .pointer (some ⟨lb, 0, none⟩)] w fun e w' => PIt rb lb iv s ns (Parl.item tests goals l) w e w' := by
  rcases hT : Parl.term 8 l with ⟨er, ps⟩ | ⟨t, l1⟩
  · rw [show Parl.item tests goals l = .inl (er, ps) by unfold Parl.item; rw [hT]]
    exact item_bad w rb lb s l ns nv iv e0 tests goals h hb hne hn0 er ps hT
  · have hk := term_kinds 8 l t l1 hT
    cases hsg : Parl.testSign l1
    · cases heq : Parl.sees l1 [61]
      · by_cases h3 : t.kind = 3 ∧ Parl.sees l1 [58, 61] = true
        · obtain ⟨h3, has⟩ := h3
          rcases hR : Parl.assignment t goals l1 with ⟨er, ps⟩ | ⟨x, l2⟩
          · rw [show Parl.item tests goals l = .inl (er, ps) by unfold Parl.item; rw [hT]; simp only [hsg, heq, h3, has, hR]; rfl]
            exact item_set_no w rb lb s l ns nv iv e0 tests goals h hb hne hn0 t l1 hT h3 hsg heq has er ps hR
          · rw [show Parl.item tests goals l = .inr ((x, false, goals), l2) by unfold Parl.item; rw [hT]; simp only [hsg, heq, h3, has, hR]; rfl]
            exact item_set_yes w rb lb s l ns nv iv e0 tests goals h hb hne hn0 t l1 hT h3 hsg heq has x l2 hR
        · have hI : Parl.item tests goals l = if t.kind = 2 ∧ ((tests && Parl.isInt t) || goals) = true then .inr ((⟨t, [], none, [], none⟩, tests && Parl.isInt t, goals), l1) else Parl.bad 2 l1 := by
            unfold Parl.item; rw [hT]; simp only [hsg, heq]; rw [if_neg h3]; rfl
          have hn : t.kind ≠ 2 → Parl.isInt t = false := fun q => by simp [Parl.isInt, q]
          rw [hI]
          rcases hk with hk | hk | hk
          · cases tests
            · cases goals
              · rw [if_neg (by simp)]
                exact item_k2_false_n_f w rb lb s l ns nv iv e0 h hb hne hn0 t l1 hk hT hsg heq
              · rw [if_pos (by simp [hk])]
                exact item_k2_false_n_t w rb lb s l ns nv iv e0 h hb hne hn0 t l1 hk hT hsg heq
            · cases hi : Parl.isInt t
              · cases goals
                · rw [if_neg (by simp)]
                  exact item_k2_true_n_f w rb lb s l ns nv iv e0 h hb hne hn0 t l1 hk hi hT hsg heq
                · rw [if_pos (by simp [hk])]
                  exact item_k2_true_n_t w rb lb s l ns nv iv e0 h hb hne hn0 t l1 hk hi hT hsg heq
              · rw [if_pos (by simp [hk])]
                exact item_k2_true_i_g w rb lb s l ns nv iv e0 goals h hb hne hn0 t l1 hk hi hT hsg heq
          · have has : Parl.sees l1 [58, 61] = false := by simpa [hk] using h3
            rw [if_neg (by omega)]
            cases tests
            · exact item_k3_false_n_g w rb lb s l ns nv iv e0 goals h hb hne hn0 t l1 hk hT hsg heq has
            · exact item_k3_true_n_g w rb lb s l ns nv iv e0 goals h hb hne hn0 t l1 hk (hn (by omega)) hT hsg heq has
          · rw [if_neg (by omega)]
            cases tests
            · exact item_k4_false_n_g w rb lb s l ns nv iv e0 goals h hb hne hn0 t l1 hk hT hsg heq
            · exact item_k4_true_n_g w rb lb s l ns nv iv e0 goals h hb hne hn0 t l1 hk (hn (by omega)) hT hsg heq
      · rcases hR : Parl.sides t goals l1 with ⟨er, ps⟩ | ⟨x, l2⟩
        · rw [show Parl.item tests goals l = .inl (er, ps) by unfold Parl.item; rw [hT]; simp only [hsg, heq, hR]; rfl]
          exact item_eq_no w rb lb s l ns nv iv e0 tests goals h hb hne hn0 t l1 hT hsg heq er ps hR
        · rw [show Parl.item tests goals l = .inr ((x, false, goals), l2) by unfold Parl.item; rw [hT]; simp only [hsg, heq, hR]; rfl]
          exact item_eq_yes w rb lb s l ns nv iv e0 tests goals h hb hne hn0 t l1 hT hsg heq x l2 hR
    · rcases hR : Parl.sides t tests l1 with ⟨er, ps⟩ | ⟨x, l2⟩
      · rw [show Parl.item tests goals l = .inl (er, ps) by unfold Parl.item; rw [hT]; simp only [hsg, hR]; rfl]
        exact item_test_no w rb lb s l ns nv iv e0 tests goals h hb hne hn0 t l1 hT hsg er ps hR
      · rw [show Parl.item tests goals l = .inr ((x, tests, false), l2) by unfold Parl.item; rw [hT]; simp only [hsg, hR]; rfl]
        exact item_test_yes w rb lb s l ns nv iv e0 tests goals h hb hne hn0 t l1 hT hsg x l2 hR
end Go.Proofs.YthfjnfcekeknlaaGreatDoor
namespace Parl
theorem itemsA_err {k : Nat} {t g : Bool} {l : List Tok} {e : Nat × Nat} (h : item t g l = .inl e) : items k t g l = .inl e := by
  unfold items; rw [h]
theorem itemsA_end {k : Nat} {t g t1 g1 : Bool} {l l1 : List Tok} {x : Itm} (h : item t g l = .inr ((x, t1, g1), l1)) (hc : sees l1 [44] = false) : items k t g l = .inr (([x], t1, g1), l1) := by
  unfold items; rw [h]; simp [hc]
theorem itemsA_full {t g t1 g1 : Bool} {l l1 : List Tok} {x : Itm} (h : item t g l = .inr ((x, t1, g1), l1)) (hc : sees l1 [44] = true) : items 0 t g l = bad 3 l1 := by
  unfold items; rw [h]; simp [hc]
theorem itemsA_more {k : Nat} {t g t1 g1 : Bool} {l l1 : List Tok} {x : Itm} (h : item t g l = .inr ((x, t1, g1), l1)) (hc : sees l1 [44] = true) : items (k + 1) t g l = preI [x] (items k t1 g1 l1.tail) := by
  rw [items, h]
  simp only [hc, if_true]
  rcases items k t1 g1 l1.tail with e | ⟨⟨us, t, g⟩, l2⟩ <;> rfl
end Parl
namespace Go.Proofs.YthfjnfcekeknlaaGreatDoor
open Go.RowKit

theorem Tryz.info151 : (Tryz.prog.info? 151).map (fun i => (i.zero, i.size, i.bytes)) = some (some (.agg #[.int .i64 0, .int .i64 0, .string ⟨#[]⟩, .slice none 0 0, .string ⟨#[]⟩, .int .i64 0, .int .i64 0, .string ⟨#[]⟩, .slice none 0 0, .string ⟨#[]⟩, .int .i64 0, .int .i64 0, .string ⟨#[]⟩, .slice none 0 0]), 14, 200) := by kernel_rfl

/-- An item's fourteen cells, as the program lays them. -/
structure JV where
  a : TV
  b : TV
  c : TV
  sg : ByteArray
  op : ByteArray
def jvC (v : JV) : List Value := [.int .i64 v.a.k, .int .i64 v.a.val, .string v.a.tx, .slice v.a.ao v.a.n v.a.cap, .string v.sg, .int .i64 v.b.k, .int .i64 v.b.val, .string v.b.tx, .slice v.b.ao v.b.n v.b.cap, .string v.op, .int .i64 v.c.k, .int .i64 v.c.val, .string v.c.tx, .slice v.c.ao v.c.n v.c.cap]
theorem jvC_length (vs : List JV) : (vs.flatMap jvC).length = vs.length * 14 := by
  induction vs with
  | nil => rfl
  | cons a r ih => rw [List.flatMap_cons, List.length_append, ih]; simp [jvC]; omega
/-- An item lies there; N: the variables met so far. -/
structure ItR (N : List (List UInt8)) (w : World) (v : JV) (x : Parl.Itm) : Prop where
  left : RA 8 N anyA w v.a x.left
  sign : v.sg.toList = x.sign
  right : ∀ r, x.right = some r → RA 8 N anyA w v.b r
  op : v.op.toList = x.op
  last : ∀ z, x.last = some z → RA 8 N anyA w v.c z
theorem ItR.keep {N : List (List UInt8)} {w w' : World} {v : JV} {x : Parl.Itm} (h : ItR N w v x) (hk : KeepA w w') : ItR N w' v x := ⟨hk.ra h.left, h.sign, fun r q => hk.ra (h.right r q), h.op, fun r q => hk.ra (h.last r q)⟩
theorem ItR.more {N : List (List UInt8)} {w : World} {v : JV} {x : Parl.Itm} (h : ItR N w v x) (M : List (List UInt8)) : ItR (N ++ M) w v x := ⟨h.left.more M, h.sign, fun r q => (h.right r q).more M, h.op, fun r q => (h.last r q).more M⟩
theorem ItR.ok {N : List (List UInt8)} {w : World} {v : JV} {x : Parl.Itm} (h : ItR N w v x) : Parl.okI x := ⟨h.left.ok3, fun r q => (h.right r q).ok3, fun z q => (h.last z q).ok3⟩
theorem ItA.r {ns ns' : List ByteArray} {w' : World} {a b c : TV} {sg op : ByteArray} {x : Parl.Itm} (h : ItA ns ns' w' a b c sg op x) : ItR (nmsA ns') w' ⟨a, b, c, sg, op⟩ x := ⟨h.left, h.sign, h.right, h.op, h.last⟩
/-- What has been read so far lies there. -/
def RowJ (ns0 ns : List ByteArray) (w : World) (xs : List Value) (ys : List Parl.Itm) : Prop := (∃ vs : List JV, xs = vs.flatMap jvC ∧ All2 (ItR (nmsA ns) w) vs ys) ∧ nmsA ns = Parl.namesL (nmsA ns0) ys
theorem RowJ.keep {ns0 ns : List ByteArray} {w w' : World} {xs : List Value} {ys : List Parl.Itm} (h : RowJ ns0 ns w xs ys) (hk : KeepA w w') : RowJ ns0 ns w' xs ys := by
  obtain ⟨⟨vs, rfl, ha⟩, hn⟩ := h
  exact ⟨⟨vs, rfl, ha.imp fun _ _ q => q.keep hk⟩, hn⟩
theorem RowJ.snoc {ns0 ns ns' : List ByteArray} {w : World} {xs : List Value} {ys : List Parl.Itm} {a b c : TV} {sg op : ByteArray} {x : Parl.Itm} (h : RowJ ns0 ns w xs ys) (q : ItA ns ns' w a b c sg op x) : RowJ ns0 ns' w (xs ++ jvC ⟨a, b, c, sg, op⟩) (ys ++ [x]) := by
  obtain ⟨⟨vs, rfl, ha⟩, hn⟩ := h
  obtain ⟨M, hM, _⟩ := Parl.namesI_ext x q.r.ok (nmsA ns)
  have he : nmsA ns' = nmsA ns ++ M := q.nms.trans hM
  refine ⟨⟨vs ++ [⟨a, b, c, sg, op⟩], by simp, All2.snoc q.r ?_⟩, ?_⟩
  · rw [he]; exact ha.imp fun _ _ r => r.more M
  · unfold Parl.namesL
    rw [List.foldl_append, q.nms, hn]
    rfl
/-- The items lie there. -/
def ItemsA (N : List (List UInt8)) (w : World) (o : Option Addr) (n : Nat) (ys : List Parl.Itm) : Prop := n = ys.length ∧ (ys ≠ [] → ∃ (g : Nat) (vs : List JV) (cs : Array Value), o = some ⟨g, 0, none⟩ ∧ w.heap[g]? = some (.cells cs 151 (0, 0)) ∧ cs.toList.take (vs.length * 14) = vs.flatMap jvC ∧ All2 (ItR N w) vs ys)
theorem ItemsA.of_row {ns0 ns : List ByteArray} {w : World} {b0 g n cap : Nat} {xs : List Value} {ys : List Parl.Itm} (h : RowJ ns0 ns w xs ys) (ho : w.ownsRow b0 151 14 (.slice (some ⟨g, 0, none⟩) n cap) n xs) : ItemsA (nmsA ns) w (some ⟨g, 0, none⟩) n ys := by
  obtain ⟨⟨vs, rfl, ha⟩, _⟩ := h
  have hl := ho.1
  rw [jvC_length] at hl
  have hl' := ha.length
  rcases ho.2 with ⟨q, _⟩ | ⟨g', cap', cur, q, _, hc, _, _, _, ht⟩
  · cases q
  · simp only [Value.slice.injEq, Option.some.injEq, Addr.mk.injEq, and_true, true_and] at q
    obtain ⟨rfl, rfl⟩ := q
    exact ⟨by omega, fun _ => ⟨g, vs, cur, rfl, hc, by rw [show vs.length = n by omega]; exact ht, ha⟩⟩
/-- What 'items' leaves. -/
def PIts (rb : Nat) (s : ByteArray) (ns : List ByteArray) (r : Parl.Res (List Parl.Itm × Bool × Bool)) (w : World) (e : Ending) (w' : World) : Prop := match r with
  | .inl (er, pos) => ∃ (l' : List Parl.Tok) (ns' : List ByteArray) (nv' : Value), e = .returned (.tuple #[.agg #[.slice none 0 0, .bool false, .bool false], .bool false]) ∧ St w' rb s l' ns' nv' (er : Int) ∧ (Parl.hd l').pos = pos ∧ KA rb [rb] w w'
  | .inr ((ys, t1, g1), l1) => ∃ (ao : Option Addr) (n cap : Nat) (ns' : List ByteArray) (nv' : Value) (e' : Int), e = .returned (.tuple #[.agg #[.slice ao n cap, .bool t1, .bool g1], .bool true]) ∧ (ItemsA (nmsA ns') w' ao n ys ∧ nmsA ns' = Parl.namesL (nmsA ns) ys) ∧ St w' rb s l1 ns' nv' e' ∧ KA rb [rb] w w'

/-- The loop's relation. -/
def LA (w : World) (rb : Nat) (s : ByteArray) (T G : Bool) (l0 : List Parl.Tok) (ns0 : List ByteArray) (k : Nat) (wr : World) : Prop :=
  ∃ (n : Nat) (xs : List Value) (iv : Value) (t g : Bool) (l : List Parl.Tok) (ns : List ByteArray) (nv : Value) (e : Int), St wr rb s l ns nv e ∧ KA rb [rb] w wr ∧
    wr.heap[w.heap.size]? = some (.cells #[iv, .bool t, .bool g] 82 (0, 0)) ∧
    wr.heap[w.heap.size + 1]? = some (.cells #[.slice none 0 0, .bool false, .bool false] 82 (0, 0)) ∧
    wr.ownsRow (w.heap.size + 2) 151 14 iv n xs ∧ n ≤ 5 ∧ k + n = 6 ∧ ∃ ys : List Parl.Itm, Parl.items 5 T G l0 = Parl.preI ys (Parl.items (5 - n) t g l) ∧ RowJ ns0 ns wr xs ys
theorem KeepA.ka2 {w w' : World} {rb lb : Nat} {s : ByteArray} {l : List Parl.Tok} {ns : List ByteArray} {nv : Value} {e : Int} {C : Array Value} (hs : St w rb s l ns nv e) (hb : w.heap[lb]? = some (.cells C 82 (0, 0))) (hk : KA rb [rb, lb] w w') : KeepA w w' := fun g cs hg hi => (hk.block g (Array.getElem?_eq_some_iff.1 hg).1 (fun q => by
    rcases List.mem_cons.1 q with rfl | q
    · obtain ⟨k, r, hc⟩ := hi
      have := hs.rd.c0
      simp [World.cell?, hg] at this
      rw [← Array.getElem?_toList, hc] at this
      simp at this
    · obtain rfl : g = lb := by simpa using q
      rw [hb] at hg
      simp at hg) (Or.inr (by unfold tyAt; rw [hg]; simp))).trans hg
/-- Rows of terms behind an append to the items. -/
theorem itsA_keep {w5 w7 : World} {lb b0 n : Nat} {av v' : Value} {xs : List Value} {X A : Obj} {C : Array Value} (hb0 : w7.heap[lb]? = some (.cells C 82 (0, 0))) (ho : w5.ownsRow b0 151 14 av n xs) (hg : ((w5.alloc X).alloc A).grownBy w7 av.ownBlock) : KeepA w5 (w7.setCell ⟨lb, 0, none⟩ v') :=
  (((KeepA.alloc w5 X).trans (KeepA.alloc _ A)).trans (KeepA.grown ((ho.alloc X).alloc A) hg)).trans (KeepA.only ((OnlyB.refl lb w7).set 0 v') (by unfold tyAt; rw [hb0]; simp))

theorem own_ka2 {rb lb b0 : Nat} {w w1 : World} {T : TypeId} {sz : Nat} {v : Value} {n : Nat} {xs : List Value} (h : w.ownsRow b0 T sz v n xs) (hk : KA rb [rb, lb] w w1) (hb : rb < b0) (hl : lb < b0) (hT : T ≠ 9) : w1.ownsRow b0 T sz v n xs :=
  ⟨h.1, h.2.imp id fun ⟨g, cap, cur, a, b, c, d⟩ => ⟨g, cap, cur, a, b, (hk.block g (Array.getElem?_eq_some_iff.1 c).1 (by simp; omega) (Or.inr (by unfold tyAt; rw [c]; simpa using hT))).trans c, d⟩⟩
theorem own_less {b0 b1 : Nat} {w : World} {T : TypeId} {sz : Nat} {v : Value} {n : Nat} {xs : List Value} (h : w.ownsRow b0 T sz v n xs) (hb : b1 ≤ b0) : w.ownsRow b1 T sz v n xs :=
  ⟨h.1, h.2.imp id fun ⟨g, cap, cur, a, b, c, d⟩ => ⟨g, cap, cur, a, Nat.le_trans hb b, c, d⟩⟩
theorem newLA (W : World) (n : Nat) (A : Array Value) (T : TypeId) (xs : List Value) (hn : n = W.heap.size) (hx : A.toList = xs) : ∀ j u, xs[j]? = some u → (W.alloc (.cells A T)).cell? ((⟨n, 0, none⟩ : Addr).add j) = some u := by
  subst hn hx
  intro j u hj
  have := blkA (heap_alloc_new W (.cells A T)) j
  rw [show (⟨W.heap.size, 0, none⟩ : Addr).add j = ⟨W.heap.size, j, none⟩ by cases j <;> simp [Addr.add], this]
  simpa using hj
theorem one14A (a b c : TV) (op sg : ByteArray) : ∀ u ∈ ([.int .i64 a.k, .int .i64 a.val, .string a.tx, .slice a.ao a.n a.cap, .string sg, .int .i64 b.k, .int .i64 b.val, .string b.tx, .slice b.ao b.n b.cap, .string op, .int .i64 c.k, .int .i64 c.val, .string c.tx, .slice c.ao c.n c.cap] : List Value), u.oneCell' = true := by
  simp [Value.oneCell']
theorem set3A {w : World} {b : Nat} {T : TypeId} {c0 c1 c2 : Value} (v : Value) (h : w.heap[b]? = some (.cells #[c0, c1, c2] T (0, 0))) :
    (w.setCell ⟨b, 0, none⟩ v).heap[b]? = some (.cells #[v, c1, c2] T (0, 0)) := by
  have := blk_set h 0 v
  simpa using this

/-- What stands behind an append to the items. -/
theorem itsA_mk {w w5 w7 : World} {rb : Nat} {s : ByteArray} {l : List Parl.Tok} {ns : List ByteArray} {nv : Value} {e : Int} {n : Nat} {av v' : Value} {xs xs' : List Value} {X A : Obj} {t g : Value} {C1 : Array Value}
    (hS : St w5 rb s l ns nv e) (hK : KA rb [rb] w w5) (hr : rb < w.heap.size)
    (hb0 : w5.heap[w.heap.size]? = some (.cells #[av, t, g] 82 (0, 0))) (hb1 : w5.heap[w.heap.size + 1]? = some (.cells C1 82 (0, 0)))
    (ho : w5.ownsRow (w.heap.size + 2) 151 14 av n xs)
    (hg : ((w5.alloc X).alloc A).grownBy w7 av.ownBlock) (ho' : w7.ownsRow (w.heap.size + 2) 151 14 v' (n + 1) xs') :
    St (w7.setCell ⟨w.heap.size, 0, none⟩ v') rb s l ns nv e ∧ KA rb [rb] w (w7.setCell ⟨w.heap.size, 0, none⟩ v') ∧
    (w7.setCell ⟨w.heap.size, 0, none⟩ v').heap[w.heap.size]? = some (.cells #[v', t, g] 82 (0, 0)) ∧ (w7.setCell ⟨w.heap.size, 0, none⟩ v').heap[w.heap.size + 1]? = some (.cells C1 82 (0, 0)) ∧
    (w7.setCell ⟨w.heap.size, 0, none⟩ v').ownsRow (w.heap.size + 2) 151 14 v' (n + 1) xs' ∧
    w7.heap[w.heap.size]? = some (.cells #[av, t, g] 82 (0, 0)) := by
  have hl1 : w.heap.size + 1 < w5.heap.size := blk_lt hb1
  obtain ⟨h7, k7⟩ := arg_grown hS hK (own_less ho (by omega)) hr hg
  have hB : Below (w.heap.size + 2) w5 w7 := (((Below.refl _ _).alloc (by omega) X).alloc (by simp; omega) A).grown hg (by simp; omega) (fun k q => (ho.lt k q).1)
  have q0 := (hB.block w.heap.size (by omega)).trans hb0
  have q1 := (hB.block (w.heap.size + 1) (by omega)).trans hb1
  obtain ⟨h8, k8⟩ := box1_end h7 k7 hr (Nat.le_refl _) q0 ((OnlyB.refl _ _).set 0 v')
  exact ⟨h8, k8, set3A v' q0, blk_other q1 (by omega) 0 v', ownsRow_setCell_below ho' (by show w.heap.size < w.heap.size + 2; omega) v', q0⟩
end Go.Proofs.YthfjnfcekeknlaaGreatDoor
namespace Go.Proofs.YthfjnfcekeknlaaGreatDoor
open Go.RowKit

set_option maxHeartbeats 8000000 in
set_option maxRecDepth 100000 in
theorem items_any (w : World) (rb : Nat) (s : ByteArray) (l : List Parl.Tok) (ns : List ByteArray) (nv : Value) (e0 : Int) (tests goals : Bool) (h : St w rb s l ns nv e0) :
    Calls Tryz.prog 40 #[.pointer (some ⟨rb, 0, none⟩), .agg #[.slice none 0 0, .bool tests, .bool goals]] w fun e w' => PIts rb s ns (Parl.items 5 tests goals l) w e w' := by
  have hlt := h.lt
  obtain ⟨ti, hi, hz0', hz1', hz2'⟩ := info_parts Tryz.info151
  have HL := hide (show LA w rb s tests goals l ns 6 ((w.alloc (.cells #[.slice none 0 0, .bool tests, .bool goals] 82)).alloc (.cells #[.slice none 0 0, .bool false, .bool false] 82)) from
    ⟨0, [], .slice none 0 0, tests, goals, l, ns, nv, e0, h.below (((Below.refl _ _).alloc (Nat.le_refl _) _).alloc (by simp) _), ((KA.refl rb [rb] w).alloc _).alloc _, blk_alloc (heap_alloc_new w _) _, by have := heap_alloc_new (w.alloc (.cells #[.slice none 0 0, .bool tests, .bool goals] 82)) (.cells #[.slice none 0 0, .bool false, .bool false] 82); rw [World.size_alloc] at this; exact this, World.ownsRow_nil _ _ _ _, by omega, by omega, [], (Parl.preI_nil _).symm, ⟨[], rfl, trivial⟩, rfl⟩)
  clear h
  go_enter Tryz.func40, Tryz.ntmps40
  go_wp2_with fail
  go_loopg [] 6 (fun k wr => LA w rb s tests goals l ns k wr)
  case atStart => exact unhide HL
  case round =>
    clear HL
    obtain ⟨n, xs, iv, t, g, l1, ns1, nv1, e1, hs, hk, hb0, hb1, ho, hn5, hkn, ys, htot, hrow⟩ := hrel
    have HROW := hide hrow
    have HSR := hide hs
    clear hrow
    have I := hide (item_any wr rb w.heap.size s l1 ns1 nv1 iv e1 t g hs hb0 (by omega) (by omega))
    have HK := hide hk
    have HB0 := hide hb0
    have HB1 := hide hb1
    have HO := hide ho
    have HTOT := hide htot
    have hrw := hs.lt
    clear hs hk hb0 hb1 ho htot
    generalize hr : Parl.item t g l1 = r at I
    have HR := hide hr
    clear hr
    rcases r with ⟨er, pos⟩ | ⟨⟨x, t1, g1⟩, l2⟩
    · have HF := hide (show Parl.items 5 tests goals l = .inl (er, pos) by rw [unhide HTOT, Parl.itemsA_err (unhide HR)]; rfl)
      go_wp2_with fail
      refine (unhide I).mono ?_
      rintro e w5 ⟨a, b, c, sg, op, l', ns', nv', rfl, hs5, hpos, hk5⟩
      have HS5 := hide hs5
      have HP := hide hpos
      have HK5 := hide ((((unhide HK).mono (Y := [rb, w.heap.size]) (by simp)).trans hk5).forget (X := [rb]) (by simp))
      have HB15 := hide (blk_ka hk5 (unhide HB1) (by simp; omega))
      have r1 := blkA (unhide HB15)
      have x1 := blkX (unhide HB15)
      have hz1 := blk_lt (unhide HB15)
      clear hs5 hpos hk5
      go_wp2_with fail
      refine bodyPost_ret (v := .tuple #[.agg #[.slice none 0 0, .bool false, .bool false], .bool false]) (by simp [results, Tryz.results40, go_sem, hz1, r1]) rfl ?_
      rw [unhide HF]
      have R := box1_end (unhide HS5) (unhide HK5) hlt (by omega) (unhide HB15) ((((OnlyB.refl _ _).set 0 (.slice none 0 0)).set 1 (.bool false)).set 2 (.bool false))
      exact ⟨l', ns', nv', rfl, R.1.below ((Below.refl _ _).alloc (Nat.le_refl _) _), unhide HP, R.2.alloc _⟩
    · go_wp2_with fail
      refine (unhide I).mono ?_
      rintro e w5 ⟨a, b, c, sg, op, ns2, nv2, e2, rfl, hit, hs5, hb05, hk5⟩
      have HROW5 := hide (((unhide HROW).keep (KeepA.ka2 (unhide HSR) (unhide HB0) hk5)).snoc hit)
      clear hit
      have HS5 := hide hs5
      have HK5 := hide ((((unhide HK).mono (Y := [rb, w.heap.size]) (by simp)).trans hk5).forget (X := [rb]) (by simp))
      have HB05 := hide hb05
      have HB15 := hide (blk_ka hk5 (unhide HB1) (by simp; omega))
      have HO5 := hide (own_ka2 (unhide HO) hk5 (by omega) (by omega) (by decide))
      have r0 := blkA (unhide HB05)
      have hz0 := blk_lt (unhide HB05)
      have hz1 := blk_lt (unhide HB15)
      clear hs5 hb05 hk5 HK HB0 HB1 HO HROW HSR
      go_wp2_with (first | (at_builtin; go_must (refine wpList_append_own _ rfl (.tmp 17) (.tmp 19) 54 rfl (w.heap.size + 2) 151 ti (.agg #[.int .i64 0, .int .i64 0, .string ⟨#[]⟩, .slice none 0 0, .string ⟨#[]⟩, .int .i64 0, .int .i64 0, .string ⟨#[]⟩, .slice none 0 0, .string ⟨#[]⟩, .int .i64 0, .int .i64 0, .string ⟨#[]⟩, .slice none 0 0]) 14 200 Tryz.underlying54 hi hz0' hz1' hz2' rfl (by decide) _ n xs rfl (((unhide HO5).alloc _).alloc _) ⟨w5.heap.size + 1, 0, none⟩ 1 1 [.int .i64 a.k, .int .i64 a.val, .string a.tx, .slice a.ao a.n a.cap, .string sg, .int .i64 b.k, .int .i64 b.val, .string b.tx, .slice b.ao b.n b.cap, .string op, .int .i64 c.k, .int .i64 c.val, .string c.tx, .slice c.ao c.n c.cap] rfl rfl (newLA _ _ _ _ _ (by simp) rfl) (one14A a b c op sg) (by unfold maxLen; omega) (by omega) (by simp; omega) ?_); go_must (intro v' w7 hown' hgrow _; obtain ⟨g', cap', hv, hcm⟩ := own_some hown'; have HR7 := hide (itsA_mk (unhide HS5) (unhide HK5) hlt (unhide HB05) (unhide HB15) (unhide HO5) hgrow hown'); have HKP7 := hide (itsA_keep (v' := v') (unhide HR7).2.2.2.2.2 (unhide HO5) hgrow); have z := blkA (unhide HR7).2.2.2.2.2; have zx := blkX (unhide HR7).2.2.2.2.2; have zz := blk_lt (unhide HR7).2.2.2.2.2; rw [hv] at HR7 HKP7 ⊢; clear hown' hgrow hv)))
      have HROW8 := hide ((unhide HROW5).keep (unhide HKP7))
      have HS7 := hide (unhide HR7).1
      have HK7 := hide (unhide HR7).2.1
      have H07 := hide (unhide HR7).2.2.1
      have H17 := hide (unhide HR7).2.2.2.1
      have HO7 := hide (unhide HR7).2.2.2.2.1
      clear HR7 HKP7 HROW5 z zx zz r0 hz0 hz1 HS5 HK5 HB05 HB15 HO5
      generalize w7.setCell ⟨w.heap.size, 0, none⟩ (.slice (some ⟨g', 0, none⟩) (n + 1) cap') = w8 at *
      refine (sees_any _ rb s l2 ns2 nv2 e2 _ (unhide HS7)).mono ?_
      rintro e w9 ⟨rfl, hw⟩
      rw [hw]
      simp only [ByteArray.toList_mk]
      clear hw w9
      have y0 := blkA (unhide H07)
      have y1 := blkA (unhide H17)
      have y1x := blkX (unhide H17)
      have hv0 := blk_lt (unhide H07)
      have hv1 := blk_lt (unhide H17)
      cases hc : Parl.sees l2 [44]
      · have HF := hide (show Parl.items 5 tests goals l = .inr ((ys ++ [x], t1, g1), l2) by rw [unhide HTOT, Parl.itemsA_end (unhide HR) hc]; rfl)
        go_wp2_with fail
        refine bodyPost_ret (v := .tuple #[.agg #[.slice (some ⟨g', 0, none⟩) (n + 1) cap', .bool t1, .bool g1], .bool true]) (by simp [results, Tryz.results40, go_sem, y1]) rfl ?_
        rw [unhide HF]
        have RP := box1_keep (unhide HS7) (unhide HK7) hlt (by omega) (unhide H17) ((((OnlyB.refl _ _).set 0 (.slice (some ⟨g', 0, none⟩) (n + 1) cap')).set 1 (.bool t1)).set 2 (.bool g1))
        have R := RP.1
        have HOf := ownsRow_setCell_below (a := ⟨w.heap.size + 1, 2, none⟩) (ownsRow_setCell_below (a := ⟨w.heap.size + 1, 1, none⟩) (ownsRow_setCell_below (a := ⟨w.heap.size + 1, 0, none⟩) (unhide HO7) (by show w.heap.size + 1 < w.heap.size + 2; omega) (.slice (some ⟨g', 0, none⟩) (n + 1) cap')) (by show w.heap.size + 1 < w.heap.size + 2; omega) (.bool t1)) (by show w.heap.size + 1 < w.heap.size + 2; omega) (.bool g1)
        exact ⟨some ⟨g', 0, none⟩, n + 1, cap', ns2, nv2, e2, rfl, ⟨ItemsA.of_row ((unhide HROW8).keep RP.2) HOf, (unhide HROW8).2⟩, R.1, R.2⟩
      · have hk5 := hide (show (Parl.hd l2).kind ≠ 0 by rw [Parl.sees_kind hc]; omega)
        go_wp2_with fail
        rw [show ((n : Int) + 1) = ((n + 1 : Nat) : Int) by omega]
        refine (comma_any _ rb s l2 ns2 nv2 e2 (n + 1) 6 (unhide HS7) (unhide hk5)).mono ?_
        by_cases hn : n + 1 < 6
        · have HF := hide (show Parl.items 5 tests goals l = Parl.preI (ys ++ [x]) (Parl.items (5 - (n + 1)) t1 g1 l2.tail) by rw [unhide HTOT, show 5 - n = (5 - (n + 1)) + 1 by omega, Parl.itemsA_more (unhide HR) hc, Parl.preI_preI])
          rw [if_pos hn, if_pos hn, decide_eq_true hn]
          rintro e wa ⟨rfl, hsa, hka⟩
          have HROWa := hide ((unhide HROW8).keep (KeepA.ka (unhide HS7) hka))
          have HSa := hide hsa
          have HKa := hide ((unhide HK7).trans hka)
          have H0a := hide (blk_ka hka (unhide H07) (by simp; omega))
          have H1a := hide (blk_ka hka (unhide H17) (by simp; omega))
          have HOa := hide (own_ka (unhide HO7) hka (by omega) (by decide))
          clear hsa hka
          go_wp2_with fail
          go_roundg (gk - 1)
          case measure => omega
          case rel => exact ⟨n + 1, _, _, t1, g1, l2.tail, ns2, nv2, e2, unhide HSa, unhide HKa, unhide H0a, unhide H1a, unhide HOa, by omega, by omega, _, unhide HF, unhide HROWa⟩
        · have HF := hide (show Parl.items 5 tests goals l = .inl (3, (Parl.hd l2).pos) by rw [unhide HTOT, show 5 - n = 0 by omega, Parl.itemsA_full (unhide HR) hc]; rfl)
          rw [if_neg hn, if_neg hn, decide_eq_false hn]
          rintro e wa ⟨rfl, hsa, hka⟩
          have HSa := hide hsa
          have HKa := hide ((unhide HK7).trans hka)
          have H1a := hide (blk_ka hka (unhide H17) (by simp; omega))
          clear hsa hka y0 y1 y1x hv0 hv1
          have z1 := blkA (unhide H1a)
          have z1x := blkX (unhide H1a)
          have hzz := blk_lt (unhide H1a)
          go_wp2_with fail
          refine bodyPost_ret (v := .tuple #[.agg #[.slice none 0 0, .bool false, .bool false], .bool false]) (by simp [results, Tryz.results40, go_sem, z1]) rfl ?_
          rw [unhide HF]
          have R := box1_end (unhide HSa) (unhide HKa) hlt (by omega) (unhide H1a) ((((OnlyB.refl _ _).set 0 (.slice none 0 0)).set 1 (.bool false)).set 2 (.bool false))
          exact ⟨l2, ns2, nv2, rfl, R.1, rfl, R.2⟩
end Go.Proofs.YthfjnfcekeknlaaGreatDoor
namespace Go.Proofs.YthfjnfcekeknlaaGreatDoor
open Go.RowKit

/-- Rows of the program's items stay. -/
def KeepJ (w w' : World) : Prop := ∀ (g : Nat) (cs : Array Value), w.heap[g]? = some (.cells cs 151 (0, 0)) → (∃ k r, cs.toList = .int .i64 k :: r) → w'.heap[g]? = some (.cells cs 151 (0, 0))
/-- Rows of terms and of items stay. -/
structure KeepAJ (w w' : World) : Prop where
  a : KeepA w w'
  j : KeepJ w w'
theorem KeepAJ.refl (w : World) : KeepAJ w w := ⟨fun _ _ h _ => h, fun _ _ h _ => h⟩
theorem KeepAJ.trans {u v w : World} (h : KeepAJ u v) (k : KeepAJ v w) : KeepAJ u w := ⟨h.a.trans k.a, fun g cs a b => k.j g cs (h.j g cs a b) b⟩
theorem KeepAJ.below {w w' : World} (h : Below w.heap.size w w') : KeepAJ w w' := ⟨KeepA.below h, fun g _ a _ => (h.block g (Array.getElem?_eq_some_iff.1 a).1).trans a⟩
theorem KeepAJ.alloc (w : World) (o : Obj) : KeepAJ w (w.alloc o) := KeepAJ.below ((Below.refl _ _).alloc (Nat.le_refl _) o)
theorem KeepAJ.onb {w w' : World} {b : Nat} {cs : Array Value} {T : TypeId} (hb : w.heap[b]? = some (.cells cs T (0, 0))) (ho : OnlyB b w w') (hT : T ≠ 76 := by decide) (hJ : T ≠ 151 := by decide) : KeepAJ w w' :=
  ⟨KeepA.only ho (by unfold tyAt; rw [hb]; simpa using hT), fun g cs' hg _ => (ho.block g (fun q => by subst q; rw [hb] at hg; simp at hg; exact hJ hg.2)).trans hg⟩
theorem KeepAJ.ka {w w' : World} {rb : Nat} {s : ByteArray} {l : List Parl.Tok} {ns : List ByteArray} {nv : Value} {e : Int} (hs : St w rb s l ns nv e) (hk : KA rb [rb] w w') : KeepAJ w w' :=
  ⟨KeepA.ka hs hk, fun g cs hg hi => (hk.block g (Array.getElem?_eq_some_iff.1 hg).1 (fun q => by
    obtain rfl : g = rb := by simpa using q
    obtain ⟨k, r, hc⟩ := hi
    have := hs.rd.c0
    simp [World.cell?, hg] at this
    rw [← Array.getElem?_toList, hc] at this
    simp at this) (Or.inr (by unfold tyAt; rw [hg]; simp))).trans hg⟩
theorem KeepAJ.ka2 {w w' : World} {rb cb : Nat} {s : ByteArray} {l : List Parl.Tok} {ns : List ByteArray} {nv : Value} {e : Int} {C : Array Value} (hs : St w rb s l ns nv e) (hb : w.heap[cb]? = some (.cells C 78 (0, 0))) (hk : KA rb [rb, cb] w w') : KeepAJ w w' :=
  ⟨fun g cs hg hi => (hk.block g (Array.getElem?_eq_some_iff.1 hg).1 (fun q => by
    rcases List.mem_cons.1 q with rfl | q
    · obtain ⟨k, r, hc⟩ := hi
      have := hs.rd.c0
      simp [World.cell?, hg] at this
      rw [← Array.getElem?_toList, hc] at this
      simp at this
    · obtain rfl : g = cb := by simpa using q
      rw [hb] at hg
      simp at hg) (Or.inr (by unfold tyAt; rw [hg]; simp))).trans hg,
   fun g cs hg hi => (hk.block g (Array.getElem?_eq_some_iff.1 hg).1 (fun q => by
    rcases List.mem_cons.1 q with rfl | q
    · obtain ⟨k, r, hc⟩ := hi
      have := hs.rd.c0
      simp [World.cell?, hg] at this
      rw [← Array.getElem?_toList, hc] at this
      simp at this
    · obtain rfl : g = cb := by simpa using q
      rw [hb] at hg
      simp at hg) (Or.inr (by unfold tyAt; rw [hg]; simp))).trans hg⟩
theorem ItemsA.keep {N : List (List UInt8)} {w w' : World} {o : Option Addr} {n : Nat} {ys : List Parl.Itm} (h : ItemsA N w o n ys) (hk : KeepAJ w w') : ItemsA N w' o n ys := by
  refine ⟨h.1, fun q => ?_⟩
  obtain ⟨g, vs, cs, h1, h2, h3, h4⟩ := h.2 q
  refine ⟨g, vs, cs, h1, hk.j g cs h2 ?_, h3, h4.imp fun _ _ r => r.keep hk.a⟩
  cases vs with
  | nil => have := h4.length; simp at this; exact absurd (List.length_eq_zero_iff.1 this.symm) q
  | cons v vs =>
    cases hc : cs.toList with
    | nil => rw [hc] at h3; simp [jvC] at h3
    | cons c r =>
      rw [hc] at h3
      simp only [List.length_cons, Nat.add_mul, Nat.one_mul, List.flatMap_cons, jvC, List.cons_append, List.take_succ_cons] at h3
      injection h3 with h3 _
      exact ⟨_, r, by rw [h3]⟩
theorem ItemsA.none (N : List (List UInt8)) (w : World) : ItemsA N w Option.none 0 [] := ⟨rfl, fun q => absurd rfl q⟩
theorem all2_okI {N : List (List UInt8)} {w : World} : ∀ (vs : List JV) (ys : List Parl.Itm), All2 (ItR N w) vs ys → ∀ y ∈ ys, Parl.okI y
  | [], [], _, _, h => by cases h
  | [], _ :: _, h, _, _ => h.elim
  | _ :: _, [], _, _, h => by cases h
  | v :: vs, y :: ys, h, z, hz => by
    rcases List.mem_cons.1 hz with rfl | hz
    · exact h.1.ok
    · exact all2_okI vs ys h.2 z hz
theorem ItemsA.ok {N : List (List UInt8)} {w : World} {o : Option Addr} {n : Nat} {ys : List Parl.Itm} (h : ItemsA N w o n ys) : ∀ y ∈ ys, Parl.okI y := by
  intro y hy
  obtain ⟨g, vs, cs, _, _, _, h4⟩ := h.2 (fun e => by rw [e] at hy; cases hy)
  exact all2_okI vs ys h4 y hy
theorem ItemsA.more {N : List (List UInt8)} {w : World} {o : Option Addr} {n : Nat} {ys : List Parl.Itm} (h : ItemsA N w o n ys) (M : List (List UInt8)) : ItemsA (N ++ M) w o n ys :=
  ⟨h.1, fun q => by
    obtain ⟨g, vs, cs, h1, h2, h3, h4⟩ := h.2 q
    exact ⟨g, vs, cs, h1, h2, h3, h4.imp fun _ _ r => r.more M⟩⟩
theorem ItemsA.behind {N N' : List (List UInt8)} {w w' : World} {o o' : Option Addr} {n n' : Nat} {xs ys : List Parl.Itm} (h : ItemsA N w o n xs) (k : ItemsA N' w' o' n' ys) (hn : N' = Parl.namesL N ys) : ItemsA N' w o n xs := by
  obtain ⟨M, hM, _⟩ := Parl.foldI_ext ys k.ok N
  rw [hn]
  unfold Parl.namesL
  rw [hM]
  exact h.more M
/-- What a body leaves lies there. -/
structure BodA (ns ns' : List ByteArray) (w : World) (o1 : Option Addr) (n1 : Nat) (o2 : Option Addr) (n2 : Nat) (r : List Parl.Itm × List Parl.Itm) : Prop where
  tests : ItemsA (nmsA ns') w o1 n1 r.1
  goals : ItemsA (nmsA ns') w o2 n2 r.2
  nms : nmsA ns' = Parl.namesL (Parl.namesL (nmsA ns) r.1) r.2
theorem BodA.keep {ns ns' : List ByteArray} {w w' : World} {o1 : Option Addr} {n1 : Nat} {o2 : Option Addr} {n2 : Nat} {r : List Parl.Itm × List Parl.Itm} (h : BodA ns ns' w o1 n1 o2 n2 r) (hk : KeepAJ w w') : BodA ns ns' w' o1 n1 o2 n2 r := ⟨h.tests.keep hk, h.goals.keep hk, h.nms⟩
/-- What 'body' leaves: the clause's own block is cb. -/
def PBd (rb cb : Nat) (h0 h1 h2 h3 : Value) (s : ByteArray) (ns : List ByteArray) (r : Parl.Res (List Parl.Itm × List Parl.Itm)) (w : World) (e : Ending) (w' : World) : Prop := match r with
  | .inl (er, pos) => ∃ (l' : List Parl.Tok) (ns' : List ByteArray) (nv' : Value) (o1 : Option Addr) (n1 c1 : Nat) (o2 : Option Addr) (n2 c2 : Nat),
      e = .returned (.bool false) ∧ St w' rb s l' ns' nv' (er : Int) ∧ (Parl.hd l').pos = pos ∧ w'.heap[cb]? = some (.cells #[h0, h1, h2, h3, .slice o1 n1 c1, .slice o2 n2 c2] 78 (0, 0)) ∧ KA rb [rb, cb] w w'
  | .inr (xy, l1) => ∃ (ns' : List ByteArray) (nv' : Value) (e' : Int) (o1 : Option Addr) (n1 c1 : Nat) (o2 : Option Addr) (n2 c2 : Nat),
      e = .returned (.bool true) ∧ BodA ns ns' w' o1 n1 o2 n2 xy ∧ St w' rb s l1 ns' nv' e' ∧ w'.heap[cb]? = some (.cells #[h0, h1, h2, h3, .slice o1 n1 c1, .slice o2 n2 c2] 78 (0, 0)) ∧ KA rb [rb, cb] w w'

theorem set6p {w : World} {b : Nat} {T : TypeId} {c0 c1 c2 c3 c4 c5 : Value} (v : Value) (h : w.heap[b]? = some (.cells #[c0, c1, c2, c3, c4, c5] T (0, 0))) :
    (w.setCell ⟨b, 4, none⟩ v).heap[b]? = some (.cells #[c0, c1, c2, c3, v, c5] T (0, 0)) := by
  have := blk_set h 4 v
  simpa using this
theorem set6q {w : World} {b : Nat} {T : TypeId} {c0 c1 c2 c3 c4 c5 : Value} (v : Value) (h : w.heap[b]? = some (.cells #[c0, c1, c2, c3, c4, c5] T (0, 0))) :
    (w.setCell ⟨b, 5, none⟩ v).heap[b]? = some (.cells #[c0, c1, c2, c3, c4, v] T (0, 0)) := by
  have := blk_set h 5 v
  simpa using this
theorem set6r {w : World} {b : Nat} {T : TypeId} {c0 c1 c2 c3 c4 c5 : Value} (v0 v1 v2 v3 : Value) (h : w.heap[b]? = some (.cells #[c0, c1, c2, c3, c4, c5] T (0, 0))) :
    ((((w.setCell ⟨b, 0, none⟩ v0).setCell ⟨b, 1, none⟩ v1).setCell ⟨b, 2, none⟩ v2).setCell ⟨b, 3, none⟩ v3).heap[b]? = some (.cells #[v0, v1, v2, v3, c4, c5] T (0, 0)) := by
  have := blk_set (blk_set (blk_set (blk_set h 0 v0) 1 v1) 2 v2) 3 v3
  simpa using this
theorem set3B {w : World} {b : Nat} {T : TypeId} {c0 c1 c2 : Value} (v0 v1 v2 : Value) (h : w.heap[b]? = some (.cells #[c0, c1, c2] T (0, 0))) :
    (((w.setCell ⟨b, 0, none⟩ v0).setCell ⟨b, 1, none⟩ v1).setCell ⟨b, 2, none⟩ v2).heap[b]? = some (.cells #[v0, v1, v2] T (0, 0)) := by
  have := blk_set (blk_set (blk_set h 0 v0) 1 v1) 2 v2
  simpa using this
theorem oth3B {w : World} {b b' : Nat} {x : Obj} (v0 v1 v2 : Value) (h : w.heap[b']? = some x) (hne : b' ≠ b) :
    (((w.setCell ⟨b, 0, none⟩ v0).setCell ⟨b, 1, none⟩ v1).setCell ⟨b, 2, none⟩ v2).heap[b']? = some x :=
  blk_other (blk_other (blk_other h hne 0 v0) hne 1 v1) hne 2 v2
/-- A store into the clause's block. -/
theorem cl_only {w w1 w2 : World} {rb cb : Nat} {s : ByteArray} {l : List Parl.Tok} {ns : List ByteArray} {nv : Value} {e : Int} {cs : Array Value} (h : St w1 rb s l ns nv e) (hk : KA rb [rb, cb] w w1) (hne : cb ≠ rb) (hn0 : cb ≠ 0) (hc : w1.heap[cb]? = some (.cells cs 78 (0, 0))) (ho : OnlyB cb w1 w2) :
    St w2 rb s l ns nv e ∧ KA rb [rb, cb] w w2 :=
  ⟨h.only ho hne hn0 (by unfold tyAt; rw [hc]; simp), hk.onlyIn ho (by simp)⟩
/-- A store into a new block of a list. -/
theorem li_only {w w1 w2 : World} {rb cb b : Nat} {s : ByteArray} {l : List Parl.Tok} {ns : List ByteArray} {nv : Value} {e : Int} {cs : Array Value} (h : St w1 rb s l ns nv e) (hk : KA rb [rb, cb] w w1) (hlt : rb < w.heap.size) (hb : w.heap.size ≤ b) (hc : w1.heap[b]? = some (.cells cs 82 (0, 0))) (ho : OnlyB b w1 w2) :
    St w2 rb s l ns nv e ∧ KA rb [rb, cb] w w2 :=
  ⟨h.only ho (by omega) (by omega) (by unfold tyAt; rw [hc]; simp), hk.onlyNew ho hb⟩
end Go.Proofs.YthfjnfcekeknlaaGreatDoor
namespace Go.Proofs.YthfjnfcekeknlaaGreatDoor
open Go.RowKit

set_option maxHeartbeats 8000000 in
set_option maxRecDepth 100000 in
theorem body_any (w : World) (rb cb : Nat) (h0 h1 h2 h3 : Value) (s : ByteArray) (l : List Parl.Tok) (ns : List ByteArray) (nv : Value) (e0 : Int) (h : St w rb s l ns nv e0) (hb : w.heap[cb]? = some (.cells #[h0, h1, h2, h3, .slice none 0 0, .slice none 0 0] 78 (0, 0))) (hne : cb ≠ rb) (hn0 : cb ≠ 0) :
    Calls Tryz.prog 78 #[.pointer (some ⟨rb, 0, none⟩), .pointer (some ⟨cb, 0, none⟩)] w fun e w' => PBd rb cb h0 h1 h2 h3 s ns (Parl.body l) w e w' := by
  have hlt := h.lt
  have hlc := blk_lt hb
  have HB := hide hb
  have I := hide (items_any w rb s l ns nv e0 true true h)
  clear h hb
  generalize hr : Parl.items 5 true true l = r at I
  have HR := hide hr
  clear hr
  rcases r with ⟨er, pos⟩ | ⟨⟨xs, t1, g1⟩, l1⟩
  · have HF := hide (show Parl.body l = .inl (er, pos) from Parl.body_err (unhide HR))
    go_enter Tryz.func78, Tryz.ntmps78
    go_wp2_with fail
    refine (unhide I).mono ?_
    rintro e w1 ⟨l', ns', nv', rfl, hs1, hpos, hk1⟩
    have HS1 := hide hs1
    have HP := hide hpos
    have HK1 := hide hk1
    have HB1 := hide (blk_ka hk1 (unhide HB) (by simp; omega))
    clear hs1 hpos hk1
    go_wp2_with fail
    go_ret
    refine (?_ : PBd rb cb h0 h1 h2 h3 s ns _ w _ _)
    rw [unhide HF]
    exact ⟨l', ns', nv', none, 0, 0, none, 0, 0, rfl, (unhide HS1).below ((Below.refl _ _).alloc (Nat.le_refl _) _), unhide HP, blk_alloc (unhide HB1) _, ((unhide HK1).wide).alloc _⟩
  · go_enter Tryz.func78, Tryz.ntmps78
    go_wp2_with fail
    refine (unhide I).mono ?_
    rintro e w1 ⟨ao, n, cap, ns1, nv1, e1, rfl, ⟨hi1, hn1⟩, hs1, hk1⟩
    have HI1 := hide hi1
    have HN1 := hide hn1
    clear hi1 hn1
    have HS1 := hide hs1
    have HK1 := hide (hk1.wide (lb := cb))
    have HB1 := hide (blk_ka hk1 (unhide HB) (by simp; omega))
    have hlt1 : rb < w1.heap.size := hs1.lt
    have hlc1 : cb < w1.heap.size := blk_lt (unhide HB1)
    have hlw1 : w.heap.size ≤ w1.heap.size := hk1.size
    clear hs1 hk1
    cases t1
    · cases g1
      · have HF := hide (show Parl.body l = .inl (2, (Parl.hd l1).pos) from Parl.body_plain_no (unhide HR) (by simp))
        have HS2 := hide ((unhide HS1).below ((Below.refl _ _).alloc (Nat.le_refl _) (.cells #[.slice ao n cap, .bool false, .bool false] 82)))
        have HK2 := hide ((unhide HK1).alloc (.cells #[.slice ao n cap, .bool false, .bool false] 82))
        have HB2 := hide (blk_alloc (unhide HB1) (.cells #[.slice ao n cap, .bool false, .bool false] 82))
        have HL2 := hide (heap_alloc_new w1 (.cells #[.slice ao n cap, .bool false, .bool false] 82))
        have HI2 := hide ((unhide HI1).keep (KeepAJ.alloc _ (.cells #[.slice ao n cap, .bool false, .bool false] 82)))
        go_wp2_with fail
        refine (refuse_any _ rb s l1 ns1 nv1 e1 2 (unhide HS2)).mono ?_
        rintro e wz ⟨rfl, hsz, hkz⟩
        have HSz := hide hsz
        have HKz := hide ((unhide HK2).trans hkz.wide)
        have HBz := hide (blk_ka hkz (unhide HB2) (by simp; omega))
        clear hsz hkz
        go_wp2_with fail
        go_ret
        refine (?_ : PBd rb cb h0 h1 h2 h3 s ns _ w _ _)
        rw [unhide HF]
        exact ⟨l1, ns1, nv1, none, 0, 0, none, 0, 0, rfl, unhide HSz, rfl, unhide HBz, unhide HKz⟩
      · have HF := hide (show Parl.body l = .inr (([], xs), l1) from Parl.body_plain (unhide HR) (by simp))
        have rc := blkA (unhide HB1)
        have xc := blkX (unhide HB1)
        go_wp2_with fail
        go_ret
        refine (?_ : PBd rb cb h0 h1 h2 h3 s ns _ w _ _)
        rw [unhide HF]
        have R := cl_only (unhide HS1) (unhide HK1) hne hn0 (unhide HB1) ((OnlyB.refl _ _).set 5 (.slice ao n cap))
        exact ⟨ns1, nv1, e1, none, 0, 0, ao, n, cap, rfl, ⟨ItemsA.none _ _, (unhide HI1).keep ((KeepAJ.onb (unhide HB1) ((OnlyB.refl cb w1).set 5 (.slice ao n cap))).trans (KeepAJ.alloc _ _)), unhide HN1⟩, R.1.below ((Below.refl _ _).alloc (Nat.le_refl _) _), blk_alloc (set6q (.slice ao n cap) (unhide HB1)) _, R.2.alloc _⟩
    · cases g1
      · have HS2 := hide ((unhide HS1).below ((Below.refl _ _).alloc (Nat.le_refl _) (.cells #[.slice ao n cap, .bool true, .bool false] 82)))
        have HK2 := hide ((unhide HK1).alloc (.cells #[.slice ao n cap, .bool true, .bool false] 82))
        have HB2 := hide (blk_alloc (unhide HB1) (.cells #[.slice ao n cap, .bool true, .bool false] 82))
        have HL2 := hide (heap_alloc_new w1 (.cells #[.slice ao n cap, .bool true, .bool false] 82))
        have HI2 := hide ((unhide HI1).keep (KeepAJ.alloc _ (.cells #[.slice ao n cap, .bool true, .bool false] 82)))
        go_wp2_with fail
        refine (sees_any _ rb s l1 ns1 nv1 e1 _ (unhide HS2)).mono ?_
        rintro e w9 ⟨rfl, hw⟩
        rw [hw]
        simp only [ByteArray.toList_mk]
        clear hw w9
        generalize hbb : w1.heap.size = bb at *
        generalize hw2 : w1.alloc (.cells #[.slice ao n cap, .bool true, .bool false] 82) = w2 at *
        clear hbb hw2
        have r2 := blkA (unhide HL2)
        have hzl := blk_lt (unhide HL2)
        have rc := blkA (unhide HB2)
        have xc := blkX (unhide HB2)
        have hzc := blk_lt (unhide HB2)
        cases hbar : Parl.sees l1 [124]
        · have HF := hide (show Parl.body l = .inl (2, (Parl.hd l1).pos) from Parl.body_plain_no (unhide HR) (by simp [hbar]))
          go_wp2_with fail
          refine (refuse_any _ rb s l1 ns1 nv1 e1 2 (unhide HS2)).mono ?_
          rintro e wz ⟨rfl, hsz, hkz⟩
          have HSz := hide hsz
          have HKz := hide ((unhide HK2).trans hkz.wide)
          have HBz := hide (blk_ka hkz (unhide HB2) (by simp; omega))
          clear hsz hkz
          go_wp2_with fail
          go_ret
          refine (?_ : PBd rb cb h0 h1 h2 h3 s ns _ w _ _)
          rw [unhide HF]
          exact ⟨l1, ns1, nv1, none, 0, 0, none, 0, 0, rfl, unhide HSz, rfl, unhide HBz, unhide HKz⟩
        · have hkj := hide (show (Parl.hd l1).kind ≠ 0 by rw [Parl.sees_kind hbar]; omega)
          go_wp2_with fail
          refine (take_any _ rb s l1 ns1 nv1 e1 (unhide HS2) (unhide hkj)).mono ?_
          rintro e w3 ⟨rfl, hs3, hk3⟩
          have HS3 := hide hs3
          have HI3 := hide ((unhide HI2).keep (KeepAJ.ka (unhide HS2) hk3))
          have HK3 := hide ((unhide HK2).trans hk3.wide)
          have HB3 := hide (blk_ka hk3 (unhide HB2) (by simp; omega))
          have HL3 := hide (blk_ka hk3 (unhide HL2) (by simp; omega))
          clear hs3 hk3 r2 hzl rc xc hzc
          have r3 := blkA (unhide HL3)
          have hz3 := blk_lt (unhide HL3)
          have rc3 := blkA (unhide HB3)
          have xc3 := blkX (unhide HB3)
          have hc3 := blk_lt (unhide HB3)
          have R4 := hide (cl_only (unhide HS3) (unhide HK3) hne hn0 (unhide HB3) ((OnlyB.refl _ _).set 4 (.slice ao n cap)))
          have HB4 := hide (set6p (.slice ao n cap) (unhide HB3))
          have HI4 := hide ((unhide HI3).keep (KeepAJ.onb (unhide HB3) ((OnlyB.refl cb w3).set 4 (.slice ao n cap))))
          have HL4 := hide (blk_other (unhide HL3) (show bb ≠ cb by omega) 4 (.slice ao n cap))
          go_wp2_with fail
          clear r3 hz3 rc3 xc3 hc3
          generalize w3.setCell ⟨cb, 4, none⟩ (.slice ao n cap) = w4 at *
          have J := hide (items_any w4 rb s l1.tail ns1 nv1 e1 false true (unhide R4).1)
          generalize hr2 : Parl.items 5 false true l1.tail = r2 at J
          have HR2 := hide hr2
          clear hr2
          refine (unhide J).mono ?_
          rcases r2 with ⟨er, pos⟩ | ⟨⟨ys, t5, g5⟩, l5⟩
          · have HF := hide (show Parl.body l = .inl (er, pos) from Parl.body_bar_err (unhide HR) hbar (unhide HR2))
            rintro e w5 ⟨l', ns', nv', rfl, hs5, hpos, hk5⟩
            have HP := hide hpos
            clear hpos
            have HS5 := hide hs5
            have HK5 := hide ((unhide R4).2.trans hk5.wide)
            have HB5 := hide (blk_ka hk5 (unhide HB4) (by simp; omega))
            have HL5 := hide (blk_ka hk5 (unhide HL4) (by simp; omega))
            have r5 := blkA (unhide HL5)
            have x5 := blkX (unhide HL5)
            have hz5 := blk_lt (unhide HL5)
            have rc5 := blkA (unhide HB5)
            have xc5 := blkX (unhide HB5)
            have hc5 := blk_lt (unhide HB5)
            clear hs5 hk5
            have R6 := hide (li_only (unhide HS5) (unhide HK5) hlt (by omega) (unhide HL5) ((((OnlyB.refl _ _).set 0 (.slice none 0 0)).set 1 (.bool false)).set 2 (.bool false)))
            have HS6 := hide (unhide R6).1
            have HK6 := hide (unhide R6).2
            have HB6 := hide (oth3B (.slice none 0 0) (.bool false) (.bool false) (unhide HB5) (show cb ≠ bb by omega))
            go_wp2_with fail
            go_ret
            refine (?_ : PBd rb cb h0 h1 h2 h3 s ns _ w _ _)
            rw [unhide HF]
            have R := cl_only (unhide HS6) (unhide HK6) hne hn0 (unhide HB6) ((OnlyB.refl _ _).set 5 (.slice none 0 0))
            exact ⟨l', ns', nv', ao, n, cap, none, 0, 0, rfl, R.1, unhide HP, set6q (.slice none 0 0) (unhide HB6), R.2⟩
          · rintro e w5 ⟨ao5, n5, cap5, ns5, nv5, e5, rfl, ⟨hi5, hn5⟩, hs5, hk5⟩
            have HI5 := hide (ItemsA.behind ((unhide HI4).keep (KeepAJ.ka (unhide R4).1 hk5)) hi5 hn5)
            have HJ5 := hide hi5
            have HN5 : Hid (nmsA ns5 = Parl.namesL (Parl.namesL (nmsA ns) xs) ys) := hide (by rw [hn5, unhide HN1])
            clear hi5 hn5
            have HS5 := hide hs5
            have HK5 := hide ((unhide R4).2.trans hk5.wide)
            have HB5 := hide (blk_ka hk5 (unhide HB4) (by simp; omega))
            have HL5 := hide (blk_ka hk5 (unhide HL4) (by simp; omega))
            have r5 := blkA (unhide HL5)
            have x5 := blkX (unhide HL5)
            have hz5 := blk_lt (unhide HL5)
            have rc5 := blkA (unhide HB5)
            have xc5 := blkX (unhide HB5)
            have hc5 := blk_lt (unhide HB5)
            clear hs5 hk5
            cases g5
            · have HF := hide (show Parl.body l = .inl (2, (Parl.hd l5).pos) from Parl.body_bar_no (unhide HR) hbar (unhide HR2))
              have R6 := hide (li_only (unhide HS5) (unhide HK5) hlt (by omega) (unhide HL5) ((((OnlyB.refl _ _).set 0 (.slice ao5 n5 cap5)).set 1 (.bool t5)).set 2 (.bool false)))
              have HS6 := hide (unhide R6).1
              have HK6 := hide (unhide R6).2
              have HB6 := hide (oth3B (.slice ao5 n5 cap5) (.bool t5) (.bool false) (unhide HB5) (show cb ≠ bb by omega))
              go_wp2_with fail
              refine (refuse_any _ rb s l5 ns5 nv5 e5 2 (unhide HS6)).mono ?_
              rintro e wz ⟨rfl, hsz, hkz⟩
              have HSz := hide hsz
              have HKz := hide ((unhide HK6).trans hkz.wide)
              have HBz := hide (blk_ka hkz (unhide HB6) (by simp; omega))
              clear hsz hkz
              go_wp2_with fail
              go_ret
              refine (?_ : PBd rb cb h0 h1 h2 h3 s ns _ w _ _)
              rw [unhide HF]
              exact ⟨l5, ns5, nv5, ao, n, cap, none, 0, 0, rfl, unhide HSz, rfl, unhide HBz, unhide HKz⟩
            · have HF := hide (show Parl.body l = .inr ((xs, ys), l5) from Parl.body_bar (unhide HR) hbar (unhide HR2))
              have R6 := hide (li_only (unhide HS5) (unhide HK5) hlt (by omega) (unhide HL5) ((((OnlyB.refl _ _).set 0 (.slice ao5 n5 cap5)).set 1 (.bool t5)).set 2 (.bool true)))
              have HS6 := hide (unhide R6).1
              have HK6 := hide (unhide R6).2
              have HB6 := hide (oth3B (.slice ao5 n5 cap5) (.bool t5) (.bool true) (unhide HB5) (show cb ≠ bb by omega))
              go_wp2_with fail
              go_ret
              refine (?_ : PBd rb cb h0 h1 h2 h3 s ns _ w _ _)
              rw [unhide HF]
              have R := cl_only (unhide HS6) (unhide HK6) hne hn0 (unhide HB6) ((OnlyB.refl _ _).set 5 (.slice ao5 n5 cap5))
              have KK := (KeepAJ.onb (unhide HL5) ((((OnlyB.refl _ _).set 0 (.slice ao5 n5 cap5)).set 1 (.bool t5)).set 2 (.bool true))).trans (KeepAJ.onb (unhide HB6) ((OnlyB.refl _ _).set 5 (.slice ao5 n5 cap5)))
              exact ⟨ns5, nv5, e5, ao, n, cap, ao5, n5, cap5, rfl, ⟨(unhide HI5).keep KK, (unhide HJ5).keep KK, unhide HN5⟩, R.1, (set6q (.slice ao5 n5 cap5) (unhide HB6)), R.2⟩
      · have HS2 := hide ((unhide HS1).below ((Below.refl _ _).alloc (Nat.le_refl _) (.cells #[.slice ao n cap, .bool true, .bool true] 82)))
        have HK2 := hide ((unhide HK1).alloc (.cells #[.slice ao n cap, .bool true, .bool true] 82))
        have HB2 := hide (blk_alloc (unhide HB1) (.cells #[.slice ao n cap, .bool true, .bool true] 82))
        have HL2 := hide (heap_alloc_new w1 (.cells #[.slice ao n cap, .bool true, .bool true] 82))
        have HI2 := hide ((unhide HI1).keep (KeepAJ.alloc _ (.cells #[.slice ao n cap, .bool true, .bool true] 82)))
        go_wp2_with fail
        refine (sees_any _ rb s l1 ns1 nv1 e1 _ (unhide HS2)).mono ?_
        rintro e w9 ⟨rfl, hw⟩
        rw [hw]
        simp only [ByteArray.toList_mk]
        clear hw w9
        generalize hbb : w1.heap.size = bb at *
        generalize hw2 : w1.alloc (.cells #[.slice ao n cap, .bool true, .bool true] 82) = w2 at *
        clear hbb hw2
        have r2 := blkA (unhide HL2)
        have hzl := blk_lt (unhide HL2)
        have rc := blkA (unhide HB2)
        have xc := blkX (unhide HB2)
        have hzc := blk_lt (unhide HB2)
        cases hbar : Parl.sees l1 [124]
        · have HF := hide (show Parl.body l = .inr (([], xs), l1) from Parl.body_plain (unhide HR) (by simp [hbar]))
          go_wp2_with fail
          go_ret
          refine (?_ : PBd rb cb h0 h1 h2 h3 s ns _ w _ _)
          rw [unhide HF]
          have R := cl_only (unhide HS2) (unhide HK2) hne hn0 (unhide HB2) ((OnlyB.refl _ _).set 5 (.slice ao n cap))
          exact ⟨ns1, nv1, e1, none, 0, 0, ao, n, cap, rfl, ⟨ItemsA.none _ _, (unhide HI2).keep (KeepAJ.onb (unhide HB2) ((OnlyB.refl cb w2).set 5 (.slice ao n cap))), unhide HN1⟩, R.1, (set6q (.slice ao n cap) (unhide HB2)), R.2⟩
        · have hkj := hide (show (Parl.hd l1).kind ≠ 0 by rw [Parl.sees_kind hbar]; omega)
          go_wp2_with fail
          refine (take_any _ rb s l1 ns1 nv1 e1 (unhide HS2) (unhide hkj)).mono ?_
          rintro e w3 ⟨rfl, hs3, hk3⟩
          have HS3 := hide hs3
          have HI3 := hide ((unhide HI2).keep (KeepAJ.ka (unhide HS2) hk3))
          have HK3 := hide ((unhide HK2).trans hk3.wide)
          have HB3 := hide (blk_ka hk3 (unhide HB2) (by simp; omega))
          have HL3 := hide (blk_ka hk3 (unhide HL2) (by simp; omega))
          clear hs3 hk3 r2 hzl rc xc hzc
          have r3 := blkA (unhide HL3)
          have hz3 := blk_lt (unhide HL3)
          have rc3 := blkA (unhide HB3)
          have xc3 := blkX (unhide HB3)
          have hc3 := blk_lt (unhide HB3)
          have R4 := hide (cl_only (unhide HS3) (unhide HK3) hne hn0 (unhide HB3) ((OnlyB.refl _ _).set 4 (.slice ao n cap)))
          have HB4 := hide (set6p (.slice ao n cap) (unhide HB3))
          have HI4 := hide ((unhide HI3).keep (KeepAJ.onb (unhide HB3) ((OnlyB.refl cb w3).set 4 (.slice ao n cap))))
          have HL4 := hide (blk_other (unhide HL3) (show bb ≠ cb by omega) 4 (.slice ao n cap))
          go_wp2_with fail
          clear r3 hz3 rc3 xc3 hc3
          generalize w3.setCell ⟨cb, 4, none⟩ (.slice ao n cap) = w4 at *
          have J := hide (items_any w4 rb s l1.tail ns1 nv1 e1 false true (unhide R4).1)
          generalize hr2 : Parl.items 5 false true l1.tail = r2 at J
          have HR2 := hide hr2
          clear hr2
          refine (unhide J).mono ?_
          rcases r2 with ⟨er, pos⟩ | ⟨⟨ys, t5, g5⟩, l5⟩
          · have HF := hide (show Parl.body l = .inl (er, pos) from Parl.body_bar_err (unhide HR) hbar (unhide HR2))
            rintro e w5 ⟨l', ns', nv', rfl, hs5, hpos, hk5⟩
            have HP := hide hpos
            clear hpos
            have HS5 := hide hs5
            have HK5 := hide ((unhide R4).2.trans hk5.wide)
            have HB5 := hide (blk_ka hk5 (unhide HB4) (by simp; omega))
            have HL5 := hide (blk_ka hk5 (unhide HL4) (by simp; omega))
            have r5 := blkA (unhide HL5)
            have x5 := blkX (unhide HL5)
            have hz5 := blk_lt (unhide HL5)
            have rc5 := blkA (unhide HB5)
            have xc5 := blkX (unhide HB5)
            have hc5 := blk_lt (unhide HB5)
            clear hs5 hk5
            have R6 := hide (li_only (unhide HS5) (unhide HK5) hlt (by omega) (unhide HL5) ((((OnlyB.refl _ _).set 0 (.slice none 0 0)).set 1 (.bool false)).set 2 (.bool false)))
            have HS6 := hide (unhide R6).1
            have HK6 := hide (unhide R6).2
            have HB6 := hide (oth3B (.slice none 0 0) (.bool false) (.bool false) (unhide HB5) (show cb ≠ bb by omega))
            go_wp2_with fail
            go_ret
            refine (?_ : PBd rb cb h0 h1 h2 h3 s ns _ w _ _)
            rw [unhide HF]
            have R := cl_only (unhide HS6) (unhide HK6) hne hn0 (unhide HB6) ((OnlyB.refl _ _).set 5 (.slice none 0 0))
            exact ⟨l', ns', nv', ao, n, cap, none, 0, 0, rfl, R.1, unhide HP, set6q (.slice none 0 0) (unhide HB6), R.2⟩
          · rintro e w5 ⟨ao5, n5, cap5, ns5, nv5, e5, rfl, ⟨hi5, hn5⟩, hs5, hk5⟩
            have HI5 := hide (ItemsA.behind ((unhide HI4).keep (KeepAJ.ka (unhide R4).1 hk5)) hi5 hn5)
            have HJ5 := hide hi5
            have HN5 : Hid (nmsA ns5 = Parl.namesL (Parl.namesL (nmsA ns) xs) ys) := hide (by rw [hn5, unhide HN1])
            clear hi5 hn5
            have HS5 := hide hs5
            have HK5 := hide ((unhide R4).2.trans hk5.wide)
            have HB5 := hide (blk_ka hk5 (unhide HB4) (by simp; omega))
            have HL5 := hide (blk_ka hk5 (unhide HL4) (by simp; omega))
            have r5 := blkA (unhide HL5)
            have x5 := blkX (unhide HL5)
            have hz5 := blk_lt (unhide HL5)
            have rc5 := blkA (unhide HB5)
            have xc5 := blkX (unhide HB5)
            have hc5 := blk_lt (unhide HB5)
            clear hs5 hk5
            cases g5
            · have HF := hide (show Parl.body l = .inl (2, (Parl.hd l5).pos) from Parl.body_bar_no (unhide HR) hbar (unhide HR2))
              have R6 := hide (li_only (unhide HS5) (unhide HK5) hlt (by omega) (unhide HL5) ((((OnlyB.refl _ _).set 0 (.slice ao5 n5 cap5)).set 1 (.bool t5)).set 2 (.bool false)))
              have HS6 := hide (unhide R6).1
              have HK6 := hide (unhide R6).2
              have HB6 := hide (oth3B (.slice ao5 n5 cap5) (.bool t5) (.bool false) (unhide HB5) (show cb ≠ bb by omega))
              go_wp2_with fail
              refine (refuse_any _ rb s l5 ns5 nv5 e5 2 (unhide HS6)).mono ?_
              rintro e wz ⟨rfl, hsz, hkz⟩
              have HSz := hide hsz
              have HKz := hide ((unhide HK6).trans hkz.wide)
              have HBz := hide (blk_ka hkz (unhide HB6) (by simp; omega))
              clear hsz hkz
              go_wp2_with fail
              go_ret
              refine (?_ : PBd rb cb h0 h1 h2 h3 s ns _ w _ _)
              rw [unhide HF]
              exact ⟨l5, ns5, nv5, ao, n, cap, none, 0, 0, rfl, unhide HSz, rfl, unhide HBz, unhide HKz⟩
            · have HF := hide (show Parl.body l = .inr ((xs, ys), l5) from Parl.body_bar (unhide HR) hbar (unhide HR2))
              have R6 := hide (li_only (unhide HS5) (unhide HK5) hlt (by omega) (unhide HL5) ((((OnlyB.refl _ _).set 0 (.slice ao5 n5 cap5)).set 1 (.bool t5)).set 2 (.bool true)))
              have HS6 := hide (unhide R6).1
              have HK6 := hide (unhide R6).2
              have HB6 := hide (oth3B (.slice ao5 n5 cap5) (.bool t5) (.bool true) (unhide HB5) (show cb ≠ bb by omega))
              go_wp2_with fail
              go_ret
              refine (?_ : PBd rb cb h0 h1 h2 h3 s ns _ w _ _)
              rw [unhide HF]
              have R := cl_only (unhide HS6) (unhide HK6) hne hn0 (unhide HB6) ((OnlyB.refl _ _).set 5 (.slice ao5 n5 cap5))
              have KK := (KeepAJ.onb (unhide HL5) ((((OnlyB.refl _ _).set 0 (.slice ao5 n5 cap5)).set 1 (.bool t5)).set 2 (.bool true))).trans (KeepAJ.onb (unhide HB6) ((OnlyB.refl _ _).set 5 (.slice ao5 n5 cap5)))
              exact ⟨ns5, nv5, e5, ao, n, cap, ao5, n5, cap5, rfl, ⟨(unhide HI5).keep KK, (unhide HJ5).keep KK, unhide HN5⟩, R.1, (set6q (.slice ao5 n5 cap5) (unhide HB6)), R.2⟩
end Go.Proofs.YthfjnfcekeknlaaGreatDoor
namespace Go.Proofs.YthfjnfcekeknlaaGreatDoor
open Go.RowKit

set_option maxHeartbeats 1000000 in
theorem mayC_kind (w : World) (rb : Nat) (s : ByteArray) (l : List Parl.Tok) (ns : List ByteArray) (nv : Value) (e0 : Int) (n : Nat) (h : St w rb s l ns nv e0) (hk : (Parl.hd l).kind ≠ 2) :
    Calls Tryz.prog 74 #[.pointer (some ⟨rb, 0, none⟩), .int .i64 (n : Int)] w fun e w' => e = .returned (.bool false) ∧ St w' rb s l ns nv 2 ∧ KA rb [rb] w w' := by
  have H := hide h
  obtain ⟨⟨c0, c1, c2, c3, c4, c5, f1, f2, f3, f4, f5⟩, own, chain, isn, few, short, signs, pos, lt⟩ := h
  clear own chain isn few short signs pos lt c0 c2 c3 c4 c5 f1 f2 f3 f4 f5
  have n2 : (((Parl.hd l).kind : Int) != 2) = true := by simp; omega
  generalize (Parl.hd l).kind = k at c1 n2
  clear hk
  go_enter Tryz.func74, Tryz.ntmps74
  go_wp2_with (go_at_call 82; refine (refuse_any _ _ _ _ _ _ _ 2 (unhide H)).mono ?_; rintro e w1 ⟨rfl, hs, hk⟩; have HS := hide hs; have HK := hide hk; clear hs hk)
  go_ret
  exact ⟨rfl, unhide HS, unhide HK⟩

set_option maxHeartbeats 1000000 in
theorem mayC_full (w : World) (rb : Nat) (s : ByteArray) (l : List Parl.Tok) (ns : List ByteArray) (nv : Value) (e0 : Int) (n : Nat) (h : St w rb s l ns nv e0) (hk : (Parl.hd l).kind = 2) (hn : 12 ≤ n) :
    Calls Tryz.prog 74 #[.pointer (some ⟨rb, 0, none⟩), .int .i64 (n : Int)] w fun e w' => e = .returned (.bool false) ∧ St w' rb s l ns nv 3 ∧ KA rb [rb] w w' := by
  have H := hide h
  obtain ⟨⟨c0, c1, c2, c3, c4, c5, f1, f2, f3, f4, f5⟩, own, chain, isn, few, short, signs, pos, lt⟩ := h
  clear own chain isn few short signs pos lt c0 c2 c3 c4 c5 f1 f2 f3 f4 f5
  rw [hk] at c1
  have hN : decide (12 ≤ (n : Int)) = true := by simp; omega
  clear hk
  go_enter Tryz.func74, Tryz.ntmps74
  go_wp2_with (go_at_call 82; refine (refuse_any _ _ _ _ _ _ _ 3 (unhide H)).mono ?_; rintro e w1 ⟨rfl, hs, hk⟩; have HS := hide hs; have HK := hide hk; clear hs hk)
  go_ret
  exact ⟨rfl, unhide HS, unhide HK⟩

set_option maxHeartbeats 1000000 in
theorem mayC_yes (w : World) (rb : Nat) (s : ByteArray) (l : List Parl.Tok) (ns : List ByteArray) (nv : Value) (e0 : Int) (n : Nat) (h : St w rb s l ns nv e0) (hk : (Parl.hd l).kind = 2) (hn : n < 12) :
    Calls Tryz.prog 74 #[.pointer (some ⟨rb, 0, none⟩), .int .i64 (n : Int)] w fun e w' => e = .returned (.bool true) ∧ w' = w := by
  obtain ⟨⟨c0, c1, c2, c3, c4, c5, f1, f2, f3, f4, f5⟩, own, chain, isn, few, short, signs, pos, lt⟩ := h
  clear own chain isn few short signs pos lt c0 c2 c3 c4 c5 f1 f2 f3 f4 f5
  rw [hk] at c1
  have hN : decide (12 ≤ (n : Int)) = false := by simp; omega
  clear hk
  go_enter Tryz.func74, Tryz.ntmps74
  go_wp2
  go_ret
  exact ⟨rfl, rfl⟩

/-- The names are let go. -/
theorem St.nonames {w : World} {rb : Nat} {s : ByteArray} {l : List Parl.Tok} {ns : List ByteArray} {nv : Value} {e : Int} (h : St w rb s l ns nv e) : St (w.setCell ⟨rb, 4, none⟩ (.slice none 0 0)) rb s l [] (.slice none 0 0) e ∧ KA rb [rb] w (w.setCell ⟨rb, 4, none⟩ (.slice none 0 0)) := by
  obtain ⟨⟨c0, c1, c2, c3, c4, c5, f1, f2, f3, f4, f5⟩, own, chain, isn, few, short, signs, pos, lt⟩ := h
  refine ⟨⟨⟨by go_cell, by go_cell, by go_cell, by go_cell, by go_cell, by go_cell, by go_cell, by go_cell, by go_cell, by go_cell, by go_cell⟩, World.ownsRow_nil _ _ _ _, chain, isn, by simp; omega, short, signs.setCell (by show rb ≠ 0; omega) _, pos, by simpa using lt⟩, (KA.refl _ _ _).setIn (by simp) _⟩

/-- A clause lies there, its names all told. -/
structure ClauseA (w : World) (a : TV) (o1 : Option Addr) (n1 : Nat) (o2 : Option Addr) (n2 : Nat) (c : Parl.Cls) : Prop where
  head : RA 8 (Parl.NG c) anyA w a c.head
  tests : ItemsA (Parl.NG c) w o1 n1 c.tests
  goals : ItemsA (Parl.NG c) w o2 n2 c.goals
theorem ClauseA.keep {w w' : World} {a : TV} {o1 : Option Addr} {n1 : Nat} {o2 : Option Addr} {n2 : Nat} {c : Parl.Cls} (h : ClauseA w a o1 n1 o2 n2 c) (hk : KeepAJ w w') : ClauseA w' a o1 n1 o2 n2 c := ⟨hk.a.ra h.head, h.tests.keep hk, h.goals.keep hk⟩
theorem ClauseA.fact {ns' : List ByteArray} {w : World} {a : TV} {t : Parl.Tm} (h : RA 8 (nmsA ns') anyA w a t) (hn : nmsA ns' = Parl.namesF 8 (nmsA []) t) : ClauseA w a none 0 none 0 ⟨t, [], []⟩ :=
  ⟨by rw [hn] at h; exact h, ItemsA.none _ _, ItemsA.none _ _⟩
theorem ClauseA.body {ns ns' : List ByteArray} {w : World} {a : TV} {o1 : Option Addr} {n1 : Nat} {o2 : Option Addr} {n2 : Nat} {t : Parl.Tm} {xs ys : List Parl.Itm} (h : RA 8 (nmsA ns) anyA w a t) (hn : nmsA ns = Parl.namesF 8 (nmsA []) t) (hb : BodA ns ns' w o1 n1 o2 n2 (xs, ys)) : ClauseA w a o1 n1 o2 n2 ⟨t, xs, ys⟩ := by
  obtain ⟨h1, h2, h3⟩ := hb
  have e : nmsA ns' = Parl.NG ⟨t, xs, ys⟩ := by rw [h3, hn]; rfl
  obtain ⟨M, hM, _⟩ := Parl.foldI_ext xs h1.ok (nmsA ns)
  obtain ⟨K, hK, _⟩ := Parl.foldI_ext ys h2.ok (xs.foldl Parl.namesI (nmsA ns))
  have e2 : nmsA ns' = nmsA ns ++ (M ++ K) := by
    rw [h3]
    unfold Parl.namesL
    dsimp only
    rw [hK, hM, List.append_assoc]
  have h' := h.more (M ++ K)
  rw [← e2, e] at h'
  rw [e] at h1 h2
  exact ⟨h', h1, h2⟩
/-- What 'clause' leaves. -/
def PCl (rb : Nat) (s : ByteArray) (r : Parl.Res Parl.Cls) (w : World) (e : Ending) (w' : World) : Prop := match r with
  | .inl (er, pos) => ∃ (a : TV) (o1 : Option Addr) (n1 c1 : Nat) (o2 : Option Addr) (n2 c2 : Nat) (l' : List Parl.Tok) (ns' : List ByteArray) (nv' : Value),
      e = .returned (.tuple #[.agg #[.int .i64 a.k, .int .i64 a.val, .string a.tx, .slice a.ao a.n a.cap, .slice o1 n1 c1, .slice o2 n2 c2], .bool false]) ∧ St w' rb s l' ns' nv' (er : Int) ∧ (Parl.hd l').pos = pos ∧ KA rb [rb] w w'
  | .inr (c, l1) => ∃ (a : TV) (o1 : Option Addr) (n1 c1 : Nat) (o2 : Option Addr) (n2 c2 : Nat) (ns' : List ByteArray) (nv' : Value) (e' : Int),
      e = .returned (.tuple #[.agg #[.int .i64 a.k, .int .i64 a.val, .string a.tx, .slice a.ao a.n a.cap, .slice o1 n1 c1, .slice o2 n2 c2], .bool true]) ∧ ClauseA w' a o1 n1 o2 n2 c ∧ St w' rb s l1 ns' nv' e' ∧ KA rb [rb] w w'

/-- The result's and the clause's room. -/
theorem clA_start {w : World} {rb : Nat} {s : ByteArray} {l : List Parl.Tok} {ns : List ByteArray} {nv : Value} {e : Int} (h : St w rb s l ns nv e) (o : Obj) :
    St ((w.alloc o).alloc o) rb s l ns nv e ∧ KA rb [rb] w ((w.alloc o).alloc o) ∧ ((w.alloc o).alloc o).heap[w.heap.size]? = some o ∧ ((w.alloc o).alloc o).heap[w.heap.size + 1]? = some o :=
  ⟨h.below (((Below.refl _ _).alloc (Nat.le_refl _) _).alloc (by simp) _), ((KA.refl rb [rb] w).alloc _).alloc _, blk_alloc (heap_alloc_new w o) _, by have := heap_alloc_new (w.alloc o) o; rw [World.size_alloc] at this; exact this⟩
end Go.Proofs.YthfjnfcekeknlaaGreatDoor
namespace Go.Proofs.YthfjnfcekeknlaaGreatDoor
open Go.RowKit

set_option maxHeartbeats 8000000 in
set_option maxRecDepth 100000 in
theorem clA_k (w : World) (rb : Nat) (s : ByteArray) (l : List Parl.Tok) (ns : List ByteArray) (nv : Value) (e0 : Int) (n : Nat) (h : St w rb s l ns nv e0) (hk : (Parl.hd l).kind ≠ 2) (more : Bool) :
    Calls Tryz.prog 39 #[.pointer (some ⟨rb, 0, none⟩), .int .i64 (n : Int)] w fun e w' => PCl rb s (Parl.clause more l) w e w' := by
  have HF := hide (show Parl.clause more l = .inl (2, (Parl.hd l).pos) by rw [Parl.clause_kind hk]; rfl)
  have HQ := hide hk
  clear hk
  have hlt := h.lt
  obtain ⟨hS, hK, hB0, hBc⟩ := clA_start h (.cells #[.int .i64 0, .int .i64 0, .string ⟨#[]⟩, .slice none 0 0, .slice none 0 0, .slice none 0 0] 78)
  have HS := hide hS
  have HK := hide hK
  have HB0 := hide hB0
  have HBc := hide hBc
  clear hS hK hB0 hBc h
  go_enter Tryz.func39, Tryz.ntmps39
  go_wp2_with fail
  refine (mayC_kind _ rb s l ns nv e0 n (unhide HS) (unhide HQ)).mono ?_
  rintro e w1 ⟨rfl, hs1, hk1⟩
  have HS1 := hide hs1
  have HK1 := hide ((unhide HK).trans hk1)
  have HB01 := hide (blk_ka hk1 (unhide HB0) (by simp; omega))
  have HBc1 := hide (blk_ka hk1 (unhide HBc) (by simp; omega))
  clear hs1 hk1
  obtain ⟨a, ha⟩ : ∃ a : TV, a = ⟨0, 0, ⟨#[]⟩, none, 0, 0⟩ := ⟨_, rfl⟩
  have r0 := blkA (unhide HB01)
  have x0 := blkX (unhide HB01)
  have z0 := blk_lt (unhide HB01)
  have rc := blkA (unhide HBc1)
  have zc := blk_lt (unhide HBc1)
  go_wp2_with fail
  refine bodyPost_ret (v := .tuple #[.agg #[.int .i64 0, .int .i64 0, .string ⟨#[]⟩, .slice none 0 0, .slice none 0 0, .slice none 0 0], .bool false]) (by simp [results, Tryz.results39, go_sem, r0]) rfl ?_
  rw [unhide HF]
  have R := box1_end (unhide HS1) (unhide HK1) hlt (Nat.le_refl _) (unhide HB01) (((((((OnlyB.refl _ _).set 0 (.int .i64 a.k)).set 1 (.int .i64 a.val)).set 2 (.string a.tx)).set 3 (.slice a.ao a.n a.cap)).set 4 (.slice none 0 0)).set 5 (.slice none 0 0))
  exact ⟨a, none, 0, 0, none, 0, 0, l, ns, nv, by rw [ha], by rw [ha] at R; exact R.1, rfl, by rw [ha] at R; exact R.2⟩

set_option maxHeartbeats 8000000 in
set_option maxRecDepth 100000 in
theorem clA_f (w : World) (rb : Nat) (s : ByteArray) (l : List Parl.Tok) (ns : List ByteArray) (nv : Value) (e0 : Int) (n : Nat) (h : St w rb s l ns nv e0) (hk : (Parl.hd l).kind = 2) (hn : 12 ≤ n) :
    Calls Tryz.prog 39 #[.pointer (some ⟨rb, 0, none⟩), .int .i64 (n : Int)] w fun e w' => PCl rb s (Parl.clause false l) w e w' := by
  have HF := hide (show Parl.clause false l = .inl (3, (Parl.hd l).pos) by rw [Parl.clause_full hk]; rfl)
  have HQ := hide hk
  clear hk
  have hlt := h.lt
  obtain ⟨hS, hK, hB0, hBc⟩ := clA_start h (.cells #[.int .i64 0, .int .i64 0, .string ⟨#[]⟩, .slice none 0 0, .slice none 0 0, .slice none 0 0] 78)
  have HS := hide hS
  have HK := hide hK
  have HB0 := hide hB0
  have HBc := hide hBc
  clear hS hK hB0 hBc h
  go_enter Tryz.func39, Tryz.ntmps39
  go_wp2_with fail
  refine (mayC_full _ rb s l ns nv e0 n (unhide HS) (unhide HQ) hn).mono ?_
  rintro e w1 ⟨rfl, hs1, hk1⟩
  have HS1 := hide hs1
  have HK1 := hide ((unhide HK).trans hk1)
  have HB01 := hide (blk_ka hk1 (unhide HB0) (by simp; omega))
  have HBc1 := hide (blk_ka hk1 (unhide HBc) (by simp; omega))
  clear hs1 hk1
  obtain ⟨a, ha⟩ : ∃ a : TV, a = ⟨0, 0, ⟨#[]⟩, none, 0, 0⟩ := ⟨_, rfl⟩
  have r0 := blkA (unhide HB01)
  have x0 := blkX (unhide HB01)
  have z0 := blk_lt (unhide HB01)
  have rc := blkA (unhide HBc1)
  have zc := blk_lt (unhide HBc1)
  go_wp2_with fail
  refine bodyPost_ret (v := .tuple #[.agg #[.int .i64 0, .int .i64 0, .string ⟨#[]⟩, .slice none 0 0, .slice none 0 0, .slice none 0 0], .bool false]) (by simp [results, Tryz.results39, go_sem, r0]) rfl ?_
  rw [unhide HF]
  have R := box1_end (unhide HS1) (unhide HK1) hlt (Nat.le_refl _) (unhide HB01) (((((((OnlyB.refl _ _).set 0 (.int .i64 a.k)).set 1 (.int .i64 a.val)).set 2 (.string a.tx)).set 3 (.slice a.ao a.n a.cap)).set 4 (.slice none 0 0)).set 5 (.slice none 0 0))
  exact ⟨a, none, 0, 0, none, 0, 0, l, ns, nv, by rw [ha], by rw [ha] at R; exact R.1, rfl, by rw [ha] at R; exact R.2⟩

set_option maxHeartbeats 8000000 in
set_option maxRecDepth 100000 in
theorem clA_term (w : World) (rb : Nat) (s : ByteArray) (l : List Parl.Tok) (ns : List ByteArray) (nv : Value) (e0 : Int) (n : Nat) (h : St w rb s l ns nv e0) (hk : (Parl.hd l).kind = 2) (hn : n < 12) (er ps : Nat) (hT : Parl.term 8 l = .inl (er, ps)) :
    Calls Tryz.prog 39 #[.pointer (some ⟨rb, 0, none⟩), .int .i64 (n : Int)] w fun e w' => PCl rb s (Parl.clause true l) w e w' := by
  have HF := hide (show Parl.clause true l = .inl (er, ps) from Parl.clause_err hk hT)
  have HQ := hide hk
  have I := hide (fun W (hW : St W rb s l [] (.slice none 0 0) e0) => term_all 8 W rb s l [] (.slice none 0 0) e0 1 rfl hW)
  rw [hT] at I
  clear hT hk
  have hlt := h.lt
  obtain ⟨hS, hK, hB0, hBc⟩ := clA_start h (.cells #[.int .i64 0, .int .i64 0, .string ⟨#[]⟩, .slice none 0 0, .slice none 0 0, .slice none 0 0] 78)
  have HS := hide hS
  have HK := hide hK
  have HB0 := hide hB0
  have HBc := hide hBc
  clear hS hK hB0 hBc h
  go_enter Tryz.func39, Tryz.ntmps39
  go_wp2_with fail
  refine (mayC_yes _ rb s l ns nv e0 n (unhide HS) (unhide HQ) hn).mono ?_
  rintro e w9 ⟨rfl, hw⟩
  rw [hw]
  clear hw w9
  generalize hw1 : ((w.alloc (.cells #[.int .i64 0, .int .i64 0, .string ⟨#[]⟩, .slice none 0 0, .slice none 0 0, .slice none 0 0] 78)).alloc (.cells #[.int .i64 0, .int .i64 0, .string ⟨#[]⟩, .slice none 0 0, .slice none 0 0, .slice none 0 0] 78)) = w1 at *
  have f4 := (unhide HS).rd.f4
  have c4 := (unhide HS).rd.c4
  have hrw := (unhide HS).lt
  have N := hide ((unhide HS).nonames)
  go_wp2_with fail
  clear f4 c4 hrw hw1
  have HK1 := hide ((unhide HK).trans (unhide N).2)
  have HB01 := hide (blk_other (unhide HB0) (show w.heap.size ≠ rb by omega) 4 (.slice none 0 0))
  have HBc1 := hide (blk_other (unhide HBc) (show w.heap.size + 1 ≠ rb by omega) 4 (.slice none 0 0))
  generalize w1.setCell ⟨rb, 4, none⟩ (.slice none 0 0) = w2 at *
  refine (unhide I _ (unhide N).1).mono ?_
  rintro e w3 ⟨k, val, tx, ao, an, acap, l', ns', nv', rfl, hs3, hpos, hk3⟩
  obtain ⟨a, ha⟩ : ∃ a : TV, a = ⟨k, val, tx, ao, an, acap⟩ := ⟨_, rfl⟩
  have HS3 := hide hs3
  have HP := hide hpos
  have HK3 := hide ((unhide HK1).trans hk3)
  have HB03 := hide (blk_ka hk3 (unhide HB01) (by simp; omega))
  have HBc3 := hide (blk_ka hk3 (unhide HBc1) (by simp; omega))
  clear hs3 hpos hk3
  have r0 := blkA (unhide HB03)
  have x0 := blkX (unhide HB03)
  have z0 := blk_lt (unhide HB03)
  have rc := blkA (unhide HBc3)
  have xc := blkX (unhide HBc3)
  have zc := blk_lt (unhide HBc3)
  go_wp2_with fail
  refine bodyPost_ret (v := .tuple #[.agg #[.int .i64 k, .int .i64 val, .string tx, .slice ao an acap, .slice none 0 0, .slice none 0 0], .bool false]) (by simp [results, Tryz.results39, go_sem, z0, r0]) rfl ?_
  rw [unhide HF]
  have R := box1_end (unhide HS3) (unhide HK3) hlt (show w.heap.size ≤ w.heap.size + 1 by omega) (unhide HBc3) (((((OnlyB.refl _ _).set 0 (.int .i64 k)).set 1 (.int .i64 val)).set 2 (.string tx)).set 3 (.slice ao an acap))
  have HB04 := blk_other (blk_other (blk_other (blk_other (unhide HB03) (show w.heap.size ≠ w.heap.size + 1 by omega) 0 (.int .i64 k)) (show w.heap.size ≠ w.heap.size + 1 by omega) 1 (.int .i64 val)) (show w.heap.size ≠ w.heap.size + 1 by omega) 2 (.string tx)) (show w.heap.size ≠ w.heap.size + 1 by omega) 3 (.slice ao an acap)
  have R2 := box1_end R.1 R.2 hlt (Nat.le_refl _) HB04 (((((((OnlyB.refl _ _).set 0 (.int .i64 k)).set 1 (.int .i64 val)).set 2 (.string tx)).set 3 (.slice ao an acap)).set 4 (.slice none 0 0)).set 5 (.slice none 0 0))
  exact ⟨⟨k, val, tx, ao, an, acap⟩, none, 0, 0, none, 0, 0, l', ns', nv', rfl, R2.1.below ((Below.refl _ _).alloc (Nat.le_refl _) _), unhide HP, R2.2.alloc _⟩

set_option maxHeartbeats 8000000 in
set_option maxRecDepth 100000 in
theorem clA_fact (w : World) (rb : Nat) (s : ByteArray) (l : List Parl.Tok) (ns : List ByteArray) (nv : Value) (e0 : Int) (n : Nat) (h : St w rb s l ns nv e0) (hk : (Parl.hd l).kind = 2) (hn : n < 12) (t : Parl.Tm) (l1 : List Parl.Tok) (hT : Parl.term 8 l = .inr (t, l1)) (hnk : Parl.sees l1 [58, 45] = false)  :
    Calls Tryz.prog 39 #[.pointer (some ⟨rb, 0, none⟩), .int .i64 (n : Int)] w fun e w' => PCl rb s (Parl.clause true l) w e w' := by
  have HC := hide (Parl.clause_fact hk hT hnk)
  have HQ := hide hk
  have I := hide (fun W (hW : St W rb s l [] (.slice none 0 0) e0) => term_all 8 W rb s l [] (.slice none 0 0) e0 1 rfl hW)
  rw [hT] at I
  clear hT hk
  have hlt := h.lt
  obtain ⟨hS, hK, hB0, hBc⟩ := clA_start h (.cells #[.int .i64 0, .int .i64 0, .string ⟨#[]⟩, .slice none 0 0, .slice none 0 0, .slice none 0 0] 78)
  have HS := hide hS
  have HK := hide hK
  have HB0 := hide hB0
  have HBc := hide hBc
  clear hS hK hB0 hBc h
  go_enter Tryz.func39, Tryz.ntmps39
  go_wp2_with fail
  refine (mayC_yes _ rb s l ns nv e0 n (unhide HS) (unhide HQ) hn).mono ?_
  rintro e w9 ⟨rfl, hw⟩
  rw [hw]
  clear hw w9
  generalize hw1 : ((w.alloc (.cells #[.int .i64 0, .int .i64 0, .string ⟨#[]⟩, .slice none 0 0, .slice none 0 0, .slice none 0 0] 78)).alloc (.cells #[.int .i64 0, .int .i64 0, .string ⟨#[]⟩, .slice none 0 0, .slice none 0 0, .slice none 0 0] 78)) = w1 at *
  have f4 := (unhide HS).rd.f4
  have c4 := (unhide HS).rd.c4
  have hrw := (unhide HS).lt
  have N := hide ((unhide HS).nonames)
  go_wp2_with fail
  clear f4 c4 hrw hw1
  have HK1 := hide ((unhide HK).trans (unhide N).2)
  have HB01 := hide (blk_other (unhide HB0) (show w.heap.size ≠ rb by omega) 4 (.slice none 0 0))
  have HBc1 := hide (blk_other (unhide HBc) (show w.heap.size + 1 ≠ rb by omega) 4 (.slice none 0 0))
  generalize w1.setCell ⟨rb, 4, none⟩ (.slice none 0 0) = w2 at *
  refine (unhide I _ (unhide N).1).mono ?_
  rintro e w3 ⟨val, tx, ao, acap, ns3, nv3, e3, rfl, hta, hs3, hk3⟩
  have HTA := hide (show RA 8 (nmsA ns3) anyA w3 ⟨ak t.kind, val, tx, ao, t.args.length, acap⟩ t from (KeepA.refl w3).ra hta.rep)
  have HTN := hide hta.nms
  clear hta
  have HS3 := hide hs3
  have HK3 := hide ((unhide HK1).trans hk3)
  have HB03 := hide (blk_ka hk3 (unhide HB01) (by simp; omega))
  have HBc3 := hide (blk_ka hk3 (unhide HBc1) (by simp; omega))
  clear hs3 hk3
  generalize ak t.kind = k at *
  generalize t.args.length = an at *
  have rc := blkA (unhide HBc3)
  have xc := blkX (unhide HBc3)
  have zc := blk_lt (unhide HBc3)
  have z0 := blk_lt (unhide HB03)
  have hw13 : w.heap.size < w3.heap.size := blk_lt (unhide HB03)
  go_wp2_with fail
  clear rc xc zc z0
  have R := hide (box1_end (unhide HS3) (unhide HK3) hlt (show w.heap.size ≤ w.heap.size + 1 by omega) (unhide HBc3) (((((OnlyB.refl _ _).set 0 (.int .i64 k)).set 1 (.int .i64 val)).set 2 (.string tx)).set 3 (.slice ao an acap)))
  have HBc4 := hide (blk_alloc (set6r (.int .i64 k) (.int .i64 val) (.string tx) (.slice ao an acap) (unhide HBc3)) (.cells #[.int .i64 k, .int .i64 val, .string tx, .slice ao an acap] 76))
  have HB04 := hide (blk_alloc (blk_other (blk_other (blk_other (blk_other (unhide HB03) (show w.heap.size ≠ w.heap.size + 1 by omega) 0 (.int .i64 k)) (show w.heap.size ≠ w.heap.size + 1 by omega) 1 (.int .i64 val)) (show w.heap.size ≠ w.heap.size + 1 by omega) 2 (.string tx)) (show w.heap.size ≠ w.heap.size + 1 by omega) 3 (.slice ao an acap)) (.cells #[.int .i64 k, .int .i64 val, .string tx, .slice ao an acap] 76))
  have HS4 := hide ((unhide R).1.below ((Below.refl _ _).alloc (Nat.le_refl _) (.cells #[.int .i64 k, .int .i64 val, .string tx, .slice ao an acap] 76)))
  have HK4 := hide ((unhide R).2.alloc (.cells #[.int .i64 k, .int .i64 val, .string tx, .slice ao an acap] 76))
  have HT4 := hide (((KeepAJ.onb (unhide HBc3) (((((OnlyB.refl _ _).set 0 (.int .i64 k)).set 1 (.int .i64 val)).set 2 (.string tx)).set 3 (.slice ao an acap))).trans (KeepAJ.alloc _ (.cells #[.int .i64 k, .int .i64 val, .string tx, .slice ao an acap] 76))).a.ra (unhide HTA))
  clear R HB03 HBc3 HS3 HK3 HTA
  generalize ((((w3.setCell ⟨w.heap.size + 1, 0, none⟩ (.int .i64 k)).setCell ⟨w.heap.size + 1, 1, none⟩ (.int .i64 val)).setCell ⟨w.heap.size + 1, 2, none⟩ (.string tx)).setCell ⟨w.heap.size + 1, 3, none⟩ (.slice ao an acap)).alloc (.cells #[.int .i64 k, .int .i64 val, .string tx, .slice ao an acap] 76) = w4 at *
  obtain ⟨a, ha⟩ : ∃ a : TV, a = ⟨k, val, tx, ao, an, acap⟩ := ⟨_, rfl⟩
  refine (sees_any _ rb s l1 ns3 nv3 e3 _ (unhide HS4)).mono ?_
  rintro e w9 ⟨rfl, hw⟩
  rw [hw]
  simp only [ByteArray.toList_mk]
  rw [hnk]
  clear hw w9
  go_wp2_with fail
  refine (sees_any _ rb s l1 ns3 nv3 e3 _ (unhide HS4)).mono ?_
  rintro e w9 ⟨rfl, hw⟩
  rw [hw]
  simp only [ByteArray.toList_mk]
  clear hw w9
  cases hst : Parl.sees l1 [46]
  · have HF := hide (show Parl.clause true l = .inl (2, (Parl.hd l1).pos) by rw [unhide HC, Parl.stop_no hst]; rfl)
    go_wp2_with fail
    refine (takeIf_any _ rb s l1 ns3 nv3 e3 false (unhide HS4) (fun q => by cases q)).mono ?_
    rintro e wz ⟨rfl, hsz, hkz⟩
    have HSz := hide hsz
    have HKz := hide ((unhide HK4).trans hkz)
    have HB0z := hide (blk_ka hkz (unhide HB04) (by simp; omega))
    have HBcz := hide (blk_ka hkz (unhide HBc4) (by simp; omega))
    clear hsz hkz
    have r0 := blkA (unhide HB0z)
    have x0 := blkX (unhide HB0z)
    have z0 := blk_lt (unhide HB0z)
    have rc := blkA (unhide HBcz)
    have zc := blk_lt (unhide HBcz)
    go_wp2_with fail
    refine bodyPost_ret (v := .tuple #[.agg #[.int .i64 k, .int .i64 val, .string tx, .slice ao an acap, .slice none 0 0, .slice none 0 0], .bool false]) (by simp [results, Tryz.results39, go_sem, r0]) rfl ?_
    rw [unhide HF]
    have R := box1_end (unhide HSz) (unhide HKz) hlt (Nat.le_refl _) (unhide HB0z) (((((((OnlyB.refl _ _).set 0 (.int .i64 k)).set 1 (.int .i64 val)).set 2 (.string tx)).set 3 (.slice ao an acap)).set 4 (.slice none 0 0)).set 5 (.slice none 0 0))
    exact ⟨⟨k, val, tx, ao, an, acap⟩, none, 0, 0, none, 0, 0, l1, ns3, nv3, rfl, R.1, rfl, R.2⟩
  · have HF := hide (show Parl.clause true l = .inr (_, l1.tail) by rw [unhide HC, Parl.stop_yes hst])
    have hk5 := hide (show (Parl.hd l1).kind ≠ 0 by rw [Parl.sees_kind hst]; omega)
    go_wp2_with fail
    refine (takeIf_any _ rb s l1 ns3 nv3 e3 true (unhide HS4) (fun _ => unhide hk5)).mono ?_
    rintro e wz ⟨rfl, hsz, hkz⟩
    have HSz := hide hsz
    have HCLz := hide (ClauseA.fact ((KeepAJ.ka (unhide HS4) hkz).a.ra (unhide HT4)) (unhide HTN))
    have HKz := hide ((unhide HK4).trans hkz)
    have HB0z := hide (blk_ka hkz (unhide HB04) (by simp; omega))
    have HBcz := hide (blk_ka hkz (unhide HBc4) (by simp; omega))
    clear hsz hkz
    have r0 := blkA (unhide HB0z)
    have x0 := blkX (unhide HB0z)
    have z0 := blk_lt (unhide HB0z)
    have rc := blkA (unhide HBcz)
    have zc := blk_lt (unhide HBcz)
    go_wp2_with fail
    refine bodyPost_ret (v := .tuple #[.agg #[.int .i64 k, .int .i64 val, .string tx, .slice ao an acap, .slice none 0 0, .slice none 0 0], .bool true]) (by simp [results, Tryz.results39, go_sem, r0]) rfl ?_
    rw [unhide HF]
    have R := box1_end (unhide HSz) (unhide HKz) hlt (Nat.le_refl _) (unhide HB0z) (((((((OnlyB.refl _ _).set 0 (.int .i64 k)).set 1 (.int .i64 val)).set 2 (.string tx)).set 3 (.slice ao an acap)).set 4 (.slice none 0 0)).set 5 (.slice none 0 0))
    exact ⟨⟨k, val, tx, ao, an, acap⟩, none, 0, 0, none, 0, 0, ns3, nv3, e3, rfl, (unhide HCLz).keep (KeepAJ.onb (unhide HB0z) (((((((OnlyB.refl _ _).set 0 (.int .i64 k)).set 1 (.int .i64 val)).set 2 (.string tx)).set 3 (.slice ao an acap)).set 4 (.slice none 0 0)).set 5 (.slice none 0 0))), R.1, R.2⟩

set_option maxHeartbeats 8000000 in
set_option maxRecDepth 100000 in
theorem clA_be (w : World) (rb : Nat) (s : ByteArray) (l : List Parl.Tok) (ns : List ByteArray) (nv : Value) (e0 : Int) (n : Nat) (h : St w rb s l ns nv e0) (hk : (Parl.hd l).kind = 2) (hn : n < 12) (t : Parl.Tm) (l1 : List Parl.Tok) (hT : Parl.term 8 l = .inr (t, l1)) (hnk : Parl.sees l1 [58, 45] = true) (er ps : Nat) (hI : Parl.body l1.tail = .inl (er, ps)) :
    Calls Tryz.prog 39 #[.pointer (some ⟨rb, 0, none⟩), .int .i64 (n : Int)] w fun e w' => PCl rb s (Parl.clause true l) w e w' := by
  have HF := hide (show Parl.clause true l = .inl (er, ps) from Parl.clause_berr hk hT hnk hI)
  have HKN := hide (show (Parl.hd l1).kind ≠ 0 by rw [Parl.sees_kind hnk]; omega)
  have HI := hide hI
  clear hI
  have HQ := hide hk
  have I := hide (fun W (hW : St W rb s l [] (.slice none 0 0) e0) => term_all 8 W rb s l [] (.slice none 0 0) e0 1 rfl hW)
  rw [hT] at I
  clear hT hk
  have hlt := h.lt
  obtain ⟨hS, hK, hB0, hBc⟩ := clA_start h (.cells #[.int .i64 0, .int .i64 0, .string ⟨#[]⟩, .slice none 0 0, .slice none 0 0, .slice none 0 0] 78)
  have HS := hide hS
  have HK := hide hK
  have HB0 := hide hB0
  have HBc := hide hBc
  clear hS hK hB0 hBc h
  go_enter Tryz.func39, Tryz.ntmps39
  go_wp2_with fail
  refine (mayC_yes _ rb s l ns nv e0 n (unhide HS) (unhide HQ) hn).mono ?_
  rintro e w9 ⟨rfl, hw⟩
  rw [hw]
  clear hw w9
  generalize hw1 : ((w.alloc (.cells #[.int .i64 0, .int .i64 0, .string ⟨#[]⟩, .slice none 0 0, .slice none 0 0, .slice none 0 0] 78)).alloc (.cells #[.int .i64 0, .int .i64 0, .string ⟨#[]⟩, .slice none 0 0, .slice none 0 0, .slice none 0 0] 78)) = w1 at *
  have f4 := (unhide HS).rd.f4
  have c4 := (unhide HS).rd.c4
  have hrw := (unhide HS).lt
  have N := hide ((unhide HS).nonames)
  go_wp2_with fail
  clear f4 c4 hrw hw1
  have HK1 := hide ((unhide HK).trans (unhide N).2)
  have HB01 := hide (blk_other (unhide HB0) (show w.heap.size ≠ rb by omega) 4 (.slice none 0 0))
  have HBc1 := hide (blk_other (unhide HBc) (show w.heap.size + 1 ≠ rb by omega) 4 (.slice none 0 0))
  generalize w1.setCell ⟨rb, 4, none⟩ (.slice none 0 0) = w2 at *
  refine (unhide I _ (unhide N).1).mono ?_
  rintro e w3 ⟨val, tx, ao, acap, ns3, nv3, e3, rfl, -, hs3, hk3⟩
  have HS3 := hide hs3
  have HK3 := hide ((unhide HK1).trans hk3)
  have HB03 := hide (blk_ka hk3 (unhide HB01) (by simp; omega))
  have HBc3 := hide (blk_ka hk3 (unhide HBc1) (by simp; omega))
  clear hs3 hk3
  generalize ak t.kind = k at *
  generalize t.args.length = an at *
  have rc := blkA (unhide HBc3)
  have xc := blkX (unhide HBc3)
  have zc := blk_lt (unhide HBc3)
  have z0 := blk_lt (unhide HB03)
  have hw13 : w.heap.size < w3.heap.size := blk_lt (unhide HB03)
  go_wp2_with fail
  clear rc xc zc z0
  have R := hide (box1_end (unhide HS3) (unhide HK3) hlt (show w.heap.size ≤ w.heap.size + 1 by omega) (unhide HBc3) (((((OnlyB.refl _ _).set 0 (.int .i64 k)).set 1 (.int .i64 val)).set 2 (.string tx)).set 3 (.slice ao an acap)))
  have HBc4 := hide (blk_alloc (set6r (.int .i64 k) (.int .i64 val) (.string tx) (.slice ao an acap) (unhide HBc3)) (.cells #[.int .i64 k, .int .i64 val, .string tx, .slice ao an acap] 76))
  have HB04 := hide (blk_alloc (blk_other (blk_other (blk_other (blk_other (unhide HB03) (show w.heap.size ≠ w.heap.size + 1 by omega) 0 (.int .i64 k)) (show w.heap.size ≠ w.heap.size + 1 by omega) 1 (.int .i64 val)) (show w.heap.size ≠ w.heap.size + 1 by omega) 2 (.string tx)) (show w.heap.size ≠ w.heap.size + 1 by omega) 3 (.slice ao an acap)) (.cells #[.int .i64 k, .int .i64 val, .string tx, .slice ao an acap] 76))
  have HS4 := hide ((unhide R).1.below ((Below.refl _ _).alloc (Nat.le_refl _) (.cells #[.int .i64 k, .int .i64 val, .string tx, .slice ao an acap] 76)))
  have HK4 := hide ((unhide R).2.alloc (.cells #[.int .i64 k, .int .i64 val, .string tx, .slice ao an acap] 76))
  clear R HB03 HBc3 HS3 HK3
  generalize ((((w3.setCell ⟨w.heap.size + 1, 0, none⟩ (.int .i64 k)).setCell ⟨w.heap.size + 1, 1, none⟩ (.int .i64 val)).setCell ⟨w.heap.size + 1, 2, none⟩ (.string tx)).setCell ⟨w.heap.size + 1, 3, none⟩ (.slice ao an acap)).alloc (.cells #[.int .i64 k, .int .i64 val, .string tx, .slice ao an acap] 76) = w4 at *
  obtain ⟨a, ha⟩ : ∃ a : TV, a = ⟨k, val, tx, ao, an, acap⟩ := ⟨_, rfl⟩
  refine (sees_any _ rb s l1 ns3 nv3 e3 _ (unhide HS4)).mono ?_
  rintro e w9 ⟨rfl, hw⟩
  rw [hw]
  simp only [ByteArray.toList_mk]
  rw [hnk]
  clear hw w9
  go_wp2_with fail
  refine (take_any _ rb s l1 ns3 nv3 e3 (unhide HS4) (unhide HKN)).mono ?_
  rintro e w5 ⟨rfl, hs5, hk5⟩
  have HS5 := hide hs5
  have HK5 := hide ((unhide HK4).trans hk5)
  have HB05 := hide (blk_ka hk5 (unhide HB04) (by simp; omega))
  have HBc5 := hide (blk_ka hk5 (unhide HBc4) (by simp; omega))
  clear hs5 hk5 HS4 HK4 HB04 HBc4
  have J := hide (body_any w5 rb (w.heap.size + 1) _ _ _ _ s l1.tail ns3 nv3 e3 (unhide HS5) (unhide HBc5) (by omega) (by omega))
  rw [unhide HI] at J
  go_wp2_with fail
  refine (unhide J).mono ?_
  rintro e w6 ⟨l6, ns6, nv6, o1, n1, c1, o2, n2, c2, rfl, hs6, hpos, hb6, hk6⟩
  have HP := hide hpos
  clear hpos
  have HS6 := hide hs6
  have HK6 := hide ((((unhide HK5).mono (Y := [rb, w.heap.size + 1]) (by simp)).trans hk6).forget (X := [rb]) (by simp))
  have HB06 := hide (blk_ka hk6 (unhide HB05) (by simp; omega))
  have HBc6 := hide hb6
  clear hs6 hk6 hb6 HS5 HK5 HB05 HBc5 J
  have r0 := blkA (unhide HB06)
  have x0 := blkX (unhide HB06)
  have z0 := blk_lt (unhide HB06)
  have rc := blkA (unhide HBc6)
  have zc := blk_lt (unhide HBc6)
  go_wp2_with fail
  refine bodyPost_ret (v := .tuple #[.agg #[.int .i64 k, .int .i64 val, .string tx, .slice ao an acap, .slice o1 n1 c1, .slice o2 n2 c2], .bool false]) (by simp [results, Tryz.results39, go_sem, r0]) rfl ?_
  rw [unhide HF]
  have R := box1_end (unhide HS6) (unhide HK6) hlt (Nat.le_refl _) (unhide HB06) (((((((OnlyB.refl _ _).set 0 (.int .i64 k)).set 1 (.int .i64 val)).set 2 (.string tx)).set 3 (.slice ao an acap)).set 4 (.slice o1 n1 c1)).set 5 (.slice o2 n2 c2))
  exact ⟨⟨k, val, tx, ao, an, acap⟩, o1, n1, c1, o2, n2, c2, l6, ns6, nv6, rfl, R.1, unhide HP, R.2⟩

set_option maxHeartbeats 8000000 in
set_option maxRecDepth 100000 in
theorem clA_body (w : World) (rb : Nat) (s : ByteArray) (l : List Parl.Tok) (ns : List ByteArray) (nv : Value) (e0 : Int) (n : Nat) (h : St w rb s l ns nv e0) (hk : (Parl.hd l).kind = 2) (hn : n < 12) (t : Parl.Tm) (l1 : List Parl.Tok) (hT : Parl.term 8 l = .inr (t, l1)) (hnk : Parl.sees l1 [58, 45] = true) (tsg gsg : List Parl.Itm) (l2 : List Parl.Tok) (hI : Parl.body l1.tail = .inr ((tsg, gsg), l2)) :
    Calls Tryz.prog 39 #[.pointer (some ⟨rb, 0, none⟩), .int .i64 (n : Int)] w fun e w' => PCl rb s (Parl.clause true l) w e w' := by
  have HC := hide (Parl.clause_body hk hT hnk hI)
  have HKN := hide (show (Parl.hd l1).kind ≠ 0 by rw [Parl.sees_kind hnk]; omega)
  have HI := hide hI
  clear hI
  have HQ := hide hk
  have I := hide (fun W (hW : St W rb s l [] (.slice none 0 0) e0) => term_all 8 W rb s l [] (.slice none 0 0) e0 1 rfl hW)
  rw [hT] at I
  clear hT hk
  have hlt := h.lt
  obtain ⟨hS, hK, hB0, hBc⟩ := clA_start h (.cells #[.int .i64 0, .int .i64 0, .string ⟨#[]⟩, .slice none 0 0, .slice none 0 0, .slice none 0 0] 78)
  have HS := hide hS
  have HK := hide hK
  have HB0 := hide hB0
  have HBc := hide hBc
  clear hS hK hB0 hBc h
  go_enter Tryz.func39, Tryz.ntmps39
  go_wp2_with fail
  refine (mayC_yes _ rb s l ns nv e0 n (unhide HS) (unhide HQ) hn).mono ?_
  rintro e w9 ⟨rfl, hw⟩
  rw [hw]
  clear hw w9
  generalize hw1 : ((w.alloc (.cells #[.int .i64 0, .int .i64 0, .string ⟨#[]⟩, .slice none 0 0, .slice none 0 0, .slice none 0 0] 78)).alloc (.cells #[.int .i64 0, .int .i64 0, .string ⟨#[]⟩, .slice none 0 0, .slice none 0 0, .slice none 0 0] 78)) = w1 at *
  have f4 := (unhide HS).rd.f4
  have c4 := (unhide HS).rd.c4
  have hrw := (unhide HS).lt
  have N := hide ((unhide HS).nonames)
  go_wp2_with fail
  clear f4 c4 hrw hw1
  have HK1 := hide ((unhide HK).trans (unhide N).2)
  have HB01 := hide (blk_other (unhide HB0) (show w.heap.size ≠ rb by omega) 4 (.slice none 0 0))
  have HBc1 := hide (blk_other (unhide HBc) (show w.heap.size + 1 ≠ rb by omega) 4 (.slice none 0 0))
  generalize w1.setCell ⟨rb, 4, none⟩ (.slice none 0 0) = w2 at *
  refine (unhide I _ (unhide N).1).mono ?_
  rintro e w3 ⟨val, tx, ao, acap, ns3, nv3, e3, rfl, hta, hs3, hk3⟩
  have HTA := hide (show RA 8 (nmsA ns3) anyA w3 ⟨ak t.kind, val, tx, ao, t.args.length, acap⟩ t from (KeepA.refl w3).ra hta.rep)
  have HTN := hide hta.nms
  clear hta
  have HS3 := hide hs3
  have HK3 := hide ((unhide HK1).trans hk3)
  have HB03 := hide (blk_ka hk3 (unhide HB01) (by simp; omega))
  have HBc3 := hide (blk_ka hk3 (unhide HBc1) (by simp; omega))
  clear hs3 hk3
  generalize ak t.kind = k at *
  generalize t.args.length = an at *
  have rc := blkA (unhide HBc3)
  have xc := blkX (unhide HBc3)
  have zc := blk_lt (unhide HBc3)
  have z0 := blk_lt (unhide HB03)
  have hw13 : w.heap.size < w3.heap.size := blk_lt (unhide HB03)
  go_wp2_with fail
  clear rc xc zc z0
  have R := hide (box1_end (unhide HS3) (unhide HK3) hlt (show w.heap.size ≤ w.heap.size + 1 by omega) (unhide HBc3) (((((OnlyB.refl _ _).set 0 (.int .i64 k)).set 1 (.int .i64 val)).set 2 (.string tx)).set 3 (.slice ao an acap)))
  have HBc4 := hide (blk_alloc (set6r (.int .i64 k) (.int .i64 val) (.string tx) (.slice ao an acap) (unhide HBc3)) (.cells #[.int .i64 k, .int .i64 val, .string tx, .slice ao an acap] 76))
  have HB04 := hide (blk_alloc (blk_other (blk_other (blk_other (blk_other (unhide HB03) (show w.heap.size ≠ w.heap.size + 1 by omega) 0 (.int .i64 k)) (show w.heap.size ≠ w.heap.size + 1 by omega) 1 (.int .i64 val)) (show w.heap.size ≠ w.heap.size + 1 by omega) 2 (.string tx)) (show w.heap.size ≠ w.heap.size + 1 by omega) 3 (.slice ao an acap)) (.cells #[.int .i64 k, .int .i64 val, .string tx, .slice ao an acap] 76))
  have HS4 := hide ((unhide R).1.below ((Below.refl _ _).alloc (Nat.le_refl _) (.cells #[.int .i64 k, .int .i64 val, .string tx, .slice ao an acap] 76)))
  have HK4 := hide ((unhide R).2.alloc (.cells #[.int .i64 k, .int .i64 val, .string tx, .slice ao an acap] 76))
  have HT4 := hide (((KeepAJ.onb (unhide HBc3) (((((OnlyB.refl _ _).set 0 (.int .i64 k)).set 1 (.int .i64 val)).set 2 (.string tx)).set 3 (.slice ao an acap))).trans (KeepAJ.alloc _ (.cells #[.int .i64 k, .int .i64 val, .string tx, .slice ao an acap] 76))).a.ra (unhide HTA))
  clear R HB03 HBc3 HS3 HK3 HTA
  generalize ((((w3.setCell ⟨w.heap.size + 1, 0, none⟩ (.int .i64 k)).setCell ⟨w.heap.size + 1, 1, none⟩ (.int .i64 val)).setCell ⟨w.heap.size + 1, 2, none⟩ (.string tx)).setCell ⟨w.heap.size + 1, 3, none⟩ (.slice ao an acap)).alloc (.cells #[.int .i64 k, .int .i64 val, .string tx, .slice ao an acap] 76) = w4 at *
  obtain ⟨a, ha⟩ : ∃ a : TV, a = ⟨k, val, tx, ao, an, acap⟩ := ⟨_, rfl⟩
  refine (sees_any _ rb s l1 ns3 nv3 e3 _ (unhide HS4)).mono ?_
  rintro e w9 ⟨rfl, hw⟩
  rw [hw]
  simp only [ByteArray.toList_mk]
  rw [hnk]
  clear hw w9
  go_wp2_with fail
  refine (take_any _ rb s l1 ns3 nv3 e3 (unhide HS4) (unhide HKN)).mono ?_
  rintro e w5 ⟨rfl, hs5, hk5⟩
  have HS5 := hide hs5
  have HT5 := hide ((KeepAJ.ka (unhide HS4) hk5).a.ra (unhide HT4))
  have HK5 := hide ((unhide HK4).trans hk5)
  have HB05 := hide (blk_ka hk5 (unhide HB04) (by simp; omega))
  have HBc5 := hide (blk_ka hk5 (unhide HBc4) (by simp; omega))
  clear hs5 hk5 HS4 HK4 HB04 HBc4
  have J := hide (body_any w5 rb (w.heap.size + 1) _ _ _ _ s l1.tail ns3 nv3 e3 (unhide HS5) (unhide HBc5) (by omega) (by omega))
  rw [unhide HI] at J
  go_wp2_with fail
  refine (unhide J).mono ?_
  rintro e w6 ⟨ns6, nv6, e6, o1, n1, c1, o2, n2, c2, rfl, hbod, hs6, hb6, hk6⟩
  have HCL := hide (ClauseA.body ((KeepAJ.ka2 (unhide HS5) (unhide HBc5) hk6).a.ra (unhide HT5)) (unhide HTN) hbod)
  clear hbod
  have HS6 := hide hs6
  have HK6 := hide ((((unhide HK5).mono (Y := [rb, w.heap.size + 1]) (by simp)).trans hk6).forget (X := [rb]) (by simp))
  have HB06 := hide (blk_ka hk6 (unhide HB05) (by simp; omega))
  have HBc6 := hide hb6
  clear hs6 hk6 hb6 HS5 HK5 HB05 HBc5 J
  go_wp2_with fail
  refine (sees_any _ rb s l2 ns6 nv6 e6 _ (unhide HS6)).mono ?_
  rintro e w9 ⟨rfl, hw⟩
  rw [hw]
  simp only [ByteArray.toList_mk]
  clear hw w9
  cases hst : Parl.sees l2 [46]
  · have HF := hide (show Parl.clause true l = .inl (2, (Parl.hd l2).pos) by rw [unhide HC, Parl.stop_no hst]; rfl)
    go_wp2_with fail
    refine (takeIf_any _ rb s l2 ns6 nv6 e6 false (unhide HS6) (fun q => by cases q)).mono ?_
    rintro e wz ⟨rfl, hsz, hkz⟩
    have HSz := hide hsz
    have HKz := hide ((unhide HK6).trans hkz)
    have HB0z := hide (blk_ka hkz (unhide HB06) (by simp; omega))
    have HBcz := hide (blk_ka hkz (unhide HBc6) (by simp; omega))
    clear hsz hkz
    have r0 := blkA (unhide HB0z)
    have x0 := blkX (unhide HB0z)
    have z0 := blk_lt (unhide HB0z)
    have rc := blkA (unhide HBcz)
    have zc := blk_lt (unhide HBcz)
    go_wp2_with fail
    refine bodyPost_ret (v := .tuple #[.agg #[.int .i64 k, .int .i64 val, .string tx, .slice ao an acap, .slice o1 n1 c1, .slice o2 n2 c2], .bool false]) (by simp [results, Tryz.results39, go_sem, r0]) rfl ?_
    rw [unhide HF]
    have R := box1_end (unhide HSz) (unhide HKz) hlt (Nat.le_refl _) (unhide HB0z) (((((((OnlyB.refl _ _).set 0 (.int .i64 k)).set 1 (.int .i64 val)).set 2 (.string tx)).set 3 (.slice ao an acap)).set 4 (.slice o1 n1 c1)).set 5 (.slice o2 n2 c2))
    exact ⟨⟨k, val, tx, ao, an, acap⟩, o1, n1, c1, o2, n2, c2, l2, ns6, nv6, rfl, R.1, rfl, R.2⟩
  · have HF := hide (show Parl.clause true l = .inr (_, l2.tail) by rw [unhide HC, Parl.stop_yes hst])
    have hk5 := hide (show (Parl.hd l2).kind ≠ 0 by rw [Parl.sees_kind hst]; omega)
    go_wp2_with fail
    refine (takeIf_any _ rb s l2 ns6 nv6 e6 true (unhide HS6) (fun _ => unhide hk5)).mono ?_
    rintro e wz ⟨rfl, hsz, hkz⟩
    have HSz := hide hsz
    have HCLz := hide ((unhide HCL).keep (KeepAJ.ka (unhide HS6) hkz))
    have HKz := hide ((unhide HK6).trans hkz)
    have HB0z := hide (blk_ka hkz (unhide HB06) (by simp; omega))
    have HBcz := hide (blk_ka hkz (unhide HBc6) (by simp; omega))
    clear hsz hkz
    have r0 := blkA (unhide HB0z)
    have x0 := blkX (unhide HB0z)
    have z0 := blk_lt (unhide HB0z)
    have rc := blkA (unhide HBcz)
    have zc := blk_lt (unhide HBcz)
    go_wp2_with fail
    refine bodyPost_ret (v := .tuple #[.agg #[.int .i64 k, .int .i64 val, .string tx, .slice ao an acap, .slice o1 n1 c1, .slice o2 n2 c2], .bool true]) (by simp [results, Tryz.results39, go_sem, r0]) rfl ?_
    rw [unhide HF]
    have R := box1_end (unhide HSz) (unhide HKz) hlt (Nat.le_refl _) (unhide HB0z) (((((((OnlyB.refl _ _).set 0 (.int .i64 k)).set 1 (.int .i64 val)).set 2 (.string tx)).set 3 (.slice ao an acap)).set 4 (.slice o1 n1 c1)).set 5 (.slice o2 n2 c2))
    exact ⟨⟨k, val, tx, ao, an, acap⟩, o1, n1, c1, o2, n2, c2, ns6, nv6, e6, rfl, (unhide HCLz).keep (KeepAJ.onb (unhide HB0z) (((((((OnlyB.refl _ _).set 0 (.int .i64 k)).set 1 (.int .i64 val)).set 2 (.string tx)).set 3 (.slice ao an acap)).set 4 (.slice o1 n1 c1)).set 5 (.slice o2 n2 c2))), R.1, R.2⟩

theorem clause_any (w : World) (rb : Nat) (s : ByteArray) (l : List Parl.Tok) (ns : List ByteArray) (nv : Value) (e0 : Int) (n : Nat) (h : St w rb s l ns nv e0) :
    Calls Tryz.prog 39 #[.pointer (some ⟨rb, 0, none⟩), .int .i64 (n : Int)] w fun e w' => PCl rb s (Parl.clause (decide (n < 12)) l) w e w' := by
  by_cases hk : (Parl.hd l).kind = 2
  · by_cases hn : n < 12
    · rw [show decide (n < 12) = true by simpa using hn]
      rcases hT : Parl.term 8 l with ⟨er, ps⟩ | ⟨t, l1⟩
      · exact clA_term w rb s l ns nv e0 n h hk hn er ps hT
      · cases hnk : Parl.sees l1 [58, 45]
        · exact clA_fact w rb s l ns nv e0 n h hk hn t l1 hT hnk
        · rcases hI : Parl.body l1.tail with ⟨er, ps⟩ | ⟨⟨tsg, gsg⟩, l2⟩
          · exact clA_be w rb s l ns nv e0 n h hk hn t l1 hT hnk er ps hI
          · exact clA_body w rb s l ns nv e0 n h hk hn t l1 hT hnk tsg gsg l2 hI
    · rw [show decide (n < 12) = false by simpa using hn]
      exact clA_f w rb s l ns nv e0 n h hk (by omega)
  · exact clA_k w rb s l ns nv e0 n h hk _
end Go.Proofs.YthfjnfcekeknlaaGreatDoor
namespace Go.Proofs.YthfjnfcekeknlaaGreatDoor
open Go.RowKit

theorem Tryz.info78 : (Tryz.prog.info? 78).map (fun i => (i.zero, i.size, i.bytes)) = some (some (.agg #[.int .i64 0, .int .i64 0, .string ⟨#[]⟩, .slice none 0 0, .slice none 0 0, .slice none 0 0]), 6, 104) := by kernel_rfl

theorem own_shapeA {w : World} {b : Nat} {e : TypeId} {sz : Nat} {v : Value} {n : Nat} {xs : List Value} (h : w.ownsRow b e sz v n xs) : ∃ o cap, v = .slice o n cap := by
  rcases h.2 with ⟨q, rfl⟩ | ⟨g, cap, cur, q, _⟩
  · exact ⟨none, 0, q⟩
  · exact ⟨some ⟨g, 0, none⟩, cap, q⟩
theorem one6A (a : TV) (o1 o2 : Option Addr) (n1 c1 n2 c2 : Nat) : ∀ u ∈ ([.int .i64 a.k, .int .i64 a.val, .string a.tx, .slice a.ao a.n a.cap, .slice o1 n1 c1, .slice o2 n2 c2] : List Value), u.oneCell' = true := by
  simp [Value.oneCell']

theorem KeepAJ.grown {w w' : World} {b0 : Nat} {T : TypeId} {sz : Nat} {av : Value} {n : Nat} {xs : List Value} (ho : w.ownsRow b0 T sz av n xs) (hg : w.grownBy w' av.ownBlock) (hT : T ≠ 76 := by decide) (hJ : T ≠ 151 := by decide) : KeepAJ w w' :=
  ⟨KeepA.grown ho hg hT, fun g cs hc _ => (hg.block g (Array.getElem?_eq_some_iff.1 hc).1 (fun q => by
    rcases ho.2 with ⟨rfl, _⟩ | ⟨g', cap, cur, rfl, _, c, _⟩
    · simp [Value.ownBlock] at q
    · simp [Value.ownBlock] at q
      subst q
      rw [c] at hc; simp at hc; exact hJ hc.2)).trans hc⟩
/-- A clause's six cells, as the program lays them. -/
structure QV where
  a : TV
  o1 : Option Addr
  n1 : Nat
  c1 : Nat
  o2 : Option Addr
  n2 : Nat
  c2 : Nat
def qvC (v : QV) : List Value := [.int .i64 v.a.k, .int .i64 v.a.val, .string v.a.tx, .slice v.a.ao v.a.n v.a.cap, .slice v.o1 v.n1 v.c1, .slice v.o2 v.n2 v.c2]
theorem qvC_length (vs : List QV) : (vs.flatMap qvC).length = vs.length * 6 := by
  induction vs with
  | nil => rfl
  | cons a r ih => rw [List.flatMap_cons, List.length_append, ih]; simp [qvC]; omega
def ClauseQ (w : World) (v : QV) (c : Parl.Cls) : Prop := ClauseA w v.a v.o1 v.n1 v.o2 v.n2 c
/-- What has been read so far lies there. -/
def RowQ (w : World) (xs : List Value) (ys : List Parl.Cls) : Prop := ∃ vs : List QV, xs = vs.flatMap qvC ∧ All2 (ClauseQ w) vs ys
theorem RowQ.keep {w w' : World} {xs : List Value} {ys : List Parl.Cls} (h : RowQ w xs ys) (hk : KeepAJ w w') : RowQ w' xs ys := by
  obtain ⟨vs, rfl, ha⟩ := h
  exact ⟨vs, rfl, ha.imp fun _ _ q => ClauseA.keep q hk⟩
theorem RowQ.snoc {w : World} {xs : List Value} {ys : List Parl.Cls} {v : QV} {x : Parl.Cls} (h : RowQ w xs ys) (q : ClauseQ w v x) : RowQ w (xs ++ qvC v) (ys ++ [x]) := by
  obtain ⟨vs, rfl, ha⟩ := h
  exact ⟨vs ++ [v], by simp, All2.snoc q ha⟩
/-- The clauses lie there. -/
def ClausesA (w : World) (o : Option Addr) (n : Nat) (ys : List Parl.Cls) : Prop := n = ys.length ∧ (ys ≠ [] → ∃ (g : Nat) (vs : List QV) (cs : Array Value), o = some ⟨g, 0, none⟩ ∧ w.heap[g]? = some (.cells cs 78 (0, 0)) ∧ cs.toList.take (vs.length * 6) = vs.flatMap qvC ∧ All2 (ClauseQ w) vs ys)
theorem ClausesA.of_row {w : World} {b0 n cap : Nat} {o : Option Addr} {xs : List Value} {ys : List Parl.Cls} (h : RowQ w xs ys) (ho : w.ownsRow b0 78 6 (.slice o n cap) n xs) : ClausesA w o n ys := by
  obtain ⟨vs, rfl, ha⟩ := h
  have hl := ho.1
  rw [qvC_length] at hl
  have hl' := ha.length
  refine ⟨by omega, fun hne => ?_⟩
  rcases ho.2 with ⟨q, h0⟩ | ⟨g', cap', cur, q, _, hc, _, _, _, ht⟩
  · exact absurd (List.length_eq_zero_iff.1 (show ys.length = 0 by omega)) hne
  · simp only [Value.slice.injEq, true_and] at q
    obtain ⟨rfl, rfl⟩ := q
    exact ⟨g', vs, cur, rfl, hc, by rw [show vs.length = n by omega]; exact ht, ha⟩
theorem ClausesA.onb {w w' : World} {o : Option Addr} {n : Nat} {ys : List Parl.Cls} (h : ClausesA w o n ys) {b : Nat} {C : Array Value} {T : TypeId} (hb : w.heap[b]? = some (.cells C T (0, 0))) (ho : OnlyB b w w') (hT : T ≠ 76 := by decide) (hJ : T ≠ 151 := by decide) (hC : T ≠ 78 := by decide) : ClausesA w' o n ys :=
  ⟨h.1, fun q => by
    obtain ⟨g, vs, cs, h1, h2, h3, h4⟩ := h.2 q
    exact ⟨g, vs, cs, h1, (ho.block g (fun e => by subst e; rw [hb] at h2; simp at h2; exact hC h2.2)).trans h2, h3, h4.imp fun _ _ r => ClauseA.keep r (KeepAJ.onb hb ho hT hJ)⟩⟩
theorem ClausesA.below {w w' : World} {o : Option Addr} {n : Nat} {ys : List Parl.Cls} (h : ClausesA w o n ys) (hb : Below w.heap.size w w') : ClausesA w' o n ys :=
  ⟨h.1, fun q => by
    obtain ⟨g, vs, cs, h1, h2, h3, h4⟩ := h.2 q
    exact ⟨g, vs, cs, h1, (hb.block g (Array.getElem?_eq_some_iff.1 h2).1).trans h2, h3, h4.imp fun _ _ r => ClauseA.keep r (KeepAJ.below hb)⟩⟩

/-- The reader as it stands first. -/
theorem st_start {w1 : World} {s : ByteArray} {L : List Parl.Tok} (hsg : Signs w1) (h0 : 0 < w1.heap.size) (hL : Parl.Chain s L) (hh : Parl.hd L = Parl.next s 0) (hl : L.length ≤ 1000) (hs : s.size ≤ 240) :
    St (w1.alloc (.cells #[.string s, .int .i64 ((Parl.next s 0).kind : Int), .int .i64 ((Parl.next s 0).pos : Int), .string (Parl.next s 0).text, .slice none 0 0, .int .i64 0] 73)) w1.heap.size s L [] (.slice none 0 0) 0 := by
  have hb := heap_alloc_new w1 (.cells #[.string s, .int .i64 ((Parl.next s 0).kind : Int), .int .i64 ((Parl.next s 0).pos : Int), .string (Parl.next s 0).text, .slice none 0 0, .int .i64 0] 73)
  have c := blkA hb
  have f := blkX hb
  exact ⟨⟨by rw [c]; rfl, by rw [c, hh]; rfl, by rw [c, hh]; rfl, by rw [c, hh]; rfl, by rw [c]; rfl, by rw [c]; rfl, f 1, f 2, f 3, f 4, f 5⟩, World.ownsRow_nil _ _ _ _, hL, ⟨0, hh⟩, by simpa using hl, hs, hsg.below ((Below.refl _ _).alloc (Nat.le_refl _) _) h0, h0, by simp⟩

/-- The loop's relation. -/
def LQ (w : World) (rb : Nat) (s : ByteArray) (L : List Parl.Tok) (k : Nat) (ov : Value) (wr : World) : Prop :=
  ∃ (n : Nat) (xs : List Value) (l : List Parl.Tok) (ns : List ByteArray) (nv : Value) (e : Int), St wr rb s l ns nv e ∧ Below w.heap.size w wr ∧
    wr.heap[w.heap.size]? = some (.cells #[.slice none 0 0, .int .i64 0, .int .i64 0] 52 (0, 0)) ∧
    wr.ownsRow (rb + 1) 78 6 ov n xs ∧ n ≤ 12 ∧ k + n = 13 ∧ ∃ ys : List Parl.Cls, Parl.prog 12 L = Parl.preC ys (Parl.prog (12 - n) l) ∧ RowQ wr xs ys

/-- What stands behind an append to the clauses. -/
theorem lq_mk {w w5 w7 : World} {rb : Nat} {s : ByteArray} {l : List Parl.Tok} {ns : List ByteArray} {nv : Value} {e : Int} {n : Nat} {av : Value} {xs : List Value} {X A Y : Obj}
    (hS : St w5 rb s l ns nv e) (hB : Below w.heap.size w w5) (hw : w.heap.size < rb) (hb : w5.heap[w.heap.size]? = some Y)
    (ho : w5.ownsRow (rb + 1) 78 6 av n xs)
    (hg : ((w5.alloc X).alloc A).grownBy w7 av.ownBlock) :
    St w7 rb s l ns nv e ∧ Below w.heap.size w w7 ∧ w7.heap[w.heap.size]? = some Y ∧ KeepAJ w5 w7 := by
  have hlt := hS.lt
  have h1 : Below (rb + 1) w5 w7 := (((Below.refl _ _).alloc (by omega) X).alloc (by simp; omega) A).grown hg (by simp; omega) (fun k q => (ho.lt k q).1)
  have hb5 : Below w5.heap.size w5 ((w5.alloc X).alloc A) := ((Below.refl _ _).alloc (Nat.le_refl _) _).alloc (by simp) _
  have hty : ∀ k, av.ownBlock = some k → tyAt ((w5.alloc X).alloc A) k ≠ some 9 := fun k hk' => by
    have := ho.lt k hk'
    rcases ho.2 with ⟨rfl, _⟩ | ⟨g, cap, cur, rfl, _, c, _⟩
    · simp [Value.ownBlock] at hk'
    · simp [Value.ownBlock] at hk'
      subst hk'
      unfold tyAt; rw [hb5.block g this.2, c]; simp
  exact ⟨(hS.below hb5).grown hg (fun k q => ⟨by have := (ho.lt k q).1; omega, hty k q⟩), hB.trans (h1.mono (by omega)), (h1.block _ (by omega)).trans hb, ((KeepAJ.alloc w5 X).trans (KeepAJ.alloc _ A)).trans (KeepAJ.grown ((ho.alloc X).alloc A) hg)⟩

/-- What Program leaves. -/
def PPrA (r : Parl.Res (List Parl.Cls)) (w : World) (e : Ending) (w' : World) : Prop :=
  ∃ (o : Option Addr) (n c : Nat), e = .returned (.agg #[.slice o n c, .int .i64 (Parl.errOf r : Int), .int .i64 (Parl.posOf r : Int)]) ∧ (match r with | .inl _ => n = 0 | .inr (ys, _) => ClausesA w' o n ys) ∧ Below w.heap.size w w'
end Go.Proofs.YthfjnfcekeknlaaGreatDoor
namespace Go.Proofs.YthfjnfcekeknlaaGreatDoor
open Go.RowKit

set_option maxHeartbeats 8000000 in
set_option maxRecDepth 100000 in
theorem prA_any (w : World) (s : ByteArray) (L : List Parl.Tok) (hs : s.size ≤ 240) (hL : Parl.Chain s L) (hh : Parl.hd L = Parl.next s 0) (hl : L.length ≤ 1000) (hsg : Signs w) (h0 : 0 < w.heap.size) :
    Calls Tryz.prog 26 #[.string s] w fun e w' => PPrA (Parl.prog 12 L) w e w' := by
  obtain ⟨ti, hi, hz0', hz1', hz2'⟩ := info_parts Tryz.info78
  have hsz : decide (240 < (s.size : Int)) = false := by simp; omega
  have HSG := hide hsg
  clear hsg
  go_enter Tryz.func26, Tryz.ntmps26
  go_wp2_with fail
  refine (next_any s 0 _ (by unfold maxLen; omega) (Nat.zero_le _) ((unhide HSG).below ((Below.refl _ _).alloc (Nat.le_refl _) _) h0) (by simp)).mono ?_
  rintro e w1 ⟨rfl, hb1⟩
  have hsg1 := ((unhide HSG).below ((Below.refl _ _).alloc (Nat.le_refl _) (.cells #[.slice none 0 0, .int .i64 0, .int .i64 0] 52)) h0).below hb1 (by simp)
  have hw1 : w.heap.size < w1.heap.size := by have := hb1.size; simp at this; omega
  have HL := hide (show LQ w w1.heap.size s L 13 (.slice none 0 0) (w1.alloc (.cells #[.string s, .int .i64 ((Parl.next s 0).kind : Int), .int .i64 ((Parl.next s 0).pos : Int), .string (Parl.next s 0).text, .slice none 0 0, .int .i64 0] 73)) from
    ⟨0, [], L, [], _, 0, st_start hsg1 (by omega) hL hh hl hs, (((Below.refl _ _).alloc (Nat.le_refl _) _).trans (hb1.mono (by simp))).alloc (by omega) _, blk_alloc ((hb1.block w.heap.size (by simp)).trans (heap_alloc_new w _)) _, World.ownsRow_nil _ _ _ _, by omega, by omega, [], (Parl.preC_nil _).symm, [], rfl, trivial⟩)
  clear hb1 hsg1 HSG hL hh hl
  generalize (Parl.next s 0).kind = tk at *
  generalize (Parl.next s 0).pos = tp at *
  generalize (Parl.next s 0).text = tt at *
  go_wp2_with fail
  generalize hrb : w1.heap.size = rb at *
  go_loopg [4] 13 (fun k ov wr => LQ w rb s L k ov wr)
  case atStart => exact unhide HL
  case round =>
    clear HL hrb
    obtain ⟨n, xs, l, ns, nv, e1, hS, hB, hb0, ho, hn12, hkn, ys, htot, hrow⟩ := hrel
    have HROW := hide hrow
    clear hrow
    obtain ⟨oo, cp, rfl⟩ := own_shapeA ho
    have HS := hide hS
    have HB := hide hB
    have HB0 := hide hb0
    have HO := hide ho
    have HTOT := hide htot
    have c1 := hS.rd.c1
    have hrw := hS.lt
    have r0 := blkA hb0
    have x0 := blkX hb0
    have z0 := blk_lt hb0
    clear hS hB hb0 ho htot
    by_cases hk0 : (Parl.hd l).kind = 0
    · have HF := hide (show Parl.prog 12 L = .inr (ys ++ [], l) by rw [unhide HTOT, Parl.prog_end hk0]; rfl)
      rw [hk0] at c1
      clear hk0
      go_wp2_with fail
      refine bodyPost_ret (v := .agg #[.slice oo n cp, .int .i64 0, .int .i64 0]) (by simp [results, Tryz.results26, go_sem, r0]) rfl ?_
      rw [unhide HF]
      have CC := (ClausesA.of_row (unhide HROW) (unhide HO))
      exact ⟨_, _, _, rfl, by rw [List.append_nil]; exact CC.onb (unhide HB0) ((((OnlyB.refl _ _).set 0 (.slice oo n cp)).set 1 (.int .i64 0)).set 2 (.int .i64 0)), (((unhide HB).setCell (p := ⟨w.heap.size, 0, none⟩) (Nat.le_refl _) _).setCell (p := ⟨w.heap.size, 1, none⟩) (Nat.le_refl _) _).setCell (p := ⟨w.heap.size, 2, none⟩) (Nat.le_refl _) _⟩
    · have hq : (((Parl.hd l).kind : Int) != 0) = true := by simp; omega
      have H0 := hide hk0
      have I := hide (clause_any wr rb s l ns nv e1 n (unhide HS))
      generalize hC : Parl.clause (decide (n < 12)) l = r at I
      have HC := hide hC
      clear hC hk0
      generalize ((Parl.hd l).kind : Int) = q at *
      go_wp2_with fail
      refine (unhide I).mono ?_
      clear c1 hrw r0 x0 z0 hq
      rcases r with ⟨er, pos⟩ | ⟨c, l1⟩
      · rintro e w5 ⟨a, o1, n1, cc1, o2, n2, cc2, l', ns', nv', rfl, hs5, hpos, hk5⟩
        subst hpos
        have HF := hide (show Parl.prog 12 L = .inl (er, (Parl.hd l').pos) by rw [unhide HTOT, Parl.prog_err hn12 (unhide H0) (unhide HC)]; rfl)
        have HB5 := hide ((unhide HB).trans (hk5.below (by have := (unhide HB).size; omega) (by omega) (by simp; omega)))
        have HB05 := hide (blk_ka hk5 (unhide HB0) (by simp; omega))
        have c2 := hs5.rd.c2
        have c5 := hs5.rd.c5
        have hrw5 := hs5.lt
        have r0 := blkA (unhide HB05)
        have x0 := blkX (unhide HB05)
        have z0 := blk_lt (unhide HB05)
        clear hs5 hk5
        go_wp2_with fail
        refine bodyPost_ret (v := .agg #[.slice none 0 0, .int .i64 er, .int .i64 (Parl.hd l').pos]) (by simp [results, Tryz.results26, go_sem, z0, r0]) rfl ?_
        rw [unhide HF]
        exact ⟨_, _, _, rfl, rfl, ((((unhide HB5).setCell (p := ⟨w.heap.size, 0, none⟩) (Nat.le_refl _) _).setCell (p := ⟨w.heap.size, 1, none⟩) (Nat.le_refl _) _).setCell (p := ⟨w.heap.size, 2, none⟩) (Nat.le_refl _) _).alloc (by simp; omega) _⟩
      · rintro e w5 ⟨a, o1, n1, cc1, o2, n2, cc2, ns5, nv5, e5, rfl, hcl, hs5, hk5⟩
        have HROW5 := hide (((unhide HROW).keep (KeepAJ.ka (unhide HS) hk5)).snoc (v := ⟨a, o1, n1, cc1, o2, n2, cc2⟩) hcl)
        clear hcl
        have HS5 := hide hs5
        have HB5 := hide ((unhide HB).trans (hk5.below (by have := (unhide HB).size; omega) (by omega) (by simp; omega)))
        have HB05 := hide (blk_ka hk5 (unhide HB0) (by simp; omega))
        have HO5 := hide (own_ka (unhide HO) hk5 (by omega) (by decide))
        have hrw5 := hs5.lt
        clear hs5 hk5
        go_wp2_with (first | (at_builtin; go_must (refine wpList_append_own _ rfl (.tmp 33) (.tmp 35) 50 rfl (rb + 1) 78 ti (.agg #[.int .i64 0, .int .i64 0, .string ⟨#[]⟩, .slice none 0 0, .slice none 0 0, .slice none 0 0]) 6 104 Tryz.underlying50 hi hz0' hz1' hz2' rfl (by decide) _ n xs rfl (((unhide HO5).alloc _).alloc _) ⟨w5.heap.size + 1, 0, none⟩ 1 1 [.int .i64 a.k, .int .i64 a.val, .string a.tx, .slice a.ao a.n a.cap, .slice o1 n1 cc1, .slice o2 n2 cc2] rfl rfl (newLA _ _ _ _ _ (by simp) rfl) (one6A a o1 o2 n1 cc1 n2 cc2) (by unfold maxLen; omega) (by omega) (by simp; omega) ?_); go_must (intro v' w7 hown' hgrow _; have HOWN7 := hide hown'; have HR7 := hide (lq_mk (unhide HS5) (unhide HB5) hw1 (unhide HB05) (unhide HO5) hgrow); clear hown' hgrow)))
        go_roundg (gk - 1)
        case measure => omega
        case rel =>
          obtain ⟨h12, hm⟩ := Parl.prog_more (unhide H0) (unhide HC)
          exact ⟨n + 1, _, l1, ns5, nv5, e5, (unhide HR7).1, (unhide HR7).2.1, (unhide HR7).2.2.1, unhide HOWN7, by omega, by omega, ys ++ [c], by rw [unhide HTOT, hm, Parl.preC_preC], (unhide HROW5).keep (unhide HR7).2.2.2⟩
end Go.Proofs.YthfjnfcekeknlaaGreatDoor
namespace Go.Proofs.YthfjnfcekeknlaaGreatDoor
open Go.RowKit

set_option maxHeartbeats 2000000 in
theorem prA_long (w : World) (s : ByteArray) (hs : 240 < s.size) :
    Calls Tryz.prog 26 #[.string s] w fun e w' => e = .returned (.agg #[.slice none 0 0, .int .i64 1, .int .i64 0]) ∧ Below w.heap.size w w' := by
  have hsz : decide (240 < (s.size : Int)) = true := by simp; omega
  go_enter Tryz.func26, Tryz.ntmps26
  go_wp2_with fail
  refine bodyPost_ret (v := .agg #[.slice none 0 0, .int .i64 1, .int .i64 0]) (by simp [results, Tryz.results26, go_sem]) rfl ?_
  exact ⟨rfl, ((Below.refl _ _).alloc (Nat.le_refl _) _)⟩

set_option maxHeartbeats 2000000 in
theorem ckA_any (w : World) (s : ByteArray) (L : List Parl.Tok) (hL : Parl.Chain s L) (hh : Parl.hd L = Parl.next s 0) (hl : s.size ≤ 240 → L.length ≤ 1000) (hsg : Signs w) (h0 : 0 < w.heap.size) :
    Calls Tryz.prog 30 #[.string s] w fun e w' => e = .returned (.tuple #[.int .i64 (Parl.ckE s L : Int), .int .i64 (Parl.ckP s L : Int)]) ∧ Below w.heap.size w w' := by
  by_cases hs : 240 < s.size
  · have h1 := hide (show Parl.ckE s L = 1 by unfold Parl.ckE; rw [if_pos hs])
    have h2 := hide (show Parl.ckP s L = 0 by unfold Parl.ckP; rw [if_pos hs])
    go_enter Tryz.func30, Tryz.ntmps30
    go_wp2_with fail
    refine (prA_long _ s hs).mono ?_
    rintro e w1 ⟨rfl, hb⟩
    have HB := hide hb
    have hz := hb.size
    clear hb
    go_wp2_with fail
    go_big_region
    go_wp2_with fail
    go_ret2
    rw [unhide h1, unhide h2]
    exact ⟨rfl, ((unhide HB).alloc hz _).drew⟩
  · have h1 := hide (show Parl.ckE s L = Parl.errOf (Parl.prog 12 L) by unfold Parl.ckE; rw [if_neg hs])
    have h2 := hide (show Parl.ckP s L = Parl.posOf (Parl.prog 12 L) by unfold Parl.ckP; rw [if_neg hs])
    have I := hide (prA_any w s L (by omega) hL hh (hl (by omega)) hsg h0)
    rw [unhide h1, unhide h2]
    clear h1 h2 hL hh hl hsg
    generalize Parl.prog 12 L = r at *
    go_enter Tryz.func30, Tryz.ntmps30
    go_wp2_with fail
    refine (unhide I).mono ?_
    rintro e w' ⟨o, n, c, rfl, _, hb⟩
    have HB := hide hb
    have hz := hb.size
    clear hb
    go_wp2_with fail
    go_big_region
    go_wp2_with fail
    go_ret2
    exact ⟨rfl, ((unhide HB).alloc hz _).drew⟩
end Go.Proofs.YthfjnfcekeknlaaGreatDoor
