import Derived.Test.YthfjnfcekeknlaaGreatDoorC08
import Derived.Test.YthfjnfcekeknlaaGreatDoorC09
import Derived.Test.YthfjnfcekeknlaaGreatDoorC10
import Derived.Test.YthfjnfcekeknlaaGreatDoorC11
import Derived.Test.YthfjnfcekeknlaaGreatDoorC12
import Derived.Test.YthfjnfcekeknlaaGreatDoorC13
import Derived.Test.YthfjnfcekeknlaaGreatDoorC14
import Derived.Test.YthfjnfcekeknlaaGreatDoorC15
import Derived.Test.YthfjnfcekeknlaaGreatDoorC16
import Derived.Test.YthfjnfcekeknlaaGreatDoorC17
import Derived.Test.YthfjnfcekeknlaaGreatDoorC18
import Derived.Test.YthfjnfcekeknlaaGreatDoorC19
import Derived.Test.YthfjnfcekeknlaaGreatDoorC20
import Derived.Deep.LoopGhost
namespace Go.Proofs.YthfjnfcekeknlaaGreatDoor
open Go.RowKit

theorem perrW_uni {rb tb cap : Nat} {s : ByteArray} {L : List Parl.Tok} {p0 : Int} {er ps : Nat} {w : World} {e : Ending} {w' : World} (he : er ≠ 0) (h : PErrW rb tb cap s L (er : Int) (ps : Int) w e w') : PUniW rb tb cap s L p0 (.inl (er, ps)) w e w' := by
  obtain ⟨a, b, c, op, sg, t1, g1, rfl, ⟨j, hs⟩, hk⟩ := h
  exact ⟨a, b, c, op, sg, t1, g1, j, _, _, rfl, hs, hk, ⟨rfl, rfl, by omega⟩, trivial, trivial⟩
theorem term_kind {f : Nat} {l l1 : List Parl.Tok} {t : Parl.Tm} (h : Parl.term f l = .inr (t, l1)) : t.kind = 2 ∨ t.kind = 3 ∨ t.kind = 4 := by
  cases f with
  | zero => rw [Parl.term] at h; split at h <;> cases h
  | succ f =>
    rw [Parl.term] at h
    by_cases hb : Parl.begins (Parl.hd l) = true
    · rw [if_pos hb] at h
      by_cases hc : (Parl.hd l).kind = 4 ∧ 6 < (Parl.hd l).text.size
      · rw [if_pos hc] at h; cases h
      · rw [if_neg hc] at h
        by_cases h2 : (Parl.hd l).kind = 2
        · rw [if_pos h2] at h
          by_cases hs : Parl.sees l.tail [40] = true
          · rw [if_pos hs] at h
            rcases hq : Parl.argsOf (Parl.term f) 2 l.tail.tail with x | ⟨us, l2⟩
            · rw [hq] at h; cases h
            · rw [hq] at h; simp only [Sum.inr.injEq, Prod.mk.injEq] at h; rw [← h.1]; exact Or.inl rfl
          · rw [if_neg hs] at h; simp only [Sum.inr.injEq, Prod.mk.injEq] at h; rw [← h.1]; exact Or.inl rfl
        · rw [if_neg h2] at h
          simp only [Sum.inr.injEq, Prod.mk.injEq] at h
          rw [← h.1]
          simp [Parl.begins, h2] at hb
          exact Or.inr hb
    · rw [if_neg hb] at h; cases h

theorem itB_any (w : World) (rb tb cap : Nat) (s : ByteArray) (L : List Parl.Tok) (i : Nat) (p0 : Int) (tests goals : Bool) (h : SB w rb tb cap s L i 0 p0) :
    Calls Tryz.prog 186 #[.pointer (some ⟨rb, 0, none⟩), .agg #[.bool tests, .bool goals]] w fun e w' => PUniW rb tb cap s L p0 (Parl.item0 tests goals (L.drop i)) w e w' := by
  rcases hT : Parl.term 8 (L.drop i) with ⟨er, ps⟩ | ⟨t, l1⟩
  · rw [Parl.item0_err hT]
    have he : er ≠ 0 := by have := Parl.term_err _ _ _ hT; dsimp only at this; omega
    exact (itB_term w rb tb cap s L i p0 tests goals h er ps hT).mono fun e w' q => perrW_uni he q
  · have hk := term_kind hT
    cases hg : Parl.sees l1 [61]
    · cases h0 : Parl.sees l1 [61, 61]
      · cases h1 : Parl.sees l1 [92, 61]
        · cases h2 : Parl.sees l1 [61, 60]
          · cases h3 : Parl.sees l1 [60]
            · cases hm : Parl.sees l1 [58, 61]
              · by_cases hk2 : t.kind = 2
                · by_cases hin : t.text.toList = [105, 110, 116]
                  · by_cases hone : t.args.length = 1
                    · exact itB_p1 w rb tb cap s L i p0 tests goals h t l1 hT hg hm h0 h1 h2 h3 (by omega) hk2 hin hone
                    · exact itB_p2 w rb tb cap s L i p0 tests goals h t l1 hT hg hm h0 h1 h2 h3 (by omega) hk2 hin hone
                  · exact itB_p0 w rb tb cap s L i p0 tests goals h t l1 hT hg hm h0 h1 h2 h3 (by omega) hk2 hin
                · rw [Parl.item0_plain hT (by simp [Parl.testSign, h0, h1, h2, h3]) hg (by simp [hm]), if_neg hk2]
                  exact (itB_p3 w rb tb cap s L i p0 tests goals h t l1 hT hg hm h0 h1 h2 h3 (by omega) hk2).mono fun e w' q => perrW_uni (er := 2) (by omega) q
              · by_cases hk3 : t.kind = 3
                · cases goals
                  · rw [Parl.item0_set hT hk3 hm, show Parl.wayed false false (Parl.assignment t false l1) = .inl (2, (Parl.hd l1).pos) from rfl]
                    exact (itB_setno w rb tb cap s L i p0 tests false h t l1 hT hk3 hg hm).mono fun e w' q => perrW_uni (er := 2) (by omega) q
                  · exact itB_set w rb tb cap s L i p0 tests true h t l1 hT hk3 hg hm
                · by_cases hk2 : t.kind = 2
                  · by_cases hin : t.text.toList = [105, 110, 116]
                    · by_cases hone : t.args.length = 1
                      · exact itB_q1 w rb tb cap s L i p0 tests goals h t l1 hT hg hm h0 h1 h2 h3 hk3 (by omega) hk2 hin hone
                      · exact itB_q2 w rb tb cap s L i p0 tests goals h t l1 hT hg hm h0 h1 h2 h3 hk3 (by omega) hk2 hin hone
                    · exact itB_q0 w rb tb cap s L i p0 tests goals h t l1 hT hg hm h0 h1 h2 h3 hk3 (by omega) hk2 hin
                  · rw [Parl.item0_plain hT (by simp [Parl.testSign, h0, h1, h2, h3]) hg (by simp [hk3]), if_neg hk2]
                    exact (itB_q3 w rb tb cap s L i p0 tests goals h t l1 hT hg hm h0 h1 h2 h3 hk3 (by omega) hk2).mono fun e w' q => perrW_uni (er := 2) (by omega) q
            · have hm : Parl.sees l1 [58, 61] = false := Parl.sees_one h3 (by simp)
              cases tests
              · rw [Parl.item0_test hT (by simp [Parl.testSign, h3]), show Parl.wayed false false (Parl.sides t false l1) = .inl (2, (Parl.hd l1).pos) from rfl]
                exact (itB_u3 w rb tb cap s L i p0 false goals h t l1 hT hg hm h0 h1 h2 h3).mono fun e w' q => perrW_uni (er := 2) (by omega) q
              · exact itB_t3 w rb tb cap s L i p0 true goals h t l1 hT hg hm h0 h1 h2 h3
          · have hm : Parl.sees l1 [58, 61] = false := Parl.sees_one h2 (by simp)
            have h3 : Parl.sees l1 [60] = false := Parl.sees_one h2 (by simp)
            cases tests
            · rw [Parl.item0_test hT (by simp [Parl.testSign, h2]), show Parl.wayed false false (Parl.sides t false l1) = .inl (2, (Parl.hd l1).pos) from rfl]
              exact (itB_u2 w rb tb cap s L i p0 false goals h t l1 hT hg hm h0 h1 h2 h3).mono fun e w' q => perrW_uni (er := 2) (by omega) q
            · exact itB_t2 w rb tb cap s L i p0 true goals h t l1 hT hg hm h0 h1 h2 h3
        · have hm : Parl.sees l1 [58, 61] = false := Parl.sees_one h1 (by simp)
          have h2 : Parl.sees l1 [61, 60] = false := Parl.sees_one h1 (by simp)
          have h3 : Parl.sees l1 [60] = false := Parl.sees_one h1 (by simp)
          cases tests
          · rw [Parl.item0_test hT (by simp [Parl.testSign, h1]), show Parl.wayed false false (Parl.sides t false l1) = .inl (2, (Parl.hd l1).pos) from rfl]
            exact (itB_u1 w rb tb cap s L i p0 false goals h t l1 hT hg hm h0 h1 h2 h3).mono fun e w' q => perrW_uni (er := 2) (by omega) q
          · exact itB_t1 w rb tb cap s L i p0 true goals h t l1 hT hg hm h0 h1 h2 h3
      · have hm : Parl.sees l1 [58, 61] = false := Parl.sees_one h0 (by simp)
        have h1 : Parl.sees l1 [92, 61] = false := Parl.sees_one h0 (by simp)
        have h2 : Parl.sees l1 [61, 60] = false := Parl.sees_one h0 (by simp)
        have h3 : Parl.sees l1 [60] = false := Parl.sees_one h0 (by simp)
        cases tests
        · rw [Parl.item0_test hT (by simp [Parl.testSign, h0]), show Parl.wayed false false (Parl.sides t false l1) = .inl (2, (Parl.hd l1).pos) from rfl]
          exact (itB_u0 w rb tb cap s L i p0 false goals h t l1 hT hg hm h0 h1 h2 h3).mono fun e w' q => perrW_uni (er := 2) (by omega) q
        · exact itB_t0 w rb tb cap s L i p0 true goals h t l1 hT hg hm h0 h1 h2 h3
    · have hm : Parl.sees l1 [58, 61] = false := Parl.sees_one hg (by simp)
      have h0 : Parl.sees l1 [61, 61] = false := Parl.sees_one hg (by simp)
      have h1 : Parl.sees l1 [92, 61] = false := Parl.sees_one hg (by simp)
      have h2 : Parl.sees l1 [61, 60] = false := Parl.sees_one hg (by simp)
      have h3 : Parl.sees l1 [60] = false := Parl.sees_one hg (by simp)
      cases goals
      · rw [Parl.item0_goal hT hg, show Parl.wayed false false (Parl.sides t false l1) = .inl (2, (Parl.hd l1).pos) from rfl]
        exact (itB_goalno w rb tb cap s L i p0 tests false h t l1 hT hg hm h0 h1 h2 h3).mono fun e w' q => perrW_uni (er := 2) (by omega) q
      · exact itB_goal w rb tb cap s L i p0 tests true h t l1 hT hg hm h0 h1 h2 h3
end Go.Proofs.YthfjnfcekeknlaaGreatDoor
namespace Go.Proofs.YthfjnfcekeknlaaGreatDoor
open Go.RowKit

theorem Tryz.info173 : (Tryz.prog.info? 173).map (fun i => (i.zero, i.size, i.bytes)) = some (some (.agg #[.string ⟨#[]⟩, .string ⟨#[]⟩, .int .i64 0, .string ⟨#[]⟩, .int .i64 0, .slice none 0 0, .int .i64 0, .string ⟨#[]⟩, .int .i64 0, .slice none 0 0, .int .i64 0, .string ⟨#[]⟩, .int .i64 0, .slice none 0 0]), 14, 200) := by kernel_rfl

theorem newL (W : World) (n : Nat) (A : Array Value) (T : TypeId) (xs : List Value) (hn : n = W.heap.size) (hx : A.toList = xs) : ∀ j u, xs[j]? = some u → (W.alloc (.cells A T)).cell? ((⟨n, 0, none⟩ : Addr).add j) = some u := by
  subst hn hx
  intro j u hj
  have := blkA' (heap_alloc_new W (.cells A T)) j
  rw [show (⟨W.heap.size, 0, none⟩ : Addr).add j = ⟨W.heap.size, j, none⟩ by cases j <;> simp [Addr.add], this]
  simpa using hj
theorem one14 (a b c : BV) (op sg : ByteArray) : ∀ u ∈ ([.string op, .string sg, .int .i64 a.k, .string a.nm, .int .i64 a.num, .slice a.ao a.n a.cap, .int .i64 b.k, .string b.nm, .int .i64 b.num, .slice b.ao b.n b.cap, .int .i64 c.k, .string c.nm, .int .i64 c.num, .slice c.ao c.n c.cap] : List Value), u.oneCell' = true := by
  simp [Value.oneCell']

/-- An item's fourteen cells. -/
structure IV where
  a : BV
  b : BV
  c : BV
  op : ByteArray
  sg : ByteArray
def ivC (v : IV) : List Value := [.string v.op, .string v.sg, .int .i64 v.a.k, .string v.a.nm, .int .i64 v.a.num, .slice v.a.ao v.a.n v.a.cap, .int .i64 v.b.k, .string v.b.nm, .int .i64 v.b.num, .slice v.b.ao v.b.n v.b.cap, .int .i64 v.c.k, .string v.c.nm, .int .i64 v.c.num, .slice v.c.ao v.c.n v.c.cap]
theorem ivC_length (vs : List IV) : (vs.flatMap ivC).length = vs.length * 14 := by
  induction vs with
  | nil => rfl
  | cons a r ih => rw [List.flatMap_cons, List.length_append, ih]; simp [ivC]; omega
def ItemR (w : World) (v : IV) (x : Parl.Itm) : Prop := ItemB w v.a v.b v.c v.op v.sg x
/-- Rows of terms stay. -/
def KeepT (w w' : World) : Prop := ∀ (g : Nat) (cs : Array Value), w.heap[g]? = some (.cells cs 109 (0, 0)) → (∃ k r, cs.toList = .int .i64 k :: r) → w'.heap[g]? = some (.cells cs 109 (0, 0))
/-- Rows of items stay. -/
def KeepI (w w' : World) : Prop := ∀ (g : Nat) (cs : Array Value), w.heap[g]? = some (.cells cs 173 (0, 0)) → (∃ k r, cs.toList = .string k :: r) → w'.heap[g]? = some (.cells cs 173 (0, 0))
theorem KeepT.vb {w w' : World} (h : KeepT w w') {P : Nat → Prop} {a : BV} {t : Parl.Tm} (q : VB P w a t) : VB anyB w' a t := q.keep fun g cs _ hc hi => ⟨h g cs hc hi, trivial⟩
theorem KeepT.item {w w' : World} (h : KeepT w w') {v : IV} {x : Parl.Itm} (q : ItemR w v x) : ItemR w' v x := ⟨h.vb q.1, q.2.imp fun _ _ => h.vb⟩
theorem KeepT.trans {u v w : World} (h : KeepT u v) (k : KeepT v w) : KeepT u w := fun g cs a b => k g cs (h g cs a b) b
theorem KeepI.trans {u v w : World} (h : KeepI u v) (k : KeepI v w) : KeepI u w := fun g cs a b => k g cs (h g cs a b) b
theorem KeepT.below {w w' : World} (h : Below w.heap.size w w') : KeepT w w' := fun g _ a _ => (h.block g (blk_lt' a)).trans a
theorem KeepI.below {w w' : World} (h : Below w.heap.size w w') : KeepI w w' := fun g _ a _ => (h.block g (blk_lt' a)).trans a
theorem KeepT.kbs {w w' : World} {rb tb cap : Nat} {s : ByteArray} {L : List Parl.Tok} {i : Nat} {e p : Int} (hs : SB w rb tb cap s L i e p) (hk : KB [rb] w w') : KeepT w w' := fun g cs hg hi => (hk.block g (blk_lt' hg) (fun q => by
    obtain rfl : g = rb := by simpa using q
    obtain ⟨k, r, hc⟩ := hi
    have := hs.c0
    simp [World.cell?, hg] at this
    rw [← Array.getElem?_toList, hc] at this
    simp at this)).trans hg
theorem KeepI.kbs {w w' : World} {rb tb cap : Nat} {s : ByteArray} {L : List Parl.Tok} {i : Nat} {e p : Int} (hs : SB w rb tb cap s L i e p) (hk : KB [rb] w w') : KeepI w w' := fun g cs hg hi => (hk.block g (blk_lt' hg) (fun q => by
    obtain rfl : g = rb := by simpa using q
    obtain ⟨k, r, hc⟩ := hi
    have := hs.c0
    simp [World.cell?, hg] at this
    rw [← Array.getElem?_toList, hc] at this
    simp at this)).trans hg
theorem KeepT.onb {w w' : World} {b : Nat} {cs : Array Value} {T : TypeId} (hb : w.heap[b]? = some (.cells cs T (0, 0))) (ho : OnB b w w') (hT : T ≠ 109 := by decide) : KeepT w w' := fun g cs' hg _ => (ho.block g (fun q => by subst q; rw [hb] at hg; simp at hg; exact hT hg.2)).trans hg
theorem KeepI.onb {w w' : World} {b : Nat} {cs : Array Value} {T : TypeId} (hb : w.heap[b]? = some (.cells cs T (0, 0))) (ho : OnB b w w') (hT : T ≠ 173 := by decide) : KeepI w w' := fun g cs' hg _ => (ho.block g (fun q => by subst q; rw [hb] at hg; simp at hg; exact hT hg.2)).trans hg
theorem KeepT.grown {w w' : World} {b0 : Nat} {T : TypeId} {sz : Nat} {av : Value} {n : Nat} {xs : List Value} (ho : w.ownsRow b0 T sz av n xs) (hg : w.grownBy w' av.ownBlock) (hT : T ≠ 109 := by decide) : KeepT w w' := fun g cs hc _ => (hg.block g (blk_lt' hc) (fun q => by
    rcases ho.2 with ⟨rfl, _⟩ | ⟨g', cap, cur, rfl, _, c, _⟩
    · simp [Value.ownBlock] at q
    · simp [Value.ownBlock] at q
      subst q
      rw [c] at hc; simp at hc; exact hT hc.2)).trans hc
theorem KeepI.grown {w w' : World} {b0 : Nat} {T : TypeId} {sz : Nat} {av : Value} {n : Nat} {xs : List Value} (ho : w.ownsRow b0 T sz av n xs) (hg : w.grownBy w' av.ownBlock) (hT : T ≠ 173 := by decide) : KeepI w w' := fun g cs hc _ => (hg.block g (blk_lt' hc) (fun q => by
    rcases ho.2 with ⟨rfl, _⟩ | ⟨g', cap, cur, rfl, _, c, _⟩
    · simp [Value.ownBlock] at q
    · simp [Value.ownBlock] at q
      subst q
      rw [c] at hc; simp at hc; exact hT hc.2)).trans hc
/-- What has been read so far lies there. -/
def RowI (w : World) (xs : List Value) (ys : List Parl.Itm) : Prop := ∃ vs : List IV, xs = vs.flatMap ivC ∧ All2 (ItemR w) vs ys
theorem RowI.keep {w w' : World} {xs : List Value} {ys : List Parl.Itm} (h : RowI w xs ys) (hk : KeepT w w') : RowI w' xs ys := by
  obtain ⟨vs, rfl, ha⟩ := h
  exact ⟨vs, rfl, ha.imp fun _ _ => hk.item⟩
theorem RowI.snoc {w : World} {xs : List Value} {ys : List Parl.Itm} {v : IV} {x : Parl.Itm} (h : RowI w xs ys) (q : ItemR w v x) : RowI w (xs ++ ivC v) (ys ++ [x]) := by
  obtain ⟨vs, rfl, ha⟩ := h
  exact ⟨vs ++ [v], by simp, ha.snoc q⟩
/-- The items lie there. -/
def ItemsB (w : World) (o : Option Addr) (n : Nat) (ys : List Parl.Itm) : Prop := n = ys.length ∧ (ys ≠ [] → ∃ (g : Nat) (vs : List IV) (cs : Array Value), o = some ⟨g, 0, none⟩ ∧ w.heap[g]? = some (.cells cs 173 (0, 0)) ∧ cs.toList.take (vs.length * 14) = vs.flatMap ivC ∧ All2 (ItemR w) vs ys)
theorem ItemsB.keep {w w' : World} {o : Option Addr} {n : Nat} {ys : List Parl.Itm} (h : ItemsB w o n ys) (hk : KeepT w w') (hi : KeepI w w') : ItemsB w' o n ys := by
  refine ⟨h.1, fun q => ?_⟩
  obtain ⟨g, vs, cs, h1, h2, h3, h4⟩ := h.2 q
  refine ⟨g, vs, cs, h1, hi g cs h2 ?_, h3, h4.imp fun _ _ => hk.item⟩
  cases vs with
  | nil => have := h4.length; simp at this; exact absurd (List.length_eq_zero_iff.1 this.symm) q
  | cons v vs =>
    cases hc : cs.toList with
    | nil => rw [hc] at h3; simp [ivC] at h3
    | cons c r =>
      rw [hc] at h3
      simp only [List.length_cons, Nat.add_mul, Nat.one_mul, List.flatMap_cons, ivC, List.cons_append, List.take_succ_cons] at h3
      injection h3 with h3 _
      exact ⟨_, r, by rw [h3]⟩
theorem ItemsB.of_row {w : World} {b0 g n cap : Nat} {xs : List Value} {ys : List Parl.Itm} (h : RowI w xs ys) (ho : w.ownsRow b0 173 14 (.slice (some ⟨g, 0, none⟩) n cap) n xs) : ItemsB w (some ⟨g, 0, none⟩) n ys := by
  obtain ⟨vs, rfl, ha⟩ := h
  have hl := ho.1
  rw [ivC_length] at hl
  have hl' := ha.length
  rcases ho.2 with ⟨q, _⟩ | ⟨g', cap', cur, q, _, hc, _, _, _, ht⟩
  · cases q
  · simp only [Value.slice.injEq, Option.some.injEq, Addr.mk.injEq, and_true, true_and] at q
    obtain ⟨rfl, rfl⟩ := q
    exact ⟨by omega, fun _ => ⟨g, vs, cur, rfl, hc, by rw [show vs.length = n by omega]; exact ht, ha⟩⟩
theorem ItemsB.none (w : World) : ItemsB w Option.none 0 [] := ⟨rfl, fun q => absurd rfl q⟩
def ValL (w' : World) (r : Parl.Res (List Parl.Itm × Bool × Bool)) (o : Option Addr) (n : Nat) : Prop := match r with
  | .inl _ => True
  | .inr ((ys, _, _), _) => ItemsB w' o n ys
/-- What 'items' leaves there. -/
def PUniL (rb tb cap : Nat) (s : ByteArray) (L : List Parl.Tok) (p0 : Int) (r : Parl.Res (List Parl.Itm × Bool × Bool)) (w : World) (e : Ending) (w' : World) : Prop :=
  ∃ (ao : Option Addr) (n cp : Nat) (t1 g1 : Bool) (j : Nat) (e1 p1 : Int), e = .returned (.tuple #[.slice ao n cp, .agg #[.bool t1, .bool g1]]) ∧ SB w' rb tb cap s L j e1 p1 ∧ KB [rb] w w' ∧ UniR L p0 r j e1 p1 ∧ WayR r t1 g1 ∧ ValL w' r ao n

/-- The loop's relation. -/
def LI (w : World) (rb tb cap : Nat) (s : ByteArray) (L : List Parl.Tok) (p0 : Int) (T G : Bool) (l0 : List Parl.Tok) (k : Nat) (av : Value) (wr : World) : Prop :=
  ∃ (n : Nat) (xs : List Value) (t g : Bool) (j : Nat) (e1 p1 : Int), SB wr rb tb cap s L j e1 p1 ∧ KB [rb] w wr ∧
    wr.heap[w.heap.size]? = some (.cells #[.bool t, .bool g] 220 (0, 0)) ∧
    wr.heap[w.heap.size + 1]? = some (.cells #[.bool false, .bool false] 220 (0, 0)) ∧
    wr.ownsRow (w.heap.size + 2) 173 14 av n xs ∧ n ≤ 6 ∧ k + n = 7 ∧
    ((e1 = 0 ∧ p1 = p0 ∧ n ≤ 5 ∧ ∃ ys : List Parl.Itm, Parl.items 5 T G l0 = Parl.preI ys (Parl.items (5 - n) t g (L.drop j)) ∧ RowI wr xs ys) ∨
     (e1 ≠ 0 ∧ ∃ er pos : Nat, e1 = (er : Int) ∧ p1 = (pos : Int) ∧ Parl.items 5 T G l0 = .inl (er, pos)))

/-- What stands behind an append to the items. -/
theorem li_mk {w w5 w7 : World} {rb tb cap : Nat} {s : ByteArray} {L : List Parl.Tok} {j : Nat} {e1 p1 : Int} {n : Nat} {av v' : Value} {xs xs' : List Value} {X V A : Obj} {c0 c1 : Value} {C1 : Array Value} {T : TypeId} (v0 v1 : Value)
    (hS : SB w5 rb tb cap s L j e1 p1) (hK : KB [rb] w w5) (hr : rb < w.heap.size) (ht : tb < w.heap.size)
    (hb0 : w5.heap[w.heap.size]? = some (.cells #[c0, c1] T (0, 0))) (hb1 : w5.heap[w.heap.size + 1]? = some (.cells C1 T (0, 0)))
    (ho : w5.ownsRow (w.heap.size + 2) 173 14 av n xs)
    (hg : (((((w5.setCell ⟨w.heap.size, 0, none⟩ v0).setCell ⟨w.heap.size, 1, none⟩ v1).alloc X).alloc V).alloc A).grownBy w7 av.ownBlock) (_ho' : w7.ownsRow (w.heap.size + 2) 173 14 v' (n + 1) xs') :
    SB w7 rb tb cap s L j e1 p1 ∧ KB [rb] w w7 ∧ w7.heap[w.heap.size]? = some (.cells #[v0, v1] T (0, 0)) ∧ w7.heap[w.heap.size + 1]? = some (.cells C1 T (0, 0)) := by
  have hl1 : w.heap.size + 1 < w5.heap.size := blk_lt' hb1
  have RQ := OnB.c2 w.heap.size w5 v0 v1
  have hS' := hS.onb RQ (by omega) (by omega)
  have hK' := hK.onb RQ (Nat.le_refl _)
  have q0 : ((w5.setCell ⟨w.heap.size, 0, none⟩ v0).setCell ⟨w.heap.size, 1, none⟩ v1).heap[w.heap.size]? = some (.cells #[v0, v1] T (0, 0)) := set2C v1 (set2B v0 hb0)
  have q1 : ((w5.setCell ⟨w.heap.size, 0, none⟩ v0).setCell ⟨w.heap.size, 1, none⟩ v1).heap[w.heap.size + 1]? = some (.cells C1 T (0, 0)) := blk_other (blk_other hb1 (by omega) _ _) (by omega) _ _
  have hz : ((w5.setCell ⟨w.heap.size, 0, none⟩ v0).setCell ⟨w.heap.size, 1, none⟩ v1).heap.size = w5.heap.size := RQ.size
  generalize ((w5.setCell ⟨w.heap.size, 0, none⟩ v0).setCell ⟨w.heap.size, 1, none⟩ v1) = W at *
  have hB : Below (w.heap.size + 2) W w7 := ((((Below.refl _ _).alloc (by omega) X).alloc (by simp; omega) V).alloc (by simp; omega) A).grown hg (by simp; omega) (fun k q => (ho.lt k q).1)
  exact ⟨hS'.blw hB (by omega) (by omega), ((((hK'.alloc X).alloc V).alloc A)).grown hg (fun k q => by have := (ho.lt k q).1; omega), (hB.block _ (by omega)).trans q0, (hB.block _ (by omega)).trans q1⟩
/-- Rows of terms behind an append to the items. -/
theorem li_keep {w w5 w7 : World} {n : Nat} {av : Value} {xs : List Value} {X V A : Obj} {c0 c1 : Value} (v0 v1 : Value)
    (hb0 : w5.heap[w.heap.size]? = some (.cells #[c0, c1] 220 (0, 0)))
    (ho : (((((w5.setCell ⟨w.heap.size, 0, none⟩ v0).setCell ⟨w.heap.size, 1, none⟩ v1).alloc X).alloc V).alloc A).ownsRow (w.heap.size + 2) 173 14 av n xs)
    (hg : (((((w5.setCell ⟨w.heap.size, 0, none⟩ v0).setCell ⟨w.heap.size, 1, none⟩ v1).alloc X).alloc V).alloc A).grownBy w7 av.ownBlock) : KeepT w5 w7 :=
  ((KeepT.onb hb0 (OnB.c2 _ _ v0 v1)).trans (KeepT.below ((((Below.refl _ _).alloc (Nat.le_refl _) X).alloc (by simp) V).alloc (by simp; omega) A))).trans (KeepT.grown ho hg)
theorem own_c2 {w w5 : World} {av : Value} {n : Nat} {xs : List Value} (v0 v1 : Value) (ho : w5.ownsRow (w.heap.size + 2) 173 14 av n xs) :
    ((w5.setCell ⟨w.heap.size, 0, none⟩ v0).setCell ⟨w.heap.size, 1, none⟩ v1).ownsRow (w.heap.size + 2) 173 14 av n xs :=
  own_at ho (fun k h1 _ => (OnB.c2 w.heap.size w5 v0 v1).block k (by omega))
end Go.Proofs.YthfjnfcekeknlaaGreatDoor
namespace Go.Proofs.YthfjnfcekeknlaaGreatDoor
open Go.RowKit

set_option maxHeartbeats 8000000 in
set_option maxRecDepth 100000 in
theorem isB_any (w : World) (rb tb cap : Nat) (s : ByteArray) (L : List Parl.Tok) (i : Nat) (p0 : Int) (tests goals : Bool) (h : SB w rb tb cap s L i 0 p0) :
    Calls Tryz.prog 152 #[.pointer (some ⟨rb, 0, none⟩), .agg #[.bool tests, .bool goals]] w fun e w' => PUniL rb tb cap s L p0 (Parl.items 5 tests goals (L.drop i)) w e w' := by
  have hlt := h.hlt
  have htl := h.tblt
  obtain ⟨ti, hi, hz0', hz1', hz2'⟩ := info_parts Tryz.info173
  have HL := hide (show LI w rb tb cap s L p0 tests goals (L.drop i) 7 (.slice none 0 0) ((w.alloc (.cells #[.bool tests, .bool goals] 220)).alloc (.cells #[.bool false, .bool false] 220)) from
    ⟨0, [], tests, goals, i, 0, p0, h.below (((Below.refl _ _).alloc (Nat.le_refl _) _).alloc (by simp) _), ((KB.refl [rb] w).alloc _).alloc _, blk_alloc' (heap_alloc_new w _) _, by have := heap_alloc_new (w.alloc (.cells #[.bool tests, .bool goals] 220)) (.cells #[.bool false, .bool false] 220); rw [World.size_alloc] at this; exact this, World.ownsRow_nil _ _ _ _, by omega, by omega, Or.inl ⟨rfl, rfl, by omega, [], (Parl.preI_nil _).symm, ⟨[], rfl, trivial⟩⟩⟩)
  clear h
  go_enter Tryz.func152, Tryz.ntmps152
  go_wp2_with fail
  go_loopg [6] 7 (fun k av wr => LI w rb tb cap s L p0 tests goals (L.drop i) k av wr)
  case atStart => exact unhide HL
  case round =>
    clear HL
    obtain ⟨n, xs, t, g, j, e1, p1, hs, hk, hb0, hb1, ho, hn6, hkn, hcase⟩ := hrel
    have HS := hide hs
    have HK := hide hk
    have HB0 := hide hb0
    have HB1 := hide hb1
    have HO := hide ho
    have r0 := blkA' hb0
    have hrw := hs.hlt
    clear hs hk hb0 hb1 ho
    rcases hcase with ⟨rfl, rfl, hn5, ys, htot, hrow⟩ | ⟨hne, er, pos, he, hp, htot⟩
    · have HTOT := hide htot
      have HROW := hide hrow
      clear htot hrow
      go_wp2_with fail
      refine (itB_any _ rb tb cap s L j _ t g (unhide HS)).mono ?_
      generalize hI : Parl.item0 t g (L.drop j) = r
      have HI := hide hI
      clear hI
      rintro e w5 ⟨a, b, c, op, sg, t1, g1, j2, e2, p2, rfl, hs5, hk5, hu, hw, hvw⟩
      have HVW := hide hvw
      have HROW5 := hide ((unhide HROW).keep (KeepT.kbs (unhide HS) hk5))
      clear hvw HROW
      have HS5 := hide hs5
      have HK5 := hide ((unhide HK).trans hk5)
      have HB05 := hide (blk_kb hk5 (unhide HB0) (by simp; omega))
      have HB15 := hide (blk_kb hk5 (unhide HB1) (by simp; omega))
      have HO5 := hide (own_kb (unhide HO) hk5 (by simp; omega))
      have HU := hide hu
      have HW := hide hw
      clear hs5 hk5 hu hw r0 hrw HS HK HB0 HB1 HO
      cases t1
      · cases g1
        · have r0 := blkA' (unhide HB05)
          have x0 := blkX' (unhide HB05)
          have hz0 := blk_lt' (unhide HB05)
          have hz1 := blk_lt' (unhide HB15)
          have hrw := (unhide HS5).hlt
          go_wp2_with (first | (at_builtin; go_must (refine wpList_append_own _ rfl (.tmp 17) (.tmp 19) 110 rfl (w.heap.size + 2) 173 ti (.agg #[.string ⟨#[]⟩, .string ⟨#[]⟩, .int .i64 0, .string ⟨#[]⟩, .int .i64 0, .slice none 0 0, .int .i64 0, .string ⟨#[]⟩, .int .i64 0, .slice none 0 0, .int .i64 0, .string ⟨#[]⟩, .int .i64 0, .slice none 0 0]) 14 200 Tryz.underlying110 hi hz0' hz1' hz2' rfl (by decide) _ n xs rfl ((((own_c2 (.bool false) (.bool false) (unhide HO5)).alloc _).alloc _).alloc _) ⟨w5.heap.size + 1 + 1, 0, none⟩ 1 1 [.string op, .string sg, .int .i64 a.k, .string a.nm, .int .i64 a.num, .slice a.ao a.n a.cap, .int .i64 b.k, .string b.nm, .int .i64 b.num, .slice b.ao b.n b.cap, .int .i64 c.k, .string c.nm, .int .i64 c.num, .slice c.ao c.n c.cap] rfl rfl (newL _ _ _ _ _ (by simp) rfl) (one14 a b c op sg) (by unfold maxLen; omega) (by omega) (by simp; omega) ?_); go_must (intro v' w7 hown' hgrow _; have HOWN7 := hide hown'; have HKT := hide (li_keep (.bool false) (.bool false) (unhide HB05) ((((own_c2 (.bool false) (.bool false) (unhide HO5)).alloc _).alloc _).alloc _) hgrow); have HR7 := hide (li_mk (.bool false) (.bool false) (unhide HS5) (unhide HK5) hlt htl (unhide HB05) (unhide HB15) (unhide HO5) hgrow hown'); have z := blkA' (unhide HR7).2.2.1; have zx := blkX' (unhide HR7).2.2.1; obtain ⟨g', cap', hv, hcm⟩ := ownB_some hown'; rw [hv] at HOWN7 ⊢; clear hown' hgrow hv)))
          have HS7 := hide (unhide HR7).1
          have HK7 := hide (unhide HR7).2.1
          have H07 := hide (unhide HR7).2.2.1
          have H17 := hide (unhide HR7).2.2.2
          clear HR7 z zx r0 x0 hz0 hz1 hrw HS5 HK5 HB05 HB15 HO5
          rcases r with ⟨er, ps⟩ | ⟨⟨x, t2, g2⟩, l1⟩
          · obtain ⟨rfl, rfl, hne⟩ := unhide HU
            have hne' : ((er : Int) != 0) = true := by simpa using hne
            have HNE := hide hne
            clear hne
            have HF := hide (show Parl.items 5 tests goals (L.drop i) = .inl (er, ps) by rw [unhide HTOT, Parl.items_err (unhide HI)]; rfl)
            refine (bad_later _ rb tb cap s L j2 _ _ 2 (unhide HS7) (unhide HNE)).mono ?_
            rintro e w8 ⟨rfl, rfl⟩
            go_wp2_with fail
            refine (is_any _ rb tb cap s L j2 _ _ _ (unhide HS7)).mono ?_
            rintro e wn ⟨rfl, m, rfl⟩
            simp only [ByteArray.toList_mk]
            have HSe := hide ((unhide HS7).draws m)
            have HKe := hide ((unhide HK7).drewN m)
            have c2e := (unhide HS7).c2
            have hre := (unhide HS7).hlt
            cases hc : Parl.sees (L.drop j2) [44]
            · have y0 := blkA' (unhide H07)
              have y1 := blkA' (unhide H17)
              have y1x := blkX' (unhide H17)
              have hv0 := blk_lt' (unhide H07)
              have hv1 := blk_lt' (unhide H17)
              go_wp2_with fail
              go_big_region
              go_wp2_with fail
              refine bodyPost_ret (v := .tuple #[.slice (some ⟨g', 0, none⟩) (n + 1) cap', .agg #[.bool false, .bool false]]) (by simp [results, Tryz.results152, go_sem, y1]) rfl ?_
              rw [unhide HF]
              have RQ := fun W => OnB.c2 (w.heap.size + 1) W (.bool false) (.bool false)
              exact ⟨some ⟨g', 0, none⟩, n + 1, cap', false, false, j2, _, _, rfl, ((unhide HSe).onb (RQ _) (by omega) (by omega)).below (Below.refl _ _).drew, ((unhide HKe).onb (RQ _) (by omega)).drew, ⟨rfl, rfl, unhide HNE⟩, trivial, trivial⟩
            · have y0 := blkA' (unhide H07)
              have y1 := blkA' (unhide H17)
              have y1x := blkX' (unhide H17)
              have hv0 := blk_lt' (unhide H07)
              have hv1 := blk_lt' (unhide H17)
              go_wp2_with fail
              go_big_region
              go_wp2_with fail
              refine bodyPost_ret (v := .tuple #[.slice (some ⟨g', 0, none⟩) (n + 1) cap', .agg #[.bool false, .bool false]]) (by simp [results, Tryz.results152, go_sem, y1]) rfl ?_
              rw [unhide HF]
              have RQ := fun W => OnB.c2 (w.heap.size + 1) W (.bool false) (.bool false)
              exact ⟨some ⟨g', 0, none⟩, n + 1, cap', false, false, j2, _, _, rfl, ((unhide HSe).onb (RQ _) (by omega) (by omega)).below (Below.refl _ _).drew, ((unhide HKe).onb (RQ _) (by omega)).drew, ⟨rfl, rfl, unhide HNE⟩, trivial, trivial⟩
          · obtain ⟨rfl, rfl, hl1⟩ := unhide HU
            obtain ⟨ht2, hg2⟩ := unhide HW
            subst hl1 ht2 hg2
            have HROW7 := hide (((unhide HROW5).snoc (v := ⟨a, b, c, op, sg⟩) (unhide HVW)).keep (unhide HKT))
            have HF := hide (show Parl.items 5 tests goals (L.drop i) = .inl (2, (Parl.hd (L.drop j2)).pos) by rw [unhide HTOT, Parl.items_neither (unhide HI)]; rfl)
            refine (bad_first _ rb tb cap s L j2 _ 2 (unhide HS7)).mono ?_
            rintro e w8 ⟨rfl, hs8, hk8⟩
            have HS8 := hide hs8
            have HK8 := hide ((unhide HK7).trans hk8)
            have H08 := hide (blk_kb hk8 (unhide H07) (by simp; omega))
            have H18 := hide (blk_kb hk8 (unhide H17) (by simp; omega))
            clear hs8 hk8
            go_wp2_with fail
            refine (is_any _ rb tb cap s L j2 2 _ _ (unhide HS8)).mono ?_
            rintro e wn ⟨rfl, m, rfl⟩
            simp only [ByteArray.toList_mk]
            have HSe := hide ((unhide HS8).draws m)
            have HKe := hide ((unhide HK8).drewN m)
            have c2e := (unhide HS8).c2
            have hre := (unhide HS8).hlt
            cases hc : Parl.sees (L.drop j2) [44]
            · have y0 := blkA' (unhide H08)
              have y1 := blkA' (unhide H18)
              have y1x := blkX' (unhide H18)
              have hv0 := blk_lt' (unhide H08)
              have hv1 := blk_lt' (unhide H18)
              go_wp2_with fail
              go_big_region
              go_wp2_with fail
              refine bodyPost_ret (v := .tuple #[.slice (some ⟨g', 0, none⟩) (n + 1) cap', .agg #[.bool false, .bool false]]) (by simp [results, Tryz.results152, go_sem, y1]) rfl ?_
              rw [unhide HF]
              have RQ := fun W => OnB.c2 (w.heap.size + 1) W (.bool false) (.bool false)
              exact ⟨some ⟨g', 0, none⟩, n + 1, cap', false, false, j2, 2, _, rfl, ((unhide HSe).onb (RQ _) (by omega) (by omega)).below (Below.refl _ _).drew, ((unhide HKe).onb (RQ _) (by omega)).drew, ⟨rfl, rfl, by omega⟩, trivial, trivial⟩
            · have y0 := blkA' (unhide H08)
              have y1 := blkA' (unhide H18)
              have y1x := blkX' (unhide H18)
              have hv0 := blk_lt' (unhide H08)
              have hv1 := blk_lt' (unhide H18)
              go_wp2_with fail
              go_big_region
              go_wp2_with fail
              refine bodyPost_ret (v := .tuple #[.slice (some ⟨g', 0, none⟩) (n + 1) cap', .agg #[.bool false, .bool false]]) (by simp [results, Tryz.results152, go_sem, y1]) rfl ?_
              rw [unhide HF]
              have RQ := fun W => OnB.c2 (w.heap.size + 1) W (.bool false) (.bool false)
              exact ⟨some ⟨g', 0, none⟩, n + 1, cap', false, false, j2, 2, _, rfl, ((unhide HSe).onb (RQ _) (by omega) (by omega)).below (Below.refl _ _).drew, ((unhide HKe).onb (RQ _) (by omega)).drew, ⟨rfl, rfl, by omega⟩, trivial, trivial⟩
        · have r0 := blkA' (unhide HB05)
          have x0 := blkX' (unhide HB05)
          have hz0 := blk_lt' (unhide HB05)
          have hz1 := blk_lt' (unhide HB15)
          have hrw := (unhide HS5).hlt
          go_wp2_with (first | (at_builtin; go_must (refine wpList_append_own _ rfl (.tmp 17) (.tmp 19) 110 rfl (w.heap.size + 2) 173 ti (.agg #[.string ⟨#[]⟩, .string ⟨#[]⟩, .int .i64 0, .string ⟨#[]⟩, .int .i64 0, .slice none 0 0, .int .i64 0, .string ⟨#[]⟩, .int .i64 0, .slice none 0 0, .int .i64 0, .string ⟨#[]⟩, .int .i64 0, .slice none 0 0]) 14 200 Tryz.underlying110 hi hz0' hz1' hz2' rfl (by decide) _ n xs rfl ((((own_c2 (.bool false) (.bool true) (unhide HO5)).alloc _).alloc _).alloc _) ⟨w5.heap.size + 1 + 1, 0, none⟩ 1 1 [.string op, .string sg, .int .i64 a.k, .string a.nm, .int .i64 a.num, .slice a.ao a.n a.cap, .int .i64 b.k, .string b.nm, .int .i64 b.num, .slice b.ao b.n b.cap, .int .i64 c.k, .string c.nm, .int .i64 c.num, .slice c.ao c.n c.cap] rfl rfl (newL _ _ _ _ _ (by simp) rfl) (one14 a b c op sg) (by unfold maxLen; omega) (by omega) (by simp; omega) ?_); go_must (intro v' w7 hown' hgrow _; have HOWN7 := hide hown'; have HKT := hide (li_keep (.bool false) (.bool true) (unhide HB05) ((((own_c2 (.bool false) (.bool true) (unhide HO5)).alloc _).alloc _).alloc _) hgrow); have HR7 := hide (li_mk (.bool false) (.bool true) (unhide HS5) (unhide HK5) hlt htl (unhide HB05) (unhide HB15) (unhide HO5) hgrow hown'); have z := blkA' (unhide HR7).2.2.1; have zx := blkX' (unhide HR7).2.2.1; obtain ⟨g', cap', hv, hcm⟩ := ownB_some hown'; rw [hv] at HOWN7 ⊢; clear hown' hgrow hv)))
          have HS7 := hide (unhide HR7).1
          have HK7 := hide (unhide HR7).2.1
          have H07 := hide (unhide HR7).2.2.1
          have H17 := hide (unhide HR7).2.2.2
          clear HR7 z zx r0 x0 hz0 hz1 hrw HS5 HK5 HB05 HB15 HO5
          rcases r with ⟨er, ps⟩ | ⟨⟨x, t2, g2⟩, l1⟩
          · obtain ⟨rfl, rfl, hne⟩ := unhide HU
            have hne' : ((er : Int) != 0) = true := by simpa using hne
            have HNE := hide hne
            clear hne
            have HF := hide (show Parl.items 5 tests goals (L.drop i) = .inl (er, ps) by rw [unhide HTOT, Parl.items_err (unhide HI)]; rfl)
            refine (is_any _ rb tb cap s L j2 _ _ _ (unhide HS7)).mono ?_
            rintro e wn ⟨rfl, m, rfl⟩
            simp only [ByteArray.toList_mk]
            have HSe := hide ((unhide HS7).draws m)
            have HKe := hide ((unhide HK7).drewN m)
            have c2e := (unhide HS7).c2
            have hre := (unhide HS7).hlt
            cases hc : Parl.sees (L.drop j2) [44]
            · have y0 := blkA' (unhide H07)
              have y1 := blkA' (unhide H17)
              have y1x := blkX' (unhide H17)
              have hv0 := blk_lt' (unhide H07)
              have hv1 := blk_lt' (unhide H17)
              go_wp2_with fail
              go_big_region
              go_wp2_with fail
              refine bodyPost_ret (v := .tuple #[.slice (some ⟨g', 0, none⟩) (n + 1) cap', .agg #[.bool false, .bool true]]) (by simp [results, Tryz.results152, go_sem, y1]) rfl ?_
              rw [unhide HF]
              have RQ := fun W => OnB.c2 (w.heap.size + 1) W (.bool false) (.bool true)
              exact ⟨some ⟨g', 0, none⟩, n + 1, cap', false, true, j2, _, _, rfl, ((unhide HSe).onb (RQ _) (by omega) (by omega)).below (Below.refl _ _).drew, ((unhide HKe).onb (RQ _) (by omega)).drew, ⟨rfl, rfl, unhide HNE⟩, trivial, trivial⟩
            · have y0 := blkA' (unhide H07)
              have y1 := blkA' (unhide H17)
              have y1x := blkX' (unhide H17)
              have hv0 := blk_lt' (unhide H07)
              have hv1 := blk_lt' (unhide H17)
              go_wp2_with fail
              go_big_region
              go_wp2_with fail
              refine bodyPost_ret (v := .tuple #[.slice (some ⟨g', 0, none⟩) (n + 1) cap', .agg #[.bool false, .bool true]]) (by simp [results, Tryz.results152, go_sem, y1]) rfl ?_
              rw [unhide HF]
              have RQ := fun W => OnB.c2 (w.heap.size + 1) W (.bool false) (.bool true)
              exact ⟨some ⟨g', 0, none⟩, n + 1, cap', false, true, j2, _, _, rfl, ((unhide HSe).onb (RQ _) (by omega) (by omega)).below (Below.refl _ _).drew, ((unhide HKe).onb (RQ _) (by omega)).drew, ⟨rfl, rfl, unhide HNE⟩, trivial, trivial⟩
          · obtain ⟨rfl, rfl, hl1⟩ := unhide HU
            obtain ⟨ht2, hg2⟩ := unhide HW
            subst hl1 ht2 hg2
            have HROW7 := hide (((unhide HROW5).snoc (v := ⟨a, b, c, op, sg⟩) (unhide HVW)).keep (unhide HKT))
            have hnn : ¬ (false = false ∧ true = false) := by simp
            refine (is_any _ rb tb cap s L j2 0 _ _ (unhide HS7)).mono ?_
            rintro e wn ⟨rfl, m, rfl⟩
            simp only [ByteArray.toList_mk]
            have HSe := hide ((unhide HS7).draws m)
            have HKe := hide ((unhide HK7).drewN m)
            have H0e := hide (show (w7.drewN m).heap[w.heap.size]? = _ from unhide H07)
            have H1e := hide (show (w7.drewN m).heap[w.heap.size + 1]? = _ from unhide H17)
            have HOe := hide (own_kb (unhide HOWN7) ((KB.refl [rb] w7).drewN m) (by simp; omega))
            have c2e := (unhide HS7).c2
            have hre := (unhide HS7).hlt
            cases hc : Parl.sees (L.drop j2) [44]
            · have HF := hide (show Parl.items 5 tests goals (L.drop i) = .inr ((ys ++ [x], false, true), L.drop j2) by rw [unhide HTOT, Parl.items_end (unhide HI) hnn hc]; rfl)
              have y0 := blkA' (unhide H07)
              have y1 := blkA' (unhide H17)
              have y1x := blkX' (unhide H17)
              have hv0 := blk_lt' (unhide H07)
              have hv1 := blk_lt' (unhide H17)
              go_wp2_with fail
              go_big_region
              go_wp2_with fail
              refine bodyPost_ret (v := .tuple #[.slice (some ⟨g', 0, none⟩) (n + 1) cap', .agg #[.bool false, .bool true]]) (by simp [results, Tryz.results152, go_sem, y1]) rfl ?_
              rw [unhide HF]
              have RQ := fun W => OnB.c2 (w.heap.size + 1) W (.bool false) (.bool true)
              exact ⟨some ⟨g', 0, none⟩, n + 1, cap', false, true, j2, 0, _, rfl, ((unhide HSe).onb (RQ _) (by omega) (by omega)).below (Below.refl _ _).drew, ((unhide HKe).onb (RQ _) (by omega)).drew, ⟨rfl, rfl, rfl⟩, ⟨rfl, rfl⟩, (ItemsB.of_row (unhide HROW7) (unhide HOWN7)).keep (fun g cs h q => KeepT.onb (w := w7.drewN m) (unhide H17) (RQ _) (by decide) g cs h q) (fun g cs h q => KeepI.onb (w := w7.drewN m) (unhide H17) (RQ _) (by decide) g cs h q)⟩
            · by_cases hfull : n = 5
              · subst hfull
                have HF := hide (show Parl.items 5 tests goals (L.drop i) = .inl (3, (Parl.hd (L.drop j2)).pos) by rw [unhide HTOT, show 5 - 5 = 0 from rfl, Parl.items_full (unhide HI) hnn hc]; rfl)
                go_wp2_with fail
                refine (bad_first _ rb tb cap s L j2 _ 3 (unhide HSe)).mono ?_
                rintro e wa ⟨rfl, hsa, hka⟩
                have HSa := hide hsa
                have HKa := hide hka
                clear hsa hka
                go_wp2_with fail
                refine (pass_any _ rb tb cap s L _ _ ⟨j2, unhide HSa⟩).mono ?_
                rintro e wb ⟨rfl, ⟨jb, hsb⟩, hkb⟩
                have HSb := hide hsb
                have HKb := hide ((unhide HKa).trans hkb)
                clear hsb hkb
                go_wp2_with fail
                go_roundg (gk - 1)
                case measure => omega
                case rel => exact ⟨6, _, false, true, jb, 3, _, unhide HSb, (unhide HKe).trans (unhide HKb), blk_kb (unhide HKb) (unhide H0e) (by simp; omega), blk_kb (unhide HKb) (unhide H1e) (by simp; omega), own_kb (unhide HOe) (unhide HKb) (by simp; omega), by omega, by omega, Or.inr ⟨by omega, 3, _, rfl, rfl, unhide HF⟩⟩
              · have hn' : (((n : Int) + 1) == 6) = false := by simp; omega
                have hkj := hide (show (Parl.hd (L.drop j2)).kind ≠ 0 by rw [Parl.sees_kind hc]; omega)
                have HF := hide (show Parl.items 5 tests goals (L.drop i) = Parl.preI (ys ++ [x]) (Parl.items (5 - (n + 1)) false true (L.drop (j2 + 1))) by rw [unhide HTOT, show 5 - n = (5 - (n + 1)) + 1 by omega, Parl.items_more (unhide HI) hnn hc, Parl.preI_preI]; simp)
                go_wp2_with fail
                refine (pass_on _ rb tb cap s L j2 _ _ (unhide HSe) (unhide hkj)).mono ?_
                rintro e wb ⟨rfl, hsb, hkb⟩
                have HSb := hide hsb
                have HKb := hide hkb
                clear hsb hkb
                go_wp2_with fail
                go_roundg (gk - 1)
                case measure => omega
                case rel => exact ⟨n + 1, _, false, true, j2 + 1, 0, _, unhide HSb, (unhide HKe).trans (unhide HKb), blk_kb (unhide HKb) (unhide H0e) (by simp; omega), blk_kb (unhide HKb) (unhide H1e) (by simp; omega), own_kb (unhide HOe) (unhide HKb) (by simp; omega), by omega, by omega, Or.inl ⟨rfl, rfl, by omega, _, unhide HF, (unhide HROW7).keep (fun g cs h q => KeepT.kbs (unhide HSe) (unhide HKb) g cs h q)⟩⟩
      · have r0 := blkA' (unhide HB05)
        have x0 := blkX' (unhide HB05)
        have hz0 := blk_lt' (unhide HB05)
        have hz1 := blk_lt' (unhide HB15)
        have hrw := (unhide HS5).hlt
        go_wp2_with (first | (at_builtin; go_must (refine wpList_append_own _ rfl (.tmp 17) (.tmp 19) 110 rfl (w.heap.size + 2) 173 ti (.agg #[.string ⟨#[]⟩, .string ⟨#[]⟩, .int .i64 0, .string ⟨#[]⟩, .int .i64 0, .slice none 0 0, .int .i64 0, .string ⟨#[]⟩, .int .i64 0, .slice none 0 0, .int .i64 0, .string ⟨#[]⟩, .int .i64 0, .slice none 0 0]) 14 200 Tryz.underlying110 hi hz0' hz1' hz2' rfl (by decide) _ n xs rfl ((((own_c2 (.bool true) (.bool g1) (unhide HO5)).alloc _).alloc _).alloc _) ⟨w5.heap.size + 1 + 1, 0, none⟩ 1 1 [.string op, .string sg, .int .i64 a.k, .string a.nm, .int .i64 a.num, .slice a.ao a.n a.cap, .int .i64 b.k, .string b.nm, .int .i64 b.num, .slice b.ao b.n b.cap, .int .i64 c.k, .string c.nm, .int .i64 c.num, .slice c.ao c.n c.cap] rfl rfl (newL _ _ _ _ _ (by simp) rfl) (one14 a b c op sg) (by unfold maxLen; omega) (by omega) (by simp; omega) ?_); go_must (intro v' w7 hown' hgrow _; have HOWN7 := hide hown'; have HKT := hide (li_keep (.bool true) (.bool g1) (unhide HB05) ((((own_c2 (.bool true) (.bool g1) (unhide HO5)).alloc _).alloc _).alloc _) hgrow); have HR7 := hide (li_mk (.bool true) (.bool g1) (unhide HS5) (unhide HK5) hlt htl (unhide HB05) (unhide HB15) (unhide HO5) hgrow hown'); have z := blkA' (unhide HR7).2.2.1; have zx := blkX' (unhide HR7).2.2.1; obtain ⟨g', cap', hv, hcm⟩ := ownB_some hown'; rw [hv] at HOWN7 ⊢; clear hown' hgrow hv)))
        have HS7 := hide (unhide HR7).1
        have HK7 := hide (unhide HR7).2.1
        have H07 := hide (unhide HR7).2.2.1
        have H17 := hide (unhide HR7).2.2.2
        clear HR7 z zx r0 x0 hz0 hz1 hrw HS5 HK5 HB05 HB15 HO5
        rcases r with ⟨er, ps⟩ | ⟨⟨x, t2, g2⟩, l1⟩
        · obtain ⟨rfl, rfl, hne⟩ := unhide HU
          have hne' : ((er : Int) != 0) = true := by simpa using hne
          have HNE := hide hne
          clear hne
          have HF := hide (show Parl.items 5 tests goals (L.drop i) = .inl (er, ps) by rw [unhide HTOT, Parl.items_err (unhide HI)]; rfl)
          refine (is_any _ rb tb cap s L j2 _ _ _ (unhide HS7)).mono ?_
          rintro e wn ⟨rfl, m, rfl⟩
          simp only [ByteArray.toList_mk]
          have HSe := hide ((unhide HS7).draws m)
          have HKe := hide ((unhide HK7).drewN m)
          have c2e := (unhide HS7).c2
          have hre := (unhide HS7).hlt
          cases hc : Parl.sees (L.drop j2) [44]
          · have y0 := blkA' (unhide H07)
            have y1 := blkA' (unhide H17)
            have y1x := blkX' (unhide H17)
            have hv0 := blk_lt' (unhide H07)
            have hv1 := blk_lt' (unhide H17)
            go_wp2_with fail
            go_big_region
            go_wp2_with fail
            refine bodyPost_ret (v := .tuple #[.slice (some ⟨g', 0, none⟩) (n + 1) cap', .agg #[.bool true, .bool g1]]) (by simp [results, Tryz.results152, go_sem, y1]) rfl ?_
            rw [unhide HF]
            have RQ := fun W => OnB.c2 (w.heap.size + 1) W (.bool true) (.bool g1)
            exact ⟨some ⟨g', 0, none⟩, n + 1, cap', true, g1, j2, _, _, rfl, ((unhide HSe).onb (RQ _) (by omega) (by omega)).below (Below.refl _ _).drew, ((unhide HKe).onb (RQ _) (by omega)).drew, ⟨rfl, rfl, unhide HNE⟩, trivial, trivial⟩
          · have y0 := blkA' (unhide H07)
            have y1 := blkA' (unhide H17)
            have y1x := blkX' (unhide H17)
            have hv0 := blk_lt' (unhide H07)
            have hv1 := blk_lt' (unhide H17)
            go_wp2_with fail
            go_big_region
            go_wp2_with fail
            refine bodyPost_ret (v := .tuple #[.slice (some ⟨g', 0, none⟩) (n + 1) cap', .agg #[.bool true, .bool g1]]) (by simp [results, Tryz.results152, go_sem, y1]) rfl ?_
            rw [unhide HF]
            have RQ := fun W => OnB.c2 (w.heap.size + 1) W (.bool true) (.bool g1)
            exact ⟨some ⟨g', 0, none⟩, n + 1, cap', true, g1, j2, _, _, rfl, ((unhide HSe).onb (RQ _) (by omega) (by omega)).below (Below.refl _ _).drew, ((unhide HKe).onb (RQ _) (by omega)).drew, ⟨rfl, rfl, unhide HNE⟩, trivial, trivial⟩
        · obtain ⟨rfl, rfl, hl1⟩ := unhide HU
          obtain ⟨ht2, hg2⟩ := unhide HW
          subst hl1 ht2 hg2
          have HROW7 := hide (((unhide HROW5).snoc (v := ⟨a, b, c, op, sg⟩) (unhide HVW)).keep (unhide HKT))
          have hnn : ¬ (true = false ∧ g1 = false) := by simp
          refine (is_any _ rb tb cap s L j2 0 _ _ (unhide HS7)).mono ?_
          rintro e wn ⟨rfl, m, rfl⟩
          simp only [ByteArray.toList_mk]
          have HSe := hide ((unhide HS7).draws m)
          have HKe := hide ((unhide HK7).drewN m)
          have H0e := hide (show (w7.drewN m).heap[w.heap.size]? = _ from unhide H07)
          have H1e := hide (show (w7.drewN m).heap[w.heap.size + 1]? = _ from unhide H17)
          have HOe := hide (own_kb (unhide HOWN7) ((KB.refl [rb] w7).drewN m) (by simp; omega))
          have c2e := (unhide HS7).c2
          have hre := (unhide HS7).hlt
          cases hc : Parl.sees (L.drop j2) [44]
          · have HF := hide (show Parl.items 5 tests goals (L.drop i) = .inr ((ys ++ [x], true, g1), L.drop j2) by rw [unhide HTOT, Parl.items_end (unhide HI) hnn hc]; rfl)
            have y0 := blkA' (unhide H07)
            have y1 := blkA' (unhide H17)
            have y1x := blkX' (unhide H17)
            have hv0 := blk_lt' (unhide H07)
            have hv1 := blk_lt' (unhide H17)
            go_wp2_with fail
            go_big_region
            go_wp2_with fail
            refine bodyPost_ret (v := .tuple #[.slice (some ⟨g', 0, none⟩) (n + 1) cap', .agg #[.bool true, .bool g1]]) (by simp [results, Tryz.results152, go_sem, y1]) rfl ?_
            rw [unhide HF]
            have RQ := fun W => OnB.c2 (w.heap.size + 1) W (.bool true) (.bool g1)
            exact ⟨some ⟨g', 0, none⟩, n + 1, cap', true, g1, j2, 0, _, rfl, ((unhide HSe).onb (RQ _) (by omega) (by omega)).below (Below.refl _ _).drew, ((unhide HKe).onb (RQ _) (by omega)).drew, ⟨rfl, rfl, rfl⟩, ⟨rfl, rfl⟩, (ItemsB.of_row (unhide HROW7) (unhide HOWN7)).keep (fun g cs h q => KeepT.onb (w := w7.drewN m) (unhide H17) (RQ _) (by decide) g cs h q) (fun g cs h q => KeepI.onb (w := w7.drewN m) (unhide H17) (RQ _) (by decide) g cs h q)⟩
          · by_cases hfull : n = 5
            · subst hfull
              have HF := hide (show Parl.items 5 tests goals (L.drop i) = .inl (3, (Parl.hd (L.drop j2)).pos) by rw [unhide HTOT, show 5 - 5 = 0 from rfl, Parl.items_full (unhide HI) hnn hc]; rfl)
              go_wp2_with fail
              refine (bad_first _ rb tb cap s L j2 _ 3 (unhide HSe)).mono ?_
              rintro e wa ⟨rfl, hsa, hka⟩
              have HSa := hide hsa
              have HKa := hide hka
              clear hsa hka
              go_wp2_with fail
              refine (pass_any _ rb tb cap s L _ _ ⟨j2, unhide HSa⟩).mono ?_
              rintro e wb ⟨rfl, ⟨jb, hsb⟩, hkb⟩
              have HSb := hide hsb
              have HKb := hide ((unhide HKa).trans hkb)
              clear hsb hkb
              go_wp2_with fail
              go_roundg (gk - 1)
              case measure => omega
              case rel => exact ⟨6, _, true, g1, jb, 3, _, unhide HSb, (unhide HKe).trans (unhide HKb), blk_kb (unhide HKb) (unhide H0e) (by simp; omega), blk_kb (unhide HKb) (unhide H1e) (by simp; omega), own_kb (unhide HOe) (unhide HKb) (by simp; omega), by omega, by omega, Or.inr ⟨by omega, 3, _, rfl, rfl, unhide HF⟩⟩
            · have hn' : (((n : Int) + 1) == 6) = false := by simp; omega
              have hkj := hide (show (Parl.hd (L.drop j2)).kind ≠ 0 by rw [Parl.sees_kind hc]; omega)
              have HF := hide (show Parl.items 5 tests goals (L.drop i) = Parl.preI (ys ++ [x]) (Parl.items (5 - (n + 1)) true g1 (L.drop (j2 + 1))) by rw [unhide HTOT, show 5 - n = (5 - (n + 1)) + 1 by omega, Parl.items_more (unhide HI) hnn hc, Parl.preI_preI]; simp)
              go_wp2_with fail
              refine (pass_on _ rb tb cap s L j2 _ _ (unhide HSe) (unhide hkj)).mono ?_
              rintro e wb ⟨rfl, hsb, hkb⟩
              have HSb := hide hsb
              have HKb := hide hkb
              clear hsb hkb
              go_wp2_with fail
              go_roundg (gk - 1)
              case measure => omega
              case rel => exact ⟨n + 1, _, true, g1, j2 + 1, 0, _, unhide HSb, (unhide HKe).trans (unhide HKb), blk_kb (unhide HKb) (unhide H0e) (by simp; omega), blk_kb (unhide HKb) (unhide H1e) (by simp; omega), own_kb (unhide HOe) (unhide HKb) (by simp; omega), by omega, by omega, Or.inl ⟨rfl, rfl, by omega, _, unhide HF, (unhide HROW7).keep (fun g cs h q => KeepT.kbs (unhide HSe) (unhide HKb) g cs h q)⟩⟩
    · have HTOT := hide htot
      have HNE := hide hne
      have HE := hide he
      have HP := hide hp
      have hne' : (e1 != 0) = true := by simpa using hne
      clear htot hne he hp
      go_wp2_with fail
      refine (itB_err _ rb tb cap s L j e1 p1 t g (unhide HS) (unhide HNE)).mono ?_
      rintro e w5 ⟨a, b, c, op, sg, t1, g1, rfl, ⟨j2, hs5⟩, hk5⟩
      have HS5 := hide hs5
      have HK5 := hide ((unhide HK).trans hk5)
      have HB05 := hide (blk_kb hk5 (unhide HB0) (by simp; omega))
      have HB15 := hide (blk_kb hk5 (unhide HB1) (by simp; omega))
      have HO5 := hide (own_kb (unhide HO) hk5 (by simp; omega))
      clear hs5 hk5 r0 hrw HS HK HB0 HB1 HO
      cases t1
      · cases g1
        · have r0 := blkA' (unhide HB05)
          have x0 := blkX' (unhide HB05)
          have hz0 := blk_lt' (unhide HB05)
          have hz1 := blk_lt' (unhide HB15)
          have hrw := (unhide HS5).hlt
          go_wp2_with (first | (at_builtin; go_must (refine wpList_append_own _ rfl (.tmp 17) (.tmp 19) 110 rfl (w.heap.size + 2) 173 ti (.agg #[.string ⟨#[]⟩, .string ⟨#[]⟩, .int .i64 0, .string ⟨#[]⟩, .int .i64 0, .slice none 0 0, .int .i64 0, .string ⟨#[]⟩, .int .i64 0, .slice none 0 0, .int .i64 0, .string ⟨#[]⟩, .int .i64 0, .slice none 0 0]) 14 200 Tryz.underlying110 hi hz0' hz1' hz2' rfl (by decide) _ n xs rfl ((((own_c2 (.bool false) (.bool false) (unhide HO5)).alloc _).alloc _).alloc _) ⟨w5.heap.size + 1 + 1, 0, none⟩ 1 1 [.string op, .string sg, .int .i64 a.k, .string a.nm, .int .i64 a.num, .slice a.ao a.n a.cap, .int .i64 b.k, .string b.nm, .int .i64 b.num, .slice b.ao b.n b.cap, .int .i64 c.k, .string c.nm, .int .i64 c.num, .slice c.ao c.n c.cap] rfl rfl (newL _ _ _ _ _ (by simp) rfl) (one14 a b c op sg) (by unfold maxLen; omega) (by omega) (by simp; omega) ?_); go_must (intro v' w7 hown' hgrow _; have HOWN7 := hide hown'; have HKT := hide (li_keep (.bool false) (.bool false) (unhide HB05) ((((own_c2 (.bool false) (.bool false) (unhide HO5)).alloc _).alloc _).alloc _) hgrow); have HR7 := hide (li_mk (.bool false) (.bool false) (unhide HS5) (unhide HK5) hlt htl (unhide HB05) (unhide HB15) (unhide HO5) hgrow hown'); have z := blkA' (unhide HR7).2.2.1; have zx := blkX' (unhide HR7).2.2.1; obtain ⟨g', cap', hv, hcm⟩ := ownB_some hown'; rw [hv] at HOWN7 ⊢; clear hown' hgrow hv)))
          have HS7 := hide (unhide HR7).1
          have HK7 := hide (unhide HR7).2.1
          have H07 := hide (unhide HR7).2.2.1
          have H17 := hide (unhide HR7).2.2.2
          clear HR7 z zx r0 x0 hz0 hz1 hrw HS5 HK5 HB05 HB15 HO5
          have HF := HTOT
          refine (bad_later _ rb tb cap s L j2 _ _ 2 (unhide HS7) (unhide HNE)).mono ?_
          rintro e w8 ⟨rfl, rfl⟩
          go_wp2_with fail
          refine (is_any _ rb tb cap s L j2 _ _ _ (unhide HS7)).mono ?_
          rintro e wn ⟨rfl, m, rfl⟩
          simp only [ByteArray.toList_mk]
          have HSe := hide ((unhide HS7).draws m)
          have HKe := hide ((unhide HK7).drewN m)
          have c2e := (unhide HS7).c2
          have hre := (unhide HS7).hlt
          cases hc : Parl.sees (L.drop j2) [44]
          · have y0 := blkA' (unhide H07)
            have y1 := blkA' (unhide H17)
            have y1x := blkX' (unhide H17)
            have hv0 := blk_lt' (unhide H07)
            have hv1 := blk_lt' (unhide H17)
            go_wp2_with fail
            go_big_region
            go_wp2_with fail
            refine bodyPost_ret (v := .tuple #[.slice (some ⟨g', 0, none⟩) (n + 1) cap', .agg #[.bool false, .bool false]]) (by simp [results, Tryz.results152, go_sem, y1]) rfl ?_
            rw [unhide HF]
            have RQ := fun W => OnB.c2 (w.heap.size + 1) W (.bool false) (.bool false)
            exact ⟨some ⟨g', 0, none⟩, n + 1, cap', false, false, j2, _, _, rfl, ((unhide HSe).onb (RQ _) (by omega) (by omega)).below (Below.refl _ _).drew, ((unhide HKe).onb (RQ _) (by omega)).drew, ⟨unhide HE, unhide HP, unhide HNE⟩, trivial, trivial⟩
          · have y0 := blkA' (unhide H07)
            have y1 := blkA' (unhide H17)
            have y1x := blkX' (unhide H17)
            have hv0 := blk_lt' (unhide H07)
            have hv1 := blk_lt' (unhide H17)
            go_wp2_with fail
            go_big_region
            go_wp2_with fail
            refine bodyPost_ret (v := .tuple #[.slice (some ⟨g', 0, none⟩) (n + 1) cap', .agg #[.bool false, .bool false]]) (by simp [results, Tryz.results152, go_sem, y1]) rfl ?_
            rw [unhide HF]
            have RQ := fun W => OnB.c2 (w.heap.size + 1) W (.bool false) (.bool false)
            exact ⟨some ⟨g', 0, none⟩, n + 1, cap', false, false, j2, _, _, rfl, ((unhide HSe).onb (RQ _) (by omega) (by omega)).below (Below.refl _ _).drew, ((unhide HKe).onb (RQ _) (by omega)).drew, ⟨unhide HE, unhide HP, unhide HNE⟩, trivial, trivial⟩
        · have r0 := blkA' (unhide HB05)
          have x0 := blkX' (unhide HB05)
          have hz0 := blk_lt' (unhide HB05)
          have hz1 := blk_lt' (unhide HB15)
          have hrw := (unhide HS5).hlt
          go_wp2_with (first | (at_builtin; go_must (refine wpList_append_own _ rfl (.tmp 17) (.tmp 19) 110 rfl (w.heap.size + 2) 173 ti (.agg #[.string ⟨#[]⟩, .string ⟨#[]⟩, .int .i64 0, .string ⟨#[]⟩, .int .i64 0, .slice none 0 0, .int .i64 0, .string ⟨#[]⟩, .int .i64 0, .slice none 0 0, .int .i64 0, .string ⟨#[]⟩, .int .i64 0, .slice none 0 0]) 14 200 Tryz.underlying110 hi hz0' hz1' hz2' rfl (by decide) _ n xs rfl ((((own_c2 (.bool false) (.bool true) (unhide HO5)).alloc _).alloc _).alloc _) ⟨w5.heap.size + 1 + 1, 0, none⟩ 1 1 [.string op, .string sg, .int .i64 a.k, .string a.nm, .int .i64 a.num, .slice a.ao a.n a.cap, .int .i64 b.k, .string b.nm, .int .i64 b.num, .slice b.ao b.n b.cap, .int .i64 c.k, .string c.nm, .int .i64 c.num, .slice c.ao c.n c.cap] rfl rfl (newL _ _ _ _ _ (by simp) rfl) (one14 a b c op sg) (by unfold maxLen; omega) (by omega) (by simp; omega) ?_); go_must (intro v' w7 hown' hgrow _; have HOWN7 := hide hown'; have HKT := hide (li_keep (.bool false) (.bool true) (unhide HB05) ((((own_c2 (.bool false) (.bool true) (unhide HO5)).alloc _).alloc _).alloc _) hgrow); have HR7 := hide (li_mk (.bool false) (.bool true) (unhide HS5) (unhide HK5) hlt htl (unhide HB05) (unhide HB15) (unhide HO5) hgrow hown'); have z := blkA' (unhide HR7).2.2.1; have zx := blkX' (unhide HR7).2.2.1; obtain ⟨g', cap', hv, hcm⟩ := ownB_some hown'; rw [hv] at HOWN7 ⊢; clear hown' hgrow hv)))
          have HS7 := hide (unhide HR7).1
          have HK7 := hide (unhide HR7).2.1
          have H07 := hide (unhide HR7).2.2.1
          have H17 := hide (unhide HR7).2.2.2
          clear HR7 z zx r0 x0 hz0 hz1 hrw HS5 HK5 HB05 HB15 HO5
          have HF := HTOT
          refine (is_any _ rb tb cap s L j2 _ _ _ (unhide HS7)).mono ?_
          rintro e wn ⟨rfl, m, rfl⟩
          simp only [ByteArray.toList_mk]
          have HSe := hide ((unhide HS7).draws m)
          have HKe := hide ((unhide HK7).drewN m)
          have c2e := (unhide HS7).c2
          have hre := (unhide HS7).hlt
          cases hc : Parl.sees (L.drop j2) [44]
          · have y0 := blkA' (unhide H07)
            have y1 := blkA' (unhide H17)
            have y1x := blkX' (unhide H17)
            have hv0 := blk_lt' (unhide H07)
            have hv1 := blk_lt' (unhide H17)
            go_wp2_with fail
            go_big_region
            go_wp2_with fail
            refine bodyPost_ret (v := .tuple #[.slice (some ⟨g', 0, none⟩) (n + 1) cap', .agg #[.bool false, .bool true]]) (by simp [results, Tryz.results152, go_sem, y1]) rfl ?_
            rw [unhide HF]
            have RQ := fun W => OnB.c2 (w.heap.size + 1) W (.bool false) (.bool true)
            exact ⟨some ⟨g', 0, none⟩, n + 1, cap', false, true, j2, _, _, rfl, ((unhide HSe).onb (RQ _) (by omega) (by omega)).below (Below.refl _ _).drew, ((unhide HKe).onb (RQ _) (by omega)).drew, ⟨unhide HE, unhide HP, unhide HNE⟩, trivial, trivial⟩
          · have y0 := blkA' (unhide H07)
            have y1 := blkA' (unhide H17)
            have y1x := blkX' (unhide H17)
            have hv0 := blk_lt' (unhide H07)
            have hv1 := blk_lt' (unhide H17)
            go_wp2_with fail
            go_big_region
            go_wp2_with fail
            refine bodyPost_ret (v := .tuple #[.slice (some ⟨g', 0, none⟩) (n + 1) cap', .agg #[.bool false, .bool true]]) (by simp [results, Tryz.results152, go_sem, y1]) rfl ?_
            rw [unhide HF]
            have RQ := fun W => OnB.c2 (w.heap.size + 1) W (.bool false) (.bool true)
            exact ⟨some ⟨g', 0, none⟩, n + 1, cap', false, true, j2, _, _, rfl, ((unhide HSe).onb (RQ _) (by omega) (by omega)).below (Below.refl _ _).drew, ((unhide HKe).onb (RQ _) (by omega)).drew, ⟨unhide HE, unhide HP, unhide HNE⟩, trivial, trivial⟩
      · have r0 := blkA' (unhide HB05)
        have x0 := blkX' (unhide HB05)
        have hz0 := blk_lt' (unhide HB05)
        have hz1 := blk_lt' (unhide HB15)
        have hrw := (unhide HS5).hlt
        go_wp2_with (first | (at_builtin; go_must (refine wpList_append_own _ rfl (.tmp 17) (.tmp 19) 110 rfl (w.heap.size + 2) 173 ti (.agg #[.string ⟨#[]⟩, .string ⟨#[]⟩, .int .i64 0, .string ⟨#[]⟩, .int .i64 0, .slice none 0 0, .int .i64 0, .string ⟨#[]⟩, .int .i64 0, .slice none 0 0, .int .i64 0, .string ⟨#[]⟩, .int .i64 0, .slice none 0 0]) 14 200 Tryz.underlying110 hi hz0' hz1' hz2' rfl (by decide) _ n xs rfl ((((own_c2 (.bool true) (.bool g1) (unhide HO5)).alloc _).alloc _).alloc _) ⟨w5.heap.size + 1 + 1, 0, none⟩ 1 1 [.string op, .string sg, .int .i64 a.k, .string a.nm, .int .i64 a.num, .slice a.ao a.n a.cap, .int .i64 b.k, .string b.nm, .int .i64 b.num, .slice b.ao b.n b.cap, .int .i64 c.k, .string c.nm, .int .i64 c.num, .slice c.ao c.n c.cap] rfl rfl (newL _ _ _ _ _ (by simp) rfl) (one14 a b c op sg) (by unfold maxLen; omega) (by omega) (by simp; omega) ?_); go_must (intro v' w7 hown' hgrow _; have HOWN7 := hide hown'; have HKT := hide (li_keep (.bool true) (.bool g1) (unhide HB05) ((((own_c2 (.bool true) (.bool g1) (unhide HO5)).alloc _).alloc _).alloc _) hgrow); have HR7 := hide (li_mk (.bool true) (.bool g1) (unhide HS5) (unhide HK5) hlt htl (unhide HB05) (unhide HB15) (unhide HO5) hgrow hown'); have z := blkA' (unhide HR7).2.2.1; have zx := blkX' (unhide HR7).2.2.1; obtain ⟨g', cap', hv, hcm⟩ := ownB_some hown'; rw [hv] at HOWN7 ⊢; clear hown' hgrow hv)))
        have HS7 := hide (unhide HR7).1
        have HK7 := hide (unhide HR7).2.1
        have H07 := hide (unhide HR7).2.2.1
        have H17 := hide (unhide HR7).2.2.2
        clear HR7 z zx r0 x0 hz0 hz1 hrw HS5 HK5 HB05 HB15 HO5
        have HF := HTOT
        refine (is_any _ rb tb cap s L j2 _ _ _ (unhide HS7)).mono ?_
        rintro e wn ⟨rfl, m, rfl⟩
        simp only [ByteArray.toList_mk]
        have HSe := hide ((unhide HS7).draws m)
        have HKe := hide ((unhide HK7).drewN m)
        have c2e := (unhide HS7).c2
        have hre := (unhide HS7).hlt
        cases hc : Parl.sees (L.drop j2) [44]
        · have y0 := blkA' (unhide H07)
          have y1 := blkA' (unhide H17)
          have y1x := blkX' (unhide H17)
          have hv0 := blk_lt' (unhide H07)
          have hv1 := blk_lt' (unhide H17)
          go_wp2_with fail
          go_big_region
          go_wp2_with fail
          refine bodyPost_ret (v := .tuple #[.slice (some ⟨g', 0, none⟩) (n + 1) cap', .agg #[.bool true, .bool g1]]) (by simp [results, Tryz.results152, go_sem, y1]) rfl ?_
          rw [unhide HF]
          have RQ := fun W => OnB.c2 (w.heap.size + 1) W (.bool true) (.bool g1)
          exact ⟨some ⟨g', 0, none⟩, n + 1, cap', true, g1, j2, _, _, rfl, ((unhide HSe).onb (RQ _) (by omega) (by omega)).below (Below.refl _ _).drew, ((unhide HKe).onb (RQ _) (by omega)).drew, ⟨unhide HE, unhide HP, unhide HNE⟩, trivial, trivial⟩
        · have y0 := blkA' (unhide H07)
          have y1 := blkA' (unhide H17)
          have y1x := blkX' (unhide H17)
          have hv0 := blk_lt' (unhide H07)
          have hv1 := blk_lt' (unhide H17)
          go_wp2_with fail
          go_big_region
          go_wp2_with fail
          refine bodyPost_ret (v := .tuple #[.slice (some ⟨g', 0, none⟩) (n + 1) cap', .agg #[.bool true, .bool g1]]) (by simp [results, Tryz.results152, go_sem, y1]) rfl ?_
          rw [unhide HF]
          have RQ := fun W => OnB.c2 (w.heap.size + 1) W (.bool true) (.bool g1)
          exact ⟨some ⟨g', 0, none⟩, n + 1, cap', true, g1, j2, _, _, rfl, ((unhide HSe).onb (RQ _) (by omega) (by omega)).below (Below.refl _ _).drew, ((unhide HKe).onb (RQ _) (by omega)).drew, ⟨unhide HE, unhide HP, unhide HNE⟩, trivial, trivial⟩
end Go.Proofs.YthfjnfcekeknlaaGreatDoor
namespace Go.Proofs.YthfjnfcekeknlaaGreatDoor
open Go.RowKit

theorem KeepT.draws (w : World) (m : Nat) : KeepT w (w.drewN m) := fun _ _ h _ => h
theorem KeepI.draws (w : World) (m : Nat) : KeepI w (w.drewN m) := fun _ _ h _ => h
/-- A clause lies there. -/
def ClauseB (w : World) (a : BV) (o1 : Option Addr) (n1 : Nat) (o2 : Option Addr) (n2 : Nat) (c : Parl.Cls) : Prop := VB anyB w a c.head ∧ ItemsB w o1 n1 c.tests ∧ ItemsB w o2 n2 c.goals
def ValC (w' : World) (r : Parl.Res Parl.Cls) (a : BV) (o1 : Option Addr) (n1 : Nat) (o2 : Option Addr) (n2 : Nat) : Prop := match r with
  | .inl _ => True
  | .inr (c, _) => ClauseB w' a o1 n1 o2 n2 c
/-- What 'clause' leaves there. -/
def PUniC (rb tb cap : Nat) (s : ByteArray) (L : List Parl.Tok) (p0 : Int) (r : Parl.Res Parl.Cls) (w : World) (e : Ending) (w' : World) : Prop :=
  ∃ (a : BV) (o1 : Option Addr) (n1 c1 : Nat) (o2 : Option Addr) (n2 c2 : Nat) (j : Nat) (e1 p1 : Int), e = .returned (.agg #[.int .i64 a.k, .string a.nm, .int .i64 a.num, .slice a.ao a.n a.cap, .slice o1 n1 c1, .slice o2 n2 c2]) ∧ SB w' rb tb cap s L j e1 p1 ∧ KB [rb] w w' ∧ UniR L p0 r j e1 p1 ∧ ValC w' r a o1 n1 o2 n2

theorem OnB.c6 (b : Nat) (w : World) (v0 v1 v2 v3 v4 v5 : Value) : OnB b w ((((((w.setCell ⟨b, 0, none⟩ v0).setCell ⟨b, 1, none⟩ v1).setCell ⟨b, 2, none⟩ v2).setCell ⟨b, 3, none⟩ v3).setCell ⟨b, 4, none⟩ v4).setCell ⟨b, 5, none⟩ v5) :=
  ((((((OnB.refl b w).set 0 v0).set 1 v1).set 2 v2).set 3 v3).set 4 v4).set 5 v5
theorem set6a {w : World} {b : Nat} {T : TypeId} {c0 c1 c2 c3 c4 c5 : Value} (v : Value) (h : w.heap[b]? = some (.cells #[c0, c1, c2, c3, c4, c5] T (0, 0))) :
    (w.setCell ⟨b, 4, none⟩ v).heap[b]? = some (.cells #[c0, c1, c2, c3, v, c5] T (0, 0)) := by
  have := blk_set h 4 v
  simpa using this
theorem set6b {w : World} {b : Nat} {T : TypeId} {c0 c1 c2 c3 c4 c5 : Value} (v : Value) (h : w.heap[b]? = some (.cells #[c0, c1, c2, c3, c4, c5] T (0, 0))) :
    (w.setCell ⟨b, 5, none⟩ v).heap[b]? = some (.cells #[c0, c1, c2, c3, c4, v] T (0, 0)) := by
  have := blk_set h 5 v
  simpa using this

/-- The result's room, and how the reader stands beside it. -/
theorem cl_start {w : World} {rb tb cap : Nat} {s : ByteArray} {L : List Parl.Tok} {i : Nat} {e p : Int} (h : SB w rb tb cap s L i e p) (o : Obj) :
    SB (w.alloc o).drew rb tb cap s L i e p ∧ KB [rb] w (w.alloc o).drew ∧ (w.alloc o).drew.heap[w.heap.size]? = some o :=
  ⟨h.below ((Below.refl _ _).alloc (Nat.le_refl _) _).drew, ((KB.refl [rb] w).alloc _).drew, heap_alloc_new w o⟩
end Go.Proofs.YthfjnfcekeknlaaGreatDoor
