import Derived.Test.YtombbccmeeaimaaGreatDoorP21
import Derived.Test.YtombbccmeeaimaaGreatDoorP22
import Derived.Test.YtombbccmeeaimaaGreatDoorP23
import Derived.Test.YtombbccmeeaimaaGreatDoorP24
import Derived.Test.YtombbccmeeaimaaGreatDoorP25
import Derived.Test.YtombbccmeeaimaaGreatDoorP26
import Derived.Test.YtombbccmeeaimaaGreatDoorP27
import Derived.Test.YtombbccmeeaimaaGreatDoorP28
import Derived.Test.YtombbccmeeaimaaGreatDoorP29
import Derived.Test.YtombbccmeeaimaaGreatDoorP30
import Derived.Test.YtombbccmeeaimaaGreatDoorP31
import Derived.Test.YtombbccmeeaimaaGreatDoorP32
import Derived.Test.YtombbccmeeaimaaGreatDoorP33
import Derived.Deep.LoopGhost
namespace Go.Proofs.YtombbccmeeaimaaGreatDoor
open Go.RowKit

theorem perrW_uni {α : Type} {rb tb cap : Nat} {s : ByteArray} {L : List Parl.Tok} {p0 : Int} {er ps : Nat} {w : World} {e : Ending} {w' : World} (he : er ≠ 0) (h : PErrW rb tb cap s L (er : Int) (ps : Int) w e w') : PUniW (α := α) rb tb cap s L p0 (.inl (er, ps)) w e w' := by
  obtain ⟨a, b, c, op, sg, t1, g1, rfl, ⟨j, hs⟩, hk⟩ := h
  exact ⟨a, b, c, op, sg, t1, g1, j, _, _, rfl, hs, hk, ⟨rfl, rfl, by omega⟩, trivial⟩
theorem term_kind {f : Nat} {l l1 : List Parl.Tok} {t : Parl.Tm} (h : Parl.term f l = .inr (t, l1)) : t.kind = 2 ∨ t.kind = 3 ∨ t.kind = 4 := by
  cases f with
  | zero => rw [Parl.term] at h; split at h <;> cases h
  | succ f =>
    rw [Parl.term] at h
    by_cases hb : Parl.begins (Parl.hd l) = true
    · rw [if_pos hb] at h
      by_cases hc : (Parl.hd l).kind = 4 ∧ 6 < (Parl.hd l).text.size
      · rw [if_pos hc] at h; cases h
      · rw [if_neg hc] at h
        by_cases h2 : (Parl.hd l).kind = 2
        · rw [if_pos h2] at h
          by_cases hs : Parl.sees l.tail [40] = true
          · rw [if_pos hs] at h
            rcases hq : Parl.argsOf (Parl.term f) 2 l.tail.tail with x | ⟨us, l2⟩
            · rw [hq] at h; cases h
            · rw [hq] at h; simp only [Sum.inr.injEq, Prod.mk.injEq] at h; rw [← h.1]; exact Or.inl rfl
          · rw [if_neg hs] at h; simp only [Sum.inr.injEq, Prod.mk.injEq] at h; rw [← h.1]; exact Or.inl rfl
        · rw [if_neg h2] at h
          simp only [Sum.inr.injEq, Prod.mk.injEq] at h
          rw [← h.1]
          simp [Parl.begins, h2] at hb
          exact Or.inr hb
    · rw [if_neg hb] at h; cases h

theorem itB_any (w : World) (rb tb cap : Nat) (s : ByteArray) (L : List Parl.Tok) (i : Nat) (p0 : Int) (tests goals : Bool) (h : SB w rb tb cap s L i 0 p0) :
    Calls Tryz.prog 105 #[.pointer (some ⟨rb, 0, none⟩), .agg #[.bool tests, .bool goals]] w fun e w' => PUniW rb tb cap s L p0 (Parl.item0 tests goals (L.drop i)) w e w' := by
  rcases hT : Parl.term 8 (L.drop i) with ⟨er, ps⟩ | ⟨t, l1⟩
  · rw [Parl.item0_err hT]
    have he : er ≠ 0 := by have := Parl.term_err _ _ _ hT; dsimp only at this; omega
    exact (itB_term w rb tb cap s L i p0 tests goals h er ps hT).mono fun e w' q => perrW_uni he q
  · have hk := term_kind hT
    cases hg : Parl.sees l1 [61]
    · cases h0 : Parl.sees l1 [61, 61]
      · cases h1 : Parl.sees l1 [92, 61]
        · cases h2 : Parl.sees l1 [61, 60]
          · cases h3 : Parl.sees l1 [60]
            · cases hm : Parl.sees l1 [58, 61]
              · by_cases hk2 : t.kind = 2
                · by_cases hin : t.text.toList = [105, 110, 116]
                  · by_cases hone : t.args.length = 1
                    · exact itB_p1 w rb tb cap s L i p0 tests goals h t l1 hT hg hm h0 h1 h2 h3 (by omega) hk2 hin hone
                    · exact itB_p2 w rb tb cap s L i p0 tests goals h t l1 hT hg hm h0 h1 h2 h3 (by omega) hk2 hin hone
                  · exact itB_p0 w rb tb cap s L i p0 tests goals h t l1 hT hg hm h0 h1 h2 h3 (by omega) hk2 hin
                · rw [Parl.item0_plain hT (by simp [Parl.testSign, h0, h1, h2, h3]) hg (by simp [hm]), if_neg hk2]
                  exact (itB_p3 w rb tb cap s L i p0 tests goals h t l1 hT hg hm h0 h1 h2 h3 (by omega) hk2).mono fun e w' q => perrW_uni (er := 2) (by omega) q
              · by_cases hk3 : t.kind = 3
                · cases goals
                  · rw [Parl.item0_set hT hk3 hm, show Parl.wayed false false (Parl.assignment t false l1) = .inl (2, (Parl.hd l1).pos) from rfl]
                    exact (itB_setno w rb tb cap s L i p0 tests false h t l1 hT hk3 hg hm).mono fun e w' q => perrW_uni (er := 2) (by omega) q
                  · exact itB_set w rb tb cap s L i p0 tests true h t l1 hT hk3 hg hm
                · by_cases hk2 : t.kind = 2
                  · by_cases hin : t.text.toList = [105, 110, 116]
                    · by_cases hone : t.args.length = 1
                      · exact itB_q1 w rb tb cap s L i p0 tests goals h t l1 hT hg hm h0 h1 h2 h3 hk3 (by omega) hk2 hin hone
                      · exact itB_q2 w rb tb cap s L i p0 tests goals h t l1 hT hg hm h0 h1 h2 h3 hk3 (by omega) hk2 hin hone
                    · exact itB_q0 w rb tb cap s L i p0 tests goals h t l1 hT hg hm h0 h1 h2 h3 hk3 (by omega) hk2 hin
                  · rw [Parl.item0_plain hT (by simp [Parl.testSign, h0, h1, h2, h3]) hg (by simp [hk3]), if_neg hk2]
                    exact (itB_q3 w rb tb cap s L i p0 tests goals h t l1 hT hg hm h0 h1 h2 h3 hk3 (by omega) hk2).mono fun e w' q => perrW_uni (er := 2) (by omega) q
            · have hm : Parl.sees l1 [58, 61] = false := Parl.sees_one h3 (by simp)
              cases tests
              · rw [Parl.item0_test hT (by simp [Parl.testSign, h3]), show Parl.wayed false false (Parl.sides t false l1) = .inl (2, (Parl.hd l1).pos) from rfl]
                exact (itB_u3 w rb tb cap s L i p0 false goals h t l1 hT hg hm h0 h1 h2 h3).mono fun e w' q => perrW_uni (er := 2) (by omega) q
              · exact itB_t3 w rb tb cap s L i p0 true goals h t l1 hT hg hm h0 h1 h2 h3
          · have hm : Parl.sees l1 [58, 61] = false := Parl.sees_one h2 (by simp)
            have h3 : Parl.sees l1 [60] = false := Parl.sees_one h2 (by simp)
            cases tests
            · rw [Parl.item0_test hT (by simp [Parl.testSign, h2]), show Parl.wayed false false (Parl.sides t false l1) = .inl (2, (Parl.hd l1).pos) from rfl]
              exact (itB_u2 w rb tb cap s L i p0 false goals h t l1 hT hg hm h0 h1 h2 h3).mono fun e w' q => perrW_uni (er := 2) (by omega) q
            · exact itB_t2 w rb tb cap s L i p0 true goals h t l1 hT hg hm h0 h1 h2 h3
        · have hm : Parl.sees l1 [58, 61] = false := Parl.sees_one h1 (by simp)
          have h2 : Parl.sees l1 [61, 60] = false := Parl.sees_one h1 (by simp)
          have h3 : Parl.sees l1 [60] = false := Parl.sees_one h1 (by simp)
          cases tests
          · rw [Parl.item0_test hT (by simp [Parl.testSign, h1]), show Parl.wayed false false (Parl.sides t false l1) = .inl (2, (Parl.hd l1).pos) from rfl]
            exact (itB_u1 w rb tb cap s L i p0 false goals h t l1 hT hg hm h0 h1 h2 h3).mono fun e w' q => perrW_uni (er := 2) (by omega) q
          · exact itB_t1 w rb tb cap s L i p0 true goals h t l1 hT hg hm h0 h1 h2 h3
      · have hm : Parl.sees l1 [58, 61] = false := Parl.sees_one h0 (by simp)
        have h1 : Parl.sees l1 [92, 61] = false := Parl.sees_one h0 (by simp)
        have h2 : Parl.sees l1 [61, 60] = false := Parl.sees_one h0 (by simp)
        have h3 : Parl.sees l1 [60] = false := Parl.sees_one h0 (by simp)
        cases tests
        · rw [Parl.item0_test hT (by simp [Parl.testSign, h0]), show Parl.wayed false false (Parl.sides t false l1) = .inl (2, (Parl.hd l1).pos) from rfl]
          exact (itB_u0 w rb tb cap s L i p0 false goals h t l1 hT hg hm h0 h1 h2 h3).mono fun e w' q => perrW_uni (er := 2) (by omega) q
        · exact itB_t0 w rb tb cap s L i p0 true goals h t l1 hT hg hm h0 h1 h2 h3
    · have hm : Parl.sees l1 [58, 61] = false := Parl.sees_one hg (by simp)
      have h0 : Parl.sees l1 [61, 61] = false := Parl.sees_one hg (by simp)
      have h1 : Parl.sees l1 [92, 61] = false := Parl.sees_one hg (by simp)
      have h2 : Parl.sees l1 [61, 60] = false := Parl.sees_one hg (by simp)
      have h3 : Parl.sees l1 [60] = false := Parl.sees_one hg (by simp)
      cases goals
      · rw [Parl.item0_goal hT hg, show Parl.wayed false false (Parl.sides t false l1) = .inl (2, (Parl.hd l1).pos) from rfl]
        exact (itB_goalno w rb tb cap s L i p0 tests false h t l1 hT hg hm h0 h1 h2 h3).mono fun e w' q => perrW_uni (er := 2) (by omega) q
      · exact itB_goal w rb tb cap s L i p0 tests true h t l1 hT hg hm h0 h1 h2 h3
end Go.Proofs.YtombbccmeeaimaaGreatDoor
namespace Go.Proofs.YtombbccmeeaimaaGreatDoor
open Go.RowKit

theorem Tryz.info104 : (Tryz.prog.info? 104).map (fun i => (i.zero, i.size, i.bytes)) = some (some (.agg #[.string ⟨#[]⟩, .string ⟨#[]⟩, .int .i64 0, .string ⟨#[]⟩, .int .i64 0, .slice none 0 0, .int .i64 0, .string ⟨#[]⟩, .int .i64 0, .slice none 0 0, .int .i64 0, .string ⟨#[]⟩, .int .i64 0, .slice none 0 0]), 14, 200) := by kernel_rfl

theorem newL (W : World) (n : Nat) (A : Array Value) (T : TypeId) (xs : List Value) (hn : n = W.heap.size) (hx : A.toList = xs) : ∀ j u, xs[j]? = some u → (W.alloc (.cells A T)).cell? ((⟨n, 0, none⟩ : Addr).add j) = some u := by
  subst hn hx
  intro j u hj
  have := blkA' (heap_alloc_new W (.cells A T)) j
  rw [show (⟨W.heap.size, 0, none⟩ : Addr).add j = ⟨W.heap.size, j, none⟩ by cases j <;> simp [Addr.add], this]
  simpa using hj
theorem one14 (a b c : BV) (op sg : ByteArray) : ∀ u ∈ ([.string op, .string sg, .int .i64 a.k, .string a.nm, .int .i64 a.num, .slice a.ao a.n a.cap, .int .i64 b.k, .string b.nm, .int .i64 b.num, .slice b.ao b.n b.cap, .int .i64 c.k, .string c.nm, .int .i64 c.num, .slice c.ao c.n c.cap] : List Value), u.oneCell' = true := by
  simp [Value.oneCell']

/-- What 'items' leaves there. -/
def PUniL {α : Type} (rb tb cap : Nat) (s : ByteArray) (L : List Parl.Tok) (p0 : Int) (r : Parl.Res (α × Bool × Bool)) (w : World) (e : Ending) (w' : World) : Prop :=
  ∃ (ao : Option Addr) (n cp : Nat) (t1 g1 : Bool) (j : Nat) (e1 p1 : Int), e = .returned (.tuple #[.slice ao n cp, .agg #[.bool t1, .bool g1]]) ∧ SB w' rb tb cap s L j e1 p1 ∧ KB [rb] w w' ∧ UniR L p0 r j e1 p1 ∧ WayR r t1 g1

/-- The loop's relation. -/
def LI (w : World) (rb tb cap : Nat) (s : ByteArray) (L : List Parl.Tok) (p0 : Int) (T G : Bool) (l0 : List Parl.Tok) (k : Nat) (av : Value) (wr : World) : Prop :=
  ∃ (n : Nat) (xs : List Value) (t g : Bool) (j : Nat) (e1 p1 : Int), SB wr rb tb cap s L j e1 p1 ∧ KB [rb] w wr ∧
    wr.heap[w.heap.size]? = some (.cells #[.bool t, .bool g] 141 (0, 0)) ∧
    wr.heap[w.heap.size + 1]? = some (.cells #[.bool false, .bool false] 141 (0, 0)) ∧
    wr.ownsRow (w.heap.size + 2) 104 14 av n xs ∧ n ≤ 6 ∧ k + n = 7 ∧
    ((e1 = 0 ∧ p1 = p0 ∧ n ≤ 5 ∧ ∃ ys : List Parl.Itm, Parl.items 5 T G l0 = Parl.preI ys (Parl.items (5 - n) t g (L.drop j))) ∨
     (e1 ≠ 0 ∧ ∃ er pos : Nat, e1 = (er : Int) ∧ p1 = (pos : Int) ∧ Parl.items 5 T G l0 = .inl (er, pos)))

/-- What stands behind an append to the items. -/
theorem li_mk {w w5 w7 : World} {rb tb cap : Nat} {s : ByteArray} {L : List Parl.Tok} {j : Nat} {e1 p1 : Int} {n : Nat} {av v' : Value} {xs xs' : List Value} {X V A : Obj} {c0 c1 : Value} {C1 : Array Value} {T : TypeId} (v0 v1 : Value)
    (hS : SB w5 rb tb cap s L j e1 p1) (hK : KB [rb] w w5) (hr : rb < w.heap.size) (ht : tb < w.heap.size)
    (hb0 : w5.heap[w.heap.size]? = some (.cells #[c0, c1] T (0, 0))) (hb1 : w5.heap[w.heap.size + 1]? = some (.cells C1 T (0, 0)))
    (ho : w5.ownsRow (w.heap.size + 2) 104 14 av n xs)
    (hg : (((((w5.setCell ⟨w.heap.size, 0, none⟩ v0).setCell ⟨w.heap.size, 1, none⟩ v1).alloc X).alloc V).alloc A).grownBy w7 av.ownBlock) (_ho' : w7.ownsRow (w.heap.size + 2) 104 14 v' (n + 1) xs') :
    SB w7 rb tb cap s L j e1 p1 ∧ KB [rb] w w7 ∧ w7.heap[w.heap.size]? = some (.cells #[v0, v1] T (0, 0)) ∧ w7.heap[w.heap.size + 1]? = some (.cells C1 T (0, 0)) := by
  have hl1 : w.heap.size + 1 < w5.heap.size := blk_lt' hb1
  have RQ := OnB.c2 w.heap.size w5 v0 v1
  have hS' := hS.onb RQ (by omega) (by omega)
  have hK' := hK.onb RQ (Nat.le_refl _)
  have q0 : ((w5.setCell ⟨w.heap.size, 0, none⟩ v0).setCell ⟨w.heap.size, 1, none⟩ v1).heap[w.heap.size]? = some (.cells #[v0, v1] T (0, 0)) := set2C v1 (set2B v0 hb0)
  have q1 : ((w5.setCell ⟨w.heap.size, 0, none⟩ v0).setCell ⟨w.heap.size, 1, none⟩ v1).heap[w.heap.size + 1]? = some (.cells C1 T (0, 0)) := blk_other (blk_other hb1 (by omega) _ _) (by omega) _ _
  have hz : ((w5.setCell ⟨w.heap.size, 0, none⟩ v0).setCell ⟨w.heap.size, 1, none⟩ v1).heap.size = w5.heap.size := RQ.size
  generalize ((w5.setCell ⟨w.heap.size, 0, none⟩ v0).setCell ⟨w.heap.size, 1, none⟩ v1) = W at *
  have hB : Below (w.heap.size + 2) W w7 := ((((Below.refl _ _).alloc (by omega) X).alloc (by simp; omega) V).alloc (by simp; omega) A).grown hg (by simp; omega) (fun k q => (ho.lt k q).1)
  exact ⟨hS'.blw hB (by omega) (by omega), ((((hK'.alloc X).alloc V).alloc A)).grown hg (fun k q => by have := (ho.lt k q).1; omega), (hB.block _ (by omega)).trans q0, (hB.block _ (by omega)).trans q1⟩
theorem own_c2 {w w5 : World} {av : Value} {n : Nat} {xs : List Value} (v0 v1 : Value) (ho : w5.ownsRow (w.heap.size + 2) 104 14 av n xs) :
    ((w5.setCell ⟨w.heap.size, 0, none⟩ v0).setCell ⟨w.heap.size, 1, none⟩ v1).ownsRow (w.heap.size + 2) 104 14 av n xs :=
  own_at ho (fun k h1 _ => (OnB.c2 w.heap.size w5 v0 v1).block k (by omega))
end Go.Proofs.YtombbccmeeaimaaGreatDoor
