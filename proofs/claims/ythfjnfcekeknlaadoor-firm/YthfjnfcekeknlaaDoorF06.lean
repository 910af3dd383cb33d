import Derived.Test.YthfjnfcekeknlaaDoorF01
import Derived.Test.YthfjnfcekeknlaaDoorF05
namespace Go.Proofs.YthfjnfcekeknlaaDoor
open Go.RowKit

/-- A clause lies there, its names all told. -/
structure ClauseA (w : World) (a : TV) (o1 : Option Addr) (n1 : Nat) (o2 : Option Addr) (n2 : Nat) (c : Parl.Cls) : Prop where
  head : RA 8 (Parl.NG c) anyA w a c.head
  tests : ItemsA (Parl.NG c) w o1 n1 c.tests
  goals : ItemsA (Parl.NG c) w o2 n2 c.goals
theorem ClauseA.keep {w w' : World} {a : TV} {o1 : Option Addr} {n1 : Nat} {o2 : Option Addr} {n2 : Nat} {c : Parl.Cls} (h : ClauseA w a o1 n1 o2 n2 c) (hk : KeepAJ w w') : ClauseA w' a o1 n1 o2 n2 c := ⟨hk.a.ra h.head, h.tests.keep hk, h.goals.keep hk⟩
theorem ClauseA.body {ns ns' : List ByteArray} {w : World} {a : TV} {o1 : Option Addr} {n1 : Nat} {o2 : Option Addr} {n2 : Nat} {t : Parl.Tm} {xs ys : List Parl.Itm} (h : RA 8 (nmsA ns) anyA w a t) (hn : nmsA ns = Parl.namesF 8 (nmsA []) t) (hb : BodA ns ns' w o1 n1 o2 n2 (xs, ys)) : ClauseA w a o1 n1 o2 n2 ⟨t, xs, ys⟩ := by
  obtain ⟨h1, h2, h3⟩ := hb
  have e : nmsA ns' = Parl.NG ⟨t, xs, ys⟩ := by rw [h3, hn]; rfl
  obtain ⟨M, hM, _⟩ := Parl.foldI_ext xs h1.ok (nmsA ns)
  obtain ⟨K, hK, _⟩ := Parl.foldI_ext ys h2.ok (xs.foldl Parl.namesI (nmsA ns))
  have e2 : nmsA ns' = nmsA ns ++ (M ++ K) := by
    rw [h3]
    unfold Parl.namesL
    dsimp only
    rw [hK, hM, List.append_assoc]
  have h' := h.more (M ++ K)
  rw [← e2, e] at h'
  rw [e] at h1 h2
  exact ⟨h', h1, h2⟩
end Go.Proofs.YthfjnfcekeknlaaDoor
namespace Go.Proofs.YthfjnfcekeknlaaDoor
open Go.RowKit

theorem Tryd.info84 : (Tryd.prog.info? 84).map (fun i => (i.zero, i.size, i.bytes)) = some (some (.agg #[.int .i64 0, .int .i64 0, .string ⟨#[]⟩, .slice none 0 0, .slice none 0 0, .slice none 0 0]), 6, 104) := by kernel_rfl

theorem KeepAJ.grown {w w' : World} {b0 : Nat} {T : TypeId} {sz : Nat} {av : Value} {n : Nat} {xs : List Value} (ho : w.ownsRow b0 T sz av n xs) (hg : w.grownBy w' av.ownBlock) (hT : T ≠ 52 := by decide) (hJ : T ≠ 123 := by decide) : KeepAJ w w' :=
  ⟨KeepA.grown ho hg hT, fun g cs hc _ => (hg.block g (Array.getElem?_eq_some_iff.1 hc).1 (fun q => by
    rcases ho.2 with ⟨rfl, _⟩ | ⟨g', cap, cur, rfl, _, c, _⟩
    · simp [Value.ownBlock] at q
    · simp [Value.ownBlock] at q
      subst q
      rw [c] at hc; simp at hc; exact hJ hc.2)).trans hc⟩
/-- A clause's six cells, as the program lays them. -/
structure QV where
  a : TV
  o1 : Option Addr
  n1 : Nat
  c1 : Nat
  o2 : Option Addr
  n2 : Nat
  c2 : Nat
def qvC (v : QV) : List Value := [.int .i64 v.a.k, .int .i64 v.a.val, .string v.a.tx, .slice v.a.ao v.a.n v.a.cap, .slice v.o1 v.n1 v.c1, .slice v.o2 v.n2 v.c2]
def ClauseQ (w : World) (v : QV) (c : Parl.Cls) : Prop := ClauseA w v.a v.o1 v.n1 v.o2 v.n2 c
/-- What has been read so far lies there. -/
def RowQ (w : World) (xs : List Value) (ys : List Parl.Cls) : Prop := ∃ vs : List QV, xs = vs.flatMap qvC ∧ All2 (ClauseQ w) vs ys
theorem RowQ.keep {w w' : World} {xs : List Value} {ys : List Parl.Cls} (h : RowQ w xs ys) (hk : KeepAJ w w') : RowQ w' xs ys := by
  obtain ⟨vs, rfl, ha⟩ := h
  exact ⟨vs, rfl, ha.imp fun _ _ q => ClauseA.keep q hk⟩
theorem RowQ.snoc {w : World} {xs : List Value} {ys : List Parl.Cls} {v : QV} {x : Parl.Cls} (h : RowQ w xs ys) (q : ClauseQ w v x) : RowQ w (xs ++ qvC v) (ys ++ [x]) := by
  obtain ⟨vs, rfl, ha⟩ := h
  exact ⟨vs ++ [v], by simp, All2.snoc q ha⟩
/-- The clauses lie there. -/
def ClausesA (w : World) (o : Option Addr) (n : Nat) (ys : List Parl.Cls) : Prop := n = ys.length ∧ (ys ≠ [] → ∃ (g : Nat) (vs : List QV) (cs : Array Value), o = some ⟨g, 0, none⟩ ∧ w.heap[g]? = some (.cells cs 84 (0, 0)) ∧ cs.toList.take (vs.length * 6) = vs.flatMap qvC ∧ All2 (ClauseQ w) vs ys)
theorem ClausesA.below {w w' : World} {o : Option Addr} {n : Nat} {ys : List Parl.Cls} (h : ClausesA w o n ys) (hb : Below w.heap.size w w') : ClausesA w' o n ys :=
  ⟨h.1, fun q => by
    obtain ⟨g, vs, cs, h1, h2, h3, h4⟩ := h.2 q
    exact ⟨g, vs, cs, h1, (hb.block g (Array.getElem?_eq_some_iff.1 h2).1).trans h2, h3, h4.imp fun _ _ r => ClauseA.keep r (KeepAJ.below hb)⟩⟩

end Go.Proofs.YthfjnfcekeknlaaDoor
