import Derived.Test.YthfjnfcekeknlaaDoorF03
import Derived.Deep.RegionWith
import Derived.Deep.LoopGhost
namespace Go.Proofs.YthfjnfcekeknlaaDoor
open Go.RowKit

theorem empty_list : (⟨#[]⟩ : ByteArray).toList = [] := by rw [ByteArray.toList_mk]
end Go.Proofs.YthfjnfcekeknlaaDoor
namespace Go.Proofs.YthfjnfcekeknlaaDoor
open Go.RowKit

/-- An item lies there. -/
structure ItA (ns ns' : List ByteArray) (w' : World) (a b c : TV) (sg op : ByteArray) (x : Parl.Itm) : Prop where
  left : RA 8 (nmsA ns') anyA w' a x.left
  sign : sg.toList = x.sign
  right : ∀ r, x.right = some r → RA 8 (nmsA ns') anyA w' b r
  op : op.toList = x.op
  last : ∀ z, x.last = some z → RA 8 (nmsA ns') anyA w' c z
  nms : nmsA ns' = Parl.namesI (nmsA ns) x
theorem ItA.of {ns ns1 ns' : List ByteArray} {W w1 w2 w' : World} {val : Int} {tx : ByteArray} {ao : Option Addr} {cap : Nat} {t : Parl.Tm} {a b c : TV} {sg op : ByteArray} {x : Parl.Itm} (hl : TA 8 ns ns1 W w1 val tx ao cap t) (ha : a = ⟨ak t.kind, val, tx, ao, t.args.length, cap⟩) (hx : x.left = t) (hr : RightA ns1 ns' w2 b c sg op x) (hk : KeepA w1 w2) (hk2 : KeepA w2 w') : ItA ns ns' w' a b c sg op x := by
  subst ha
  obtain ⟨M1, e1, _⟩ := Parl.nameO_ext (ns := nmsA ns1) (t := x.right) (fun r q => (hr.right r q).ok3)
  obtain ⟨M2, e2, _⟩ := Parl.nameO_ext (ns := Parl.nameO (nmsA ns1) x.right) (t := x.last) (fun r q => (hr.last r q).ok3)
  have he : nmsA ns' = nmsA ns1 ++ (M1 ++ M2) := by rw [hr.nms, e2, e1, List.append_assoc]
  refine ⟨?_, hr.sign, fun r q => hk2.ra (hr.right r q), hr.op, fun z q => hk2.ra (hr.last z q), ?_⟩
  · rw [hx, he]
    exact ((hk.trans hk2).ra hl.rep).more _
  · rw [hr.nms, hl.nms]
    unfold Parl.namesI
    rw [hx]
theorem ItA.plain {ns ns1 : List ByteArray} {W w1 w' : World} {val : Int} {tx : ByteArray} {ao : Option Addr} {cap : Nat} {t : Parl.Tm} {b c : TV} (hl : TA 8 ns ns1 W w1 val tx ao cap t) (hk : KeepA w1 w') : ItA ns ns1 w' ⟨ak t.kind, val, tx, ao, t.args.length, cap⟩ b c ⟨#[]⟩ ⟨#[]⟩ ⟨t, [], none, [], none⟩ :=
  ItA.of hl rfl rfl ⟨empty_list, (fun r q => by cases q), empty_list, (fun r q => by cases q), rfl⟩ hk (KeepA.refl _)
theorem KA.wide {rb lb : Nat} {w w' : World} (h : KA rb [rb] w w') : KA rb [rb, lb] w w' := h.mono (by simp)

end Go.Proofs.YthfjnfcekeknlaaDoor
namespace Parl
end Parl
namespace Go.Proofs.YthfjnfcekeknlaaDoor
open Go.RowKit

theorem Tryd.info123 : (Tryd.prog.info? 123).map (fun i => (i.zero, i.size, i.bytes)) = some (some (.agg #[.int .i64 0, .int .i64 0, .string ⟨#[]⟩, .slice none 0 0, .string ⟨#[]⟩, .int .i64 0, .int .i64 0, .string ⟨#[]⟩, .slice none 0 0, .string ⟨#[]⟩, .int .i64 0, .int .i64 0, .string ⟨#[]⟩, .slice none 0 0]), 14, 200) := by kernel_rfl

/-- An item's fourteen cells, as the program lays them. -/
structure JV where
  a : TV
  b : TV
  c : TV
  sg : ByteArray
  op : ByteArray
def jvC (v : JV) : List Value := [.int .i64 v.a.k, .int .i64 v.a.val, .string v.a.tx, .slice v.a.ao v.a.n v.a.cap, .string v.sg, .int .i64 v.b.k, .int .i64 v.b.val, .string v.b.tx, .slice v.b.ao v.b.n v.b.cap, .string v.op, .int .i64 v.c.k, .int .i64 v.c.val, .string v.c.tx, .slice v.c.ao v.c.n v.c.cap]
/-- An item lies there; N: the variables met so far. -/
structure ItR (N : List (List UInt8)) (w : World) (v : JV) (x : Parl.Itm) : Prop where
  left : RA 8 N anyA w v.a x.left
  sign : v.sg.toList = x.sign
  right : ∀ r, x.right = some r → RA 8 N anyA w v.b r
  op : v.op.toList = x.op
  last : ∀ z, x.last = some z → RA 8 N anyA w v.c z
theorem ItR.keep {N : List (List UInt8)} {w w' : World} {v : JV} {x : Parl.Itm} (h : ItR N w v x) (hk : KeepA w w') : ItR N w' v x := ⟨hk.ra h.left, h.sign, fun r q => hk.ra (h.right r q), h.op, fun r q => hk.ra (h.last r q)⟩
theorem ItR.more {N : List (List UInt8)} {w : World} {v : JV} {x : Parl.Itm} (h : ItR N w v x) (M : List (List UInt8)) : ItR (N ++ M) w v x := ⟨h.left.more M, h.sign, fun r q => (h.right r q).more M, h.op, fun r q => (h.last r q).more M⟩
theorem ItR.ok {N : List (List UInt8)} {w : World} {v : JV} {x : Parl.Itm} (h : ItR N w v x) : Parl.okI x := ⟨h.left.ok3, fun r q => (h.right r q).ok3, fun z q => (h.last z q).ok3⟩
theorem ItA.r {ns ns' : List ByteArray} {w' : World} {a b c : TV} {sg op : ByteArray} {x : Parl.Itm} (h : ItA ns ns' w' a b c sg op x) : ItR (nmsA ns') w' ⟨a, b, c, sg, op⟩ x := ⟨h.left, h.sign, h.right, h.op, h.last⟩
/-- What has been read so far lies there. -/
def RowJ (ns0 ns : List ByteArray) (w : World) (xs : List Value) (ys : List Parl.Itm) : Prop := (∃ vs : List JV, xs = vs.flatMap jvC ∧ All2 (ItR (nmsA ns) w) vs ys) ∧ nmsA ns = Parl.namesL (nmsA ns0) ys
theorem RowJ.keep {ns0 ns : List ByteArray} {w w' : World} {xs : List Value} {ys : List Parl.Itm} (h : RowJ ns0 ns w xs ys) (hk : KeepA w w') : RowJ ns0 ns w' xs ys := by
  obtain ⟨⟨vs, rfl, ha⟩, hn⟩ := h
  exact ⟨⟨vs, rfl, ha.imp fun _ _ q => q.keep hk⟩, hn⟩
theorem RowJ.snoc {ns0 ns ns' : List ByteArray} {w : World} {xs : List Value} {ys : List Parl.Itm} {a b c : TV} {sg op : ByteArray} {x : Parl.Itm} (h : RowJ ns0 ns w xs ys) (q : ItA ns ns' w a b c sg op x) : RowJ ns0 ns' w (xs ++ jvC ⟨a, b, c, sg, op⟩) (ys ++ [x]) := by
  obtain ⟨⟨vs, rfl, ha⟩, hn⟩ := h
  obtain ⟨M, hM, _⟩ := Parl.namesI_ext x q.r.ok (nmsA ns)
  have he : nmsA ns' = nmsA ns ++ M := q.nms.trans hM
  refine ⟨⟨vs ++ [⟨a, b, c, sg, op⟩], by simp, All2.snoc q.r ?_⟩, ?_⟩
  · rw [he]; exact ha.imp fun _ _ r => r.more M
  · unfold Parl.namesL
    rw [List.foldl_append, q.nms, hn]
    rfl
/-- The items lie there. -/
def ItemsA (N : List (List UInt8)) (w : World) (o : Option Addr) (n : Nat) (ys : List Parl.Itm) : Prop := n = ys.length ∧ (ys ≠ [] → ∃ (g : Nat) (vs : List JV) (cs : Array Value), o = some ⟨g, 0, none⟩ ∧ w.heap[g]? = some (.cells cs 123 (0, 0)) ∧ cs.toList.take (vs.length * 14) = vs.flatMap jvC ∧ All2 (ItR N w) vs ys)
/-- The loop's relation. -/
def LA (w : World) (rb : Nat) (s : ByteArray) (T G : Bool) (l0 : List Parl.Tok) (ns0 : List ByteArray) (k : Nat) (wr : World) : Prop :=
  ∃ (n : Nat) (xs : List Value) (iv : Value) (t g : Bool) (l : List Parl.Tok) (ns : List ByteArray) (nv : Value) (e : Int), St wr rb s l ns nv e ∧ KA rb [rb] w wr ∧
    wr.heap[w.heap.size]? = some (.cells #[iv, .bool t, .bool g] 119 (0, 0)) ∧
    wr.heap[w.heap.size + 1]? = some (.cells #[.slice none 0 0, .bool false, .bool false] 119 (0, 0)) ∧
    wr.ownsRow (w.heap.size + 2) 123 14 iv n xs ∧ n ≤ 5 ∧ k + n = 6 ∧ ∃ ys : List Parl.Itm, Parl.items 5 T G l0 = Parl.preI ys (Parl.items (5 - n) t g l) ∧ RowJ ns0 ns wr xs ys
end Go.Proofs.YthfjnfcekeknlaaDoor
namespace Go.Proofs.YthfjnfcekeknlaaDoor
open Go.RowKit

/-- Rows of the program's items stay. -/
def KeepJ (w w' : World) : Prop := ∀ (g : Nat) (cs : Array Value), w.heap[g]? = some (.cells cs 123 (0, 0)) → (∃ k r, cs.toList = .int .i64 k :: r) → w'.heap[g]? = some (.cells cs 123 (0, 0))
/-- Rows of terms and of items stay. -/
structure KeepAJ (w w' : World) : Prop where
  a : KeepA w w'
  j : KeepJ w w'
theorem KeepAJ.refl (w : World) : KeepAJ w w := ⟨fun _ _ h _ => h, fun _ _ h _ => h⟩
theorem KeepAJ.trans {u v w : World} (h : KeepAJ u v) (k : KeepAJ v w) : KeepAJ u w := ⟨h.a.trans k.a, fun g cs a b => k.j g cs (h.j g cs a b) b⟩
theorem KeepAJ.below {w w' : World} (h : Below w.heap.size w w') : KeepAJ w w' := ⟨KeepA.below h, fun g _ a _ => (h.block g (Array.getElem?_eq_some_iff.1 a).1).trans a⟩
theorem KeepAJ.alloc (w : World) (o : Obj) : KeepAJ w (w.alloc o) := KeepAJ.below ((Below.refl _ _).alloc (Nat.le_refl _) o)
theorem KeepAJ.ka {w w' : World} {rb : Nat} {s : ByteArray} {l : List Parl.Tok} {ns : List ByteArray} {nv : Value} {e : Int} (hs : St w rb s l ns nv e) (hk : KA rb [rb] w w') : KeepAJ w w' :=
  ⟨KeepA.ka hs hk, fun g cs hg hi => (hk.block g (Array.getElem?_eq_some_iff.1 hg).1 (fun q => by
    obtain rfl : g = rb := by simpa using q
    obtain ⟨k, r, hc⟩ := hi
    have := hs.rd.c0
    simp [World.cell?, hg] at this
    rw [← Array.getElem?_toList, hc] at this
    simp at this) (Or.inr (by unfold tyAt; rw [hg]; simp))).trans hg⟩
theorem ItemsA.keep {N : List (List UInt8)} {w w' : World} {o : Option Addr} {n : Nat} {ys : List Parl.Itm} (h : ItemsA N w o n ys) (hk : KeepAJ w w') : ItemsA N w' o n ys := by
  refine ⟨h.1, fun q => ?_⟩
  obtain ⟨g, vs, cs, h1, h2, h3, h4⟩ := h.2 q
  refine ⟨g, vs, cs, h1, hk.j g cs h2 ?_, h3, h4.imp fun _ _ r => r.keep hk.a⟩
  cases vs with
  | nil => have := h4.length; simp at this; exact absurd (List.length_eq_zero_iff.1 this.symm) q
  | cons v vs =>
    cases hc : cs.toList with
    | nil => rw [hc] at h3; simp [jvC] at h3
    | cons c r =>
      rw [hc] at h3
      simp only [List.length_cons, Nat.add_mul, Nat.one_mul, List.flatMap_cons, jvC, List.cons_append, List.take_succ_cons] at h3
      injection h3 with h3 _
      exact ⟨_, r, by rw [h3]⟩
theorem ItemsA.none (N : List (List UInt8)) (w : World) : ItemsA N w Option.none 0 [] := ⟨rfl, fun q => absurd rfl q⟩
theorem all2_okI {N : List (List UInt8)} {w : World} : ∀ (vs : List JV) (ys : List Parl.Itm), All2 (ItR N w) vs ys → ∀ y ∈ ys, Parl.okI y
  | [], [], _, _, h => by cases h
  | [], _ :: _, h, _, _ => h.elim
  | _ :: _, [], _, _, h => by cases h
  | v :: vs, y :: ys, h, z, hz => by
    rcases List.mem_cons.1 hz with rfl | hz
    · exact h.1.ok
    · exact all2_okI vs ys h.2 z hz
theorem ItemsA.ok {N : List (List UInt8)} {w : World} {o : Option Addr} {n : Nat} {ys : List Parl.Itm} (h : ItemsA N w o n ys) : ∀ y ∈ ys, Parl.okI y := by
  intro y hy
  obtain ⟨g, vs, cs, _, _, _, h4⟩ := h.2 (fun e => by rw [e] at hy; cases hy)
  exact all2_okI vs ys h4 y hy
theorem ItemsA.more {N : List (List UInt8)} {w : World} {o : Option Addr} {n : Nat} {ys : List Parl.Itm} (h : ItemsA N w o n ys) (M : List (List UInt8)) : ItemsA (N ++ M) w o n ys :=
  ⟨h.1, fun q => by
    obtain ⟨g, vs, cs, h1, h2, h3, h4⟩ := h.2 q
    exact ⟨g, vs, cs, h1, h2, h3, h4.imp fun _ _ r => r.more M⟩⟩
theorem ItemsA.behind {N N' : List (List UInt8)} {w w' : World} {o o' : Option Addr} {n n' : Nat} {xs ys : List Parl.Itm} (h : ItemsA N w o n xs) (k : ItemsA N' w' o' n' ys) (hn : N' = Parl.namesL N ys) : ItemsA N' w o n xs := by
  obtain ⟨M, hM, _⟩ := Parl.foldI_ext ys k.ok N
  rw [hn]
  unfold Parl.namesL
  rw [hM]
  exact h.more M
/-- What a body leaves lies there. -/
structure BodA (ns ns' : List ByteArray) (w : World) (o1 : Option Addr) (n1 : Nat) (o2 : Option Addr) (n2 : Nat) (r : List Parl.Itm × List Parl.Itm) : Prop where
  tests : ItemsA (nmsA ns') w o1 n1 r.1
  goals : ItemsA (nmsA ns') w o2 n2 r.2
  nms : nmsA ns' = Parl.namesL (Parl.namesL (nmsA ns) r.1) r.2
theorem BodA.keep {ns ns' : List ByteArray} {w w' : World} {o1 : Option Addr} {n1 : Nat} {o2 : Option Addr} {n2 : Nat} {r : List Parl.Itm × List Parl.Itm} (h : BodA ns ns' w o1 n1 o2 n2 r) (hk : KeepAJ w w') : BodA ns ns' w' o1 n1 o2 n2 r := ⟨h.tests.keep hk, h.goals.keep hk, h.nms⟩
end Go.Proofs.YthfjnfcekeknlaaDoor
