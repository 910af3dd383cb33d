import Derived.Test.YthfjnfcekeknlaaGreatDoorU01
import Derived.Test.YthfjnfcekeknlaaGreatDoorU07
import Derived.Test.YthfjnfcekeknlaaGreatDoorU09
import Derived.Lib.AppendIntMem
import Derived.Deep.LoopGhost
import Derived.Deep.RegionWith
namespace Go.Proofs.YthfjnfcekeknlaaGreatDoor
open Go.RowKit

/-- The library's powers of ten lie there. -/
def Pow (w : World) : Prop := Lib.TabIs Tryz.prog w "internal/strconv.uint64pow10" .u64 Lib.pow10Tab
theorem Pow.below {w w' : World} (h : Pow w) (hb : Below w.heap.size w w') : Pow w' := by
  unfold Pow Lib.TabIs World.var? at *
  obtain ⟨g, hg, hq⟩ := Option.bind_eq_some_iff.1 h
  rw [hg]
  dsimp only [Option.bind_some]
  cases hc : w.heap[g]? with
  | none => rw [hc] at hq; cases hq
  | some o =>
    rw [hb.block g (Array.getElem?_eq_some_iff.1 hc).1]
    exact hq
theorem Pow.alloc {w : World} (h : Pow w) (o : Obj) : Pow (w.alloc o) := h.below ((Below.refl _ _).alloc (Nat.le_refl _) o)
theorem avC_at {us : List AV} {i : Nat} (h : i < us.length) (j : Nat) (hj : j < 4) : (us.flatMap avC)[i * 4 + j]? = (avC us[i])[j]? := by
  induction us generalizing i with
  | nil => simp at h
  | cons t r ih =>
    cases i with
    | zero => rw [List.flatMap_cons, List.getElem?_append_left (by simp [avC]; omega)]; simp
    | succ i =>
      rw [List.flatMap_cons, List.getElem?_append_right (by simp [avC]; omega)]
      simp only [show (avC t).length = 4 from rfl]
      rw [show (i + 1) * 4 + j - 4 = i * 4 + j by omega]
      simpa using ih (by simpa using h)
end Go.Proofs.YthfjnfcekeknlaaGreatDoor
namespace Parl
def argQ : List (List UInt8) → List UInt8
  | [] => [40]
  | x :: xs => 40 :: x ++ xs.flatMap (fun y => 44 :: y)
theorem argQ_more (l : List (List UInt8)) (x : List UInt8) (h : l ≠ []) : argQ (l ++ [x]) = argQ l ++ 44 :: x := by
  cases l with
  | nil => exact absurd rfl h
  | cons y ys => simp [argQ]
theorem argQ_end (l : List (List UInt8)) (h : l ≠ []) : argS l = argQ l ++ [41] := by
  cases l with
  | nil => exact absurd rfl h
  | cons y ys => simp [argS, argQ]
theorem argQ_len {c : Nat} (l : List (List UInt8)) (h : ∀ x ∈ l, x.length ≤ c) : (argQ l).length ≤ 1 + l.length * (c + 1) := by
  cases l with
  | nil => simp [argQ]
  | cons y ys => have := argP_len (c := c) (y :: ys) h; simp only [argP] at this; simp only [argQ]; omega
theorem take_step {α β : Type} {ts : List α} {j : Nat} (hj : j < ts.length) (F : α → β) : (ts.take (j + 1)).map F = (ts.take j).map F ++ [F ts[j]] := by
  rw [List.take_add_one, List.getElem?_eq_getElem hj, List.map_append]; rfl
end Parl
namespace Go.Proofs.YthfjnfcekeknlaaGreatDoor
open Go.RowKit

theorem qa_start (b : ByteArray) : b ++ ⟨#[40]⟩ = (⟨(b.toList ++ Parl.argQ []).toArray⟩ : ByteArray) := by
  have := ba_app b.toList [40]
  rw [ba_self] at this
  exact this
theorem qa_str0 (X A : List UInt8) (l : List (List UInt8)) (h : l = []) : (⟨(X ++ Parl.argQ l).toArray⟩ : ByteArray) ++ ⟨A.toArray⟩ = ⟨(X ++ Parl.argQ (l ++ [A])).toArray⟩ := by
  subst h
  rw [ba_app]
  simp [Parl.argQ]
theorem qa_str1 (X A : List UInt8) (l : List (List UInt8)) (h : l ≠ []) : (⟨(X ++ Parl.argQ l).toArray⟩ : ByteArray) ++ ⟨#[44]⟩ ++ ⟨A.toArray⟩ = ⟨(X ++ Parl.argQ (l ++ [A])).toArray⟩ := by
  rw [ba_lit, ba_app, ba_app, Parl.argQ_more _ _ h]
  simp
theorem qa_end (X : List UInt8) (l : List (List UInt8)) (h : l ≠ []) : (⟨(X ++ Parl.argQ l).toArray⟩ : ByteArray) ++ ⟨#[41]⟩ = ⟨(X ++ Parl.argS l).toArray⟩ := by
  rw [ba_lit, ba_app, Parl.argQ_end _ h]
  simp
end Go.Proofs.YthfjnfcekeknlaaGreatDoor
namespace Parl
end Parl
namespace Go.Proofs.YthfjnfcekeknlaaGreatDoor
open Go.RowKit

theorem ClauseA.ok {w : World} {a : TV} {o1 : Option Addr} {n1 : Nat} {o2 : Option Addr} {n2 : Nat} {c : Parl.Cls} (h : ClauseA w a o1 n1 o2 n2 c) : Parl.okC c := ⟨h.head.ok3, h.tests.ok, h.goals.ok⟩
/-- A clause lies there; N: its variables. -/
structure ClauseN (N : List (List UInt8)) (w : World) (v : QV) (c : Parl.Cls) : Prop where
  head : RA 8 N anyA w v.a c.head
  tests : ItemsA N w v.o1 v.n1 c.tests
  goals : ItemsA N w v.o2 v.n2 c.goals
theorem ClauseN.keep {N : List (List UInt8)} {w w' : World} {v : QV} {c : Parl.Cls} (h : ClauseN N w v c) (hk : KeepAJ w w') : ClauseN N w' v c := ⟨hk.a.ra h.head, h.tests.keep hk, h.goals.keep hk⟩
theorem ClauseN.ok {N : List (List UInt8)} {w : World} {v : QV} {c : Parl.Cls} (h : ClauseN N w v c) : Parl.okC c := ⟨h.head.ok3, h.tests.ok, h.goals.ok⟩
end Go.Proofs.YthfjnfcekeknlaaGreatDoor
namespace Go.Proofs.YthfjnfcekeknlaaGreatDoor
open Go.RowKit
/-- What every call finds: the tables. -/
structure Env (w : World) : Prop where
  sg : Signs w
  pos : 0 < w.heap.size
  pow : Pow w
theorem Env.below {w w' : World} (h : Env w) (hb : Below w.heap.size w w') : Env w' := ⟨h.sg.below hb h.pos, Nat.lt_of_lt_of_le h.pos hb.size, h.pow.below hb⟩
theorem Env.alloc {w : World} (h : Env w) (o : Obj) : Env (w.alloc o) := h.below ((Below.refl _ _).alloc (Nat.le_refl _) o)
end Go.Proofs.YthfjnfcekeknlaaGreatDoor
