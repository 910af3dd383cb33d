import Derived.Test.YthfjnfcekeknlaaGreatDoorU12
import Derived.Test.YthfjnfcekeknlaaGreatDoorU15
import Derived.Test.YthfjnfcekeknlaaGreatDoorU18
import Derived.Test.YthfjnfcekeknlaaGreatDoorU21
import Derived.Deep.RegionHeld3
import Derived.Deep.AppendLies
import Derived.Deep.RegionLaw
namespace Parl
theorem toU_eq (f sd : Nat) (t : Tm) : toU (f + 1) sd t = if t.kind = 3 then .v (t.text.toList, sd) else if t.kind = 4 then .n 3 [] (numOf t.text : Int) [] else .n 1 t.text.toList 0 (t.args.map (toU f sd)) := rfl
theorem uargs_toU (f sd : Nat) (t : Tm) (h : t.kind ≠ 2 → t.args = []) (hk : t.kind = 2 ∨ t.kind = 3 ∨ t.kind = 4) : uargs (toU (f + 1) sd t) = t.args.map (toU f sd) := by
  rw [toU_eq]
  rcases hk with q | q | q
  · rw [if_neg (by omega), if_neg (by omega)]; rfl
  · rw [if_pos q, h (by omega)]; rfl
  · rw [if_neg (by omega), if_pos q, h (by omega)]; rfl
end Parl
namespace Go.Proofs.YthfjnfcekeknlaaGreatDoor
open Go.RowKit

/-- What a term's own cells say. -/
def LeafU (a : BV) : Parl.U → Prop
  | .v x => a.k = 2 ∧ a.nm.toList = x.1 ∧ a.num = (x.2 : Int) ∧ a.n = 0
  | .n k tx num ss => a.k = (k : Int) ∧ k ≠ 2 ∧ a.nm.toList = tx ∧ a.num = num ∧ a.n = ss.length ∧ ss.length ≤ 3
/-- The term lies there; its rows are of the kind P. -/
def RU : Nat → (Nat → Prop) → World → BV → Parl.U → Prop
  | 0, _, _, _, _ => False
  | f + 1, P, w, a, u => LeafU a u ∧ (Parl.uargs u ≠ [] → ∃ (g : Nat) (us : List BV) (cs : Array Value), a.ao = some ⟨g, 0, none⟩ ∧ P g ∧ w.heap[g]? = some (.cells cs 109 (0, 0)) ∧ cs.toList.take (us.length * 4) = us.flatMap bvC ∧ All2 (RU f P w) us (Parl.uargs u))
theorem LeafU.n {a : BV} {u : Parl.U} (h : LeafU a u) : a.n = (Parl.uargs u).length ∧ (Parl.uargs u).length ≤ 3 := by
  cases u with
  | v x => exact ⟨h.2.2.2, by simp [Parl.uargs]⟩
  | n k tx num ss => exact ⟨h.2.2.2.2.1, h.2.2.2.2.2⟩
theorem RU.keep {P Q : Nat → Prop} {w w' : World} (hk : ∀ g cs, P g → w.heap[g]? = some (.cells cs 109 (0, 0)) → w'.heap[g]? = some (.cells cs 109 (0, 0)) ∧ Q g) : ∀ {f : Nat} {a : BV} {u : Parl.U}, RU f P w a u → RU f Q w' a u
  | _ + 1, _, _, ⟨h, q⟩ => ⟨h, fun n => by
    obtain ⟨g, us, cs, h1, h2, h3, h4, h5⟩ := q n
    obtain ⟨r1, r2⟩ := hk g cs h2 h3
    exact ⟨g, us, cs, h1, r2, r1, h4, h5.imp fun _ _ => RU.keep hk⟩⟩
theorem RU.leaf {f : Nat} {P : Nat → Prop} {w : World} {a : BV} {u : Parl.U} (h : RU f P w a u) : LeafU a u := by
  cases f with
  | zero => exact h.elim
  | succ f => exact h.1
theorem RU.below {f : Nat} {P : Nat → Prop} {w w' : World} {a : BV} {u : Parl.U} (h : RU f P w a u) (hb : Below w.heap.size w w') : RU f P w' a u :=
  h.keep fun g _ hp hg => ⟨(hb.block g (Array.getElem?_eq_some_iff.1 hg).1).trans hg, hp⟩
theorem RU.imp {f : Nat} {P Q : Nat → Prop} {w : World} {a : BV} {u : Parl.U} (h : RU f P w a u) (hk : ∀ g, P g → g < w.heap.size → Q g) : RU f Q w a u :=
  h.keep fun g _ hp hg => ⟨hg, hk g hp (Array.getElem?_eq_some_iff.1 hg).1⟩
theorem RU.up {P : Nat → Prop} {w : World} : ∀ {f : Nat} {a : BV} {u : Parl.U}, RU f P w a u → RU (f + 1) P w a u
  | f + 1, _, _, ⟨h, q⟩ => ⟨h, fun n => by
    obtain ⟨g, us, cs, h1, h2, h3, h4, h5⟩ := q n
    exact ⟨g, us, cs, h1, h2, h3, h4, h5.imp fun _ _ => RU.up⟩⟩
theorem RU.le {P : Nat → Prop} {w : World} {f f' : Nat} {a : BV} {u : Parl.U} (h : RU f P w a u) (hf : f ≤ f') : RU f' P w a u := by
  induction hf with
  | refl => exact h
  | step _ ih => exact ih.up
/-- The term lies there. -/
def VU (P : Nat → Prop) (w : World) (a : BV) (u : Parl.U) : Prop := ∃ f, RU f P w a u
theorem VU.keep {P Q : Nat → Prop} {w w' : World} {a : BV} {u : Parl.U} (h : VU P w a u) (hk : ∀ g cs, P g → w.heap[g]? = some (.cells cs 109 (0, 0)) → w'.heap[g]? = some (.cells cs 109 (0, 0)) ∧ Q g) : VU Q w' a u := by
  obtain ⟨f, hf⟩ := h
  exact ⟨f, hf.keep hk⟩
theorem VU.leaf {P : Nat → Prop} {w : World} {a : BV} {u : Parl.U} (h : VU P w a u) : LeafU a u := by
  obtain ⟨f, hf⟩ := h
  exact hf.leaf
theorem VU.below {P : Nat → Prop} {w w' : World} {a : BV} {u : Parl.U} (h : VU P w a u) (hb : Below w.heap.size w w') : VU P w' a u := by
  obtain ⟨f, hf⟩ := h
  exact ⟨f, hf.below hb⟩
theorem VU.imp {P Q : Nat → Prop} {w : World} {a : BV} {u : Parl.U} (h : VU P w a u) (hk : ∀ g, P g → g < w.heap.size → Q g) : VU Q w a u := by
  obtain ⟨f, hf⟩ := h
  exact ⟨f, hf.imp hk⟩
theorem VU.all {P : Nat → Prop} {w : World} : ∀ {us : List BV} {ts : List Parl.U}, All2 (VU P w) us ts → ∃ f, All2 (RU f P w) us ts
  | [], [], _ => ⟨0, trivial⟩
  | _ :: _, _ :: _, q => by
    obtain ⟨f, hf⟩ := q.1
    obtain ⟨f', hf'⟩ := VU.all q.2
    exact ⟨max f f', hf.le (by omega), hf'.imp fun _ _ h => h.le (by omega)⟩
theorem VU.its {P : Nat → Prop} {w : World} {a : BV} {u : Parl.U} (h : VU P w a u) : LeafU a u ∧ (Parl.uargs u ≠ [] → ∃ (g : Nat) (us : List BV) (cs : Array Value), a.ao = some ⟨g, 0, none⟩ ∧ P g ∧ w.heap[g]? = some (.cells cs 109 (0, 0)) ∧ cs.toList.take (us.length * 4) = us.flatMap bvC ∧ All2 (VU P w) us (Parl.uargs u)) := by
  obtain ⟨f, hf⟩ := h
  cases f with
  | zero => exact hf.elim
  | succ f =>
    refine ⟨hf.1, fun q => ?_⟩
    obtain ⟨g, us, cs, h1, h2, h3, h4, h5⟩ := hf.2 q
    exact ⟨g, us, cs, h1, h2, h3, h4, h5.imp fun _ _ h => ⟨f, h⟩⟩
theorem VU.mk {P : Nat → Prop} {w : World} {a : BV} {u : Parl.U} (h : LeafU a u) (hn : Parl.uargs u ≠ [] → ∃ (g : Nat) (us : List BV) (cs : Array Value), a.ao = some ⟨g, 0, none⟩ ∧ P g ∧ w.heap[g]? = some (.cells cs 109 (0, 0)) ∧ cs.toList.take (us.length * 4) = us.flatMap bvC ∧ All2 (VU P w) us (Parl.uargs u)) : VU P w a u := by
  by_cases q : Parl.uargs u = []
  · exact ⟨1, h, fun r => absurd q r⟩
  · obtain ⟨g, us, cs, h1, h2, h3, h4, h5⟩ := hn q
    obtain ⟨f, hf⟩ := VU.all h5
    exact ⟨f + 1, h, fun _ => ⟨g, us, cs, h1, h2, h3, h4, hf⟩⟩
theorem all2_map {α β γ : Type} {R : α → β → Prop} {S : α → γ → Prop} {h : β → γ} (hi : ∀ a b, R a b → S a (h b)) : ∀ {us : List α} {ts : List β}, All2 R us ts → All2 S us (ts.map h)
  | [], [], _ => trivial
  | _ :: _, _ :: _, q => ⟨hi _ _ q.1, all2_map hi q.2⟩
/-- A term that has got a side. -/
theorem RU.of_rs {sd : Nat} {P : Nat → Prop} {w : World} : ∀ {f : Nat} {a : BV} {t : Parl.Tm}, RS (sd : Int) f P w a t → RU f P w a (Parl.toU f sd t)
  | f + 1, a, t, ⟨h, q⟩ => by
    obtain ⟨h1, h2, h3, h4, h5, h6, h7, h8⟩ := h
    have hl : LeafU a (Parl.toU (f + 1) sd t) := by
      rw [Parl.toU_eq]
      rcases h6 with k | k | k
      · rw [if_neg (by omega), if_neg (by omega)]
        refine ⟨by rw [h1, k]; rfl, by decide, by rw [(h5 k).1], (h5 k).2, by rw [h2, List.length_map], by rw [List.length_map]; exact h8⟩
      · rw [if_pos k]
        exact ⟨by rw [h1, k]; rfl, by rw [(h3 k).1], (h3 k).2, by rw [h2, h7 (by omega)]; rfl⟩
      · rw [if_neg (by omega), if_pos k]
        exact ⟨by rw [h1, k]; rfl, by decide, by rw [(h4 k).1]; exact ByteArray.toList_mk _, (h4 k).2, by rw [h2, h7 (by omega)]; rfl, by simp⟩
    refine ⟨hl, fun n => ?_⟩
    rw [Parl.uargs_toU f sd t h7 h6] at n ⊢
    obtain ⟨g, us, cs, e1, e2, e3, e4, e5⟩ := q (by simpa using n)
    exact ⟨g, us, cs, e1, e2, e3, e4, all2_map (fun _ _ r => RU.of_rs r) e5⟩
end Go.Proofs.YthfjnfcekeknlaaGreatDoor
namespace Go.Proofs.YthfjnfcekeknlaaGreatDoor
open Go.RowKit

set_option maxHeartbeats 1000000 in
theorem sameVarU (u v : BV) (w : World) :
    Calls Tryz.prog 106 #[.agg #[.int .i64 u.k, .string u.nm, .int .i64 u.num, .slice u.ao u.n u.cap], .agg #[.int .i64 v.k, .string v.nm, .int .i64 v.num, .slice v.ao v.n v.cap]] w fun e w' => e = .returned (.bool (decide (u.nm.toList = v.nm.toList ∧ u.num = v.num))) ∧ Below w.heap.size w w' := by
  obtain ⟨k, nm, num, ao, n, cap⟩ := u
  obtain ⟨k', nm', num', ao', n', cap'⟩ := v
  dsimp only
  cases h1 : (nm.toList == nm'.toList)
  · have hd : decide (nm.toList = nm'.toList ∧ num = num') = false := decide_eq_false (fun q => by rw [q.1] at h1; simp at h1)
    rw [hd]
    clear hd
    go_enter Tryz.func106, Tryz.ntmps106
    go_wp2_with fail
    go_ret
    exact ⟨rfl, ((Below.refl _ _).alloc (Nat.le_refl _) _).alloc (by simp) _⟩
  · cases h2 : (num == num')
    · have hd : decide (nm.toList = nm'.toList ∧ num = num') = false := decide_eq_false (fun q => by rw [q.2] at h2; simp at h2)
      rw [hd]
      clear hd
      go_enter Tryz.func106, Tryz.ntmps106
      go_wp2_with fail
      go_ret
      exact ⟨by simp, ((Below.refl _ _).alloc (Nat.le_refl _) _).alloc (by simp) _⟩
    · have hd : decide (nm.toList = nm'.toList ∧ num = num') = true := decide_eq_true ⟨by simpa using h1, by simpa using h2⟩
      rw [hd]
      clear hd
      go_enter Tryz.func106, Tryz.ntmps106
      go_wp2_with fail
      go_ret
      exact ⟨by simp, ((Below.refl _ _).alloc (Nat.le_refl _) _).alloc (by simp) _⟩
/-- What 'put' is to leave. -/
def PPut (P : Nat → Prop) (u : Parl.U) (x : Parl.Vr) (t : Parl.U) (w : World) (e : Ending) (w' : World) : Prop :=
  ∃ a' : BV, e = .returned (.agg #[.int .i64 a'.k, .string a'.nm, .int .i64 a'.num, .slice a'.ao a'.n a'.cap]) ∧ VU (fun g => P g ∨ w.heap.size ≤ g) w' a' (Parl.put u x t) ∧ Below w.heap.size w w'
/-- The cells name the variable. -/
def IsVr (v : BV) (x : Parl.Vr) : Prop := v.nm.toList = x.1 ∧ v.num = (x.2 : Int)
def PutSaid (f : Nat) : Prop := ∀ (w : World) (P : Nat → Prop) (a v b : BV) (u : Parl.U) (x : Parl.Vr) (t : Parl.U), RU f P w a u → IsVr v x → VU P w b t →
  Calls Tryz.prog 108 #[.agg #[.int .i64 a.k, .string a.nm, .int .i64 a.num, .slice a.ao a.n a.cap], .agg #[.int .i64 v.k, .string v.nm, .int .i64 v.num, .slice v.ao v.n v.cap], .agg #[.int .i64 b.k, .string b.nm, .int .i64 b.num, .slice b.ao b.n b.cap]] w fun e w' => PPut P u x t w e w'
/-- The rows of what has been put in so far. -/
def QPut (w : World) (P : Nat → Prop) (av : Value) (g : Nat) : Prop := (P g ∧ g < w.heap.size) ∨ (w.heap.size + 5 ≤ g ∧ some g ≠ av.ownBlock)
/-- The loop's relation. -/
def LPut (w : World) (P : Nat → Prop) (a v b : BV) (ss : List Parl.U) (x : Parl.Vr) (t : Parl.U) (k : Nat) (iv : Value) (wr : World) : Prop :=
  ∃ (j : Nat) (av : Value) (us : List BV), k + j = ss.length ∧ iv = .int .i64 (j : Int) ∧ Below w.heap.size w wr ∧
    wr.heap[w.heap.size]? = some (.cells #[.int .i64 a.k, .string a.nm, .int .i64 a.num, .slice a.ao a.n a.cap] 109 (0, 0)) ∧
    wr.heap[w.heap.size + 1]? = some (.cells #[.int .i64 v.k, .string v.nm, .int .i64 v.num, .slice v.ao v.n v.cap] 109 (0, 0)) ∧
    wr.heap[w.heap.size + 2]? = some (.cells #[.int .i64 b.k, .string b.nm, .int .i64 b.num, .slice b.ao b.n b.cap] 109 (0, 0)) ∧
    wr.heap[w.heap.size + 3]? = some (.cells #[.int .i64 0, .string ⟨#[]⟩, .int .i64 0, .slice none 0 0] 109 (0, 0)) ∧
    wr.heap[w.heap.size + 4]? = some (.cells #[.int .i64 a.k, .string a.nm, .int .i64 a.num, av] 109 (0, 0)) ∧
    wr.ownsRow (w.heap.size + 5) 109 4 av j (us.flatMap bvC) ∧
    All2 (VU (QPut w P av) wr) us ((ss.take j).map fun c => Parl.put c x t)
theorem put_start (w : World) (P : Nat → Prop) (a v b : BV) (ss : List Parl.U) (x : Parl.Vr) (t : Parl.U) : LPut w P a v b ss x t ss.length (.int .i64 0) (((((w.alloc (.cells #[.int .i64 a.k, .string a.nm, .int .i64 a.num, .slice a.ao a.n a.cap] 109)).alloc (.cells #[.int .i64 v.k, .string v.nm, .int .i64 v.num, .slice v.ao v.n v.cap] 109)).alloc (.cells #[.int .i64 b.k, .string b.nm, .int .i64 b.num, .slice b.ao b.n b.cap] 109)).alloc (.cells #[.int .i64 0, .string ⟨#[]⟩, .int .i64 0, .slice none 0 0] 109)).alloc (.cells #[.int .i64 a.k, .string a.nm, .int .i64 a.num, .slice none 0 0] 109)) := by
  generalize hA : (Obj.cells #[.int .i64 a.k, .string a.nm, .int .i64 a.num, .slice a.ao a.n a.cap] 109) = A
  generalize hV : (Obj.cells #[.int .i64 v.k, .string v.nm, .int .i64 v.num, .slice v.ao v.n v.cap] 109) = V
  generalize hB : (Obj.cells #[.int .i64 b.k, .string b.nm, .int .i64 b.num, .slice b.ao b.n b.cap] 109) = B
  generalize hZ : (Obj.cells #[.int .i64 0, .string ⟨#[]⟩, .int .i64 0, .slice none 0 0] 109) = Z
  generalize hO : (Obj.cells #[.int .i64 a.k, .string a.nm, .int .i64 a.num, .slice none 0 0] 109) = O
  have e0 := heap_alloc_new w A
  have e1 := heap_alloc_new (w.alloc A) V
  have e2 := heap_alloc_new ((w.alloc A).alloc V) B
  have e3 := heap_alloc_new (((w.alloc A).alloc V).alloc B) Z
  have e4 := heap_alloc_new ((((w.alloc A).alloc V).alloc B).alloc Z) O
  simp only [World.size_alloc] at e1 e2 e3 e4
  refine ⟨0, .slice none 0 0, [], by omega, rfl, (((((Below.refl _ _).alloc (Nat.le_refl _) _).alloc (by simp) _).alloc (by simp; omega) _).alloc (by simp; omega) _).alloc (by simp; omega) _, ?_, ?_, ?_, ?_, ?_, World.ownsRow_nil _ _ _ _, trivial⟩
  · subst hA; exact blk_alloc' (blk_alloc' (blk_alloc' (blk_alloc' e0 _) _) _) _
  · subst hV; exact blk_alloc' (blk_alloc' (blk_alloc' e1 _) _) _
  · subst hB; exact blk_alloc' (blk_alloc' e2 _) _
  · subst hZ; exact blk_alloc' e3 _
  · subst hO; exact e4
/-- One more argument lies there. -/
theorem put_next {w wr w2 w7 : World} {P : Nat → Prop} {av v' : Value} {us : List BV} {ts : List Parl.U} {a2 : BV} {t : Parl.U} {A : Obj}
    (h : All2 (VU (QPut w P av) wr) us ts) (hv : VU (fun g => (P g ∧ g < w.heap.size) ∨ wr.heap.size ≤ g) w2 a2 t) (hb : Below wr.heap.size wr w2) (hl3 : w.heap.size + 5 ≤ wr.heap.size) (hav : ∀ k, av.ownBlock = some k → w.heap.size + 5 ≤ k ∧ k < wr.heap.size)
    (hg : (w2.alloc A).grownBy w7 av.ownBlock) (hat : v'.ownBlock = av.ownBlock ∨ v'.ownBlock = some (w2.alloc A).heap.size) (u : Value) :
    All2 (VU (QPut w P v') (w7.setCell ⟨w.heap.size + 4, 3, none⟩ u)) (us ++ [a2]) (ts ++ [t]) := by
  have hsz := hb.size
  have keep : ∀ g, g < w2.heap.size → g ≠ w.heap.size + 4 → some g ≠ av.ownBlock → (w7.setCell ⟨w.heap.size + 4, 3, none⟩ u).heap[g]? = w2.heap[g]? := fun g h1 h2 h4 => by
    rw [heap_set _ _ _ _ h2, hg.block g (by simp; omega) h4, Below.heap_alloc _ _ _ h1]
  have away : ∀ g, g < w2.heap.size → some g ≠ av.ownBlock → some g ≠ v'.ownBlock := fun g h1 h2 => by
    rcases hat with e | e <;> rw [e]
    · exact h2
    · simp; omega
  have low : ∀ g, g < w.heap.size → some g ≠ av.ownBlock := fun g h1 e => by have := (hav g e.symm).1; omega
  refine All2.snoc (hv.keep fun g cs hp hc => ?_) (h.imp fun a t q => q.keep fun g cs hp hc => ?_)
  · have hl := (Array.getElem?_eq_some_iff.1 hc).1
    rcases hp with ⟨p1, p2⟩ | p1
    · exact ⟨(keep g hl (by omega) (low g p2)).trans hc, Or.inl ⟨p1, p2⟩⟩
    · have h4 : some g ≠ av.ownBlock := fun e => by have := (hav g e.symm).2; omega
      exact ⟨(keep g hl (by omega) h4).trans hc, Or.inr ⟨by omega, away g hl h4⟩⟩
  · have hl := (Array.getElem?_eq_some_iff.1 hc).1
    rcases hp with ⟨p1, p2⟩ | ⟨p1, p2⟩
    · exact ⟨(keep g (by omega) (by omega) (low g p2)).trans ((hb.block g hl).trans hc), Or.inl ⟨p1, p2⟩⟩
    · exact ⟨(keep g (by omega) (by omega) p2).trans ((hb.block g hl).trans hc), Or.inr ⟨p1, away g (by omega) p2⟩⟩
/-- The whole of it lies there. -/
theorem put_end {w wr : World} {P : Nat → Prop} {a : BV} {k : Nat} {tx : List UInt8} {num : Int} {ss : List Parl.U} {x : Parl.Vr} {t : Parl.U} {av : Value} {us : List BV} (hlf : LeafU a (.n k tx num ss)) (h : All2 (VU (QPut w P av) wr) us (ss.map fun c => Parl.put c x t)) (ho : wr.ownsRow (w.heap.size + 5) 109 4 av ss.length (us.flatMap bvC)) {w' : World} (hk : ∀ g, g ≠ w.heap.size + 3 → w'.heap[g]? = wr.heap[g]?) :
    ∃ ao cap, av = .slice ao ss.length cap ∧ VU (fun g => P g ∨ w.heap.size ≤ g) w' ⟨a.k, a.nm, a.num, ao, ss.length, cap⟩ (Parl.put (.n k tx num ss) x t) := by
  have hlen := h.length
  rw [List.length_map] at hlen
  obtain ⟨l1, l2, l3, l4, l5, l6⟩ := hlf
  have hput : Parl.put (.n k tx num ss) x t = .n k tx num (ss.map fun c => Parl.put c x t) := by unfold Parl.put; rw [Parl.sub_n]
  rw [hput]
  rcases ho.2 with ⟨q, h0⟩ | ⟨g, cap, cur, q, hb, hc, _, _, _, ht⟩
  · refine ⟨none, 0, by rw [q, h0], VU.mk ⟨l1, l2, l3, l4, by rw [List.length_map], by rw [List.length_map]; exact l6⟩ fun n => absurd ?_ n⟩
    show ss.map _ = []
    rw [List.length_eq_zero_iff.1 h0]; rfl
  · refine ⟨some ⟨g, 0, none⟩, cap, q, VU.mk ⟨l1, l2, l3, l4, by rw [List.length_map], by rw [List.length_map]; exact l6⟩ fun _ => ⟨g, us, cur, rfl, Or.inr (by omega), (hk g (by omega)).trans hc, by rw [hlen]; exact ht, h.imp fun b u r => r.keep fun k cs hp hc' => ⟨(hk k ?_).trans hc', ?_⟩⟩⟩
    · rcases hp with ⟨_, p⟩ | ⟨p, _⟩ <;> omega
    · rcases hp with ⟨p, _⟩ | ⟨p, _⟩
      · exact Or.inl p
      · exact Or.inr (by omega)
end Go.Proofs.YthfjnfcekeknlaaGreatDoor
namespace Go.Proofs.YthfjnfcekeknlaaGreatDoor
open Go.RowKit

set_option maxHeartbeats 2000000 in
set_option maxRecDepth 100000 in
/-- A variable. -/
theorem put_var (w : World) (P : Nat → Prop) (a v b : BV) (y x : Parl.Vr) (t : Parl.U) (ha : LeafU a (.v y)) (hv : IsVr v x) (hb : VU P w b t) :
    Calls Tryz.prog 108 #[.agg #[.int .i64 a.k, .string a.nm, .int .i64 a.num, .slice a.ao a.n a.cap], .agg #[.int .i64 v.k, .string v.nm, .int .i64 v.num, .slice v.ao v.n v.cap], .agg #[.int .i64 b.k, .string b.nm, .int .i64 b.num, .slice b.ao b.n b.cap]] w fun e w' => PPut P (.v y) x t w e w' := by
  obtain ⟨h1, h2, h3, h4⟩ := ha
  have HVA := hide (show VU P w a (.v y) from VU.mk ⟨h1, h2, h3, h4⟩ (fun q => absurd rfl q))
  have SV := hide (fun W => sameVarU a v W)
  have HVB := hide hb
  have hdec : (decide (a.nm.toList = v.nm.toList ∧ a.num = v.num)) = decide (y = x) := by
    rw [decide_eq_decide, h2, h3, hv.1, hv.2]
    constructor
    · rintro ⟨e1, e2⟩; exact Prod.ext e1 (by omega)
    · rintro rfl; exact ⟨rfl, rfl⟩
  rw [hdec] at SV
  obtain ⟨ki, nm, num, ao, n, cap⟩ := a
  dsimp only at h1 SV ⊢
  subst h1
  clear hb hdec h2 h3 h4
  have HBB := hide (show Below w.heap.size w ((((w.alloc (.cells #[.int .i64 2, .string nm, .int .i64 num, .slice ao n cap] 109)).alloc (.cells #[.int .i64 v.k, .string v.nm, .int .i64 v.num, .slice v.ao v.n v.cap] 109)).alloc (.cells #[.int .i64 b.k, .string b.nm, .int .i64 b.num, .slice b.ao b.n b.cap] 109)).alloc (.cells #[.int .i64 0, .string ⟨#[]⟩, .int .i64 0, .slice none 0 0] 109)) from (((((Below.refl _ _).alloc (Nat.le_refl _) _).alloc (by simp) _).alloc (by simp; omega) _).alloc (by simp; omega) _))
  have hW := put_start w P ⟨2, nm, num, ao, n, cap⟩ v b [] x t
  obtain ⟨j, av, us, -, -, -, w0, w1, w2, w3, -⟩ := hW
  have u0 := (Below.heap_alloc _ _ _ (by simp; omega)).symm.trans w0
  have u1 := (Below.heap_alloc _ _ _ (by simp)).symm.trans w1
  have u2 := (Below.heap_alloc _ _ _ (by simp)).symm.trans w2
  have u3 := (Below.heap_alloc _ _ _ (by simp)).symm.trans w3
  have H0 := hide u0
  have H2 := hide u2
  have H3 := hide u3
  clear w0 w1 w2 w3 u0 u1 u2 u3
  have finish : ∀ (c : BV) (u : Parl.U) (w1 : World), VU P w c u → Parl.put (.v y) x t = u → Below w.heap.size w w1 → PPut P (.v y) x t w (.returned (.agg #[.int .i64 c.k, .string c.nm, .int .i64 c.num, .slice c.ao c.n c.cap])) ((((w1.setCell ⟨w.heap.size + 3, 0, none⟩ (.int .i64 c.k)).setCell ⟨w.heap.size + 3, 1, none⟩ (.string c.nm)).setCell ⟨w.heap.size + 3, 2, none⟩ (.int .i64 c.num)).setCell ⟨w.heap.size + 3, 3, none⟩ (.slice c.ao c.n c.cap)) := fun c u w1 hc he hb => by
    have hB := (((hb.setCell (p := ⟨w.heap.size + 3, 0, none⟩) (by show w.heap.size ≤ w.heap.size + 3; omega) (.int .i64 c.k)).setCell (p := ⟨w.heap.size + 3, 1, none⟩) (by show w.heap.size ≤ w.heap.size + 3; omega) (.string c.nm)).setCell (p := ⟨w.heap.size + 3, 2, none⟩) (by show w.heap.size ≤ w.heap.size + 3; omega) (.int .i64 c.num)).setCell (p := ⟨w.heap.size + 3, 3, none⟩) (by show w.heap.size ≤ w.heap.size + 3; omega) (.slice c.ao c.n c.cap)
    exact ⟨c, rfl, by rw [he]; exact (hc.below hB).imp fun g hp _ => Or.inl hp, hB⟩
  have FIN := hide finish
  clear finish
  by_cases hx : y = x
  · have HP := hide (show Parl.put (.v y) x t = t by subst hx; exact Parl.put_v _ _)
    rw [decide_eq_true hx] at SV
    clear hx
    go_enter Tryz.func108, Tryz.ntmps108
    go_wp2_with fail
    refine (unhide SV _).mono ?_
    rintro e w1 ⟨rfl, hb1⟩
    have HB1 := hide ((unhide HBB).trans (hb1.mono (by simp; omega)))
    have q2 := (hb1.block (w.heap.size + 2) (by simp)).trans (unhide H2)
    have q3 := (hb1.block (w.heap.size + 3) (by simp)).trans (unhide H3)
    have r2 := blkA' q2
    have r3 := blkA' q3
    have x3 := blkX' q3
    have z2 := blk_lt' q2
    have z3 := blk_lt' q3
    clear hb1 q2 q3
    go_wp2_with fail
    refine bodyPost_ret (v := .agg #[.int .i64 b.k, .string b.nm, .int .i64 b.num, .slice b.ao b.n b.cap]) (by simp [results, Tryz.results108, go_sem, r3]) rfl ?_
    exact unhide FIN b t _ (unhide HVB) (unhide HP) (unhide HB1)
  · have HP := hide (show Parl.put (.v y) x t = .v y by show Parl.one x t y = _; unfold Parl.one; rw [if_neg hx])
    rw [decide_eq_false hx] at SV
    clear hx
    go_enter Tryz.func108, Tryz.ntmps108
    go_wp2_with fail
    refine (unhide SV _).mono ?_
    rintro e w1 ⟨rfl, hb1⟩
    have HB1 := hide ((unhide HBB).trans (hb1.mono (by simp; omega)))
    have q0 := (hb1.block w.heap.size (by simp; omega)).trans (unhide H0)
    have q3 := (hb1.block (w.heap.size + 3) (by simp)).trans (unhide H3)
    have r0 := blkA' q0
    have r3 := blkA' q3
    have x3 := blkX' q3
    have z0 := blk_lt' q0
    have z3 := blk_lt' q3
    clear hb1 q0 q3
    go_wp2_with fail
    refine bodyPost_ret (v := .agg #[.int .i64 2, .string nm, .int .i64 num, .slice ao n cap]) (by simp [results, Tryz.results108, go_sem, r3]) rfl ?_
    exact unhide FIN ⟨2, nm, num, ao, n, cap⟩ (.v y) _ (unhide HVA) (unhide HP) (unhide HB1)

set_option maxHeartbeats 4000000 in
set_option maxRecDepth 100000 in
theorem put_name {f : Nat} (IH : PutSaid f) (w : World) (P : Nat → Prop) (a v b : BV) (k : Nat) (tx : List UInt8) (num : Int) (ss : List Parl.U) (x : Parl.Vr) (t : Parl.U) (hr : RU (f + 1) P w a (.n k tx num ss)) (hv : IsVr v x) (hb : VU P w b t) :
    Calls Tryz.prog 108 #[.agg #[.int .i64 a.k, .string a.nm, .int .i64 a.num, .slice a.ao a.n a.cap], .agg #[.int .i64 v.k, .string v.nm, .int .i64 v.num, .slice v.ao v.n v.cap], .agg #[.int .i64 b.k, .string b.nm, .int .i64 b.num, .slice b.ao b.n b.cap]] w fun e w' => PPut P (.n k tx num ss) x t w e w' := by
  obtain ⟨hlf, hrow⟩ := hr
  have HLF := hide hlf
  have HROW := hide hrow
  obtain ⟨h1, h2, h3, h4, h5, h6⟩ := hlf
  have HST := hide (put_start w P a v b ss x t)
  obtain ⟨ti, hi, hz0', hz1', hz2'⟩ := info_parts Tryz.info109
  have I := hide IH
  have HV := hide hv
  have HB0 := hide hb
  clear hrow IH hv hb
  obtain ⟨ki, nm, nu, ao, n, cap⟩ := a
  dsimp only at h1 h5 HST HLF HROW ⊢
  subst h5
  have hkk : (ki == 2) = false := by rw [h1]; simp; omega
  clear h1 h2 h3 h4
  go_enter Tryz.func108, Tryz.ntmps108
  go_wp2_with fail
  go_loopg [9] ss.length (fun k iv wr => LPut w P ⟨ki, nm, nu, ao, ss.length, cap⟩ v b ss x t k iv wr)
  case atStart => exact unhide HST
  case round =>
    clear HST
    obtain ⟨j, av, us, hkj, rfl, hB, hb0, hb1, hb2, hb3, hb4, ho, hall⟩ := hrel
    obtain ⟨oo, cp, rfl⟩ := own_shapeS ho
    have hz := hB.size
    have HB := hide hB
    have HB0' := hide hb0
    have HB1 := hide hb1
    have HB2 := hide hb2
    have HB3 := hide hb3
    have HB4 := hide hb4
    have HO := hide ho
    have HALL := hide hall
    have r0 := blkA' hb0
    have z0 := blk_lt' hb0
    have r1 := blkA' hb1
    have z1 := blk_lt' hb1
    have r2 := blkA' hb2
    have z2 := blk_lt' hb2
    have r3 := blkA' hb3
    have x3 := blkX' hb3
    have z3 := blk_lt' hb3
    have r4 := blkA' hb4
    have x4 := blkX' hb4
    have z4 := blk_lt' hb4
    by_cases hlt' : j < ss.length
    · have hne : ss ≠ [] := fun q => by rw [q] at hlt'; simp at hlt'
      obtain ⟨g, vs, cs, hao, -, hcs, htk, hargs⟩ := unhide HROW hne
      have hargs : All2 (RU f P w) vs ss := hargs
      subst hao
      have hjv : j < vs.length := by have := hargs.length; omega
      have hgw : g < w.heap.size := blk_lt' hcs
      have hcw : wr.heap[g]? = some (.cells cs 109 (0, 0)) := (hB.block g hgw).trans hcs
      have fc : ∀ i, i < 4 → wr.cell? ⟨g, j * 4 + i, none⟩ = (bvC vs[j])[i]? := fun i hi => by
        rw [blkA' hcw, ← Array.getElem?_toList, ← bvC_at hjv i hi, ← htk, List.getElem?_take_of_lt (by omega)]
      have f0 := fc 0 (by omega)
      have f1 := fc 1 (by omega)
      have f2 := fc 2 (by omega)
      have f3 := fc 3 (by omega)
      simp only [bvC, List.getElem?_cons_zero, List.getElem?_cons_succ, Nat.add_zero] at f0 f1 f2 f3
      have hgr : g < wr.heap.size := by omega
      have keepP : ∀ g cs, P g → w.heap[g]? = some (.cells cs 109 (0, 0)) → wr.heap[g]? = some (.cells cs 109 (0, 0)) ∧ (P g ∧ g < w.heap.size) := fun g cs hp hc => ⟨(hB.block g (blk_lt' hc)).trans hc, hp, blk_lt' hc⟩
      have hFOUR := hide (fun w' (hb : Below wr.heap.size wr w') => (⟨(hb.cell (p := ⟨w.heap.size, 3, none⟩) z0).trans (r0 3), (hb.cell (p := ⟨g, j * 4, none⟩) hgr).trans f0, (hb.cell (p := ⟨g, j * 4 + 1, none⟩) hgr).trans f1, (hb.cell (p := ⟨g, j * 4 + 2, none⟩) hgr).trans f2, (hb.cell (p := ⟨g, j * 4 + 3, none⟩) hgr).trans f3, (hb.cell (p := ⟨w.heap.size + 1, 0, none⟩) z1).trans (r1 0), (hb.cell (p := ⟨w.heap.size + 1, 1, none⟩) z1).trans (r1 1), (hb.cell (p := ⟨w.heap.size + 1, 2, none⟩) z1).trans (r1 2), (hb.cell (p := ⟨w.heap.size + 1, 3, none⟩) z1).trans (r1 3), (hb.cell (p := ⟨w.heap.size + 2, 0, none⟩) z2).trans (r2 0), (hb.cell (p := ⟨w.heap.size + 2, 1, none⟩) z2).trans (r2 1), (hb.cell (p := ⟨w.heap.size + 2, 2, none⟩) z2).trans (r2 2), (hb.cell (p := ⟨w.heap.size + 2, 3, none⟩) z2).trans (r2 3)⟩ :
        w'.cell? ⟨w.heap.size, 3, none⟩ = some (.slice (some ⟨g, 0, none⟩) ss.length cap) ∧ w'.cell? ⟨g, j * 4, none⟩ = some (.int .i64 vs[j].k) ∧ w'.cell? ⟨g, j * 4 + 1, none⟩ = some (.string vs[j].nm) ∧ w'.cell? ⟨g, j * 4 + 2, none⟩ = some (.int .i64 vs[j].num) ∧ w'.cell? ⟨g, j * 4 + 3, none⟩ = some (.slice vs[j].ao vs[j].n vs[j].cap) ∧ w'.cell? ⟨w.heap.size + 1, 0, none⟩ = some (.int .i64 v.k) ∧ w'.cell? ⟨w.heap.size + 1, 1, none⟩ = some (.string v.nm) ∧ w'.cell? ⟨w.heap.size + 1, 2, none⟩ = some (.int .i64 v.num) ∧ w'.cell? ⟨w.heap.size + 1, 3, none⟩ = some (.slice v.ao v.n v.cap) ∧ w'.cell? ⟨w.heap.size + 2, 0, none⟩ = some (.int .i64 b.k) ∧ w'.cell? ⟨w.heap.size + 2, 1, none⟩ = some (.string b.nm) ∧ w'.cell? ⟨w.heap.size + 2, 2, none⟩ = some (.int .i64 b.num) ∧ w'.cell? ⟨w.heap.size + 2, 3, none⟩ = some (.slice b.ao b.n b.cap)))
      have IC := hide (fun W (hW : Below wr.heap.size wr W) => unhide I W (fun g => P g ∧ g < w.heap.size) vs[j] v b ss[j] x t ((hargs.at j hjv hlt').keep fun g cs hp hc => ⟨(hW.block g (by have := (keepP g cs hp hc).2.2; omega)).trans (keepP g cs hp hc).1, (keepP g cs hp hc).2⟩) (unhide HV) ((unhide HB0).keep fun g cs hp hc => ⟨(hW.block g (by have := (keepP g cs hp hc).2.2; omega)).trans (keepP g cs hp hc).1, (keepP g cs hp hc).2⟩))
      have i0 : (0 : Int) ≤ (j : Int) := by omega
      have i1 : (j : Int) < (ss.length : Int) := by omega
      have HTK := hide (show (ss.take (j + 1)).map (fun c => Parl.put c x t) = (ss.take j).map (fun c => Parl.put c x t) ++ [Parl.put ss[j] x t] by rw [List.take_add_one, List.getElem?_eq_getElem hlt', List.map_append]; rfl)
      have HLT := hide hlt'
      have HKJ := hide hkj
      have hj3 : j ≤ 3 := by omega
      clear hB hb0 hb1 hb2 hb3 hb4 ho hall hcs htk hargs hcw fc hkj hne keepP
      generalize vs[j] = vj at *
      generalize ss[j] = uj at *
      unfold PPut at IC
      obtain ⟨c0, c1, c2, c3, c4, c5, c6, c7, c8, c9, c10, c11, c12⟩ := unhide hFOUR wr (Below.refl _ _)
      clear r0 r1 r2 r3 r4 x3 x4 f0 f1 f2 f3
      go_wp2_with fail
      go_region_held3 (fun w' => w'.cell? ⟨w.heap.size, 3, none⟩ = some (.slice (some ⟨g, 0, none⟩) ss.length cap) ∧ w'.cell? ⟨g, j * 4, none⟩ = some (.int .i64 vj.k) ∧ w'.cell? ⟨g, j * 4 + 1, none⟩ = some (.string vj.nm) ∧ w'.cell? ⟨g, j * 4 + 2, none⟩ = some (.int .i64 vj.num) ∧ w'.cell? ⟨g, j * 4 + 3, none⟩ = some (.slice vj.ao vj.n vj.cap) ∧ w'.cell? ⟨w.heap.size + 1, 0, none⟩ = some (.int .i64 v.k) ∧ w'.cell? ⟨w.heap.size + 1, 1, none⟩ = some (.string v.nm) ∧ w'.cell? ⟨w.heap.size + 1, 2, none⟩ = some (.int .i64 v.num) ∧ w'.cell? ⟨w.heap.size + 1, 3, none⟩ = some (.slice v.ao v.n v.cap) ∧ w'.cell? ⟨w.heap.size + 2, 0, none⟩ = some (.int .i64 b.k) ∧ w'.cell? ⟨w.heap.size + 2, 1, none⟩ = some (.string b.nm) ∧ w'.cell? ⟨w.heap.size + 2, 2, none⟩ = some (.int .i64 b.num) ∧ w'.cell? ⟨w.heap.size + 2, 3, none⟩ = some (.slice b.ao b.n b.cap)) (first | go_keep | (exact unhide hFOUR _ (unhide HBB)) | (exact unhide hFOUR _ ((unhide HBB).alloc (unhide HBB).size _)) | (exact unhide hFOUR _ (((((unhide HBB).setCell (p := ⟨wr.heap.size, 0, none⟩) (Nat.le_refl _) _).setCell (p := ⟨wr.heap.size, 1, none⟩) (Nat.le_refl _) _).setCell (p := ⟨wr.heap.size, 2, none⟩) (Nat.le_refl _) _).setCell (p := ⟨wr.heap.size, 3, none⟩) (Nat.le_refl _) _))) (first
        | (go_at_call 108; refine (unhide IC _ (Below.refl _ _).drew).mono ?_; rintro e w2 ⟨a2, rfl, hrs, hbb⟩; have HRS := hide hrs; have HBB := hide (show Below wr.heap.size wr w2 from (Below.refl _ _).drew.trans hbb); clear hrs hbb)
        | (go_at_call 108; refine (unhide IC _ (((Below.refl _ _).alloc (Nat.le_refl _) _))).mono ?_; rintro e w2 ⟨a2, rfl, hrs, hbb⟩; have HRS := hide hrs; have HBB := hide (show Below wr.heap.size wr w2 from ((Below.refl _ _).alloc (Nat.le_refl _) _).trans (hbb.mono (by simp))); have q10 := (hbb.block wr.heap.size (by simp)).trans (heap_alloc_new _ _); have k10 := blkA' q10; have k11 := blkX' q10; have k12 := blk_lt' q10; have HQ10 := hide q10; clear hrs hbb q10)
        | (go_at_call 108; refine (unhide IC _ (((Below.refl _ _).drew).alloc (Nat.le_refl _) _)).mono ?_; rintro e w2 ⟨a2, rfl, hrs, hbb⟩; have HRS := hide hrs; have HBB := hide (show Below wr.heap.size wr w2 from (((Below.refl _ _).drew).alloc (Nat.le_refl _) _).trans (hbb.mono (by simp))); have q10 := (hbb.block wr.heap.size (by simp)).trans (heap_alloc_new _ _); have k10 := blkA' q10; have k11 := blkX' q10; have k12 := blk_lt' q10; have HQ10 := hide q10; clear hrs hbb q10))
      all_goals
        first
          | (have hF : ∃ (wf : World) (tb : Nat), wf = w2.alloc (.cells #[.int .i64 a2.k, .string a2.nm, .int .i64 a2.num, .slice a2.ao a2.n a2.cap] 109) ∧ tb = w2.heap.size ∧ Below wr.heap.size wr wf ∧ VU (fun g => (P g ∧ g < w.heap.size) ∨ wr.heap.size ≤ g) wf a2 (Parl.put uj x t) ∧ wf.heap[tb]? = some (.cells #[.int .i64 a2.k, .string a2.nm, .int .i64 a2.num, .slice a2.ao a2.n a2.cap] 109 (0, 0)) := ⟨_, _, rfl, rfl, (unhide HBB).alloc (unhide HBB).size _, (unhide HRS).below ((Below.refl _ _).alloc (Nat.le_refl _) _), heap_alloc_new _ _⟩
             obtain ⟨wf, tb, hwf, htb, hbf, hvf, hcf⟩ := hF
             rw [← hwf, ← htb])
          | (have hF : ∃ (wf : World) (tb : Nat), wf = (((w2.setCell ⟨wr.heap.size, 0, none⟩ (.int .i64 a2.k)).setCell ⟨wr.heap.size, 1, none⟩ (.string a2.nm)).setCell ⟨wr.heap.size, 2, none⟩ (.int .i64 a2.num)).setCell ⟨wr.heap.size, 3, none⟩ (.slice a2.ao a2.n a2.cap) ∧ tb = wr.heap.size ∧ Below wr.heap.size wr wf ∧ VU (fun g => (P g ∧ g < w.heap.size) ∨ wr.heap.size ≤ g) wf a2 (Parl.put uj x t) ∧ wf.heap[tb]? = some (.cells #[.int .i64 a2.k, .string a2.nm, .int .i64 a2.num, .slice a2.ao a2.n a2.cap] 109 (0, 0)) := by
              have hk : ∀ g, g ≠ wr.heap.size → ((((w2.setCell ⟨wr.heap.size, 0, none⟩ (.int .i64 a2.k)).setCell ⟨wr.heap.size, 1, none⟩ (.string a2.nm)).setCell ⟨wr.heap.size, 2, none⟩ (.int .i64 a2.num)).setCell ⟨wr.heap.size, 3, none⟩ (.slice a2.ao a2.n a2.cap)).heap[g]? = w2.heap[g]? := fun g hg => by rw [heap_set _ _ _ _ hg, heap_set _ _ _ _ hg, heap_set _ _ _ _ hg, heap_set _ _ _ _ hg]
              refine ⟨_, _, rfl, rfl, ((((unhide HBB).setCell (p := ⟨wr.heap.size, 0, none⟩) (Nat.le_refl _) _).setCell (p := ⟨wr.heap.size, 1, none⟩) (Nat.le_refl _) _).setCell (p := ⟨wr.heap.size, 2, none⟩) (Nat.le_refl _) _).setCell (p := ⟨wr.heap.size, 3, none⟩) (Nat.le_refl _) _, (unhide HRS).keep fun g cs hp hc => ⟨(hk g ?_).trans hc, ?_⟩, ?_⟩
              · rcases hp with ⟨_, p⟩ | p
                · omega
                · simp at p; omega
              · rcases hp with p | p
                · exact Or.inl p
                · simp at p; exact Or.inr (by omega)
              · have := blk_set (blk_set (blk_set (blk_set (unhide HQ10) 0 (.int .i64 a2.k)) 1 (.string a2.nm)) 2 (.int .i64 a2.num)) 3 (.slice a2.ao a2.n a2.cap)
                simpa using this
             obtain ⟨wf, tb, hwf, htb, hbf, hvf, hcf⟩ := hF
             rw [← hwf, ← htb])
        clear hwf htb
        have HBF := hide hbf
        have HVF := hide hvf
        have m0 := blkA' hcf 0
        have m1 := blkA' hcf 1
        have m2 := blkA' hcf 2
        have m3 := blkA' hcf 3
        simp only [List.getElem?_toArray, List.getElem?_cons_zero, List.getElem?_cons_succ] at m0 m1 m2 m3
        have mz := blk_lt' hcf
        have q4 := (hbf.block (w.heap.size + 4) z4).trans (unhide HB4)
        have HQ0 := hide ((hbf.block w.heap.size z0).trans (unhide HB0'))
        have HQ1 := hide ((hbf.block (w.heap.size + 1) z1).trans (unhide HB1))
        have HQ2 := hide ((hbf.block (w.heap.size + 2) z2).trans (unhide HB2))
        have HQ3 := hide ((hbf.block (w.heap.size + 3) z3).trans (unhide HB3))
        have HQ4 := hide q4
        have y4 := blkA' q4 3
        have yz4 := blk_lt' q4
        simp only [List.getElem?_toArray, List.getElem?_cons_zero, List.getElem?_cons_succ] at y4
        have HO2 := hide (own_below (unhide HO) hbf)
        have hzz := hbf.size
        clear hbf hvf hcf q4 IC c0 c1 c2 c3 c4 c5 c6 c7 c8 c9 c10 c11 c12
        go_wp2_with (first | (at_builtin; go_must (refine wpList_append_own_at _ rfl (.tmp 43) (.tmp 45) 104 rfl (w.heap.size + 5) 109 ti (.agg #[.int .i64 0, .string ⟨#[]⟩, .int .i64 0, .slice none 0 0]) 4 56 Tryz.underlying104 hi hz0' hz1' hz2' rfl (by decide) _ j (us.flatMap bvC) rfl ((unhide HO2).alloc _) ⟨wf.heap.size, 0, none⟩ 1 1 [.int .i64 a2.k, .string a2.nm, .int .i64 a2.num, .slice a2.ao a2.n a2.cap] rfl rfl (new4' _ _ _ _ _ _) (one4 _ _ _ _ _ _) (by unfold maxLen; omega) (by omega) (by simp; omega) ?_); go_must (intro v' w7 hown' hgrow _ hat; obtain ⟨g', cap', hv, hcm⟩ := ownB_some hown'; subst hv; have HAT := hide (show (Value.slice (some ⟨g', 0, none⟩) (j + 1) cap').ownBlock = (Value.slice oo j cp).ownBlock ∨ (Value.slice (some ⟨g', 0, none⟩) (j + 1) cap').ownBlock = some _ from hat); have HG := hide hgrow; have HOWN7 := hide hown'; have HB7 := hide (((Below.refl (w.heap.size + 5) wf).alloc (by omega) (.cells #[.int .i64 a2.k, .string a2.nm, .int .i64 a2.num, .slice a2.ao a2.n a2.cap] 109)).grown hgrow (by simp; omega) (fun k q => ((unhide HO2).lt k q).1)); have q7 := ((unhide HB7).block (w.heap.size + 4) (by omega)).trans (unhide HQ4); have HQ7 := hide q7; have z7 := blkA' q7; have zx7 := blkX' q7; have zz7 := blk_lt' q7; clear hown' hgrow hat q7)))
        have HR7 := hide (put_next (unhide HALL) (unhide HVF) (unhide HBF) (by omega) (fun k q => (unhide HO).lt k q) (unhide HG) (unhide HAT) (.slice (some ⟨g', 0, none⟩) (j + 1) cap'))
        go_roundg (gk - 1)
        case measure => have := unhide HKJ; have := unhide HLT; omega
        case rel =>
          have hB7 := unhide HB7
          refine ⟨j + 1, .slice (some ⟨g', 0, none⟩) (j + 1) cap', us ++ [a2], by have := unhide HKJ; have := unhide HLT; omega, by go_num, ?_, ?_, ?_, ?_, ?_, ?_, ?_, ?_⟩
          · exact (((unhide HB).trans ((unhide HBF).mono hz)).trans (hB7.mono (by omega))).setCell (p := ⟨w.heap.size + 4, 3, none⟩) (by show w.heap.size ≤ w.heap.size + 4; omega) _
          · exact blk_other ((hB7.block _ (by omega)).trans (unhide HQ0)) (by omega) _ _
          · exact blk_other ((hB7.block _ (by omega)).trans (unhide HQ1)) (by omega) _ _
          · exact blk_other ((hB7.block _ (by omega)).trans (unhide HQ2)) (by omega) _ _
          · exact blk_other ((hB7.block _ (by omega)).trans (unhide HQ3)) (by omega) _ _
          · have := blk_set (unhide HQ7) 3 (.slice (some ⟨g', 0, none⟩) (j + 1) cap')
            simpa using this
          · have := own_at (unhide HOWN7) (w' := w7.setCell ⟨w.heap.size + 4, 3, none⟩ (.slice (some ⟨g', 0, none⟩) (j + 1) cap')) (fun k h1 _ => heap_set _ _ _ _ (by omega))
            rw [List.flatMap_append]
            simpa [bvC] using this
          · rw [unhide HTK]
            exact unhide HR7
    · obtain rfl : j = ss.length := by omega
      rw [List.take_length] at hall
      have HALL := hide hall
      clear hB hb0 hb1 hb2 hb3 hb4 ho hall hkj r1 r2 z1 z2
      go_wp2_with fail
      refine bodyPost_ret (v := .agg #[.int .i64 ki, .string nm, .int .i64 nu, .slice oo ss.length cp]) (by simp [results, Tryz.results108, go_sem, r3]) rfl ?_
      obtain ⟨ao', cap', he, hrs⟩ := put_end (w := w) (unhide HLF) (unhide HALL) (unhide HO) (w' := ((((wr.setCell ⟨w.heap.size + 3, 0, none⟩ (.int .i64 ki)).setCell ⟨w.heap.size + 3, 1, none⟩ (.string nm)).setCell ⟨w.heap.size + 3, 2, none⟩ (.int .i64 nu)).setCell ⟨w.heap.size + 3, 3, none⟩ (.slice oo ss.length cp))) (fun g hg => by rw [heap_set _ _ _ _ hg, heap_set _ _ _ _ hg, heap_set _ _ _ _ hg, heap_set _ _ _ _ hg])
      simp only [Value.slice.injEq, true_and] at he
      obtain ⟨rfl, rfl⟩ := he
      refine ⟨⟨ki, nm, _, oo, ss.length, cp⟩, rfl, hrs, ?_⟩
      exact (((((unhide HB).setCell (p := ⟨w.heap.size + 3, 0, none⟩) (by show w.heap.size ≤ w.heap.size + 3; omega) _).setCell (p := ⟨w.heap.size + 3, 1, none⟩) (by show w.heap.size ≤ w.heap.size + 3; omega) _).setCell (p := ⟨w.heap.size + 3, 2, none⟩) (by show w.heap.size ≤ w.heap.size + 3; omega) _).setCell (p := ⟨w.heap.size + 3, 3, none⟩) (by show w.heap.size ≤ w.heap.size + 3; omega) _)
theorem put_all : ∀ f, PutSaid f
  | 0 => fun _ _ _ _ _ _ _ _ hr => hr.elim
  | f + 1 => fun w P a v b u x t hr hv hb => by
    cases u with
    | v y => exact put_var w P a v b y x t hr.1 hv hb
    | n k tx num ss => exact put_name (put_all f) w P a v b k tx num ss x t hr hv hb
theorem put_any (w : World) (P : Nat → Prop) (a v b : BV) (u : Parl.U) (x : Parl.Vr) (t : Parl.U) (ha : VU P w a u) (hv : IsVr v x) (hb : VU P w b t) :
    Calls Tryz.prog 108 #[.agg #[.int .i64 a.k, .string a.nm, .int .i64 a.num, .slice a.ao a.n a.cap], .agg #[.int .i64 v.k, .string v.nm, .int .i64 v.num, .slice v.ao v.n v.cap], .agg #[.int .i64 b.k, .string b.nm, .int .i64 b.num, .slice b.ao b.n b.cap]] w fun e w' => PPut P u x t w e w' := by
  obtain ⟨f, hf⟩ := ha
  exact put_all f w P a v b u x t hf hv hb
end Go.Proofs.YthfjnfcekeknlaaGreatDoor
namespace Parl
mutual
def hasB (x : Vr) : U → Bool
  | .v y => decide (y = x)
  | .n _ _ _ ss => hasBL x ss
def hasBL (x : Vr) : List U → Bool
  | [] => false
  | a :: ss => hasB x a || hasBL x ss
end
theorem hasBL_iff (x : Vr) : ∀ {ss : List U}, (∀ a ∈ ss, hasB x a = true ↔ has x a) → (hasBL x ss = true ↔ ∃ a ∈ ss, has x a)
  | [], _ => by simp [hasBL]
  | a :: ss, h => by
    rw [hasBL, Bool.or_eq_true, h a (by simp), hasBL_iff x (fun b hb => h b (by simp [hb]))]
    simp
theorem hasB_iff (x : Vr) : ∀ u, hasB x u = true ↔ has x u := by
  refine U.ind (fun y => by simp [hasB, has]) (fun k tx num ss ih => ?_)
  rw [hasB, has_n]
  exact hasBL_iff x ih
theorem hasBL_any (x : Vr) : ∀ ss, hasBL x ss = ss.any (hasB x)
  | [] => rfl
  | a :: ss => by rw [hasBL, hasBL_any x ss]; rfl
end Parl
namespace Go.Proofs.YthfjnfcekeknlaaGreatDoor
open Go.RowKit

set_option maxHeartbeats 1000000 in
theorem alikeU (u v : BV) (w : World) :
    Calls Tryz.prog 105 #[.agg #[.int .i64 u.k, .string u.nm, .int .i64 u.num, .slice u.ao u.n u.cap], .agg #[.int .i64 v.k, .string v.nm, .int .i64 v.num, .slice v.ao v.n v.cap]] w fun e w' => e = .returned (.bool (decide (u.k = v.k ∧ u.nm.toList = v.nm.toList ∧ u.num = v.num ∧ u.n = v.n))) ∧ Below w.heap.size w w' := by
  obtain ⟨k, nm, num, ao, n, cap⟩ := u
  obtain ⟨k', nm', num', ao', n', cap'⟩ := v
  dsimp only
  have HB := hide (show Below w.heap.size w ((w.alloc (.cells #[.int .i64 k, .string nm, .int .i64 num, .slice ao n cap] 109)).alloc (.cells #[.int .i64 k', .string nm', .int .i64 num', .slice ao' n' cap'] 109)) from ((Below.refl _ _).alloc (Nat.le_refl _) _).alloc (by simp) _)
  cases h1 : (k == k')
  · have hd : decide (k = k' ∧ nm.toList = nm'.toList ∧ num = num' ∧ n = n') = false := decide_eq_false (fun q => by rw [q.1] at h1; simp at h1)
    rw [hd]
    clear hd
    go_enter Tryz.func105, Tryz.ntmps105
    go_wp2_with fail
    go_ret
    exact ⟨rfl, unhide HB⟩
  · cases h2 : (nm.toList == nm'.toList)
    · have hd : decide (k = k' ∧ nm.toList = nm'.toList ∧ num = num' ∧ n = n') = false := decide_eq_false (fun q => by rw [q.2.1] at h2; simp at h2)
      rw [hd]
      clear hd
      go_enter Tryz.func105, Tryz.ntmps105
      go_wp2_with fail
      go_ret
      exact ⟨rfl, unhide HB⟩
    · cases h3 : (num == num')
      · have hd : decide (k = k' ∧ nm.toList = nm'.toList ∧ num = num' ∧ n = n') = false := decide_eq_false (fun q => by rw [q.2.2.1] at h3; simp at h3)
        rw [hd]
        clear hd
        go_enter Tryz.func105, Tryz.ntmps105
        go_wp2_with fail
        go_ret
        exact ⟨rfl, unhide HB⟩
      · have hd : decide (k = k' ∧ nm.toList = nm'.toList ∧ num = num' ∧ n = n') = ((n : Int) == (n' : Int)) := by
          rw [Bool.eq_iff_iff, decide_eq_true_iff]
          rw [beq_iff_eq] at h1 h2 h3
          simp [h1, h2, h3]
          omega
        rw [hd]
        clear hd
        go_enter Tryz.func105, Tryz.ntmps105
        go_wp2_with fail
        go_ret
        exact ⟨rfl, unhide HB⟩

set_option maxHeartbeats 1000000 in
theorem laterU (u v : BV) (w : World) :
    Calls Tryz.prog 104 #[.agg #[.int .i64 u.k, .string u.nm, .int .i64 u.num, .slice u.ao u.n u.cap], .agg #[.int .i64 v.k, .string v.nm, .int .i64 v.num, .slice v.ao v.n v.cap]] w fun e w' => e = .returned (.bool (if u.num = v.num then (!Op.bytesLess u.nm.toList v.nm.toList && !u.nm.toList == v.nm.toList) else decide (v.num < u.num))) ∧ Below w.heap.size w w' := by
  obtain ⟨k, nm, num, ao, n, cap⟩ := u
  obtain ⟨k', nm', num', ao', n', cap'⟩ := v
  dsimp only
  have HB := hide (show Below w.heap.size w ((w.alloc (.cells #[.int .i64 k, .string nm, .int .i64 num, .slice ao n cap] 109)).alloc (.cells #[.int .i64 k', .string nm', .int .i64 num', .slice ao' n' cap'] 109)) from ((Below.refl _ _).alloc (Nat.le_refl _) _).alloc (by simp) _)
  by_cases h1 : num = num'
  · subst h1
    rw [if_pos rfl]
    go_enter Tryz.func104, Tryz.ntmps104
    go_wp2_with fail
    go_ret
    exact ⟨rfl, unhide HB⟩
  · rw [if_neg h1]
    have t : (num != num') = true := by simpa using h1
    clear h1
    go_enter Tryz.func104, Tryz.ntmps104
    go_wp2_with fail
    go_ret
    exact ⟨rfl, unhide HB⟩
def HasSaid (f : Nat) : Prop := ∀ (w : World) (P : Nat → Prop) (a v : BV) (u : Parl.U) (x : Parl.Vr), RU f P w a u → IsVr v x →
  Calls Tryz.prog 107 #[.agg #[.int .i64 a.k, .string a.nm, .int .i64 a.num, .slice a.ao a.n a.cap], .agg #[.int .i64 v.k, .string v.nm, .int .i64 v.num, .slice v.ao v.n v.cap]] w fun e w' => e = .returned (.bool (Parl.hasB x u)) ∧ Below w.heap.size w w'

set_option maxHeartbeats 4000000 in
set_option maxRecDepth 100000 in
theorem has_step {f : Nat} (IH : HasSaid f) : HasSaid (f + 1) := by
  intro w P a v u x hr hv
  obtain ⟨hlf, hrow⟩ := hr
  cases u with
  | v y =>
    obtain ⟨h1, h2, h3, h4⟩ := hlf
    have SV := hide (fun W => sameVarU a v W)
    have hdec : (decide (a.nm.toList = v.nm.toList ∧ a.num = v.num)) = Parl.hasB x (.v y) := by
      rw [Parl.hasB, decide_eq_decide, h2, h3, hv.1, hv.2]
      constructor
      · rintro ⟨e1, e2⟩; exact Prod.ext e1 (by omega)
      · rintro rfl; exact ⟨rfl, rfl⟩
    rw [hdec] at SV
    obtain ⟨ki, nm, num, ao, n, cap⟩ := a
    dsimp only at h1 SV ⊢
    subst h1
    clear h2 h3 h4 hdec hrow
    generalize Parl.hasB x (.v y) = B at *
    have HB := hide (show Below w.heap.size w ((w.alloc (.cells #[.int .i64 2, .string nm, .int .i64 num, .slice ao n cap] 109)).alloc (.cells #[.int .i64 v.k, .string v.nm, .int .i64 v.num, .slice v.ao v.n v.cap] 109)) from ((Below.refl _ _).alloc (Nat.le_refl _) _).alloc (by simp) _)
    go_enter Tryz.func107, Tryz.ntmps107
    go_wp2_with fail
    refine (unhide SV _).mono ?_
    rintro e w1 ⟨rfl, hb1⟩
    have HB1 := hide ((unhide HB).trans (hb1.mono (by simp; omega)))
    clear hb1
    go_wp2_with fail
    go_ret
    exact ⟨rfl, unhide HB1⟩
  | n k tx num ss =>
    have hrow : ss ≠ [] → ∃ (g : Nat) (us : List BV) (cs : Array Value), a.ao = some ⟨g, 0, none⟩ ∧ P g ∧ w.heap[g]? = some (.cells cs 109 (0, 0)) ∧ cs.toList.take (us.length * 4) = us.flatMap bvC ∧ All2 (RU f P w) us ss := hrow
    obtain ⟨h1, h2, h3, h4, h5, h6⟩ := hlf
    have HROW := hide hrow
    have HV := hide hv
    have I := hide IH
    obtain ⟨ki, nm, nu, ao, n, cap⟩ := a
    dsimp only at h1 h5 HROW ⊢
    subst h5
    have hkk : (ki == 2) = false := by rw [h1]; simp; omega
    clear h1 h2 h3 h4 hrow hv IH
    have HB := hide (show Below w.heap.size w ((w.alloc (.cells #[.int .i64 ki, .string nm, .int .i64 nu, .slice ao ss.length cap] 109)).alloc (.cells #[.int .i64 v.k, .string v.nm, .int .i64 v.num, .slice v.ao v.n v.cap] 109)) from ((Below.refl _ _).alloc (Nat.le_refl _) _).alloc (by simp) _)
    have HBL := hide (show Parl.hasB x (.n k tx num ss) = ss.any (Parl.hasB x) by rw [Parl.hasB, Parl.hasBL_any])
    have e0 := heap_alloc_new w (.cells #[.int .i64 ki, .string nm, .int .i64 nu, .slice ao ss.length cap] 109)
    have H0 := hide (blk_alloc' e0 (.cells #[.int .i64 v.k, .string v.nm, .int .i64 v.num, .slice v.ao v.n v.cap] 109))
    have e1 := heap_alloc_new (w.alloc (.cells #[.int .i64 ki, .string nm, .int .i64 nu, .slice ao ss.length cap] 109)) (.cells #[.int .i64 v.k, .string v.nm, .int .i64 v.num, .slice v.ao v.n v.cap] 109)
    rw [World.size_alloc] at e1
    have H1 := hide e1
    clear e0 e1
    go_enter Tryz.func107, Tryz.ntmps107
    go_wp2_with fail
    go_loopg [5] ss.length (fun k iv wr => ∃ j : Nat, k + j = ss.length ∧ iv = .int .i64 (j : Int) ∧ Below w.heap.size w wr ∧ wr.heap[w.heap.size]? = some (.cells #[.int .i64 ki, .string nm, .int .i64 nu, .slice ao ss.length cap] 109 (0, 0)) ∧ wr.heap[w.heap.size + 1]? = some (.cells #[.int .i64 v.k, .string v.nm, .int .i64 v.num, .slice v.ao v.n v.cap] 109 (0, 0)) ∧ (ss.take j).any (Parl.hasB x) = false)
    case atStart => exact ⟨0, by omega, rfl, unhide HB, unhide H0, unhide H1, rfl⟩
    case round =>
      obtain ⟨j, hkj, rfl, hB, hb0, hb1, hno⟩ := hrel
      have hz := hB.size
      have r0 := blkA' hb0
      have z0 := blk_lt' hb0
      have r1 := blkA' hb1
      have z1 := blk_lt' hb1
      have HBB := hide hB
      have HB0 := hide hb0
      have HB1 := hide hb1
      have HNO := hide hno
      by_cases hlt : j < ss.length
      · obtain ⟨g, vs, cs, hao, -, hcs, htk, hargs⟩ := unhide HROW (fun q => by rw [q] at hlt; simp at hlt)
        subst hao
        have hjv : j < vs.length := by have := hargs.length; omega
        have hgw : g < w.heap.size := blk_lt' hcs
        have hcw : wr.heap[g]? = some (.cells cs 109 (0, 0)) := (hB.block g hgw).trans hcs
        have fc : ∀ i, i < 4 → wr.cell? ⟨g, j * 4 + i, none⟩ = (bvC vs[j])[i]? := fun i hi => by
          rw [blkA' hcw, ← Array.getElem?_toList, ← bvC_at hjv i hi, ← htk, List.getElem?_take_of_lt (by omega)]
        have f0 := fc 0 (by omega)
        have f1 := fc 1 (by omega)
        have f2 := fc 2 (by omega)
        have f3 := fc 3 (by omega)
        simp only [bvC, List.getElem?_cons_zero, List.getElem?_cons_succ, Nat.add_zero] at f0 f1 f2 f3
        have hgr : g < wr.heap.size := by omega
        have IC := hide (unhide I wr.drew P vs[j] v ss[j] x ((hargs.at j hjv hlt).keep (w' := wr.drew) fun g cs hp hc => ⟨(hB.block g (blk_lt' hc)).trans hc, hp⟩) (unhide HV))
        have HSN := hide (show (ss.take (j + 1)).any (Parl.hasB x) = ((ss.take j).any (Parl.hasB x) || Parl.hasB x ss[j]) by rw [List.take_add_one, List.getElem?_eq_getElem hlt, List.any_append]; simp)
        have HEX := hide (show Parl.hasB x ss[j] = true → ss.any (Parl.hasB x) = true from fun q => List.any_eq_true.2 ⟨ss[j], List.getElem_mem hlt, q⟩)
        have i0 : (0 : Int) ≤ (j : Int) := by omega
        have i1 : (j : Int) < (ss.length : Int) := by omega
        have HKJ := hide hkj
        have HLT := hide hlt
        generalize vs[j] = vj at *
        generalize ss[j] = uj at *
        clear hB hb0 hb1 hno hcs htk hargs hcw fc hkj hlt
        have hFOUR := hide (fun w' (hb : Below wr.heap.size wr w') => (⟨(hb.cell (p := ⟨w.heap.size, 3, none⟩) z0).trans (r0 3), (hb.cell (p := ⟨g, j * 4, none⟩) hgr).trans f0, (hb.cell (p := ⟨g, j * 4 + 1, none⟩) hgr).trans f1, (hb.cell (p := ⟨g, j * 4 + 2, none⟩) hgr).trans f2, (hb.cell (p := ⟨g, j * 4 + 3, none⟩) hgr).trans f3, (hb.cell (p := ⟨w.heap.size + 1, 0, none⟩) z1).trans (r1 0), (hb.cell (p := ⟨w.heap.size + 1, 1, none⟩) z1).trans (r1 1), (hb.cell (p := ⟨w.heap.size + 1, 2, none⟩) z1).trans (r1 2), (hb.cell (p := ⟨w.heap.size + 1, 3, none⟩) z1).trans (r1 3)⟩ :
          w'.cell? ⟨w.heap.size, 3, none⟩ = some (.slice (some ⟨g, 0, none⟩) ss.length cap) ∧ w'.cell? ⟨g, j * 4, none⟩ = some (.int .i64 vj.k) ∧ w'.cell? ⟨g, j * 4 + 1, none⟩ = some (.string vj.nm) ∧ w'.cell? ⟨g, j * 4 + 2, none⟩ = some (.int .i64 vj.num) ∧ w'.cell? ⟨g, j * 4 + 3, none⟩ = some (.slice vj.ao vj.n vj.cap) ∧ w'.cell? ⟨w.heap.size + 1, 0, none⟩ = some (.int .i64 v.k) ∧ w'.cell? ⟨w.heap.size + 1, 1, none⟩ = some (.string v.nm) ∧ w'.cell? ⟨w.heap.size + 1, 2, none⟩ = some (.int .i64 v.num) ∧ w'.cell? ⟨w.heap.size + 1, 3, none⟩ = some (.slice v.ao v.n v.cap)))
        obtain ⟨c0, c1, c2, c3, c4, c5, c6, c7, c8⟩ := unhide hFOUR wr (Below.refl _ _)
        clear r0 r1 f0 f1 f2 f3
        go_wp2_with fail
        go_region_held3 (fun w' => w'.cell? ⟨w.heap.size, 3, none⟩ = some (.slice (some ⟨g, 0, none⟩) ss.length cap) ∧ w'.cell? ⟨g, j * 4, none⟩ = some (.int .i64 vj.k) ∧ w'.cell? ⟨g, j * 4 + 1, none⟩ = some (.string vj.nm) ∧ w'.cell? ⟨g, j * 4 + 2, none⟩ = some (.int .i64 vj.num) ∧ w'.cell? ⟨g, j * 4 + 3, none⟩ = some (.slice vj.ao vj.n vj.cap) ∧ w'.cell? ⟨w.heap.size + 1, 0, none⟩ = some (.int .i64 v.k) ∧ w'.cell? ⟨w.heap.size + 1, 1, none⟩ = some (.string v.nm) ∧ w'.cell? ⟨w.heap.size + 1, 2, none⟩ = some (.int .i64 v.num) ∧ w'.cell? ⟨w.heap.size + 1, 3, none⟩ = some (.slice v.ao v.n v.cap)) (first | go_keep | (exact unhide hFOUR _ (unhide HB2))) ((go_at_call 107; refine (unhide IC).mono ?_; rintro e w2 ⟨rfl, hb2⟩; have HB2 := hide (show Below wr.heap.size wr w2 from (Below.refl _ _).drew.trans hb2); clear hb2))
        all_goals
          cases hq : Parl.hasB x uj
          · rw [hq] at HSN HEX
            clear hq
            go_wp2_with fail
            go_roundg (gk - 1)
            case measure => have := unhide HKJ; have := unhide HLT; omega
            case rel => exact ⟨j + 1, by have := unhide HKJ; have := unhide HLT; omega, by go_num, (unhide HBB).trans ((unhide HB2).mono hz), ((unhide HB2).block _ z0).trans (unhide HB0), ((unhide HB2).block _ z1).trans (unhide HB1), by rw [unhide HSN, unhide HNO]; rfl⟩
          · rw [hq] at HSN HEX
            clear hq
            go_wp2_with fail
            go_ret
            exact ⟨by rw [unhide HBL, unhide HEX (by trivial)]; rfl, (unhide HBB).trans ((unhide HB2).mono hz)⟩
      · obtain rfl : j = ss.length := by omega
        rw [List.take_length] at hno
        have HN2 := hide hno
        clear hB hb0 hb1 hno hkj
        go_wp2_with fail
        go_ret
        exact ⟨by rw [unhide HBL, unhide HN2]; rfl, unhide HBB⟩
theorem has_all : ∀ f, HasSaid f
  | 0 => fun _ _ _ _ _ _ hr => hr.elim
  | f + 1 => has_step (has_all f)
theorem hasU (w : World) (P : Nat → Prop) (a v : BV) (u : Parl.U) (x : Parl.Vr) (ha : VU P w a u) (hv : IsVr v x) :
    Calls Tryz.prog 107 #[.agg #[.int .i64 a.k, .string a.nm, .int .i64 a.num, .slice a.ao a.n a.cap], .agg #[.int .i64 v.k, .string v.nm, .int .i64 v.num, .slice v.ao v.n v.cap]] w fun e w' => e = .returned (.bool (Parl.hasB x u)) ∧ Below w.heap.size w w' := by
  obtain ⟨f, hf⟩ := ha
  exact has_all f w P a v u x hf hv
end Go.Proofs.YthfjnfcekeknlaaGreatDoor
namespace Parl
section
variable {lt : Vr → Vr → Prop} {θ : Vr → U} {l : List (U × U)} {r : Option (List (Vr × U))} {k : Nat}
theorem SolB.at_nil (h : SolB lt θ [] r k) : r = some [] ∧ k = 0 := by cases h; exact ⟨rfl, rfl⟩
theorem SolB.at_nn {a b c d e f g i} (h : SolB lt θ ((.n a b c d, .n e f g i) :: l) r k) : (same2 a b c d e f g i ∧ ∃ m, k = m + 1 ∧ SolB lt θ (i.zip d ++ l) r m) ∨ (¬ same2 a b c d e f g i ∧ r = none) := by
  cases h with
  | args h hs => exact Or.inl ⟨h, _, rfl, hs⟩
  | clash h => exact Or.inr ⟨h, rfl⟩
theorem SolB.at_vv {x y} (h : SolB lt θ ((.v x, .v y) :: l) r k) : (x = y ∧ ∃ m, k = m + 1 ∧ SolB lt θ l r m) ∨
    (x ≠ y ∧ ¬ lt x y ∧ ∃ r' m, k = m + 1 ∧ r = r'.map ((x, .v y) :: ·) ∧ θ x = sub θ (.v y) ∧ SolB lt θ (l.map fun e => (put e.1 x (.v y), put e.2 x (.v y))) r' m) ∨
    (x ≠ y ∧ lt x y ∧ ∃ r' m, k = m + 1 ∧ r = r'.map ((y, .v x) :: ·) ∧ θ y = sub θ (.v x) ∧ SolB lt θ (l.map fun e => (put e.1 y (.v x), put e.2 y (.v x))) r' m) := by
  cases h with
  | same hs => exact Or.inl ⟨rfl, _, rfl, hs⟩
  | left hθ hv ho hs => exact Or.inr (Or.inl ⟨Ne.symm (hv y rfl).1, (hv y rfl).2, _, _, rfl, rfl, hθ, hs⟩)
  | right hθ hv ho hs => exact Or.inr (Or.inr ⟨(hv x rfl).1, (hv x rfl).2, _, _, rfl, rfl, hθ, hs⟩)
  | occL hv ho => exact absurd rfl (hv y)
  | occR hv ho => exact absurd rfl (hv x)
theorem SolB.at_vn {x a b c d} (h : SolB lt θ ((.v x, .n a b c d) :: l) r k) : (has x (.n a b c d) ∧ r = none) ∨
    (¬ has x (.n a b c d) ∧ ∃ r' m, k = m + 1 ∧ r = r'.map ((x, .n a b c d) :: ·) ∧ θ x = sub θ (.n a b c d) ∧ SolB lt θ (l.map fun e => (put e.1 x (.n a b c d), put e.2 x (.n a b c d))) r' m) := by
  cases h with
  | left hθ hv ho hs => exact Or.inr ⟨ho, _, _, rfl, rfl, hθ, hs⟩
  | occL hv ho => exact Or.inl ⟨ho, rfl⟩
theorem SolB.at_nv {y a b c d} (h : SolB lt θ ((.n a b c d, .v y) :: l) r k) : (has y (.n a b c d) ∧ r = none) ∨
    (¬ has y (.n a b c d) ∧ ∃ r' m, k = m + 1 ∧ r = r'.map ((y, .n a b c d) :: ·) ∧ θ y = sub θ (.n a b c d) ∧ SolB lt θ (l.map fun e => (put e.1 y (.n a b c d), put e.2 y (.n a b c d))) r' m) := by
  cases h with
  | right hθ hv ho hs => exact Or.inr ⟨ho, _, _, rfl, rfl, hθ, hs⟩
  | occR hv ho => exact Or.inl ⟨ho, rfl⟩
end
/-- Which of two variables was made earlier. -/
def ltV (x y : Vr) : Bool := if y.2 = x.2 then (!Go.Op.bytesLess y.1 x.1 && !y.1 == x.1) else decide (x.2 < y.2)
end Parl
namespace Go.Proofs.YthfjnfcekeknlaaGreatDoor
open Go.RowKit

/-- An equation's, a bind's cells. -/
def buC (p : BV × BV) : List Value := bvC p.1 ++ bvC p.2
theorem buC_len (p : BV × BV) : (buC p).length = 8 := rfl
theorem buC_length (us : List (BV × BV)) : (us.flatMap buC).length = us.length * 8 := by
  induction us with
  | nil => rfl
  | cons a r ih => rw [List.flatMap_cons, List.length_append, ih, buC_len, List.length_cons]; omega
theorem buC_at {us : List (BV × BV)} {i : Nat} (h : i < us.length) (j : Nat) (hj : j < 8) : (us.flatMap buC)[i * 8 + j]? = (buC us[i])[j]? := by
  induction us generalizing i with
  | nil => simp at h
  | cons t r ih =>
    cases i with
    | zero => rw [List.flatMap_cons, List.getElem?_append_left (by rw [buC_len]; omega)]; simp
    | succ i =>
      rw [List.flatMap_cons, List.getElem?_append_right (by rw [buC_len]; omega), buC_len]
      rw [show (i + 1) * 8 + j - 8 = i * 8 + j by omega]
      simpa using ih (by simpa using h)
abbrev anyU : Nat → Prop := fun _ => True
/-- The equation lies there. -/
def EqU (w : World) (p : BV × BV) (e : Parl.U × Parl.U) : Prop := VU anyU w p.1 e.1 ∧ VU anyU w p.2 e.2
def BdU (w : World) (p : BV × BV) (e : Parl.Vr × Parl.U) : Prop := IsVr p.1 e.1 ∧ VU anyU w p.2 e.2
/-- A row of equations lies there. -/
def RowE (w : World) (v : Value) (l : List (Parl.U × Parl.U)) : Prop := ∃ (o : Option Addr) (c : Nat), v = .slice o l.length c ∧ l.length ≤ c ∧ (l ≠ [] → ∃ (g off : Nat) (bs : List (BV × BV)) (cs : Array Value), o = some ⟨g, off, none⟩ ∧ w.heap[g]? = some (.cells cs 132 (0, 0)) ∧ (cs.toList.drop off).take (bs.length * 8) = bs.flatMap buC ∧ All2 (EqU w) bs l)
theorem EqU.below {w w' : World} {p : BV × BV} {e : Parl.U × Parl.U} (h : EqU w p e) (hb : Below w.heap.size w w') : EqU w' p e := ⟨h.1.below hb, h.2.below hb⟩
/-- What 'solve' is to leave. -/
def PSol (R : Option (List (Parl.Vr × Parl.U))) (w : World) (e : Ending) (w' : World) : Prop := Below w.heap.size w w' ∧ match R with
  | none => e = .returned (.tuple #[.slice none 0 0, .bool false])
  | some out => ∃ (oo : Option Addr) (oc : Nat) (bo : List (BV × BV)), e = .returned (.tuple #[.slice oo out.length oc, .bool true]) ∧ w'.ownsRow w.heap.size 132 8 (.slice oo out.length oc) out.length (bo.flatMap buC) ∧ All2 (BdU w') bo out
/-- The loop's relation. -/
def LSol (w : World) (θ : Parl.Vr → Parl.U) (B V0 : Nat) (R : Option (List (Parl.Vr × Parl.U))) (k : Nat) (lv ov : Value) (wr : World) : Prop :=
  ∃ (l : List (Parl.U × Parl.U)) (outs : List (Parl.Vr × Parl.U)) (r : Option (List (Parl.Vr × Parl.U))) (oo : Option Addr) (oc : Nat) (bo : List (BV × BV)), Parl.SolB (fun x y => Parl.ltV x y = true) θ l r k ∧ Parl.Stk θ B l ∧ (Parl.vs l).length + outs.length ≤ V0 ∧ R = r.map (outs ++ ·) ∧ Below w.heap.size w wr ∧ RowE wr lv l ∧ ov = .slice oo outs.length oc ∧ wr.ownsRow w.heap.size 132 8 (.slice oo outs.length oc) outs.length (bo.flatMap buC) ∧ All2 (BdU wr) bo outs ∧ (∀ o n c, lv = .slice o n c → ∀ p q, o = some p → oo = some q → p.block ≠ q.block)
/-- Terms stay where rows of binds grow. -/
theorem VU.grown {w w' : World} {a : BV} {u : Parl.U} {row : Option Nat} (h : VU anyU w a u) (hg : w.grownBy w' row) (hr : ∀ g, row = some g → ∃ cs, w.heap[g]? = some (.cells cs 132 (0, 0))) : VU anyU w' a u :=
  h.keep fun g cs hp hc => ⟨(hg.block g (blk_lt' hc) (fun e => by
    obtain ⟨ds, hd⟩ := hr g e.symm
    rw [hc] at hd
    simp only [Option.some.injEq, Obj.cells.injEq] at hd
    exact absurd hd.2.1 (by decide))).trans hc, hp⟩
theorem row_bind {w : World} {b : Nat} {o : Option Addr} {n c : Nat} {xs : List Value} (h : w.ownsRow b 132 8 (.slice o n c) n xs) : ∀ g, (Value.slice o n c).ownBlock = some g → ∃ cs, w.heap[g]? = some (.cells cs 132 (0, 0)) := fun g q => by
  rcases h.2 with ⟨e, _⟩ | ⟨g', cap, cur, e, _, hc, _⟩
  · rw [e] at q; simp [Value.ownBlock] at q
  · rw [e] at q
    simp [Value.ownBlock] at q
    subst q
    exact ⟨cur, hc⟩
/-- The first equation, and the others. -/
theorem RowE.first {w : World} {v : Value} {e : Parl.U × Parl.U} {l : List (Parl.U × Parl.U)} (h : RowE w v (e :: l)) : ∃ g off c p, v = .slice (some ⟨g, off, none⟩) (l.length + 1) c ∧ l.length + 1 ≤ c ∧ g < w.heap.size ∧ EqU w p e ∧ (∀ j, j < 8 → w.cell? ⟨g, off + j, none⟩ = (buC p)[j]?) ∧ RowE w (.slice (some ⟨g, off + 8, none⟩) l.length (c - 1)) l := by
  obtain ⟨o, c, h1, h2, h3⟩ := h
  obtain ⟨g, off, bs, cs, q1, q2, q3, q4⟩ := h3 (by simp)
  subst q1
  cases bs with
  | nil => exact q4.elim
  | cons p bs =>
    refine ⟨g, off, c, p, h1, h2, blk_lt' q2, q4.1, fun j hj => ?_, some ⟨g, off + 8, none⟩, c - 1, rfl, by simp at h2; omega, fun hne => ⟨g, off + 8, bs, cs, rfl, q2, ?_, q4.2⟩⟩
    · rw [blkA' q2, ← Array.getElem?_toList, ← List.getElem?_drop]
      have e : ((cs.toList.drop off).take ((p :: bs).length * 8))[j]? = ((p :: bs).flatMap buC)[j]? := by rw [q3]
      rw [List.getElem?_take_of_lt (by simp; omega)] at e
      rw [e]
      have := buC_at (us := p :: bs) (i := 0) (by simp) j hj
      simpa using this
    · have e := congrArg (List.drop 8) q3
      rw [List.drop_take, List.drop_drop, List.flatMap_cons, List.drop_left' (buC_len p)] at e
      rw [← e]
      congr 1
      simp
      omega
theorem RowE.nil {w : World} {v : Value} (h : RowE w v []) : ∃ o c, v = .slice o 0 c := by
  obtain ⟨o, c, h1, _⟩ := h
  exact ⟨o, c, h1⟩
end Go.Proofs.YthfjnfcekeknlaaGreatDoor
namespace Go.Proofs.YthfjnfcekeknlaaGreatDoor
/-- A Go function's call of three values, as one step of a region that draws. -/
theorem step_call3 {P : Program} {ops : Array Oper} {o : Oper} {a : Act} {w : World} {K : Act → World → Prop} {Q : Exit → Act → World → Prop} {E : Prop} (hgd : o.guard = none) (f : FuncId) (fn : Func) (hf : P.funcs[f]? = some fn) (hn : (fn.name == "runtime.NumGoroutine") = false) (hb : fn.body.isNone = false) (x y z : Operand) (t1 t2 t3 : TypeId)
    (ho : o.op = .call { callee := .value (.func f), args := #[x, y, z], argTypes := #[t1, t2, t3] }) (u v s : Value) (hx : a.eval x = u) (hy : a.eval y = v) (hz : a.eval z = s)
    (h : Calls P f #[u, v, s] w fun e w' => ∃ r, e = .returned r ∧ K (a.put o.dst r) w') :
    if Region.wanted o (yielded ops a.tmps) = true then Oper.wp P o a w K Q else E := by
  have hw : Region.wanted o (yielded ops a.tmps) = true := by simp [Region.wanted, hgd]
  rw [if_pos hw]
  have h2 : Calls P f #[u, v, s] w fun
      | .returned v, w'' => K (a.put o.dst v) w''
      | .panicked chain, w'' => Q (.panic chain) a w''
      | .outgrown, _ => LetsOut Q := h.mono fun e w' ⟨r, hr, hk⟩ => by subst hr; exact hk
  have hc : ∀ args, (callFunc f args).run P w = .ok (.enter f args) w := fun args => by
    unfold callFunc
    simp [hf, go_sem]
    rw [if_neg (fun q => by rw [q] at hn; simp at hn), if_neg (fun q => by rw [q] at hb; simp at hb)]
  unfold Oper.wp execOp
  simp only [ho, resolve, invoke, Sem.run_bind, List.map_toArray, List.map_cons, List.map_nil, hx, hy, hz]
  first
    | (rw [hc]; exact h2)
    | (simp [hc, go_sem]; exact h2)
theorem put_fn : ∃ fn, Tryz.prog.funcs[108]? = some fn ∧ (fn.name == "runtime.NumGoroutine") = false ∧ fn.body.isNone = false := ⟨_, Tryz.func108, by kernel_rfl, by kernel_rfl⟩
end Go.Proofs.YthfjnfcekeknlaaGreatDoor
