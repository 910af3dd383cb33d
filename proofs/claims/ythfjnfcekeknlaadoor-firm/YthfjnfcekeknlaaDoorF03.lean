import Derived.Test.YthfjnfcekeknlaaDoorF02
import Derived.Maps.AppendAt
namespace Go.Proofs.YthfjnfcekeknlaaDoor
open Go.RowKit

/-- What mayBegin says: 0 it may; else the error. -/
def mayB (d : Nat) (t : Parl.Tok) : Nat := if Parl.begins t = true then (if t.kind = 4 ∧ 6 < t.text.size ∨ 8 < d then 3 else 0) else 2

theorem mayB_two {d : Nat} {t : Parl.Tok} (h : ¬ (t.kind = 2 ∨ t.kind = 3 ∨ t.kind = 4)) : mayB d t = 2 := by
  unfold mayB Parl.begins; rw [if_neg]; simp; omega
theorem mayB_three {d : Nat} {t : Parl.Tok} (h : t.kind = 2 ∨ t.kind = 3 ∨ t.kind = 4) (b : t.kind = 4 ∧ 6 < t.text.size ∨ 8 < d) : mayB d t = 3 := by
  unfold mayB Parl.begins; rw [if_pos, if_pos b]; simp; omega
theorem mayB_none {d : Nat} {t : Parl.Tok} (h : t.kind = 2 ∨ t.kind = 3 ∨ t.kind = 4) (b : ¬ (t.kind = 4 ∧ 6 < t.text.size ∨ 8 < d)) : mayB d t = 0 := by
  unfold mayB Parl.begins; rw [if_pos, if_neg b]; simp; omega

set_option maxHeartbeats 1000000 in
/-- It may not begin here. -/
theorem may_no (w : World) (rb : Nat) (s : ByteArray) (l : List Parl.Tok) (ns : List ByteArray) (nv : Value) (e0 : Int) (d k z : Nat) (h : St w rb s l ns nv e0) (hkk : (Parl.hd l).kind = k) (hzz : (Parl.hd l).text.size = z) (hz : z ≤ 240) (m : Nat)
    (hm : (m = 2 ∧ ¬ (k = 2 ∨ k = 3 ∨ k = 4)) ∨ (m = 3 ∧ (k = 2 ∨ k = 3 ∨ k = 4) ∧ (k = 4 ∧ 6 < z ∨ 8 < d))) :
    Calls Tryd.prog 64 #[.pointer (some ⟨rb, 0, none⟩), .int .i64 (d : Int)] w fun e w' => e = .returned (.bool false) ∧ St w' rb s l ns nv (m : Int) ∧ KA rb [rb] w w' := by
  have H := hide h
  obtain ⟨⟨c0, c1, c2, c3, c4, c5, f1, f2, f3, f4, f5⟩, own, chain, isn, few, short, signs, pos, lt⟩ := h
  clear own chain isn few short signs pos lt c0 c2 c4 c5 f1 f2 f3 f4 f5
  rw [hkk] at c1
  generalize (Parl.hd l).text = tx at c3 hzz
  clear hkk
  subst hzz
  rcases hm with ⟨rfl, hn⟩ | ⟨rfl, hk, hb⟩
  · have n2 : ((k : Int) != 2) = true := by simp; omega
    have n3 : ((k : Int) != 3) = true := by simp; omega
    have n4 : ((k : Int) != 4) = true := by simp; omega
    clear hn
    go_enter Tryd.func64, Tryd.ntmps64
    go_wp2_with (go_at_call 68; refine (refuse_any _ _ _ _ _ _ _ 2 (unhide H)).mono ?_; rintro e w1 ⟨rfl, hs, hk⟩; have HS := hide hs; have HK := hide hk; clear hs hk)
    go_ret
    exact ⟨rfl, unhide HS, unhide HK⟩
  · rcases hk with rfl | rfl | rfl
    · have hd8 : 8 < d := by omega
      clear hb
      go_enter Tryd.func64, Tryd.ntmps64
      go_wp2_with (go_at_call 68; refine (refuse_any _ _ _ _ _ _ _ 3 (unhide H)).mono ?_; rintro e w1 ⟨rfl, hs, hk⟩; have HS := hide hs; have HK := hide hk; clear hs hk)
      go_ret
      exact ⟨rfl, unhide HS, unhide HK⟩
    · have hd8 : 8 < d := by omega
      clear hb
      go_enter Tryd.func64, Tryd.ntmps64
      go_wp2_with (go_at_call 68; refine (refuse_any _ _ _ _ _ _ _ 3 (unhide H)).mono ?_; rintro e w1 ⟨rfl, hs, hk⟩; have HS := hide hs; have HK := hide hk; clear hs hk)
      go_ret
      exact ⟨rfl, unhide HS, unhide HK⟩
    · by_cases h6 : 6 < tx.size
      · clear hb
        go_enter Tryd.func64, Tryd.ntmps64
        go_wp2_with (go_at_call 68; refine (refuse_any _ _ _ _ _ _ _ 3 (unhide H)).mono ?_; rintro e w1 ⟨rfl, hs, hk⟩; have HS := hide hs; have HK := hide hk; clear hs hk)
        go_ret
        exact ⟨rfl, unhide HS, unhide HK⟩
      · have hd8 : 8 < d := by omega
        clear hb
        go_enter Tryd.func64, Tryd.ntmps64
        go_wp2_with (go_at_call 68; refine (refuse_any _ _ _ _ _ _ _ 3 (unhide H)).mono ?_; rintro e w1 ⟨rfl, hs, hk⟩; have HS := hide hs; have HK := hide hk; clear hs hk)
        go_ret
        exact ⟨rfl, unhide HS, unhide HK⟩

set_option maxHeartbeats 1000000 in
/-- It may. -/
theorem may_yes (w : World) (rb : Nat) (s : ByteArray) (l : List Parl.Tok) (ns : List ByteArray) (nv : Value) (e0 : Int) (d k z : Nat) (h : St w rb s l ns nv e0) (hkk : (Parl.hd l).kind = k) (hzz : (Parl.hd l).text.size = z) (hz : z ≤ 240)
    (hk : k = 2 ∨ k = 3 ∨ k = 4) (hn : ¬ (k = 4 ∧ 6 < z ∨ 8 < d)) :
    Calls Tryd.prog 64 #[.pointer (some ⟨rb, 0, none⟩), .int .i64 (d : Int)] w fun e w' => e = .returned (.bool true) ∧ w' = w := by
  obtain ⟨⟨c0, c1, c2, c3, c4, c5, f1, f2, f3, f4, f5⟩, own, chain, isn, few, short, signs, pos, lt⟩ := h
  clear own chain isn few short signs pos lt c0 c2 c4 c5 f1 f2 f3 f4 f5
  rw [hkk] at c1
  generalize (Parl.hd l).text = tx at c3 hzz
  clear hkk
  subst hzz
  have hd8 : d ≤ 8 := by omega
  rcases hk with rfl | rfl | rfl
  · clear hn
    go_enter Tryd.func64, Tryd.ntmps64
    go_wp2_with fail
    go_ret
    exact ⟨rfl, rfl⟩
  · clear hn
    go_enter Tryd.func64, Tryd.ntmps64
    go_wp2_with fail
    go_ret
    exact ⟨rfl, rfl⟩
  · have h6 : tx.size ≤ 6 := by omega
    clear hn
    go_enter Tryd.func64, Tryd.ntmps64
    go_wp2_with fail
    go_ret
    exact ⟨rfl, rfl⟩

theorem mayBegin_any (w : World) (rb : Nat) (s : ByteArray) (l : List Parl.Tok) (ns : List ByteArray) (nv : Value) (e0 : Int) (d : Nat) (h : St w rb s l ns nv e0) :
    Calls Tryd.prog 64 #[.pointer (some ⟨rb, 0, none⟩), .int .i64 (d : Int)] w fun e w' => e = .returned (.bool (mayB d (Parl.hd l) == 0)) ∧ St w' rb s l ns nv (if mayB d (Parl.hd l) = 0 then e0 else (mayB d (Parl.hd l) : Int)) ∧ KA rb [rb] w w' := by
  have hz : (Parl.hd l).text.size ≤ 240 := by obtain ⟨p, e⟩ := h.isNext; have h1 := h.short; have h2 := @Parl.next_fits s p; rw [e]; omega
  by_cases hk : (Parl.hd l).kind = 2 ∨ (Parl.hd l).kind = 3 ∨ (Parl.hd l).kind = 4
  · by_cases hb : (Parl.hd l).kind = 4 ∧ 6 < (Parl.hd l).text.size ∨ 8 < d
    · rw [mayB_three hk hb]
      exact may_no w rb s l ns nv e0 d _ _ h rfl rfl hz 3 (Or.inr ⟨rfl, hk, hb⟩)
    · rw [mayB_none hk hb]
      refine (may_yes w rb s l ns nv e0 d _ _ h rfl rfl hz hk hb).mono ?_
      rintro e w' ⟨rfl, rfl⟩
      exact ⟨rfl, h, KA.refl _ _ _⟩
  · rw [mayB_two hk]
    exact may_no w rb s l ns nv e0 d _ _ h rfl rfl hz 2 (Or.inl ⟨rfl, hk⟩)
end Go.Proofs.YthfjnfcekeknlaaDoor
namespace Go.Proofs.YthfjnfcekeknlaaDoor
open Go.RowKit

/-- The names as lists. -/
def nmsA (ns : List ByteArray) : List (List UInt8) := ns.map fun b => b.toList
theorem nmA_idx {ns : List ByteArray} {k : Nat} {x : List UInt8} (h : k < ns.length) (he : ns[k].toList = x) (hno : ∀ j (hj : j < ns.length), j < k → ns[j].toList ≠ x) : (nmsA ns).idxOf x = k := by
  unfold nmsA
  induction ns generalizing k with
  | nil => simp at h
  | cons u us ih =>
    rw [List.map_cons]
    cases k with
    | zero => rw [List.idxOf_cons]; simp at he; simp [he]
    | succ k =>
      have h0 : u.toList ≠ x := hno 0 (by simp) (by omega)
      rw [List.idxOf_cons]
      simp only [beq_iff_eq, h0, cond_eq_ite, if_false]
      have := ih (k := k) (by simpa using h) (by simpa using he) (fun j hj q => by have := hno (j + 1) (by simpa using hj) (by omega); simpa using this)
      rw [this]
theorem nmA_in {ns : List ByteArray} {k : Nat} {x : List UInt8} (h : k < ns.length) (he : ns[k].toList = x) : Parl.addN (nmsA ns) x = nmsA ns := by
  unfold Parl.addN
  rw [if_pos]
  subst he
  exact List.mem_map.2 ⟨ns[k], by simp, rfl⟩
theorem nmA_out {ns : List ByteArray} {x : List UInt8} (hno : ∀ j (hj : j < ns.length), ns[j].toList ≠ x) : x ∉ nmsA ns := by
  intro q
  obtain ⟨u, hu, rfl⟩ := List.mem_map.1 q
  obtain ⟨i, hi, rfl⟩ := List.getElem_of_mem hu
  exact hno i hi rfl
theorem nmA_new {ns : List ByteArray} {g : ByteArray} (h : g.toList ∉ nmsA ns) : nmsA (ns ++ [g]) = Parl.addN (nmsA ns) g.toList ∧ (nmsA ns).idxOf g.toList = ns.length := by
  unfold Parl.addN
  rw [if_neg h, List.idxOf_eq_length h]
  simp [nmsA]
theorem nmA_len (ns : List ByteArray) : (nmsA ns).length = ns.length := by simp [nmsA]

/-- A term's four cells, as the program lays them. -/
structure AV where
  k : Int
  val : Int
  tx : ByteArray
  ao : Option Addr
  n : Nat
  cap : Nat
def avC (a : AV) : List Value := [.int .i64 a.k, .int .i64 a.val, .string a.tx, .slice a.ao a.n a.cap]
/-- The kinds of terms, as the program numbers them. -/
def ak (k : Nat) : Int := if k = 3 then 1 else if k = 4 then 2 else 3
/-- What a term's own cells say; N: the variables met so far. -/
def LeafA (N : List (List UInt8)) (a : AV) (t : Parl.Tm) : Prop := a.k = ak t.kind ∧ a.n = t.args.length ∧ (t.kind = 3 → t.text.toList ∈ N ∧ a.val = (N.idxOf t.text.toList : Int)) ∧ (t.kind = 4 → a.val = (Parl.numOf t.text : Int) ∧ t.text.size ≤ 6 ∧ a.tx = ⟨#[]⟩) ∧ (t.kind = 2 → a.tx = t.text) ∧ (t.kind = 2 ∨ t.kind = 3 ∨ t.kind = 4) ∧ t.text.size ≤ 240 ∧ t.args.length ≤ 3
def RA : Nat → List (List UInt8) → (Nat → Prop) → World → AV → Parl.Tm → Prop
  | 0, _, _, _, _, _ => False
  | f + 1, N, P, w, a, t => LeafA N a t ∧ (t.args ≠ [] → ∃ (g : Nat) (us : List AV) (cs : Array Value), a.ao = some ⟨g, 0, none⟩ ∧ P g ∧ w.heap[g]? = some (.cells cs 52 (0, 0)) ∧ cs.toList.take (us.length * 4) = us.flatMap avC ∧ All2 (RA f N P w) us t.args)
theorem RA.keep {N : List (List UInt8)} {P Q : Nat → Prop} {w w' : World} (hk : ∀ (g : Nat) (cs : Array Value), P g → w.heap[g]? = some (.cells cs 52 (0, 0)) → (∃ k r, cs.toList = .int .i64 k :: r) → w'.heap[g]? = some (.cells cs 52 (0, 0)) ∧ Q g) : ∀ {f : Nat} {a : AV} {t : Parl.Tm}, RA f N P w a t → RA f N Q w' a t
  | f + 1, _, _, ⟨h, q⟩ => ⟨h, fun n => by
    obtain ⟨g, us, cs, h1, h2, h3, h4, h5⟩ := q n
    have hi : ∃ k r, cs.toList = .int .i64 k :: r := by
      cases us with
      | nil => have := h5.length; simp at this; exact absurd (List.length_eq_zero_iff.1 this.symm) n
      | cons u us =>
        cases hc : cs.toList with
        | nil => rw [hc] at h4; simp [avC] at h4
        | cons c r =>
          rw [hc] at h4
          simp only [List.length_cons, Nat.add_mul, Nat.one_mul, List.flatMap_cons, avC, List.cons_append, List.take_succ_cons] at h4
          injection h4 with h4 _
          exact ⟨_, r, by rw [h4]⟩
    obtain ⟨r1, r2⟩ := hk g cs h2 h3 hi
    exact ⟨g, us, cs, h1, r2, r1, h4, h5.imp fun _ _ => RA.keep hk⟩⟩
theorem RA.imp {N : List (List UInt8)} {P Q : Nat → Prop} {w : World} {f : Nat} {a : AV} {t : Parl.Tm} (h : RA f N P w a t) (hk : ∀ g, P g → g < w.heap.size → Q g) : RA f N Q w a t :=
  h.keep fun g _ hp hg _ => ⟨hg, hk g hp (Array.getElem?_eq_some_iff.1 hg).1⟩
theorem RA.set {N : List (List UInt8)} {P : Nat → Prop} {w : World} {f : Nat} {a : AV} {t : Parl.Tm} (h : RA f N P w a t) {b : Nat} (hP : ∀ g, P g → g ≠ b) (o : Nat) (v : Value) : RA f N P (w.setCell ⟨b, o, none⟩ v) a t :=
  h.keep fun g _ hp hg _ => ⟨(Below.heap_setCell _ _ _ _ (fun e => hP g hp e)).trans hg, hp⟩
theorem LeafA.more {N : List (List UInt8)} {a : AV} {t : Parl.Tm} (h : LeafA N a t) (M : List (List UInt8)) : LeafA (N ++ M) a t :=
  ⟨h.1, h.2.1, fun k => ⟨List.mem_append_left _ (h.2.2.1 k).1, by rw [(h.2.2.1 k).2, List.idxOf_append, if_pos (h.2.2.1 k).1]⟩, h.2.2.2⟩
theorem RA.more {P : Nat → Prop} {w : World} {N : List (List UInt8)} (M : List (List UInt8)) : ∀ {f : Nat} {a : AV} {t : Parl.Tm}, RA f N P w a t → RA f (N ++ M) P w a t
  | f + 1, _, _, ⟨h, q⟩ => ⟨h.more M, fun n => by
    obtain ⟨g, us, cs, h1, h2, h3, h4, h5⟩ := q n
    exact ⟨g, us, cs, h1, h2, h3, h4, h5.imp fun _ _ => RA.more M⟩⟩
theorem RA.ok3 {P : Nat → Prop} {w : World} {N : List (List UInt8)} : ∀ {f : Nat} {a : AV} {t : Parl.Tm}, RA f N P w a t → Parl.ok3 f t
  | f + 1, a, t, ⟨h, q⟩ => by
    obtain ⟨h1, h2, h3, h4, h5, h6, h7, h8⟩ := h
    refine ⟨h7, h8, fun k => (h4 k).2.1, ?_⟩
    intro u hu
    obtain ⟨g, us, cs, _, _, _, _, ha⟩ := q (fun e => by rw [e] at hu; cases hu)
    have : ∀ (us : List AV) (ts : List Parl.Tm), All2 (RA f N P w) us ts → ∀ u ∈ ts, Parl.ok3 f u := by
      intro us
      induction us with
      | nil => intro ts ha u hu; cases ts with
        | nil => cases hu
        | cons t ts => exact ha.elim
      | cons v us ih => intro ts ha u hu; cases ts with
        | nil => cases hu
        | cons t ts =>
          rcases List.mem_cons.1 hu with rfl | hu
          · exact RA.ok3 ha.1
          · exact ih ts ha.2 u hu
    exact this us t.args ha u hu
/-- What 'term' says of its answer: rows new since w. -/
structure TA (f : Nat) (ns ns' : List ByteArray) (w w' : World) (val : Int) (tx : ByteArray) (ao : Option Addr) (cap : Nat) (t : Parl.Tm) : Prop where
  rep : RA f (nmsA ns') (fun g => w.heap.size ≤ g) w' ⟨ak t.kind, val, tx, ao, t.args.length, cap⟩ t
  nms : nmsA ns' = Parl.namesF f (nmsA ns) t
theorem RA.leaf {f : Nat} {N : List (List UInt8)} {P : Nat → Prop} {w : World} {a : AV} {t : Parl.Tm} (h : RA f N P w a t) : LeafA N a t := by
  cases f with
  | zero => exact h.elim
  | succ f => exact h.1
theorem RA.one {f : Nat} {N : List (List UInt8)} {P : Nat → Prop} {w : World} {a : AV} {t : Parl.Tm} (h : LeafA N a t) (h0 : t.args = []) : RA (f + 1) N P w a t := ⟨h, fun q => absurd h0 q⟩
/-- What 'arguments' says of its answer. -/
structure AA (f : Nat) (ns ns' : List ByteArray) (w w' : World) (ao : Option Addr) (ts : List Parl.Tm) : Prop where
  rows : ts ≠ [] → ∃ (g : Nat) (us : List AV) (cs : Array Value), ao = some ⟨g, 0, none⟩ ∧ w.heap.size ≤ g ∧ w'.heap[g]? = some (.cells cs 52 (0, 0)) ∧ cs.toList.take (us.length * 4) = us.flatMap avC ∧ All2 (RA f (nmsA ns') (fun g => w.heap.size ≤ g) w') us ts
  nms : nmsA ns' = ts.foldl (Parl.namesF f) (nmsA ns)
  few : ts.length ≤ 3
/-- Rows of the program's terms stay. -/
def KeepA (w w' : World) : Prop := ∀ (g : Nat) (cs : Array Value), w.heap[g]? = some (.cells cs 52 (0, 0)) → (∃ k r, cs.toList = .int .i64 k :: r) → w'.heap[g]? = some (.cells cs 52 (0, 0))
theorem KeepA.trans {u v w : World} (h : KeepA u v) (k : KeepA v w) : KeepA u w := fun g cs a b => k g cs (h g cs a b) b
theorem KeepA.below {w w' : World} (h : Below w.heap.size w w') : KeepA w w' := fun g _ a _ => (h.block g (Array.getElem?_eq_some_iff.1 a).1).trans a
theorem KeepA.ka {w w' : World} {rb : Nat} {s : ByteArray} {l : List Parl.Tok} {ns : List ByteArray} {nv : Value} {e : Int} (hs : St w rb s l ns nv e) (hk : KA rb [rb] w w') : KeepA w w' := fun g cs hg hi => (hk.block g (Array.getElem?_eq_some_iff.1 hg).1 (fun q => by
    obtain rfl : g = rb := by simpa using q
    obtain ⟨k, r, hc⟩ := hi
    have := hs.rd.c0
    simp [World.cell?, hg] at this
    rw [← Array.getElem?_toList, hc] at this
    simp at this) (Or.inr (by unfold tyAt; rw [hg]; simp))).trans hg
theorem KeepA.grown {w w' : World} {b0 : Nat} {T : TypeId} {sz : Nat} {av : Value} {n : Nat} {xs : List Value} (ho : w.ownsRow b0 T sz av n xs) (hg : w.grownBy w' av.ownBlock) (hT : T ≠ 52 := by decide) : KeepA w w' := fun g cs hc _ => (hg.block g (Array.getElem?_eq_some_iff.1 hc).1 (fun q => by
    rcases ho.2 with ⟨rfl, _⟩ | ⟨g', cap, cur, rfl, _, c, _⟩
    · simp [Value.ownBlock] at q
    · simp [Value.ownBlock] at q
      subst q
      rw [c] at hc; simp at hc; exact hT hc.2)).trans hc
end Go.Proofs.YthfjnfcekeknlaaDoor
namespace Go.Proofs.YthfjnfcekeknlaaDoor
open Go.RowKit

theorem Tryd.info9 : (Tryd.prog.info? 9).map (fun i => (i.zero, i.size, i.bytes)) = some (some (.string ⟨#[]⟩), 1, 16) := by kernel_rfl

set_option maxHeartbeats 1000000 in
theorem valueOf_any (g : ByteArray) (w : World) (hg : g.size ≤ 6) : Calls Tryd.prog 66 #[.string g] w fun e w' => e = .returned (.int .i64 (Parl.numOf g : Int)) ∧ w' = w := by
  go_enter Tryd.func66, Tryd.ntmps66
  go_wp2
  go_loop [3, 4] (fun v i => ∃ (k : Nat), k ≤ g.size ∧ i = .int .i64 k ∧ v = .int .i64 (Parl.numL (g.toList.take k) : Int)) (fun _ i => g.size - (intOf i).toNat)
  case atStart => exact ⟨0, by omega, rfl, rfl⟩
  case round =>
    obtain ⟨k, hk, rfl, rfl⟩ := hrel
    by_cases hlt : k < g.size
    · go_wp2
      go_round
      case rel =>
        refine ⟨k + 1, by omega, by go_num, ?_⟩
        rw [num_next hlt]
        have hb := Parl.numL_le (g.toList.take k) (by simp; omega)
        generalize Parl.numL (g.toList.take k) = v at *
        have hc : g[k].toNat < 256 := g[k].toNat_lt
        generalize g[k].toNat = c at *
        congr 1
        unfold wrap64
        omega
      case measure => simp [intOf]; omega
    · go_wp2
      go_ret
      obtain rfl : k = g.size := by omega
      exact ⟨by rw [num_all]; rfl, rfl⟩

/-- The names' cell behind the append. -/
theorem names_cell {w w1 : World} {rb : Nat} {s : ByteArray} {l : List Parl.Tok} {ns : List ByteArray} {nv : Value} {e0 : Int} {o : Obj} (h : St w rb s l ns nv e0) (hg : (w.alloc o).grownBy w1 nv.ownBlock) :
    w1.cell? ⟨rb, 4, none⟩ = some nv ∧ w1.frozen? ⟨rb, 4, none⟩ = false := by
  have hne : some rb ≠ nv.ownBlock := fun e => by have := (h.own.lt rb e.symm).1; omega
  have hb := hg.block rb (by simp; have := h.lt; omega) hne
  exact ⟨by rw [World.cell?_of_block (a := ⟨rb, 4, none⟩) hb, World.cell?_alloc_past _ _ _ h.lt]; exact h.rd.c4, by rw [World.frozen?_of_block (a := ⟨rb, 4, none⟩) hb, World.frozen?_alloc_past _ _ _ h.lt]; exact h.rd.f4⟩
/-- A row that owns something is no nil. -/
theorem own_some {w : World} {b : Nat} {e : TypeId} {sz : Nat} {v : Value} {n : Nat} {xs : List Value} (h : w.ownsRow b e sz v (n + 1) xs) : ∃ g cap, v = .slice (some ⟨g, 0, none⟩) (n + 1) cap ∧ cap ≤ maxLen := by
  rcases h.2 with ⟨_, q⟩ | ⟨g, cap, cur, q, _, _, _, m, _⟩
  · omega
  · exact ⟨g, cap, q, m⟩
/-- What stands behind a store of the names. -/
theorem names_end {w w1 : World} {rb : Nat} {s : ByteArray} {l : List Parl.Tok} {ns : List ByteArray} {nv nv' : Value} {e0 : Int} {g : ByteArray} {o : Obj} (h : St w rb s l ns nv e0) (few : ns.length + l.length < 1000)
    (hown : w1.ownsRow (rb + 1) 9 1 nv' (ns.length + 1) (ns.map Value.string ++ [.string g])) (hg : (w.alloc o).grownBy w1 nv.ownBlock) :
    St (w1.setCell ⟨rb, 4, none⟩ nv') rb s l (ns ++ [g]) nv' e0 ∧ KA rb [rb] w (w1.setCell ⟨rb, 4, none⟩ nv') := by
  have hka : KA rb [rb] w w1 := ((KA.refl rb [rb] w).alloc o).grown hg (fun k hk => by
    have h1 := h.own.lt k hk
    rcases h.own.2 with ⟨rfl, _⟩ | ⟨q, cap, cur, rfl, hb, hq, _⟩
    · simp [Value.ownBlock] at hk
    · simp [Value.ownBlock] at hk
      subst hk
      refine Or.inr (Or.inr ⟨by omega, ?_⟩)
      unfold tyAt
      rw [Below.heap_alloc _ _ _ h1.2, hq])
  have hne : some rb ≠ nv.ownBlock := fun e => by have := (h.own.lt rb e.symm).1; omega
  have cell : ∀ i v, w.cell? ⟨rb, i, none⟩ = some v → w1.cell? ⟨rb, i, none⟩ = some v := fun i v q => by
    rw [World.cell?_of_block (a := ⟨rb, i, none⟩) (hg.block rb (by simp; have := h.lt; omega) hne), World.cell?_alloc_past _ _ _ h.lt]; exact q
  have fro : ∀ i, w.frozen? ⟨rb, i, none⟩ = false → w1.frozen? ⟨rb, i, none⟩ = false := fun i q => by
    rw [World.frozen?_of_block (a := ⟨rb, i, none⟩) (hg.block rb (by simp; have := h.lt; omega) hne), World.frozen?_alloc_past _ _ _ h.lt]; exact q
  have z : rb ≠ 0 := by have := h.pos; omega
  have sg : Signs w1 := h.signs.ka hka (by have := h.lt; omega) (by simp; omega) h.pos
  obtain ⟨⟨c0, c1, c2, c3, c4, c5, f1, f2, f3, f4, f5⟩, own, chain, isn, few1, short, signs, pos, lt⟩ := h
  have d0 := cell _ _ c0
  have d1 := cell _ _ c1
  have d2 := cell _ _ c2
  have d3 := cell _ _ c3
  have d4 := cell _ _ c4
  have d5 := cell _ _ c5
  have g1 := fro _ f1
  have g2 := fro _ f2
  have g3 := fro _ f3
  have g4 := fro _ f4
  have g5 := fro _ f5
  refine ⟨⟨⟨by go_cell, by go_cell, by go_cell, by go_cell, by go_cell, by go_cell, by go_cell, by go_cell, by go_cell, by go_cell, by go_cell⟩, ?_, chain, isn, by simp; omega, short, sg.setCell (by exact z) _, pos, by have := hka.size; simp; omega⟩, hka.setIn (by simp) _⟩
  have := own_setCell hown 4 nv'
  simpa using this

/-- What 'variable' leaves. -/
def PVar (rb : Nat) (s : ByteArray) (l : List Parl.Tok) (ns : List ByteArray) (g : ByteArray) (e0 : Int) (w : World) (e : Ending) (w' : World) : Prop := ∃ (ns' : List ByteArray) (nv' : Value), e = .returned (.int .i64 ((nmsA ns).idxOf g.toList : Int)) ∧ nmsA ns' = Parl.addN (nmsA ns) g.toList ∧ St w' rb s l ns' nv' e0 ∧ KA rb [rb] w w'

set_option maxHeartbeats 1000000 in
theorem variable_any (w : World) (rb : Nat) (s : ByteArray) (l : List Parl.Tok) (ns : List ByteArray) (nv : Value) (e0 : Int) (g : ByteArray) (h : St w rb s l ns nv e0) (few : ns.length + l.length < 1000) :
    Calls Tryd.prog 65 #[.pointer (some ⟨rb, 0, none⟩), .string g] w fun e w' => PVar rb s l ns g e0 w e w' := by
  have H := hide h
  obtain ⟨i0, hi, hz0, hz1, hz2⟩ := info_parts Tryd.info9
  have hnl : ns.length ≤ 1000 := by have := h.few; omega
  rcases h.own.2 with ⟨hnv, hn0⟩ | ⟨q, cap, cur, hnv, hb, hq, hcap, hmx, _⟩
  · subst hnv
    obtain rfl : ns = [] := List.length_eq_zero_iff.1 hn0
    have hown := h.own
    obtain ⟨⟨c0, c1, c2, c3, c4, c5, f1, f2, f3, f4, f5⟩, own, chain, isn, few1, short, signs, pos, lt⟩ := h
    clear own chain isn few1 short signs
    go_enter Tryd.func65, Tryd.ntmps65
    go_wp2
    refine wp_loop_rounds 1 ?_
    rw [rounds_succ]
    go_wp2_with (first | (at_builtin; refine wpList_append_own _ rfl (.tmp 26) (.tmp 28) 37 rfl (rb + 1) 9 i0 (.string ⟨#[]⟩) 1 16 Tryd.underlying37 hi hz0 hz1 hz2 rfl (by decide) _ 0 [] rfl (hown.alloc _) ⟨w.heap.size, 0, none⟩ 1 1 [.string g] rfl rfl (by intro j u hj; match j, hj with | 0, hj => simp at hj; subst hj; simp [Addr.add]) (by intro u hu; simp at hu; subst hu; rfl) (by unfold maxLen; omega) (by omega) (by simp; omega) ?_; intro v' w1 hown' hgrow _; have R := hide (names_end (unhide H) few hown' hgrow); obtain ⟨d4, x4⟩ := names_cell (unhide H) hgrow; obtain ⟨g', cap', hv, hcm⟩ := own_some hown'; rw [hv] at R ⊢; clear hown' hgrow hv))
    go_ret
    exact ⟨_, _, rfl, by simp [nmsA, Parl.addN], (unhide R).1, (unhide R).2⟩
  · subst hnv
    have hown := h.own
    have hcell := hide (fun k (hk : k < ns.length) => (h.own.cellAt k (by omega)))
    obtain ⟨⟨c0, c1, c2, c3, c4, c5, f1, f2, f3, f4, f5⟩, own, chain, isn, few1, short, signs, pos, lt⟩ := h
    clear own chain isn few1 short signs hq
    go_enter Tryd.func65, Tryd.ntmps65
    go_wp2
    go_loop [12] (fun v => ∃ k : Nat, k ≤ ns.length ∧ v = .int .i64 k ∧ ∀ m (hm : m < ns.length), m < k → ns[m].toList ≠ g.toList) (fun v => ns.length - (intOf v).toNat)
    case atStart => exact ⟨0, by omega, rfl, fun m _ q => by omega⟩
    case round =>
      obtain ⟨k, hk, rfl, hno⟩ := hrel
      have HNO := hide hno
      clear hno
      by_cases hlt : k < ns.length
      · have hc : w.cell? ⟨q, k, none⟩ = some (.string ns[k]) := by rw [unhide hcell k hlt]; simp [hlt]
        cases he : (ns[k].toList == g.toList)
        · go_wp2_with fail
          go_round
          case rel => exact ⟨k + 1, by omega, by go_num, fun m hm q => by
            by_cases hmk : m = k
            · subst hmk; simpa using he
            · exact unhide HNO m hm (by omega)⟩
          case measure => simp [intOf]; omega
        · go_wp2_with fail
          go_ret
          exact ⟨ns, _, by rw [nmA_idx hlt (by simpa using he) (unhide HNO)]; rfl, (nmA_in hlt (by simpa using he)).symm, unhide H, KA.refl _ _ _⟩
      · go_wp2_with (first | (at_builtin; refine wpList_append_own _ rfl (.tmp 26) (.tmp 28) 37 rfl (rb + 1) 9 i0 (.string ⟨#[]⟩) 1 16 Tryd.underlying37 hi hz0 hz1 hz2 rfl (by decide) _ ns.length _ rfl (hown.alloc _) ⟨w.heap.size, 0, none⟩ 1 1 [.string g] rfl rfl (by intro j u hj; match j, hj with | 0, hj => simp at hj; subst hj; simp [Addr.add]) (by intro u hu; simp at hu; subst hu; rfl) (by unfold maxLen; omega) (by omega) (by simp; omega) ?_; intro v' w1 hown' hgrow _; have R := hide (names_end (unhide H) few hown' hgrow); obtain ⟨d4, x4⟩ := names_cell (unhide H) hgrow; obtain ⟨g', cap', hv, hcm⟩ := own_some hown'; rw [hv] at R ⊢; clear hown' hgrow hv))
        go_ret
        obtain ⟨q1, q2⟩ := nmA_new (nmA_out fun m hm => unhide HNO m hm (by omega))
        exact ⟨_, _, by rw [q2]; simp, q1, (unhide R).1, (unhide R).2⟩
end Go.Proofs.YthfjnfcekeknlaaDoor
namespace Go.Proofs.YthfjnfcekeknlaaDoor
open Go.RowKit

def PTerm (f rb : Nat) (s : ByteArray) (ns : List ByteArray) (r : Parl.Res Parl.Tm) (w : World) (e : Ending) (w' : World) : Prop := match r with
  | .inl (er, pos) => ∃ (k val : Int) (tx : ByteArray) (ao : Option Addr) (n cap : Nat) (l' : List Parl.Tok) (ns' : List ByteArray) (nv' : Value),
      e = .returned (.tuple #[.agg #[.int .i64 k, .int .i64 val, .string tx, .slice ao n cap], .bool false]) ∧ St w' rb s l' ns' nv' (er : Int) ∧ (Parl.hd l').pos = pos ∧ KA rb [rb] w w'
  | .inr (t, l1) => ∃ (val : Int) (tx : ByteArray) (ao : Option Addr) (cap : Nat) (ns' : List ByteArray) (nv' : Value) (e' : Int),
      e = .returned (.tuple #[.agg #[.int .i64 (ak t.kind), .int .i64 val, .string tx, .slice ao t.args.length cap], .bool true]) ∧ TA f ns ns' w w' val tx ao cap t ∧ St w' rb s l1 ns' nv' e' ∧ KA rb [rb] w w'

def PArgs (f rb : Nat) (s : ByteArray) (ns : List ByteArray) (r : Parl.Res (List Parl.Tm)) (w : World) (e : Ending) (w' : World) : Prop := match r with
  | .inl (er, pos) => ∃ (l' : List Parl.Tok) (ns' : List ByteArray) (nv' : Value) (ao : Option Addr) (n cap : Nat),
      e = .returned (.tuple #[.slice ao n cap, .bool false]) ∧ St w' rb s l' ns' nv' (er : Int) ∧ (Parl.hd l').pos = pos ∧ KA rb [rb] w w'
  | .inr (ts, l1) => ∃ (ao : Option Addr) (cap : Nat) (ns' : List ByteArray) (nv' : Value) (e' : Int),
      e = .returned (.tuple #[.slice ao ts.length cap, .bool true]) ∧ AA f ns ns' w w' ao ts ∧ St w' rb s l1 ns' nv' e' ∧ KA rb [rb] w w'

/-- The arguments that may stand behind a name. -/
def optArgs (f : Nat) (l : List Parl.Tok) : Parl.Res (List Parl.Tm) := if Parl.sees l [40] = true then Parl.argsOf (Parl.term f) 2 l.tail else .inr ([], l)

def TermSaid (f : Nat) : Prop := ∀ (w : World) (rb : Nat) (s : ByteArray) (l : List Parl.Tok) (ns : List ByteArray) (nv : Value) (e0 : Int) (d : Nat), f + d = 9 → St w rb s l ns nv e0 →
  Calls Tryd.prog 40 #[.pointer (some ⟨rb, 0, none⟩), .int .i64 (d : Int)] w fun e w' => PTerm f rb s ns (Parl.term f l) w e w'
def ArgsSaid (f : Nat) : Prop := ∀ (w : World) (rb : Nat) (s : ByteArray) (l : List Parl.Tok) (ns : List ByteArray) (nv : Value) (e0 : Int) (d : Nat), f + d = 9 → St w rb s l ns nv e0 →
  Calls Tryd.prog 67 #[.pointer (some ⟨rb, 0, none⟩), .int .i64 (d : Int)] w fun e w' => PArgs f rb s ns (optArgs f l) w e w'

theorem term_zero (l : List Parl.Tok) : Parl.term 0 l = Parl.bad (mayB 9 (Parl.hd l)) l := by
  unfold Parl.term mayB
  by_cases h : Parl.begins (Parl.hd l) = true
  · rw [if_pos h, if_pos h, if_pos (by omega)]
  · rw [if_neg h, if_neg h]
theorem mayB9 (t : Parl.Tok) : mayB 9 t ≠ 0 := by unfold mayB; split <;> (try rw [if_pos (by omega)]) <;> omega
theorem term_bad {f d : Nat} {l : List Parl.Tok} (hd : d ≤ 8) (h : mayB d (Parl.hd l) ≠ 0) : Parl.term (f + 1) l = Parl.bad (mayB d (Parl.hd l)) l := by
  unfold Parl.term mayB at *
  by_cases hb : Parl.begins (Parl.hd l) = true
  · rw [if_pos hb] at h ⊢
    rw [if_pos hb]
    by_cases hc : (Parl.hd l).kind = 4 ∧ 6 < (Parl.hd l).text.size
    · rw [if_pos hc, if_pos (Or.inl hc)]
    · rw [if_neg (by omega)] at h; exact absurd rfl h
  · rw [if_neg hb, if_neg hb]
theorem term_name {f d : Nat} {l : List Parl.Tok} (_h : mayB d (Parl.hd l) = 0) (hk : (Parl.hd l).kind = 2) : Parl.term (f + 1) l = match optArgs f l.tail with
    | .inl e => .inl e
    | .inr (ts, l2) => .inr (⟨2, (Parl.hd l).text, ts⟩, l2) := by
  have hb : Parl.begins (Parl.hd l) = true := by simp [Parl.begins, hk]
  rw [Parl.term, if_pos hb, if_neg (by omega), if_pos hk]
  unfold optArgs
  by_cases hs : Parl.sees l.tail [40] = true
  · rw [if_pos hs, if_pos hs]
    rcases Parl.argsOf (Parl.term f) 2 l.tail.tail with e | ⟨ts, l2⟩ <;> rfl
  · rw [if_neg hs, if_neg hs]
theorem term_leaf {f d : Nat} {l : List Parl.Tok} (h : mayB d (Parl.hd l) = 0) (hk : (Parl.hd l).kind = 3 ∨ (Parl.hd l).kind = 4) : Parl.term (f + 1) l = .inr (⟨(Parl.hd l).kind, (Parl.hd l).text, []⟩, l.tail) := by
  have hb : Parl.begins (Parl.hd l) = true := by rcases hk with e | e <;> simp [Parl.begins, e]
  unfold mayB at h
  rw [if_pos hb] at h
  have hc : ¬ ((Parl.hd l).kind = 4 ∧ 6 < (Parl.hd l).text.size) := fun q => by rw [if_pos (Or.inl q)] at h; omega
  rw [Parl.term, if_pos hb, if_neg hc, if_neg (by omega)]
theorem mayB_kind {d : Nat} {t : Parl.Tok} (h : mayB d t = 0) : t.kind = 2 ∨ t.kind = 3 ∨ t.kind = 4 := by
  unfold mayB at h
  by_cases hb : Parl.begins t = true
  · simpa [Parl.begins, or_assoc] using hb
  · rw [if_neg hb] at h; omega

/-- A cell of a block that is neither the reader's nor a row of texts stays. -/
theorem KA.loc {rb : Nat} {W w : World} (hk : KA rb [rb] W w) {b i : Nat} {v : Value} (hc : W.cell? ⟨b, i, none⟩ = some v) (hb : b < W.heap.size) (hne : b ≠ rb) (ht : tyAt W b ≠ some 9) : w.cell? ⟨b, i, none⟩ = some v :=
  (hk.cell (p := ⟨b, i, none⟩) hb (by simpa using hne) (Or.inr ht)).trans hc
theorem KA.locF {rb : Nat} {W w : World} (hk : KA rb [rb] W w) {b i : Nat} (hc : W.frozen? ⟨b, i, none⟩ = false) (hb : b < W.heap.size) (hne : b ≠ rb) (ht : tyAt W b ≠ some 9) : w.frozen? ⟨b, i, none⟩ = false :=
  (hk.frozen (p := ⟨b, i, none⟩) hb (by simpa using hne) (Or.inr ht)).trans hc

/-- The two boxes that 'term' lays: its result's, its first token's. -/
def boxR : Obj := .cells #[.int .i64 0, .int .i64 0, .string ⟨#[]⟩, .slice none 0 0] 52
def boxT (t : Parl.Tok) : Obj := .cells #[.int .i64 (t.kind : Int), .int .i64 (t.pos : Int), .string t.text] 78

/-- What is known of the boxes in a later world. -/
structure Boxes (w : World) (n : Nat) (t : Parl.Tok) : Prop where
  r0 : w.cell? ⟨n, 0, none⟩ = some (.int .i64 0)
  r1 : w.cell? ⟨n, 1, none⟩ = some (.int .i64 0)
  r2 : w.cell? ⟨n, 2, none⟩ = some (.string ⟨#[]⟩)
  r3 : w.cell? ⟨n, 3, none⟩ = some (.slice none 0 0)
  x0 : w.frozen? ⟨n, 0, none⟩ = false
  x1 : w.frozen? ⟨n, 1, none⟩ = false
  x2 : w.frozen? ⟨n, 2, none⟩ = false
  x3 : w.frozen? ⟨n, 3, none⟩ = false
  t0 : w.cell? ⟨n + 1, 0, none⟩ = some (.int .i64 (t.kind : Int))
  t2 : w.cell? ⟨n + 1, 2, none⟩ = some (.string t.text)

theorem boxes {rb : Nat} {w w1 : World} {t : Parl.Tok} (hlt : rb < w.heap.size) (hk : KA rb [rb] ((w.alloc boxR).alloc (boxT t)) w1) : Boxes w1 w.heap.size t := by
  have ty0 : tyAt ((w.alloc boxR).alloc (boxT t)) w.heap.size ≠ some 9 := by
    unfold tyAt; rw [Below.heap_alloc _ _ _ (by simp), heap_alloc_new]; simp [boxR]
  have ty1 : tyAt ((w.alloc boxR).alloc (boxT t)) (w.heap.size + 1) ≠ some 9 := by
    unfold tyAt
    have := heap_alloc_new (w.alloc boxR) (boxT t)
    rw [World.size_alloc] at this
    rw [this]; simp [boxT]
  refine ⟨hk.loc ?_ ?_ ?_ ty0, hk.loc ?_ ?_ ?_ ty0, hk.loc ?_ ?_ ?_ ty0, hk.loc ?_ ?_ ?_ ty0, hk.locF ?_ ?_ ?_ ty0, hk.locF ?_ ?_ ?_ ty0, hk.locF ?_ ?_ ?_ ty0, hk.locF ?_ ?_ ?_ ty0, hk.loc ?_ ?_ ?_ ty1, hk.loc ?_ ?_ ?_ ty1⟩
  all_goals first | (simp; done) | omega | (simp; omega) | (simp [boxR, boxT]; done)
end Go.Proofs.YthfjnfcekeknlaaDoor
namespace Go.Proofs.YthfjnfcekeknlaaDoor
open Go.RowKit

theorem tyAt_setCell (w : World) (a : Addr) (v : Value) (k : Nat) : tyAt (w.setCell a v) k = tyAt w k := by
  unfold tyAt World.setCell
  simp only [Array.getElem?_modify]
  by_cases h : a.block = k
  · rw [if_pos h]
    cases hq : w.heap[k]? with
    | none => rfl
    | some o => cases o <;> rfl
  · rw [if_neg h]
theorem KA.ty {b : Nat} {X : List Nat} {w w' : World} (h : KA b X w w') {k : Nat} (hk : k < w.heap.size) (hX : k ∉ X) (ht : tyAt w k ≠ some 9) : tyAt w' k = tyAt w k := by
  unfold tyAt; rw [h.block k hk hX (Or.inr ht)]

theorem St.setBox {w : World} {rb : Nat} {s : ByteArray} {l : List Parl.Tok} {ns : List ByteArray} {nv : Value} {e : Int} (h : St w rb s l ns nv e) {b : Nat} (hb : b ≠ rb) (h0 : b ≠ 0) (ht : tyAt w b ≠ some 9) (i : Nat) (v : Value) : St (w.setCell ⟨b, i, none⟩ v) rb s l ns nv e := by
  have k : ∀ q, q ≠ b → (w.setCell ⟨b, i, none⟩ v).heap[q]? = w.heap[q]? := fun q hq => Below.heap_setCell _ _ _ _ hq
  have c : ∀ o, (w.setCell ⟨b, i, none⟩ v).cell? ⟨rb, o, none⟩ = w.cell? ⟨rb, o, none⟩ := fun o => World.cell?_of_block (k rb (Ne.symm hb))
  have f : ∀ o, (w.setCell ⟨b, i, none⟩ v).frozen? ⟨rb, o, none⟩ = w.frozen? ⟨rb, o, none⟩ := fun o => World.frozen?_of_block (k rb (Ne.symm hb))
  obtain ⟨⟨c0, c1, c2, c3, c4, c5, f1, f2, f3, f4, f5⟩, own, chain, isn, few, short, signs, pos, lt⟩ := h
  refine ⟨⟨(c 0).trans c0, (c 1).trans c1, (c 2).trans c2, (c 3).trans c3, (c 4).trans c4, (c 5).trans c5, (f 1).trans f1, (f 2).trans f2, (f 3).trans f3, (f 4).trans f4, (f 5).trans f5⟩, ⟨own.1, ?_⟩, chain, isn, few, short, signs.setCell h0 _, pos, by simpa using lt⟩
  rcases own.2 with q | ⟨g, cap, cur, a, b', c', d⟩
  · exact Or.inl q
  · refine Or.inr ⟨g, cap, cur, a, b', ?_, d⟩
    rw [k g (fun e => ht (by rw [← e]; unfold tyAt; rw [c']))]
    exact c'

/-- Storing the result into its box. -/
theorem box_end {w w1 : World} {rb : Nat} {s : ByteArray} {l' : List Parl.Tok} {ns : List ByteArray} {nv : Value} {e : Int} {t : Parl.Tok} (hk : KA rb [rb] ((w.alloc boxR).alloc (boxT t)) w1) (h : St w1 rb s l' ns nv e) (hlt : rb < w.heap.size) (v0 v1 v2 v3 : Value) :
    St ((((w1.setCell ⟨w.heap.size, 0, none⟩ v0).setCell ⟨w.heap.size, 1, none⟩ v1).setCell ⟨w.heap.size, 2, none⟩ v2).setCell ⟨w.heap.size, 3, none⟩ v3) rb s l' ns nv e ∧
    KA rb [rb] w ((((w1.setCell ⟨w.heap.size, 0, none⟩ v0).setCell ⟨w.heap.size, 1, none⟩ v1).setCell ⟨w.heap.size, 2, none⟩ v2).setCell ⟨w.heap.size, 3, none⟩ v3) := by
  have ty0 : tyAt ((w.alloc boxR).alloc (boxT t)) w.heap.size = some 52 := by
    unfold tyAt; rw [Below.heap_alloc _ _ _ (by simp), heap_alloc_new]; simp [boxR]
  have ne : w.heap.size ≠ rb := by omega
  have n0 : w.heap.size ≠ 0 := by omega
  have ty1 : tyAt w1 w.heap.size ≠ some 9 := by
    rw [hk.ty (by simp; omega) (by simpa using ne) (by rw [ty0]; simp), ty0]; simp
  have base : KA rb [rb] w w1 := (((KA.refl rb [rb] w).alloc _).alloc _).trans hk
  refine ⟨?_, (((base.setNew (Nat.le_refl _) _).setNew (Nat.le_refl _) _).setNew (Nat.le_refl _) _).setNew (Nat.le_refl _) _⟩
  have a1 := h.setBox ne n0 ty1 0 v0
  have a2 := a1.setBox ne n0 (by rw [tyAt_setCell]; exact ty1) 1 v1
  have a3 := a2.setBox ne n0 (by rw [tyAt_setCell, tyAt_setCell]; exact ty1) 2 v2
  exact a3.setBox ne n0 (by rw [tyAt_setCell, tyAt_setCell, tyAt_setCell]; exact ty1) 3 v3
end Go.Proofs.YthfjnfcekeknlaaDoor
namespace Go.Proofs.YthfjnfcekeknlaaDoor
open Go.RowKit

set_option maxHeartbeats 1000000 in
/-- A term that may not begin. -/
theorem term_no (w : World) (rb : Nat) (s : ByteArray) (l : List Parl.Tok) (ns : List ByteArray) (nv : Value) (e0 : Int) (f d : Nat) (h : St w rb s l ns nv e0) (hm : mayB d (Parl.hd l) ≠ 0) :
    Calls Tryd.prog 40 #[.pointer (some ⟨rb, 0, none⟩), .int .i64 (d : Int)] w fun e w' => PTerm f rb s ns (Parl.bad (mayB d (Parl.hd l)) l) w e w' := by
  have hb2 : Below w.heap.size w ((w.alloc boxR).alloc (boxT (Parl.hd l))) := ((Below.refl _ _).alloc (Nat.le_refl _) _).alloc (by simp) _
  have H2 := hide (h.below hb2)
  have hlt := h.lt
  unfold boxR boxT at H2
  obtain ⟨⟨c0, c1, c2, c3, c4, c5, f1, f2, f3, f4, f5⟩, own, chain, isn, few, short, signs, pos, lt⟩ := h
  clear own chain isn few short signs hb2
  have hmf : (mayB d (Parl.hd l) == 0) = false := by simpa using hm
  go_enter Tryd.func40, Tryd.ntmps40
  go_wp2_with (go_at_call 64; refine (mayBegin_any _ rb s l ns nv e0 d (unhide H2)).mono ?_; rintro e w1 ⟨rfl, hs, hk⟩; rw [if_neg hm] at hs; obtain ⟨r0, r1, r2, r3, x0, x1, x2, x3, t0, t2⟩ := boxes hlt hk; have HS := hide hs; have HK := hide hk; clear hs hk)
  have R := box_end (unhide HK) (unhide HS) hlt (.int .i64 0) (.int .i64 0) (.string ⟨#[]⟩) (.slice none 0 0)
  refine bodyPost_ret (v := .tuple #[.agg #[.int .i64 0, .int .i64 0, .string ⟨#[]⟩, .slice none 0 0], .bool false]) (by simp [results, Tryd.results40, go_sem, r0, r1, r2, r3]) rfl ?_
  exact ⟨_, _, _, _, _, _, l, ns, nv, rfl, R.1, rfl, R.2⟩

theorem St.tsize {w : World} {rb : Nat} {s : ByteArray} {l : List Parl.Tok} {ns : List ByteArray} {nv : Value} {e : Int} (h : St w rb s l ns nv e) : (Parl.hd l).text.size ≤ 240 := by obtain ⟨p, e⟩ := h.isNext; have h1 := h.short; have h2 := @Parl.next_fits s p; rw [e]; omega
theorem mayB_six {d : Nat} {t : Parl.Tok} (h : mayB d t = 0) (hk : t.kind = 4) : t.text.size ≤ 6 := by
  unfold mayB at h
  split at h
  · split at h
    · cases h
    · omega
  · cases h
theorem ta_var {f : Nat} {ns ns' : List ByteArray} {w w' : World} {x : ByteArray} {i : Int} (hz : x.size ≤ 240) (hn : nmsA ns' = Parl.addN (nmsA ns) x.toList) (hi : i = ((nmsA ns).idxOf x.toList : Int)) : TA (f + 1) ns ns' w w' i ⟨#[]⟩ none 0 ⟨3, x, []⟩ := by
  have hm : x.toList ∈ Parl.addN (nmsA ns) x.toList := by
    unfold Parl.addN
    split
    · assumption
    · simp
  have hx := Parl.addN_idx (nmsA ns) [] x.toList
  rw [List.append_nil] at hx
  exact ⟨RA.one ⟨rfl, rfl, fun _ => ⟨by rw [hn]; exact hm, by rw [hi, hn]; show _ = ((List.idxOf x.toList _ : Nat) : Int); rw [hx]⟩, (fun q => by cases q), (fun q => by cases q), by simp, hz, by simp⟩ rfl, by rw [hn]; simp [Parl.namesF]⟩
theorem ta_num {f : Nat} {ns : List ByteArray} {w w' : World} {x : ByteArray} {i : Int} (hz : x.size ≤ 240) (h6 : x.size ≤ 6) (hi : i = (Parl.numOf x : Int)) : TA (f + 1) ns ns w w' i ⟨#[]⟩ none 0 ⟨4, x, []⟩ :=
  ⟨RA.one ⟨rfl, rfl, (fun q => by cases q), fun _ => ⟨hi, h6, rfl⟩, (fun q => by cases q), by simp, hz, by simp⟩ rfl, by simp [Parl.namesF]⟩
/-- The arguments, seen from ahead of the boxes. -/
def AA1 (f b : Nat) (ns ns' : List ByteArray) (w' : World) (ao : Option Addr) (ts : List Parl.Tm) : Prop :=
  (ts ≠ [] → ∃ (g : Nat) (us : List AV) (cs : Array Value), ao = some ⟨g, 0, none⟩ ∧ b < g ∧ w'.heap[g]? = some (.cells cs 52 (0, 0)) ∧ cs.toList.take (us.length * 4) = us.flatMap avC ∧ All2 (RA f (nmsA ns') (fun g => b < g) w') us ts) ∧ nmsA ns' = ts.foldl (Parl.namesF f) (nmsA ns) ∧ ts.length ≤ 3
theorem AA.up {f : Nat} {ns ns' : List ByteArray} {w0 w w' : World} {o1 o2 : Obj} {ao : Option Addr} {ts : List Parl.Tm} (h : AA f ns ns' w w' ao ts) (hz : ((w0.alloc o1).alloc o2).heap.size ≤ w.heap.size) : AA1 f w0.heap.size ns ns' w' ao ts := by
  have hz' : w0.heap.size + 2 ≤ w.heap.size := by simpa using hz
  refine ⟨fun q => ?_, h.nms, h.few⟩
  obtain ⟨g, us, cs, h1, h2, h3, h4, h5⟩ := h.rows q
  exact ⟨g, us, cs, h1, by omega, h3, h4, h5.imp fun _ _ r => r.imp fun g hg _ => by omega⟩
theorem ta_name {f : Nat} {ns ns' : List ByteArray} {w w3 : World} {x : ByteArray} {ao : Option Addr} {cap : Nat} {ts : List Parl.Tm} {v0 v1 v2 v3 : Value} (hz : x.size ≤ 240) (h : AA1 f w.heap.size ns ns' w3 ao ts) :
    TA (f + 1) ns ns' w ((((w3.setCell ⟨w.heap.size, 0, none⟩ v0).setCell ⟨w.heap.size, 1, none⟩ v1).setCell ⟨w.heap.size, 2, none⟩ v2).setCell ⟨w.heap.size, 3, none⟩ v3) 0 x ao cap ⟨2, x, ts⟩ := by
  obtain ⟨h1, h2, h3⟩ := h
  refine ⟨⟨⟨rfl, rfl, (fun q => by cases q), (fun q => by cases q), fun _ => rfl, by simp, hz, h3⟩, fun q => ?_⟩, by rw [h2]; simp [Parl.namesF]⟩
  obtain ⟨g, us, cs, e1, e2, e3, e4, e5⟩ := h1 q
  have k : ∀ (u : World) (o : Nat) (v : Value), (u.setCell ⟨w.heap.size, o, none⟩ v).heap[g]? = u.heap[g]? := fun u o v => Below.heap_setCell _ _ _ _ (by show g ≠ w.heap.size; omega)
  refine ⟨g, us, cs, e1, by omega, by rw [k, k, k, k]; exact e3, e4, e5.imp fun _ _ r => ?_⟩
  exact ((((r.set (fun g hg => by omega) 0 v0).set (fun g hg => by omega) 1 v1).set (fun g hg => by omega) 2 v2).set (fun g hg => by omega) 3 v3).imp fun g hg _ => by omega

/-- The reader behind a token that has been taken, the boxes laid. -/
theorem few_tail {w : World} {rb : Nat} {s : ByteArray} {l : List Parl.Tok} {ns : List ByteArray} {nv : Value} {e : Int} (h : St w rb s l ns nv e) : ns.length + l.tail.length < 1000 := by
  have := h.few
  rcases l with _ | ⟨a, r⟩
  · exact absurd h.chain (by simp [Parl.Chain])
  · simp at this ⊢; omega

set_option maxHeartbeats 1000000 in
/-- A variable. -/
theorem term_var (w : World) (rb : Nat) (s : ByteArray) (l : List Parl.Tok) (ns : List ByteArray) (nv : Value) (e0 : Int) (d f : Nat) (h : St w rb s l ns nv e0) (hm : mayB d (Parl.hd l) = 0) (hk3 : (Parl.hd l).kind = 3) :
    Calls Tryd.prog 40 #[.pointer (some ⟨rb, 0, none⟩), .int .i64 (d : Int)] w fun e w' => PTerm (f + 1) rb s ns (Parl.term (f + 1) l) w e w' := by
  rw [term_leaf hm (Or.inl hk3), hk3]
  have hb2 : Below w.heap.size w ((w.alloc boxR).alloc (boxT (Parl.hd l))) := ((Below.refl _ _).alloc (Nat.le_refl _) _).alloc (by simp) _
  have H2 := hide (h.below hb2)
  have hfew := few_tail h
  have hlt := h.lt
  have hz := h.tsize
  have hk0 := hide (show (Parl.hd l).kind ≠ 0 by omega)
  unfold boxR boxT at H2
  obtain ⟨⟨c0, c1, c2, c3, c4, c5, f1, f2, f3, f4, f5⟩, own, chain, isn, few, short, signs, pos, lt⟩ := h
  clear own chain isn few short signs hb2
  have hmf : (mayB d (Parl.hd l) == 0) = true := by simpa using hm
  have HK3 := hide hk3
  clear hk3
  go_enter Tryd.func40, Tryd.ntmps40
  go_wp2_with fail
  refine (mayBegin_any _ rb s l ns nv e0 d (unhide H2)).mono ?_
  rintro e w1 ⟨rfl, hs, hk⟩
  rw [if_pos hm] at hs
  have HS := hide hs
  have HK := hide hk
  clear hs hk
  go_wp2_with fail
  refine (take_any _ rb s l ns nv e0 (unhide HS) (unhide hk0)).mono ?_
  rintro e w2 ⟨rfl, hs, hk⟩
  have HS2 := hide hs
  have HK2 := hide ((unhide HK).trans hk)
  clear hs hk HS HK
  obtain ⟨r0, r1, r2, r3, x0, x1, x2, x3, t0, t2⟩ := boxes hlt (unhide HK2)
  rw [unhide HK3] at t0
  go_wp2_with fail
  refine (variable_any _ rb s l.tail ns nv e0 _ (unhide HS2) hfew).mono ?_
  rintro e w3 ⟨ns', nv', rfl, hnm, hs, hk⟩
  have HNM := hide hnm
  generalize hii : (((nmsA ns).idxOf (Parl.hd l).text.toList : Nat) : Int) = i
  have HII := hide hii
  clear hnm hii
  have HS3 := hide hs
  have HK3 := hide ((unhide HK2).trans hk)
  clear hs hk HS2 HK2 r0 r1 r2 r3 x0 x1 x2 x3 t0 t2
  obtain ⟨r0, r1, r2, r3, x0, x1, x2, x3, t0, t2⟩ := boxes hlt (unhide HK3)
  go_wp2_with fail
  have R := box_end (unhide HK3) (unhide HS3) hlt (.int .i64 1) (.int .i64 i) (.string ⟨#[]⟩) (.slice none 0 0)
  refine bodyPost_ret (v := .tuple #[.agg #[.int .i64 1, .int .i64 i, .string ⟨#[]⟩, .slice none 0 0], .bool true]) (by simp [results, Tryd.results40, go_sem, r0, r1, r2, r3]) rfl ?_
  exact ⟨_, _, _, _, ns', nv', e0, rfl, ta_var hz (unhide HNM) (unhide HII).symm, R.1, R.2⟩

set_option maxHeartbeats 1000000 in
/-- A number. -/
theorem term_num (w : World) (rb : Nat) (s : ByteArray) (l : List Parl.Tok) (ns : List ByteArray) (nv : Value) (e0 : Int) (d f : Nat) (h : St w rb s l ns nv e0) (hm : mayB d (Parl.hd l) = 0) (hk4 : (Parl.hd l).kind = 4) :
    Calls Tryd.prog 40 #[.pointer (some ⟨rb, 0, none⟩), .int .i64 (d : Int)] w fun e w' => PTerm (f + 1) rb s ns (Parl.term (f + 1) l) w e w' := by
  rw [term_leaf hm (Or.inr hk4), hk4]
  have hb2 : Below w.heap.size w ((w.alloc boxR).alloc (boxT (Parl.hd l))) := ((Below.refl _ _).alloc (Nat.le_refl _) _).alloc (by simp) _
  have H2 := hide (h.below hb2)
  have hlt := h.lt
  have hz := h.tsize
  have hz6 := mayB_six hm hk4
  have hk0 := hide (show (Parl.hd l).kind ≠ 0 by omega)
  unfold boxR boxT at H2
  obtain ⟨⟨c0, c1, c2, c3, c4, c5, f1, f2, f3, f4, f5⟩, own, chain, isn, few, short, signs, pos, lt⟩ := h
  clear own chain isn few short signs hb2
  have hmf : (mayB d (Parl.hd l) == 0) = true := by simpa using hm
  have HK4 := hide hk4
  clear hk4
  go_enter Tryd.func40, Tryd.ntmps40
  go_wp2_with fail
  refine (mayBegin_any _ rb s l ns nv e0 d (unhide H2)).mono ?_
  rintro e w1 ⟨rfl, hs, hk⟩
  rw [if_pos hm] at hs
  have HS := hide hs
  have HK := hide hk
  clear hs hk
  go_wp2_with fail
  refine (take_any _ rb s l ns nv e0 (unhide HS) (unhide hk0)).mono ?_
  rintro e w2 ⟨rfl, hs, hk⟩
  have HS2 := hide hs
  have HK2 := hide ((unhide HK).trans hk)
  clear hs hk HS HK
  obtain ⟨r0, r1, r2, r3, x0, x1, x2, x3, t0, t2⟩ := boxes hlt (unhide HK2)
  rw [unhide HK4] at t0
  go_wp2_with fail
  refine (valueOf_any _ _ hz6).mono ?_
  rintro e w3 ⟨rfl, rfl⟩
  generalize hii : ((Parl.numOf (Parl.hd l).text : Nat) : Int) = i
  have HII := hide hii
  clear hii
  go_wp2_with fail
  have R := box_end (unhide HK2) (unhide HS2) hlt (.int .i64 2) (.int .i64 i) (.string ⟨#[]⟩) (.slice none 0 0)
  refine bodyPost_ret (v := .tuple #[.agg #[.int .i64 2, .int .i64 i, .string ⟨#[]⟩, .slice none 0 0], .bool true]) (by simp [results, Tryd.results40, go_sem, r0, r1, r2, r3]) rfl ?_
  exact ⟨_, _, _, _, ns, nv, e0, rfl, ta_num hz hz6 (unhide HII).symm, R.1, R.2⟩

set_option maxHeartbeats 1000000 in
/-- A name. -/
theorem term_nam (f : Nat) (IH : ArgsSaid f) (w : World) (rb : Nat) (s : ByteArray) (l : List Parl.Tok) (ns : List ByteArray) (nv : Value) (e0 : Int) (d : Nat) (hfd : f + 1 + d = 9) (h : St w rb s l ns nv e0) (hm : mayB d (Parl.hd l) = 0) (hk2 : (Parl.hd l).kind = 2) :
    Calls Tryd.prog 40 #[.pointer (some ⟨rb, 0, none⟩), .int .i64 (d : Int)] w fun e w' => PTerm (f + 1) rb s ns (Parl.term (f + 1) l) w e w' := by
  rw [term_name hm hk2]
  have hb2 : Below w.heap.size w ((w.alloc boxR).alloc (boxT (Parl.hd l))) := ((Below.refl _ _).alloc (Nat.le_refl _) _).alloc (by simp) _
  have H2 := hide (h.below hb2)
  have hlt := h.lt
  have hz := h.tsize
  have hk0 := hide (show (Parl.hd l).kind ≠ 0 by omega)
  unfold boxR boxT at H2
  have I := hide (fun w (hs : St w rb s l.tail ns nv e0) => IH w rb s l.tail ns nv e0 (d + 1) (by omega) hs)
  generalize optArgs f l.tail = r at I ⊢
  obtain ⟨⟨c0, c1, c2, c3, c4, c5, f1, f2, f3, f4, f5⟩, own, chain, isn, few, short, signs, pos, lt⟩ := h
  clear own chain isn few short signs hb2 IH
  have hmf : (mayB d (Parl.hd l) == 0) = true := by simpa using hm
  have HK2 := hide hk2
  clear hk2
  rcases r with ⟨er, pos⟩ | ⟨ts, l2⟩
  · show Calls _ _ _ _ fun e w' => PTerm (f + 1) rb s ns (.inl (er, pos)) w e w'
    go_enter Tryd.func40, Tryd.ntmps40
    go_wp2_with fail
    refine (mayBegin_any _ rb s l ns nv e0 d (unhide H2)).mono ?_
    rintro e w1 ⟨rfl, hs, hk⟩
    rw [if_pos hm] at hs
    have HS := hide hs
    have HK := hide hk
    clear hs hk
    go_wp2_with fail
    refine (take_any _ rb s l ns nv e0 (unhide HS) (unhide hk0)).mono ?_
    rintro e w2 ⟨rfl, hs, hk⟩
    have HS2 := hide hs
    have HKK := hide ((unhide HK).trans hk)
    clear hs hk HS HK
    obtain ⟨r0, r1, r2, r3, x0, x1, x2, x3, t0, t2⟩ := boxes hlt (unhide HKK)
    rw [unhide HK2] at t0
    go_wp2_with fail
    rw [show ((d : Int) + 1) = ((d + 1 : Nat) : Int) by omega]
    refine (unhide I _ (unhide HS2)).mono ?_
    clear r0 r1 r2 r3 x0 x1 x2 x3 t0 t2
    rintro e w3 ⟨l', ns', nv', ao, n, cap, rfl, hs, hpos, hk⟩
    have HS3 := hide hs
    have HK3 := hide ((unhide HKK).trans hk)
    have HP := hide hpos
    clear hs hk HS2 HKK hpos
    obtain ⟨r0, r1, r2, r3, x0, x1, x2, x3, t0, t2⟩ := boxes hlt (unhide HK3)
    go_wp2_with fail
    have R := box_end (unhide HK3) (unhide HS3) hlt (.int .i64 3) (.int .i64 0) (.string (Parl.hd l).text) (.slice ao n cap)
    refine bodyPost_ret (v := .tuple #[.agg #[.int .i64 3, .int .i64 0, .string (Parl.hd l).text, .slice ao n cap], .bool false]) (by simp [results, Tryd.results40, go_sem, r0, r1, r2, r3]) rfl ?_
    exact ⟨_, _, _, _, _, _, l', ns', nv', rfl, R.1, unhide HP, R.2⟩
  · show Calls _ _ _ _ fun e w' => PTerm (f + 1) rb s ns (.inr (⟨2, (Parl.hd l).text, ts⟩, l2)) w e w'
    go_enter Tryd.func40, Tryd.ntmps40
    go_wp2_with fail
    refine (mayBegin_any _ rb s l ns nv e0 d (unhide H2)).mono ?_
    rintro e w1 ⟨rfl, hs, hk⟩
    rw [if_pos hm] at hs
    have HS := hide hs
    have HK := hide hk
    clear hs hk
    go_wp2_with fail
    refine (take_any _ rb s l ns nv e0 (unhide HS) (unhide hk0)).mono ?_
    rintro e w2 ⟨rfl, hs, hk⟩
    have HS2 := hide hs
    have HKK := hide ((unhide HK).trans hk)
    clear hs hk HS HK
    obtain ⟨r0, r1, r2, r3, x0, x1, x2, x3, t0, t2⟩ := boxes hlt (unhide HKK)
    rw [unhide HK2] at t0
    go_wp2_with fail
    rw [show ((d : Int) + 1) = ((d + 1 : Nat) : Int) by omega]
    refine (unhide I _ (unhide HS2)).mono ?_
    clear r0 r1 r2 r3 x0 x1 x2 x3 t0 t2
    rintro e w3 ⟨ao, cap, ns', nv', e', rfl, haa, hs, hk⟩
    have HAA := hide (haa.up (unhide HKK).size)
    clear haa
    have HS3 := hide hs
    have HK3 := hide ((unhide HKK).trans hk)
    clear hs hk HS2 HKK
    obtain ⟨r0, r1, r2, r3, x0, x1, x2, x3, t0, t2⟩ := boxes hlt (unhide HK3)
    go_wp2_with fail
    have R := box_end (unhide HK3) (unhide HS3) hlt (.int .i64 3) (.int .i64 0) (.string (Parl.hd l).text) (.slice ao ts.length cap)
    refine bodyPost_ret (v := .tuple #[.agg #[.int .i64 3, .int .i64 0, .string (Parl.hd l).text, .slice ao ts.length cap], .bool true]) (by simp [results, Tryd.results40, go_sem, r0, r1, r2, r3]) rfl ?_
    exact ⟨_, _, _, _, ns', nv', e', rfl, ta_name hz (unhide HAA), R.1, R.2⟩

theorem term_step (f : Nat) (IH : ArgsSaid f) : TermSaid (f + 1) := by
  intro w rb s l ns nv e0 d hfd h
  by_cases hm : mayB d (Parl.hd l) = 0
  · rcases mayB_kind hm with hk | hk | hk
    · exact term_nam f IH w rb s l ns nv e0 d hfd h hm hk
    · exact term_var w rb s l ns nv e0 d f h hm hk
    · exact term_num w rb s l ns nv e0 d f h hm hk
  · rw [term_bad (by omega) hm]
    exact term_no w rb s l ns nv e0 _ d h hm
theorem term_none : TermSaid 0 := by
  intro w rb s l ns nv e0 d hfd h
  obtain rfl : d = 9 := by omega
  rw [term_zero]
  exact term_no w rb s l ns nv e0 0 9 h (mayB9 _)
end Go.Proofs.YthfjnfcekeknlaaDoor
namespace Go.Proofs.YthfjnfcekeknlaaDoor
open Go.RowKit

theorem Tryd.info52 : (Tryd.prog.info? 52).map (fun i => (i.zero, i.size, i.bytes)) = some (some (.agg #[.int .i64 0, .int .i64 0, .string ⟨#[]⟩, .slice none 0 0]), 4, 56) := by kernel_rfl

theorem own_ka {rb b0 : Nat} {w w1 : World} {T : TypeId} {sz : Nat} {v : Value} {n : Nat} {xs : List Value} (h : w.ownsRow b0 T sz v n xs) (hk : KA rb [rb] w w1) (hb : rb < b0) (hT : T ≠ 9) : w1.ownsRow b0 T sz v n xs :=
  ⟨h.1, h.2.imp id fun ⟨g, cap, cur, a, b, c, d⟩ => ⟨g, cap, cur, a, b, (hk.block g (Array.getElem?_eq_some_iff.1 c).1 (by simp; omega) (Or.inr (by unfold tyAt; rw [c]; simpa using hT))).trans c, d⟩⟩

theorem St.grown {w w2 : World} {rb : Nat} {s : ByteArray} {l : List Parl.Tok} {ns : List ByteArray} {nv : Value} {e : Int} {row : Option Nat} (h : St w rb s l ns nv e) (hg : w.grownBy w2 row) (hr : ∀ k, row = some k → rb < k ∧ tyAt w k ≠ some 9) : St w2 rb s l ns nv e := by
  have k : ∀ q, q < w.heap.size → some q ≠ row → w2.heap[q]? = w.heap[q]? := hg.block
  have hrb := k rb h.lt (fun e => by have := (hr rb e.symm).1; omega)
  have h0 := k 0 (by have := h.lt; omega) (fun e => by have := (hr 0 e.symm).1; omega)
  have c : ∀ o, w2.cell? ⟨rb, o, none⟩ = w.cell? ⟨rb, o, none⟩ := fun o => World.cell?_of_block hrb
  have f : ∀ o, w2.frozen? ⟨rb, o, none⟩ = w.frozen? ⟨rb, o, none⟩ := fun o => World.frozen?_of_block hrb
  have z : ∀ o, w2.cell? ⟨0, o, none⟩ = w.cell? ⟨0, o, none⟩ := fun o => World.cell?_of_block h0
  obtain ⟨⟨c0, c1, c2, c3, c4, c5, f1, f2, f3, f4, f5⟩, own, chain, isn, few, short, signs, pos, lt⟩ := h
  refine ⟨⟨(c 0).trans c0, (c 1).trans c1, (c 2).trans c2, (c 3).trans c3, (c 4).trans c4, (c 5).trans c5, (f 1).trans f1, (f 2).trans f2, (f 3).trans f3, (f 4).trans f4, (f 5).trans f5⟩, ⟨own.1, ?_⟩, chain, isn, few, short, ⟨(z 0).trans signs.s0, (z 1).trans signs.s1, (z 2).trans signs.s2, (z 3).trans signs.s3, (z 4).trans signs.s4⟩, pos, by have := hg.size; omega⟩
  rcases own.2 with q | ⟨g, cap, cur, a, b', c', d⟩
  · exact Or.inl q
  · refine Or.inr ⟨g, cap, cur, a, b', ?_, d⟩
    rw [k g (Array.getElem?_eq_some_iff.1 c').1 (fun e => (hr g e.symm).2 (by unfold tyAt; rw [c']))]
    exact c'

/-- So many have been read already. -/
def pre (ts : List Parl.Tm) (r : Parl.Res (List Parl.Tm)) : Parl.Res (List Parl.Tm) := match r with
  | .inl e => .inl e
  | .inr (us, l2) => .inr (ts ++ us, l2)
theorem pre_nil (r : Parl.Res (List Parl.Tm)) : r = pre [] r := by rcases r with e | ⟨us, l2⟩ <;> rfl

theorem args_bad {p : List Parl.Tok → Parl.Res Parl.Tm} {k : Nat} {l : List Parl.Tok} {er : Nat × Nat} (h : p l = .inl er) : Parl.argsOf p k l = .inl er := by
  unfold Parl.argsOf; rw [h]
theorem args_end {p : List Parl.Tok → Parl.Res Parl.Tm} {k : Nat} {l l1 : List Parl.Tok} {t : Parl.Tm} (h : p l = .inr (t, l1)) (hc : Parl.sees l1 [44] = false) : Parl.argsOf p k l = if Parl.sees l1 [41] = true then .inr ([t], l1.tail) else Parl.bad 2 l1 := by
  unfold Parl.argsOf; rw [h]; simp only [hc]; rfl
theorem args_many {p : List Parl.Tok → Parl.Res Parl.Tm} {l l1 : List Parl.Tok} {t : Parl.Tm} (h : p l = .inr (t, l1)) (hc : Parl.sees l1 [44] = true) : Parl.argsOf p 0 l = Parl.bad 3 l1 := by
  unfold Parl.argsOf; rw [h]; simp only [hc]; rfl
theorem args_more {p : List Parl.Tok → Parl.Res Parl.Tm} {k : Nat} {l l1 : List Parl.Tok} {t : Parl.Tm} (h : p l = .inr (t, l1)) (hc : Parl.sees l1 [44] = true) (ts : List Parl.Tm) : pre ts (Parl.argsOf p (k + 1) l) = pre (ts ++ [t]) (Parl.argsOf p k l1.tail) := by
  conv => lhs; unfold Parl.argsOf
  rw [h]; simp only [hc]
  rcases Parl.argsOf p k l1.tail with e | ⟨us, l2⟩
  · rfl
  · simp [pre]
end Go.Proofs.YthfjnfcekeknlaaDoor
namespace Go.Proofs.YthfjnfcekeknlaaDoor
open Go.RowKit

theorem new_four (W : World) (o : Obj) (a b c d : Value) (T : TypeId) : ∀ j u, ([a, b, c, d] : List Value)[j]? = some u → ((W.alloc o).alloc (.cells #[a, b, c, d] T)).cell? ((⟨W.heap.size + 1, 0, none⟩ : Addr).add j) = some u := by
  intro j u hj
  match j, hj with
  | 0, hj => simp at hj; subst hj; simp [Addr.add]
  | 1, hj => simp at hj; subst hj; simp [Addr.add]
  | 2, hj => simp at hj; subst hj; simp [Addr.add]
  | 3, hj => simp at hj; subst hj; simp [Addr.add]
theorem four_one (a b : Int) (c : ByteArray) (ao : Option Addr) (n cap : Nat) : ∀ u ∈ ([.int .i64 a, .int .i64 b, .string c, .slice ao n cap] : List Value), u.oneCell' = true := by
  intro u hu; simp at hu; rcases hu with rfl | rfl | rfl | rfl <;> rfl
/-- Behind the append of an argument. -/
theorem arg_grown {w w2 w3 : World} {rb : Nat} {s : ByteArray} {l : List Parl.Tok} {ns : List ByteArray} {nv : Value} {e : Int} {v : Value} {n : Nat} {xs : List Value} {o1 o2 : Obj} {T : TypeId} {sz : Nat} (h : St w2 rb s l ns nv e) (hk : KA rb [rb] w w2) (ho : w2.ownsRow w.heap.size T sz v n xs) (hlt : rb < w.heap.size) (hg : ((w2.alloc o1).alloc o2).grownBy w3 v.ownBlock) (hT : T ≠ 9 := by decide) :
    St w3 rb s l ns nv e ∧ KA rb [rb] w w3 := by
  have hb : Below w2.heap.size w2 ((w2.alloc o1).alloc o2) := ((Below.refl _ _).alloc (Nat.le_refl _) _).alloc (by simp) _
  have hty : ∀ k, v.ownBlock = some k → tyAt ((w2.alloc o1).alloc o2) k ≠ some 9 := fun k hk' => by
    have := ho.lt k hk'
    rcases ho.2 with ⟨rfl, _⟩ | ⟨g, cap, cur, rfl, _, c, _⟩
    · simp [Value.ownBlock] at hk'
    · simp [Value.ownBlock] at hk'
      subst hk'
      unfold tyAt; rw [hb.block g this.2, c]; simpa using hT
  refine ⟨(h.below hb).grown hg (fun k q => ⟨by have := (ho.lt k q).1; omega, hty k q⟩), ((hk.alloc o1).alloc o2).grown hg (fun k q => Or.inl (ho.lt k q).1)⟩

/-- The arguments so far lie there, and not in the row that grows. -/
def ArgRep (f : Nat) (w : World) (ns0 ns : List ByteArray) (v : Value) (wr : World) (us : List AV) (ts : List Parl.Tm) : Prop :=
  All2 (RA f (nmsA ns) (fun g => w.heap.size ≤ g ∧ some g ≠ v.ownBlock) wr) us ts ∧ nmsA ns = ts.foldl (Parl.namesF f) (nmsA ns0)
theorem ArgRep.keep {f : Nat} {w : World} {ns0 ns : List ByteArray} {v : Value} {wr w2 : World} {us : List AV} {ts : List Parl.Tm} (h : ArgRep f w ns0 ns v wr us ts) (hk : KeepA wr w2) : ArgRep f w ns0 ns v w2 us ts :=
  ⟨h.1.imp fun _ _ r => r.keep fun g cs hp hc hi => ⟨hk g cs hc hi, hp⟩, h.2⟩
theorem ArgRep.next {f rb : Nat} {w : World} {ns0 ns1 ns2 : List ByteArray} {v nv : Value} {wr w2 : World} {us : List AV} {ts : List Parl.Tm} {s : ByteArray} {l : List Parl.Tok} {e : Int} {T : TypeId} {sz n : Nat} {xs : List Value} {val : Int} {tx : ByteArray} {ao : Option Addr} {cap : Nat} {t : Parl.Tm}
    (h : ArgRep f w ns0 ns1 v wr us ts) (hs : St wr rb s l ns1 nv e) (hk : KA rb [rb] wr w2) (ho : wr.ownsRow w.heap.size T sz v n xs) (hw : w.heap.size ≤ wr.heap.size) (ht : TA f ns1 ns2 wr w2 val tx ao cap t) :
    ArgRep f w ns0 ns2 v w2 (us ++ [⟨ak t.kind, val, tx, ao, t.args.length, cap⟩]) (ts ++ [t]) := by
  obtain ⟨M, hM, _⟩ := Parl.namesF_ext f t ht.rep.ok3 (nmsA ns1)
  have he : nmsA ns2 = nmsA ns1 ++ M := ht.nms.trans hM
  refine ⟨All2.snoc ?_ ?_, by rw [List.foldl_append, ← h.2]; exact ht.nms⟩
  · exact ht.rep.imp fun g hg _ => ⟨by omega, fun q => by have := (ho.lt g q.symm).2; omega⟩
  · rw [he]
    exact (h.keep (KeepA.ka hs hk)).1.imp fun _ _ r => r.more M
theorem ArgRep.grown {f : Nat} {w : World} {ns0 ns : List ByteArray} {v v' : Value} {w2 w3 : World} {us : List AV} {ts : List Parl.Tm} {o1 o2 : Obj} (h : ArgRep f w ns0 ns v w2 us ts) (hg : ((w2.alloc o1).alloc o2).grownBy w3 v.ownBlock) (hat : v'.ownBlock = v.ownBlock ∨ v'.ownBlock = some ((w2.alloc o1).alloc o2).heap.size) : ArgRep f w ns0 ns v' w3 us ts := by
  have hb : Below w2.heap.size w2 ((w2.alloc o1).alloc o2) := ((Below.refl _ _).alloc (Nat.le_refl _) _).alloc (by simp) _
  have hz : w2.heap.size ≤ ((w2.alloc o1).alloc o2).heap.size := hb.size
  refine ⟨h.1.imp fun _ _ r => r.keep fun g cs hp hc hi => ?_, h.2⟩
  have hlt : g < w2.heap.size := (Array.getElem?_eq_some_iff.1 hc).1
  refine ⟨((hg.block g (by omega) hp.2).trans (hb.block g hlt)).trans hc, hp.1, fun q => ?_⟩
  rcases hat with a | a
  · exact hp.2 (q.trans a)
  · rw [a] at q
    injection q with q
    omega
theorem ArgRep.done {f : Nat} {w : World} {ns0 ns : List ByteArray} {g cap : Nat} {wr : World} {us : List AV} {ts : List Parl.Tm} (h : ArgRep f w ns0 ns (.slice (some ⟨g, 0, none⟩) ts.length cap) wr us ts) (ho : wr.ownsRow w.heap.size 52 4 (.slice (some ⟨g, 0, none⟩) ts.length cap) ts.length (us.flatMap avC)) (h3 : ts.length ≤ 3) : AA f ns0 ns w wr (some ⟨g, 0, none⟩) ts := by
  refine ⟨fun _ => ?_, h.2, h3⟩
  rcases ho.2 with ⟨q, _⟩ | ⟨g', cap', cur, q, hb, hc, _, _, _, ht⟩
  · cases q
  · simp only [Value.slice.injEq, Option.some.injEq, Addr.mk.injEq, and_true, true_and] at q
    obtain ⟨rfl, rfl⟩ := q
    exact ⟨g, us, cur, rfl, hb, hc, by rw [h.1.length]; exact ht, h.1.imp fun _ _ r => r.imp fun _ q _ => q.1⟩
/-- The loop's relation. -/
def ArgRel (w : World) (rb : Nat) (s : ByteArray) (f : Nat) (l0 : List Parl.Tok) (ns0 : List ByteArray) (v : Value) (wr : World) : Prop :=
  ∃ (ts : List Parl.Tm) (us : List AV) (l : List Parl.Tok) (ns : List ByteArray) (nv : Value) (e : Int), St wr rb s l ns nv e ∧ wr.ownsRow w.heap.size 52 4 v ts.length (us.flatMap avC) ∧ ts.length ≤ 2 ∧
    Parl.argsOf (Parl.term f) 2 l0 = pre ts (Parl.argsOf (Parl.term f) (2 - ts.length) l) ∧ KA rb [rb] w wr ∧ ArgRep f w ns0 ns v wr us ts
def lenOf : Value → Nat | .slice _ n _ => n | _ => 0

theorem own_len {w : World} {b : Nat} {e : TypeId} {sz : Nat} {v : Value} {n : Nat} {xs : List Value} (h : w.ownsRow b e sz v n xs) : lenOf v = n := by
  rcases h.2 with ⟨rfl, q⟩ | ⟨g, cap, cur, rfl, _⟩
  · exact q.symm
  · rfl

set_option maxHeartbeats 2000000 in
set_option maxRecDepth 100000 in
theorem args_step (f : Nat) (IH : TermSaid f) : ArgsSaid f := by
  intro w rb s l ns nv e0 d hfd h
  obtain ⟨i0, hi, hz0, hz1, hz2⟩ := info_parts Tryd.info52
  have H := hide h
  have hlt := h.lt
  cases hs0 : Parl.sees l [40]
  · have HO := hide (show optArgs f l = .inr ([], l) by unfold optArgs; rw [hs0]; rfl)
    go_enter Tryd.func67, Tryd.ntmps67
    go_wp2_with (go_at_call 59; refine (sees_any _ rb s l ns nv e0 _ (unhide H)).mono ?_; rintro e w1 ⟨rfl, rfl⟩; simp only [ByteArray.toList_mk])
    go_ret2
    refine (?_ : PArgs f rb s ns (optArgs f l) w1 _ _)
    rw [unhide HO]
    exact ⟨none, 0, ns, nv, e0, rfl, ⟨fun q => absurd rfl q, rfl, by simp⟩, unhide H, KA.refl _ _ _⟩
  · have HO := hide (show optArgs f l = Parl.argsOf (Parl.term f) 2 l.tail by unfold optArgs; rw [hs0]; rfl)
    have hk0 := hide (show (Parl.hd l).kind ≠ 0 by rw [Parl.sees_kind hs0]; omega)
    rw [unhide HO]
    clear HO
    go_enter Tryd.func67, Tryd.ntmps67
    go_wp2_with fail
    refine (sees_any _ rb s l ns nv e0 _ (unhide H)).mono ?_
    rintro e w1 ⟨rfl, hw⟩
    rw [hw]
    simp only [ByteArray.toList_mk]
    rw [hs0]
    clear hw w1
    go_wp2_with fail
    refine (take_any _ rb s l ns nv e0 (unhide H) (unhide hk0)).mono ?_
    rintro e w1 ⟨rfl, hs1, hk1⟩
    have HS1 := hide hs1
    have HK1 := hide hk1
    clear hs1 hk1
    go_wp2_with fail
    go_loopw [6] (fun v wr => ArgRel w rb s f l.tail ns v wr) (fun v _ => 2 - lenOf v)
    case atStart => exact ⟨[], [], l.tail, ns, nv, e0, unhide HS1, World.ownsRow_nil _ _ _ _, by simp, pre_nil _, unhide HK1, trivial, rfl⟩
    case round =>
      obtain ⟨ts, us, l1, ns1, nv1, e1, hst, hown, hts, hpre, hka, hrep⟩ := hrel
      have HREP := hide hrep
      have HST := hide hst
      have HOWN := hide hown
      have HLEN := hide (own_len hown)
      have HPRE := hide hpre
      have HKA := hide hka
      clear hst hown hpre hka hrep
      have I := hide (IH wr rb s l1 ns1 nv1 e1 d hfd (unhide HST))
      generalize hr : Parl.term f l1 = r at I
      have HR := hide hr
      clear hr
      rcases r with ⟨er, pos⟩ | ⟨t, l2⟩
      · have HF : Hid (Parl.argsOf (Parl.term f) 2 l.tail = .inl (er, pos)) := (unhide HPRE).trans (by rw [args_bad (unhide HR)]; rfl)
        go_wp2_with fail
        refine (unhide I).mono ?_
        rintro e w2 ⟨k, val, tx, ao, n, cap, l', ns', nv', rfl, hs2, hpos, hk2⟩
        have HS2 := hide hs2
        have HP := hide hpos
        have HK2 := hide ((unhide HKA).trans hk2)
        clear hs2 hpos hk2
        go_wp2_with fail
        go_ret2
        refine (?_ : PArgs f rb s ns _ w _ _)
        rw [unhide HF]
        exact ⟨l', ns', nv', none, 0, 0, rfl, (unhide HS2).below ((Below.refl _ _).alloc (Nat.le_refl _) _), unhide HP, (unhide HK2).alloc _⟩
      · go_wp2_with fail
        refine (unhide I).mono ?_
        rintro e w2 ⟨val, tx, ao, cap, ns2, nv2, e2, rfl, htx, hs2, hk2⟩
        have HREP2 := hide ((unhide HREP).next (unhide HST) hk2 (unhide HOWN) (unhide HKA).size htx)
        have HS2 := hide hs2
        have HO2 := hide (own_ka (unhide HOWN) hk2 hlt (by decide))
        have HK2 := hide ((unhide HKA).trans hk2)
        have hlt2 : w.heap.size ≤ w2.heap.size := (unhide HK2).size
        clear hs2 hk2 htx
        go_wp2_with (first | (at_builtin; refine wpList_append_own_at _ rfl (.tmp 23) (.tmp 25) 50 rfl w.heap.size 52 i0 (.agg #[.int .i64 0, .int .i64 0, .string ⟨#[]⟩, .slice none 0 0]) 4 56 Tryd.underlying50 hi hz0 hz1 hz2 rfl (by decide) _ ts.length (us.flatMap avC) rfl (((unhide HO2).alloc _).alloc _) ⟨w2.heap.size + 1, 0, none⟩ 1 1 [.int .i64 (ak t.kind), .int .i64 val, .string tx, .slice ao t.args.length cap] rfl rfl (new_four _ _ _ _ _ _ _) (four_one _ _ _ _ _ _) (by unfold maxLen; omega) (by omega) (by simp; omega) ?_; intro v' w3 hown' hgrow _ hat; have HREP3 := hide ((unhide HREP2).grown hgrow hat); clear hat; have HOWN3 := hide hown'; have R3 := hide (arg_grown (unhide HS2) (unhide HK2) (unhide HO2) hlt hgrow); obtain ⟨g', cap', hv, hcm⟩ := own_some hown'; rw [hv] at HOWN3 HREP3 ⊢; clear hown' hgrow hv))
        have HS3 := hide (unhide R3).1
        have HK3 := hide (unhide R3).2
        clear R3
        cases hc : Parl.sees l2 [44]
        · have HF := hide ((unhide HPRE).trans (by rw [args_end (unhide HR) hc]))
          refine (sees_any _ rb s l2 ns2 nv2 e2 _ (unhide HS3)).mono ?_
          rintro e w4 ⟨rfl, hw⟩
          rw [hw]
          simp only [ByteArray.toList_mk]
          rw [hc]
          clear hw w4
          go_wp2_with fail
          refine (sees_any _ rb s l2 ns2 nv2 e2 _ (unhide HS3)).mono ?_
          rintro e w4 ⟨rfl, hw⟩
          rw [hw]
          simp only [ByteArray.toList_mk]
          clear hw w4
          cases hb : Parl.sees l2 [41]
          · rw [hb] at HF
            go_wp2_with fail
            refine (takeIf_any _ rb s l2 ns2 nv2 e2 false (unhide HS3) (fun q => by cases q)).mono ?_
            rintro e w4 ⟨rfl, hs4, hk4⟩
            have HS4 := hide hs4
            have HK4 := hide ((unhide HK3).trans hk4)
            clear hs4 hk4
            go_wp2_with fail
            go_ret2
            refine (?_ : PArgs f rb s ns _ w _ _)
            rw [unhide HF]
            exact ⟨l2, ns2, nv2, _, _, _, rfl, unhide HS4, rfl, unhide HK4⟩
          · rw [hb] at HF
            have hk5 := hide (show (Parl.hd l2).kind ≠ 0 by rw [Parl.sees_kind hb]; omega)
            go_wp2_with fail
            refine (takeIf_any _ rb s l2 ns2 nv2 e2 true (unhide HS3) (fun _ => unhide hk5)).mono ?_
            rintro e w4 ⟨rfl, hs4, hk4⟩
            have HKP4 := hide (KeepA.ka (unhide HS3) hk4)
            have HO4 := hide (own_ka (unhide HOWN3) hk4 hlt (by decide))
            have HS4 := hide hs4
            have HK4 := hide ((unhide HK3).trans hk4)
            clear hs4 hk4
            go_wp2_with fail
            go_ret2
            refine (?_ : PArgs f rb s ns _ w _ _)
            rw [unhide HF]
            exact ⟨some ⟨g', 0, none⟩, cap', ns2, nv2, e2, by simp, ArgRep.done (by simpa using (unhide HREP3).keep (unhide HKP4)) (by simpa [avC] using unhide HO4) (by simp; omega), unhide HS4, unhide HK4⟩
        · have hk5 := hide (show (Parl.hd l2).kind ≠ 0 by rw [Parl.sees_kind hc]; omega)
          refine (sees_any _ rb s l2 ns2 nv2 e2 _ (unhide HS3)).mono ?_
          rintro e w4 ⟨rfl, hw⟩
          rw [hw]
          simp only [ByteArray.toList_mk]
          rw [hc]
          clear hw w4
          go_wp2_with fail
          rw [show ((ts.length : Int) + 1) = ((ts.length + 1 : Nat) : Int) by omega]
          refine (comma_any _ rb s l2 ns2 nv2 e2 (ts.length + 1) 3 (unhide HS3) (unhide hk5)).mono ?_
          by_cases hn : ts.length + 1 < 3
          · have HF := hide ((unhide HPRE).trans (by rw [show 2 - ts.length = (2 - (ts.length + 1)) + 1 by omega, args_more (unhide HR) hc]))
            rw [if_pos hn, if_pos hn, decide_eq_true hn]
            rintro e w4 ⟨rfl, hs4, hk4⟩
            have HS4 := hide hs4
            have HKP4 := hide (KeepA.ka (unhide HS3) hk4)
            have HO4 := hide (own_ka (unhide HOWN3) hk4 hlt (by decide))
            have HK4 := hide ((unhide HK3).trans hk4)
            clear hs4 hk4
            go_wp2_with fail
            go_roundw
            case rel => exact ⟨ts ++ [t], us ++ [⟨ak t.kind, val, tx, ao, t.args.length, cap⟩], l2.tail, ns2, nv2, e2, unhide HS4, by simpa [avC] using unhide HO4, by simp; omega, by simpa using unhide HF, unhide HK4, (unhide HREP3).keep (unhide HKP4)⟩
            case measure => show 2 - (ts.length + 1) < 2 - lenOf _; rw [unhide HLEN]; omega
          · have h0 : ts.length = 2 := by omega
            have HF := hide ((unhide HPRE).trans (by rw [show 2 - ts.length = 0 by omega, args_many (unhide HR) hc]))
            rw [if_neg hn, if_neg hn, decide_eq_false hn]
            rintro e w4 ⟨rfl, hs4, hk4⟩
            have HS4 := hide hs4
            have HK4 := hide ((unhide HK3).trans hk4)
            clear hs4 hk4 h0
            go_wp2_with fail
            go_ret2
            refine (?_ : PArgs f rb s ns _ w _ _)
            rw [unhide HF]
            exact ⟨l2, ns2, nv2, _, _, _, rfl, unhide HS4, rfl, unhide HK4⟩

theorem term_all : ∀ f, TermSaid f
  | 0 => term_none
  | f + 1 => term_step f (args_step f (term_all f))
end Go.Proofs.YthfjnfcekeknlaaDoor
namespace Go.Proofs.YthfjnfcekeknlaaDoor
open Go.RowKit

theorem blkF {w : World} {b : Nat} {cs : Array Value} {T : TypeId} (h : w.heap[b]? = some (.cells cs T (0, 0))) (i : Nat) : w.frozen? ⟨b, i, none⟩ = false := by
  simp [World.frozen?, h]
theorem blkA {w : World} {b : Nat} {cs : Array Value} {T : TypeId} (h : w.heap[b]? = some (.cells cs T (0, 0))) : ∀ i, w.cell? ⟨b, i, none⟩ = cs[i]? := fun i => by
  simp [World.cell?, h]
theorem blkX {w : World} {b : Nat} {cs : Array Value} {T : TypeId} (h : w.heap[b]? = some (.cells cs T (0, 0))) : ∀ i, w.frozen? ⟨b, i, none⟩ = false := fun i => blkF h i
theorem blk_alloc {w : World} {b : Nat} {x : Obj} (h : w.heap[b]? = some x) (o : Obj) : (w.alloc o).heap[b]? = some x := by
  rw [Below.heap_alloc _ _ _ (Array.getElem?_eq_some_iff.1 h).1]; exact h
theorem blk_ka {w w' : World} {rb b : Nat} {X : List Nat} {cs : Array Value} {T : TypeId} (hk : KA rb X w w') (h : w.heap[b]? = some (.cells cs T (0, 0))) (hb : b ∉ X) (hT : T ≠ 9 := by decide) : w'.heap[b]? = some (.cells cs T (0, 0)) :=
  (hk.block b (Array.getElem?_eq_some_iff.1 h).1 hb (Or.inr (by unfold tyAt; rw [h]; simpa using hT))).trans h
theorem blk_lt {w : World} {b : Nat} {x : Obj} (h : w.heap[b]? = some x) : b < w.heap.size := (Array.getElem?_eq_some_iff.1 h).1

/-- Only block b has turned. -/
structure OnlyB (b : Nat) (w w' : World) : Prop where
  os : w'.os = w.os
  tape : w'.tape = w.tape
  output : w'.output = w.output
  size : w'.heap.size = w.heap.size
  block : ∀ k, k ≠ b → w'.heap[k]? = w.heap[k]?
  ty : ∀ k, tyAt w' k = tyAt w k
theorem OnlyB.refl (b : Nat) (w : World) : OnlyB b w w := ⟨rfl, rfl, rfl, rfl, fun _ _ => rfl, fun _ => rfl⟩
theorem OnlyB.set {b : Nat} {a w : World} (h : OnlyB b a w) (i : Nat) (v : Value) : OnlyB b a (w.setCell ⟨b, i, none⟩ v) :=
  ⟨h.os, h.tape, h.output, by simp [World.setCell]; exact h.size, fun k hk => (Below.heap_setCell _ _ _ _ hk).trans (h.block k hk), fun k => (tyAt_setCell _ _ _ _).trans (h.ty k)⟩

theorem St.only {w w' : World} {rb : Nat} {s : ByteArray} {l : List Parl.Tok} {ns : List ByteArray} {nv : Value} {e : Int} {b : Nat} (h : St w rb s l ns nv e) (ho : OnlyB b w w') (hb : b ≠ rb) (h0 : b ≠ 0) (ht : tyAt w b ≠ some 9) : St w' rb s l ns nv e := by
  have k := ho.block
  have c : ∀ o, w'.cell? ⟨rb, o, none⟩ = w.cell? ⟨rb, o, none⟩ := fun o => World.cell?_of_block (k rb (Ne.symm hb))
  have f : ∀ o, w'.frozen? ⟨rb, o, none⟩ = w.frozen? ⟨rb, o, none⟩ := fun o => World.frozen?_of_block (k rb (Ne.symm hb))
  have z : ∀ o, w'.cell? ⟨0, o, none⟩ = w.cell? ⟨0, o, none⟩ := fun o => World.cell?_of_block (k 0 (Ne.symm h0))
  obtain ⟨⟨c0, c1, c2, c3, c4, c5, f1, f2, f3, f4, f5⟩, own, chain, isn, few, short, signs, pos, lt⟩ := h
  refine ⟨⟨(c 0).trans c0, (c 1).trans c1, (c 2).trans c2, (c 3).trans c3, (c 4).trans c4, (c 5).trans c5, (f 1).trans f1, (f 2).trans f2, (f 3).trans f3, (f 4).trans f4, (f 5).trans f5⟩, ⟨own.1, ?_⟩, chain, isn, few, short, ⟨(z 0).trans signs.s0, (z 1).trans signs.s1, (z 2).trans signs.s2, (z 3).trans signs.s3, (z 4).trans signs.s4⟩, pos, by rw [ho.size]; exact lt⟩
  rcases own.2 with q | ⟨g, cap, cur, a, b', c', d⟩
  · exact Or.inl q
  · refine Or.inr ⟨g, cap, cur, a, b', ?_, d⟩
    rw [k g (fun e => ht (by rw [← e]; unfold tyAt; rw [c']))]
    exact c'
end Go.Proofs.YthfjnfcekeknlaaDoor
namespace Go.Proofs.YthfjnfcekeknlaaDoor
open Go.RowKit

/-- A term's four cells. -/
abbrev TV := AV
/-- Through the box of a function that hands a term on. -/
theorem TA.box {f : Nat} {ns ns' : List ByteArray} {w W w1 : World} {val : Int} {tx : ByteArray} {ao : Option Addr} {cap : Nat} {t : Parl.Tm} (h : TA f ns ns' W w1 val tx ao cap t) (hW : w.heap.size < W.heap.size) (v0 v1 v2 v3 : Value) :
    TA f ns ns' w ((((w1.setCell ⟨w.heap.size, 0, none⟩ v0).setCell ⟨w.heap.size, 1, none⟩ v1).setCell ⟨w.heap.size, 2, none⟩ v2).setCell ⟨w.heap.size, 3, none⟩ v3) val tx ao cap t := by
  refine ⟨?_, h.nms⟩
  have r := h.rep.imp (Q := fun g => w.heap.size < g) fun g hg _ => by omega
  exact ((((r.set (fun g hg => by omega) 0 v0).set (fun g hg => by omega) 1 v1).set (fun g hg => by omega) 2 v2).set (fun g hg => by omega) 3 v3).imp fun g hg _ => by omega

def anyA : Nat → Prop := fun _ => True
/-- The right sides of an item lie there. -/
structure RightA (ns ns' : List ByteArray) (w' : World) (b c : TV) (sg op : ByteArray) (x : Parl.Itm) : Prop where
  sign : sg.toList = x.sign
  right : ∀ r, x.right = some r → RA 8 (nmsA ns') anyA w' b r
  op : op.toList = x.op
  last : ∀ z, x.last = some z → RA 8 (nmsA ns') anyA w' c z
  nms : nmsA ns' = Parl.nameO (Parl.nameO (nmsA ns) x.right) x.last
theorem KeepA.ra {w w' : World} (h : KeepA w w') {f : Nat} {N : List (List UInt8)} {P : Nat → Prop} {a : AV} {t : Parl.Tm} (q : RA f N P w a t) : RA f N anyA w' a t := q.keep fun g cs _ hc hi => ⟨h g cs hc hi, trivial⟩
theorem KeepA.refl (w : World) : KeepA w w := fun _ _ h _ => h
theorem KeepA.alloc (w : World) (o : Obj) : KeepA w (w.alloc o) := KeepA.below ((Below.refl _ _).alloc (Nat.le_refl _) o)
theorem KeepA.only {w w' : World} {b : Nat} (ho : OnlyB b w w') (ht : tyAt w b ≠ some 52) : KeepA w w' := fun g cs hc _ => (ho.block g (fun q => by subst q; exact ht (by unfold tyAt; rw [hc]))).trans hc
end Go.Proofs.YthfjnfcekeknlaaDoor
namespace Parl
theorem whole_a {l : List Tok} {er ps : Nat} (h : term 8 l = .inl (er, ps)) : whole l = .inl (er, ps) := by unfold whole; rw [h]
theorem whole_b {l l1 : List Tok} {t : Tm} (h : term 8 l = .inr (t, l1)) (hk : (hd l1).kind = 0) : whole l = .inr (t, l1) := by unfold whole; rw [h]; dsimp only; rw [if_pos hk]
theorem whole_c {l l1 : List Tok} {t : Tm} (h : term 8 l = .inr (t, l1)) (hk : (hd l1).kind ≠ 0) : whole l = .inl (2, (hd l1).pos) := by unfold whole; rw [h]; dsimp only; rw [if_neg hk]; rfl
end Parl
namespace Go.Proofs.YthfjnfcekeknlaaDoor
open Go.RowKit

/-- The reader as it stands first. -/
theorem st_startT {w1 : World} {s : ByteArray} {L : List Parl.Tok} (hsg : Signs w1) (h0 : 0 < w1.heap.size) (hL : Parl.Chain s L) (hh : Parl.hd L = Parl.next s 0) (hl : L.length ≤ 1000) (hs : s.size ≤ 240) :
    St (w1.alloc (.cells #[.string s, .int .i64 ((Parl.next s 0).kind : Int), .int .i64 ((Parl.next s 0).pos : Int), .string (Parl.next s 0).text, .slice none 0 0, .int .i64 0] 81)) w1.heap.size s L [] (.slice none 0 0) 0 := by
  have hb := heap_alloc_new w1 (.cells #[.string s, .int .i64 ((Parl.next s 0).kind : Int), .int .i64 ((Parl.next s 0).pos : Int), .string (Parl.next s 0).text, .slice none 0 0, .int .i64 0] 81)
  have c := blkA hb
  have f := blkX hb
  exact ⟨⟨by rw [c]; rfl, by rw [c, hh]; rfl, by rw [c, hh]; rfl, by rw [c, hh]; rfl, by rw [c]; rfl, by rw [c]; rfl, f 1, f 2, f 3, f 4, f 5⟩, World.ownsRow_nil _ _ _ _, hL, ⟨0, hh⟩, by simpa using hl, hs, hsg.below ((Below.refl _ _).alloc (Nat.le_refl _) _) h0, h0, by simp⟩

theorem own_shapeT {w : World} {b : Nat} {e : TypeId} {sz : Nat} {v : Value} {n : Nat} {xs : List Value} (h : w.ownsRow b e sz v n xs) : ∃ o cap, v = .slice o n cap := by
  rcases h.2 with ⟨q, rfl⟩ | ⟨g, cap, cur, q, _⟩
  · exact ⟨none, 0, q⟩
  · exact ⟨some ⟨g, 0, none⟩, cap, q⟩
theorem hset (w : World) (b i : Nat) (v : Value) {g : Nat} (h : g ≠ b) : (w.setCell ⟨b, i, none⟩ v).heap[g]? = w.heap[g]? := Below.heap_setCell _ _ _ _ h
theorem zset (w : World) (p : Addr) (v : Value) : (w.setCell p v).heap.size = w.heap.size := by simp [World.setCell]
theorem set6_block (w2 : World) {b : Nat} (v0 v1 v2 v3 v4 v5 : Value) {k : Nat} (h : k ≠ b) : ((((((w2.setCell ⟨b, 0, none⟩ v0).setCell ⟨b, 1, none⟩ v1).setCell ⟨b, 2, none⟩ v2).setCell ⟨b, 3, none⟩ v3).setCell ⟨b, 4, none⟩ v4).setCell ⟨b, 5, none⟩ v5).heap[k]? = w2.heap[k]? := by
  rw [hset _ _ _ _ h, hset _ _ _ _ h, hset _ _ _ _ h, hset _ _ _ _ h, hset _ _ _ _ h, hset _ _ _ _ h]
theorem set6_size (w2 : World) {b : Nat} (v0 v1 v2 v3 v4 v5 : Value) : ((((((w2.setCell ⟨b, 0, none⟩ v0).setCell ⟨b, 1, none⟩ v1).setCell ⟨b, 2, none⟩ v2).setCell ⟨b, 3, none⟩ v3).setCell ⟨b, 4, none⟩ v4).setCell ⟨b, 5, none⟩ v5).heap.size = w2.heap.size := by simp only [zset]
theorem set6_below {w w2 : World} (h : Below w.heap.size w w2) (v0 v1 v2 v3 v4 v5 : Value) : Below w.heap.size w ((((((w2.setCell ⟨w.heap.size, 0, none⟩ v0).setCell ⟨w.heap.size, 1, none⟩ v1).setCell ⟨w.heap.size, 2, none⟩ v2).setCell ⟨w.heap.size, 3, none⟩ v3).setCell ⟨w.heap.size, 4, none⟩ v4).setCell ⟨w.heap.size, 5, none⟩ v5) :=
  (((((h.setCell (p := ⟨w.heap.size, 0, none⟩) (Nat.le_refl _) _).setCell (p := ⟨w.heap.size, 1, none⟩) (Nat.le_refl _) _).setCell (p := ⟨w.heap.size, 2, none⟩) (Nat.le_refl _) _).setCell (p := ⟨w.heap.size, 3, none⟩) (Nat.le_refl _) _).setCell (p := ⟨w.heap.size, 4, none⟩) (Nat.le_refl _) _).setCell (p := ⟨w.heap.size, 5, none⟩) (Nat.le_refl _) _
theorem own_at6 {w : World} {b b0 : Nat} {T : TypeId} {sz : Nat} {v : Value} {n : Nat} {xs : List Value} (h : w.ownsRow b0 T sz v n xs) (hb : b < b0) (v0 v1 v2 v3 v4 v5 : Value) : ((((((w.setCell ⟨b, 0, none⟩ v0).setCell ⟨b, 1, none⟩ v1).setCell ⟨b, 2, none⟩ v2).setCell ⟨b, 3, none⟩ v3).setCell ⟨b, 4, none⟩ v4).setCell ⟨b, 5, none⟩ v5).ownsRow b0 T sz v n xs :=
  ⟨h.1, h.2.imp id fun ⟨g, cap, cur, a, c, d, e⟩ => ⟨g, cap, cur, a, c, (set6_block w _ _ _ _ _ _ (by omega)).trans d, e⟩⟩
theorem own_down6 {b0 b1 : Nat} {w : World} {T : TypeId} {sz : Nat} {v : Value} {n : Nat} {xs : List Value} (h : w.ownsRow b1 T sz v n xs) (hb : b0 ≤ b1) : w.ownsRow b0 T sz v n xs :=
  ⟨h.1, h.2.imp id fun ⟨g, cap, cur, a, b, c, d⟩ => ⟨g, cap, cur, a, Nat.le_trans hb b, c, d⟩⟩
/-- What 'Term' of a text is to leave. -/
def PRt (r : Parl.Res Parl.Tm) (w : World) (e : Ending) (w' : World) : Prop :=
  ∃ (a : AV) (no : Option Addr) (nl nc : Nat), e = .returned (.agg #[.int .i64 a.k, .int .i64 a.val, .string a.tx, .slice a.ao a.n a.cap, .slice no nl nc, .int .i64 (Parl.erT r : Int)]) ∧
    (match r with
      | .inl _ => True
      | .inr (t, _) => ∃ ns : List ByteArray, RA 8 (nmsA ns) anyA w' a t ∧ nmsA ns = Parl.namesF 8 [] t ∧ w'.ownsRow w.heap.size 9 1 (.slice no nl nc) ns.length (ns.map Value.string)) ∧ Below w.heap.size w w'

set_option maxHeartbeats 1000000 in
theorem rt_long (w : World) (s : ByteArray) (hs : 64 < s.size) :
    Calls Tryd.prog 23 #[.string s] w fun e w' => e = .returned (.agg #[.int .i64 0, .int .i64 0, .string ⟨#[]⟩, .slice none 0 0, .slice none 0 0, .int .i64 1]) ∧ Below w.heap.size w w' := by
  have hsz : decide (64 < (s.size : Int)) = true := by simp; omega
  go_enter Tryd.func23, Tryd.ntmps23
  go_wp2_with fail
  refine bodyPost_ret (v := .agg #[.int .i64 0, .int .i64 0, .string ⟨#[]⟩, .slice none 0 0, .slice none 0 0, .int .i64 1]) (by simp [results, Tryd.results23, go_sem]) rfl ?_
  exact ⟨rfl, (Below.refl _ _).alloc (Nat.le_refl _) _⟩

set_option maxHeartbeats 1000000 in
theorem ends_ok (w : World) (rb : Nat) (s : ByteArray) (l : List Parl.Tok) (ns : List ByteArray) (nv : Value) (e0 : Int) (h : St w rb s l ns nv e0) (hk : (Parl.hd l).kind = 0) :
    Calls Tryd.prog 41 #[.pointer (some ⟨rb, 0, none⟩)] w fun e w' => e = .returned (.bool true) ∧ w' = w := by
  have c1 := h.rd.c1
  have zr := h.lt
  rw [hk] at c1
  clear h hk
  go_enter Tryd.func41, Tryd.ntmps41
  go_wp2_with fail
  go_ret
  exact ⟨rfl, rfl⟩

set_option maxHeartbeats 1000000 in
theorem ends_no (w : World) (rb : Nat) (s : ByteArray) (l : List Parl.Tok) (ns : List ByteArray) (nv : Value) (e0 : Int) (h : St w rb s l ns nv e0) (hk : (Parl.hd l).kind ≠ 0) :
    Calls Tryd.prog 41 #[.pointer (some ⟨rb, 0, none⟩)] w fun e w' => e = .returned (.bool false) ∧ St w' rb s l ns nv 2 ∧ KA rb [rb] w w' := by
  have c1 := h.rd.c1
  have zr := h.lt
  have hq : (((Parl.hd l).kind : Int) != 0) = true := by simp; omega
  have H := hide h
  clear h hk
  generalize ((Parl.hd l).kind : Int) = gk at *
  go_enter Tryd.func41, Tryd.ntmps41
  go_wp2_with fail
  refine (refuse_any _ rb s l ns nv e0 2 (unhide H)).mono ?_
  rintro e w3 ⟨rfl, hs3, hk3⟩
  have HS3 := hide hs3
  have HK3 := hide hk3
  clear hs3 hk3
  go_wp2_with fail
  go_ret
  exact ⟨rfl, unhide HS3, unhide HK3⟩

set_option maxHeartbeats 4000000 in
set_option maxRecDepth 100000 in
theorem rt_any (w : World) (s : ByteArray) (L : List Parl.Tok) (hs : s.size ≤ 64) (hL : Parl.Chain s L) (hh : Parl.hd L = Parl.next s 0) (hl : L.length ≤ 1000) (hsg : Signs w) (h0 : 0 < w.heap.size) :
    Calls Tryd.prog 23 #[.string s] w fun e w' => PRt (Parl.whole L) w e w' := by
  have hsz : decide (64 < (s.size : Int)) = false := by simp; omega
  have HSG := hide hsg
  clear hsg
  go_enter Tryd.func23, Tryd.ntmps23
  go_wp2_with fail
  refine (next_any s 0 _ (by unfold maxLen; omega) (Nat.zero_le _) ((unhide HSG).below ((Below.refl _ _).alloc (Nat.le_refl _) _) h0) (by simp)).mono ?_
  rintro e w1 ⟨rfl, hb1⟩
  have hsg1 := ((unhide HSG).below ((Below.refl _ _).alloc (Nat.le_refl _) (.cells #[.int .i64 0, .int .i64 0, .string ⟨#[]⟩, .slice none 0 0, .slice none 0 0, .int .i64 0] 54)) h0).below hb1 (by simp)
  have hw1 : w.heap.size < w1.heap.size := by have := hb1.size; simp at this; omega
  have HS := hide (st_startT hsg1 (by omega) hL hh hl (by omega))
  have HB0 := hide (blk_alloc ((hb1.block w.heap.size (by simp)).trans (heap_alloc_new w (.cells #[.int .i64 0, .int .i64 0, .string ⟨#[]⟩, .slice none 0 0, .slice none 0 0, .int .i64 0] 54))) (.cells #[.string s, .int .i64 ((Parl.next s 0).kind : Int), .int .i64 ((Parl.next s 0).pos : Int), .string (Parl.next s 0).text, .slice none 0 0, .int .i64 0] 81))
  have HBL := hide ((((Below.refl w.heap.size w).alloc (Nat.le_refl _) (.cells #[.int .i64 0, .int .i64 0, .string ⟨#[]⟩, .slice none 0 0, .slice none 0 0, .int .i64 0] 54)).trans (hb1.mono (by simp))).alloc (by omega) (.cells #[.string s, .int .i64 ((Parl.next s 0).kind : Int), .int .i64 ((Parl.next s 0).pos : Int), .string (Parl.next s 0).text, .slice none 0 0, .int .i64 0] 81))
  clear hb1 hsg1 HSG hL hh hl
  generalize (Parl.next s 0).kind = tk at *
  generalize (Parl.next s 0).pos = tp at *
  generalize (Parl.next s 0).text = tt at *
  have hrz : (w1.alloc (.cells #[.string s, .int .i64 (tk : Int), .int .i64 (tp : Int), .string tt, .slice none 0 0, .int .i64 0] 81)).heap.size = w1.heap.size + 1 := by simp
  have I := hide (term_all 8 _ w1.heap.size s L [] (.slice none 0 0) 0 1 rfl (unhide HS))
  go_wp2_with fail
  refine (unhide I).mono ?_
  generalize hW : w1.alloc (.cells #[.string s, .int .i64 (tk : Int), .int .i64 (tp : Int), .string tt, .slice none 0 0, .int .i64 0] 81) = W at *
  generalize hrb : w1.heap.size = rb at *
  clear I hW hrb
  generalize hr : Parl.term 8 L = r
  have HR := hide hr
  clear hr
  rcases r with ⟨er, pos⟩ | ⟨t, l1⟩
  · rintro e w2 ⟨k, val, tx, ao, n, cap, l', ns', nv', rfl, hs2, -, hk2⟩
    have hz2 := hk2.size
    have b0 := blk_ka hk2 (unhide HB0) (by simp; omega)
    have y0 := blkA b0
    have x0 := blkX b0
    have z0 := blk_lt b0
    have c5 := hs2.rd.c5
    have zr := hs2.lt
    have HBL2 := hide (show Below w.heap.size w w2 from (unhide HBL).trans (hk2.below (by have := (unhide HBL).size; omega) (by omega) (by simp; omega)))
    clear hs2 hk2 b0
    go_wp2_with fail
    refine bodyPost_ret (v := .agg #[.int .i64 0, .int .i64 0, .string ⟨#[]⟩, .slice none 0 0, .slice none 0 0, .int .i64 er]) (by simp [results, Tryd.results23, go_sem, y0, z0]) rfl ?_
    rw [Parl.whole_a (unhide HR)]
    refine ⟨⟨0, 0, ⟨#[]⟩, none, 0, 0⟩, none, 0, 0, rfl, trivial, ?_⟩
    exact (set6_below (unhide HBL2) _ _ _ _ _ _).alloc (by rw [set6_size]; omega) _
  · rintro e w2 ⟨val, tx, ao, cap, ns', nv', e', rfl, hta, hs2, hk2⟩
    have hz2 := hk2.size
    have b0 := blk_ka hk2 (unhide HB0) (by simp; omega)
    have zr := hs2.lt
    have HBL2 := hide (show Below w.heap.size w w2 from (unhide HBL).trans (hk2.below (by have := (unhide HBL).size; omega) (by omega) (by simp; omega)))
    have HTA := hide hta
    have HS2 := hide hs2
    have HB02 := hide b0
    have c1 := hs2.rd.c1
    have c4 := hs2.rd.c4
    obtain ⟨oo, cp, hnv⟩ := own_shapeT hs2.own
    subst hnv
    have HOW := hide hs2.own
    clear hs2 hk2 b0 hta
    by_cases hk : (Parl.hd l1).kind = 0
    · rw [hk] at c1
      have HW := hide (Parl.whole_b (unhide HR) hk)
      have y0 := blkA (unhide HB02)
      have x0 := blkX (unhide HB02)
      have z0 := blk_lt (unhide HB02)
      go_wp2_with fail
      refine (ends_ok _ rb s l1 ns' _ e' ((unhide HS2).below ((Below.refl _ _).alloc (Nat.le_refl _) _)) hk).mono ?_
      rintro e w3 ⟨rfl, rfl⟩
      clear hk
      go_wp2_with fail
      refine bodyPost_ret (v := .agg #[.int .i64 (ak t.kind), .int .i64 val, .string tx, .slice ao t.args.length cap, .slice oo ns'.length cp, .int .i64 0]) (by simp [results, Tryd.results23, go_sem, y0, z0]) rfl ?_
      rw [unhide HW]
      refine ⟨⟨ak t.kind, val, tx, ao, t.args.length, cap⟩, oo, ns'.length, cp, rfl, ⟨ns', ?_, (unhide HTA).nms, ?_⟩, ?_⟩
      · refine (unhide HTA).rep.keep fun g cs hg hc _ => ⟨?_, trivial⟩
        have hl := blk_lt hc
        rw [Below.heap_alloc _ _ _ (by rw [set6_size]; exact hl), set6_block _ _ _ _ _ _ _ (by omega)]
        exact hc
      · have h1 := own_at6 (b := w.heap.size) (unhide HOW) (by omega) (.int .i64 (ak t.kind)) (.int .i64 val) (.string tx) (.slice ao t.args.length cap) (.slice oo ns'.length cp) (.int .i64 0)
        exact own_down6 (h1.alloc _) (by omega)
      · exact (set6_below (unhide HBL2) _ _ _ _ _ _).alloc (by rw [set6_size]; omega) _
    · have HW := hide (Parl.whole_c (unhide HR) hk)
      go_wp2_with fail
      refine (ends_no _ rb s l1 ns' _ e' ((unhide HS2).below ((Below.refl _ _).alloc (Nat.le_refl _) _)) hk).mono ?_
      clear hk
      rintro e w3 ⟨rfl, hs3, hk3⟩
      have b3 := blk_ka hk3 (blk_alloc (unhide HB02) _) (by simp; omega)
      have y0 := blkA b3
      have x0 := blkX b3
      have z0 := blk_lt b3
      have c5 := hs3.rd.c5
      have zr3 := hs3.lt
      have HBL3 := hide (show Below w.heap.size w w3 from ((unhide HBL2).alloc (unhide HBL2).size _).trans (hk3.below (by have := (unhide HBL2).size; simp; omega) (by omega) (by simp; omega)))
      clear hs3 hk3 b3 c1 c4
      go_wp2_with fail
      refine bodyPost_ret (v := .agg #[.int .i64 0, .int .i64 0, .string ⟨#[]⟩, .slice none 0 0, .slice none 0 0, .int .i64 2]) (by simp [results, Tryd.results23, go_sem, y0]) rfl ?_
      rw [unhide HW]
      exact ⟨⟨0, 0, ⟨#[]⟩, none, 0, 0⟩, none, 0, 0, rfl, trivial, set6_below (unhide HBL3) _ _ _ _ _ _⟩
end Go.Proofs.YthfjnfcekeknlaaDoor
namespace Go.Proofs.YthfjnfcekeknlaaDoor
open Go.RowKit

/-- The raw numbers lie there, ahead of the block xb. -/
def RawA (w : World) (xb : Nat) (o : Option Addr) (n : Nat) : Prop := n ≤ maxLen ∧ (n = 0 ∨ ∃ b off, o = some ⟨b, off, none⟩ ∧ b < xb ∧ ∀ i, i < n → ∃ v : Int, w.cell? ⟨b, off + i, none⟩ = some (.int .i64 v) ∧ -9223372036854775808 ≤ v ∧ v ≤ 9223372036854775807)
/-- The source of raw numbers. -/
structure SrcB (w : World) (xb : Nat) (o : Option Addr) (n c k : Nat) : Prop where
  blk : w.heap[xb]? = some (.cells #[.slice o n c, .int .i64 (k : Int)] 26 (0, 0))
  raw : RawA w xb o n
  few : k ≤ n
def SrcA (w : World) (xb : Nat) : Prop := ∃ o n c k, SrcB w xb o n c k
abbrev OnX (xb : Nat) : Nat → Prop := fun k => k = xb
theorem RawA.keep {w w' : World} {xb : Nat} {o : Option Addr} {n : Nat} (h : RawA w xb o n) (hk : ∀ b, b < xb → w'.heap[b]? = w.heap[b]?) : RawA w' xb o n := by
  refine ⟨h.1, h.2.imp id fun ⟨b, off, h1, h2, h3⟩ => ⟨b, off, h1, h2, fun i hi => ?_⟩⟩
  obtain ⟨v, h4, h5⟩ := h3 i hi
  exact ⟨v, (World.cell?_of_block (w := w) (a := ⟨b, off + i, none⟩) (hk b h2)).trans h4, h5⟩
theorem SrcB.below {w w' : World} {xb : Nat} {o : Option Addr} {n c k : Nat} (h : SrcB w xb o n c k) (hb : Below w.heap.size w w') : SrcB w' xb o n c k := by
  have hz := blk_lt h.blk
  exact ⟨(hb.block xb hz).trans h.blk, h.raw.keep fun b q => hb.block b (by omega), h.few⟩
theorem SrcA.below {w w' : World} {xb : Nat} (h : SrcA w xb) (hb : Below w.heap.size w w') : SrcA w' xb := by
  obtain ⟨o, n, c, k, h⟩ := h
  have hz := blk_lt h.blk
  exact ⟨o, n, c, k, (hb.block xb hz).trans h.blk, h.raw.keep fun b q => hb.block b (by omega), h.few⟩
theorem SrcA.lt {w : World} {xb : Nat} (h : SrcA w xb) : xb < w.heap.size := by
  obtain ⟨o, n, c, k, h⟩ := h
  exact blk_lt h.blk

set_option maxHeartbeats 1000000 in
theorem pick_any (w : World) (c : Int) (n : Nat) (hn : 0 < n) (hn' : n ≤ 1000) (h1 : -9223372036854775808 ≤ c) (h2 : c ≤ 9223372036854775807) :
    Calls Tryd.prog 33 #[.int .i64 c, .int .i64 (n : Int)] w fun e w' => (∃ m : Nat, m < n ∧ e = .returned (.int .i64 (m : Int))) ∧ w' = w := by
  by_cases hc : c < 0
  · have t1 : decide (c < 0) = true := by simpa using hc
    go_enter Tryd.func33, Tryd.ntmps33
    go_wp2_with fail
    go_ret
    have q1 := Int.emod_nonneg (-(c + 1)) (b := (n : Int)) (by omega)
    have q2 := Int.emod_lt_of_pos (-(c + 1)) (b := (n : Int)) (by omega)
    refine ⟨⟨((-(c + 1)) % (n : Int)).toNat, by omega, ?_⟩, rfl⟩
    show Ending.returned (.int .i64 (-(c + 1).tmod (n : Int))) = _
    rw [← Int.neg_tmod, Int.tmod_eq_emod_of_nonneg (by omega), Int.toNat_of_nonneg q1]
  · have t1 : decide (c < 0) = false := by simpa using hc
    go_enter Tryd.func33, Tryd.ntmps33
    go_wp2_with fail
    go_ret
    have q1 := Int.emod_nonneg c (b := (n : Int)) (by omega)
    have q2 := Int.emod_lt_of_pos c (b := (n : Int)) (by omega)
    refine ⟨⟨(c % (n : Int)).toNat, by omega, ?_⟩, rfl⟩
    show Ending.returned (.int .i64 (c % (n : Int))) = _
    rw [Int.toNat_of_nonneg q1]
/-- One number more is taken. -/
theorem SrcB.step {w : World} {xb : Nat} {o : Option Addr} {n c k : Nat} (h : SrcB w xb o n c k) (hk : k < n) : SrcB (w.setCell ⟨xb, 1, none⟩ (.int .i64 ((k + 1 : Nat) : Int))) xb o n c (k + 1) ∧ FrG (OnX xb) (OnX xb) w (w.setCell ⟨xb, 1, none⟩ (.int .i64 ((k + 1 : Nat) : Int))) := by
  refine ⟨⟨?_, h.raw.keep fun b q => hset _ _ _ _ (by omega), by omega⟩, rfl, rfl, rfl, by rw [zset]; exact Nat.le_refl _, fun b _ hr => hset _ _ _ _ hr, fun _ q => Or.inl q⟩
  have := blk_set h.blk 1 (.int .i64 ((k + 1 : Nat) : Int))
  simpa using this

set_option maxHeartbeats 1000000 in
theorem nextK_any (w : World) (xb n : Nat) (h : SrcA w xb) (hn : 0 < n) (hn' : n ≤ 1000) :
    Calls Tryd.prog 16 #[.pointer (some ⟨xb, 0, none⟩), .int .i64 (n : Int)] w fun e w' => (∃ m : Nat, m < n ∧ e = .returned (.int .i64 (m : Int))) ∧ SrcA w' xb ∧ FrG (OnX xb) (OnX xb) w w' := by
  have HA := hide h
  obtain ⟨o, l, c, k, h⟩ := h
  have s0 := blkA h.blk 0
  have s1 := blkA h.blk 1
  have sf := blkX h.blk 1
  have sz := blk_lt h.blk
  simp only [List.getElem?_toArray, List.getElem?_cons_zero, List.getElem?_cons_succ] at s0 s1
  by_cases hk : k < l
  · obtain ⟨hl, h0 | ⟨b, off, rfl, hb, hc⟩⟩ := h.raw
    · omega
    · obtain ⟨v, f0, v1, v2⟩ := hc k hk
      unfold maxLen at hl
      have t1 : decide ((l : Int) ≤ (k : Int)) = false := by simp; omega
      have i0 : (0 : Int) ≤ (k : Int) := by omega
      have i1 : (k : Int) < (l : Int) := by omega
      have gz : b < w.heap.size := by omega
      have HS := hide (fun W (hb : Below w.heap.size w W) => (h.below hb).step hk)
      have HP := hide (fun W => pick_any W v n hn hn' v1 v2)
      clear h hc hk v1 v2
      go_enter Tryd.func16, Tryd.ntmps16
      go_wp2_with fail
      go_big_region
      go_wp2_with fail
      go_big_region
      go_wp2_with fail
      refine (unhide HP _).mono ?_
      rintro e w2 ⟨⟨m, hm, rfl⟩, rfl⟩
      have HM := hide hm
      clear hm
      go_wp2_with fail
      go_ret
      exact ⟨⟨m, unhide HM, rfl⟩, ⟨_, _, _, _, (unhide HS _ (Below.refl _ _).drew.drew).1⟩, (FrG.of_below (Below.refl _ _).drew.drew).trans (unhide HS _ (Below.refl _ _).drew.drew).2⟩
  · have t1 : decide (l ≤ k) = true := by simp; omega
    have t2 : l ≤ k := by omega
    clear h hk
    go_enter Tryd.func16, Tryd.ntmps16
    go_wp2_with fail
    go_big_region
    go_wp2_with fail
    go_ret
    exact ⟨⟨0, hn, rfl⟩, (unhide HA).below (Below.refl _ _).drew, FrG.of_below (Below.refl _ _).drew⟩
end Go.Proofs.YthfjnfcekeknlaaDoor
namespace Parl
theorem leafs_tx {m : Nat} (h : m < 10) : gLeaf (leafs[m]'h) ∧ tx (leafs[m]'h) = (leafs[m]'h).text.toList := ⟨leafs_ok _ (List.getElem_mem _), tx_leaf (leafs_ok _ (List.getElem_mem _))⟩
end Parl
namespace Go.Proofs.YthfjnfcekeknlaaDoor
open Go.RowKit

/-- A text that was made: by P. -/
def Made {α : Type} (P : α → Prop) (T : α → List UInt8) (xb : Nat) (w : World) (e : Ending) (w' : World) : Prop :=
  (∃ t, P t ∧ e = .returned (.string ⟨(T t).toArray⟩)) ∧ SrcA w' xb ∧ FrG (OnX xb) (OnX xb) w w'
theorem strs_at {W w2 : World} {b xb : Nat} {cs : Array Value} {T : TypeId} (h : W.heap[b]? = some (.cells cs T (0, 0))) (hb : b ≠ xb) (fr : FrG (OnX xb) (OnX xb) W w2) : ∀ i, w2.cell? ⟨b, i, none⟩ = cs[i]? := fun i => (fr.cell (p := ⟨b, i, none⟩) (blk_lt h) hb).trans (blkA h i)

set_option maxHeartbeats 2000000 in
theorem leaf_any (w : World) (xb : Nat) (h : SrcA w xb) :
    Calls Tryd.prog 22 #[.pointer (some ⟨xb, 0, none⟩)] w fun e w' => Made Parl.gLeaf Parl.tx xb w e w' := by
  have hx := h.lt
  have HB := hide ((Below.refl w.heap.size w).alloc (Nat.le_refl _) (.cells #[.string ⟨#[88]⟩, .string ⟨#[89]⟩, .string ⟨#[90]⟩, .string ⟨#[87]⟩, .string ⟨#[48]⟩, .string ⟨#[49]⟩, .string ⟨#[55]⟩, .string ⟨#[97]⟩, .string ⟨#[98]⟩, .string ⟨#[110]⟩] 9))
  have HN := hide (nextK_any (w.alloc (.cells #[.string ⟨#[88]⟩, .string ⟨#[89]⟩, .string ⟨#[90]⟩, .string ⟨#[87]⟩, .string ⟨#[48]⟩, .string ⟨#[49]⟩, .string ⟨#[55]⟩, .string ⟨#[97]⟩, .string ⟨#[98]⟩, .string ⟨#[110]⟩] 9)) xb 10 (h.below (unhide HB)) (by omega) (by omega))
  clear h
  go_enter Tryd.func22, Tryd.ntmps22
  go_wp2_with fail
  refine (unhide HN).mono ?_
  rintro e w2 ⟨⟨m, hm, rfl⟩, hs, fr⟩
  have f0 : w2.cell? ⟨w.heap.size, m, none⟩ = some (.string (Parl.leafs[m]'hm).text) := by
    rw [strs_at (heap_alloc_new w _) (by omega) fr m]
    rcases (show m = 0 ∨ m = 1 ∨ m = 2 ∨ m = 3 ∨ m = 4 ∨ m = 5 ∨ m = 6 ∨ m = 7 ∨ m = 8 ∨ m = 9 by omega) with rfl | rfl | rfl | rfl | rfl | rfl | rfl | rfl | rfl | rfl <;> rfl
  obtain ⟨q1, q2⟩ := Parl.leafs_tx hm
  have HT := hide (show ∃ t, Parl.gLeaf t ∧ (Parl.leafs[m]'hm).text = ⟨(Parl.tx t).toArray⟩ from ⟨_, q1, by rw [q2, Parl.ba_back]⟩)
  have gz : w.heap.size < w2.heap.size := by have := fr.size; rw [World.size_alloc] at this; omega
  have i0 : (0 : Int) ≤ (m : Int) := by omega
  have i1 : (m : Int) < 10 := by omega
  generalize (Parl.leafs[m]'hm).text = tt at *
  have HS := hide hs
  have HF := hide ((FrG.of_below (unhide HB)).trans fr)
  clear hs fr q1 q2 hm
  go_wp2_with fail
  go_ret
  obtain ⟨t, h1, h2⟩ := unhide HT
  exact ⟨⟨t, h1, by rw [← h2]; rfl⟩, unhide HS, unhide HF⟩
/-- What 'term' makes, so deep at most. -/
def TmSaid (d : Nat) : Prop := ∀ (w : World) (xb : Nat), SrcA w xb → Calls Tryd.prog 11 #[.pointer (some ⟨xb, 0, none⟩), .int .i64 (d : Int)] w fun e w' => Made (Parl.gT d) Parl.tx xb w e w'
theorem gT_leaf {t : Parl.Tm} (h : Parl.gLeaf t) : ∀ d, Parl.gT d t
  | 0 => h
  | _ + 1 => Or.inl h

set_option maxHeartbeats 2000000 in
theorem term_0 : TmSaid 0 := by
  intro w xb h
  have HN := hide (nextK_any w xb 4 h (by omega) (by omega))
  have HL := hide (fun W (q : SrcA W xb) => leaf_any W xb q)
  clear h
  go_enter Tryd.func11, Tryd.ntmps11
  go_wp2_with fail
  refine (unhide HN).mono ?_
  rintro e w2 ⟨⟨m, hm, rfl⟩, hs, fr⟩
  have HS := hide hs
  have HF := hide fr
  clear hs fr hm
  go_wp2_with fail
  refine (unhide HL _ (unhide HS)).mono ?_
  rintro e w3 ⟨⟨t, ht, rfl⟩, hs, fr⟩
  have HT := hide ht
  have HS3 := hide hs
  have HF3 := hide ((unhide HF).trans fr)
  clear ht hs fr
  generalize hta : (⟨(Parl.tx t).toArray⟩ : ByteArray) = tt at *
  have HTT := hide hta
  clear hta
  go_wp2_with fail
  go_ret
  exact ⟨⟨t, unhide HT, by rw [unhide HTT]; rfl⟩, unhide HS3, unhide HF3⟩
theorem f_text {d : Nat} {a : Parl.Tm} (h : Parl.gT d a) (hd : d < 7) : (⟨#[102, 40]⟩ : ByteArray) ++ ⟨(Parl.tx a).toArray⟩ ++ ⟨#[41]⟩ = ⟨(Parl.tx ⟨2, ⟨#[102]⟩, [a]⟩).toArray⟩ := by
  rw [Parl.tx_one _ h hd, show (⟨#[102, 40]⟩ : ByteArray) = ⟨[102, 40].toArray⟩ from rfl, ba_lit 41, ba_app, ba_app, show (⟨#[102]⟩ : ByteArray).toList = [102] by rw [ByteArray.toList_eq]]
  simp
theorem g_text {d : Nat} {a b : Parl.Tm} (h : Parl.gT d a) (hd : d < 7) (h' : Parl.gT d b) : (⟨#[103, 40]⟩ : ByteArray) ++ ⟨(Parl.tx a).toArray⟩ ++ ⟨#[44]⟩ ++ ⟨(Parl.tx b).toArray⟩ ++ ⟨#[41]⟩ = ⟨(Parl.tx ⟨2, ⟨#[103]⟩, [a, b]⟩).toArray⟩ := by
  rw [Parl.tx_two _ h hd h' hd, show (⟨#[103, 40]⟩ : ByteArray) = ⟨[103, 40].toArray⟩ from rfl, ba_lit 41, ba_lit 44, ba_app, ba_app, ba_app, ba_app, show (⟨#[103]⟩ : ByteArray).toList = [103] by rw [ByteArray.toList_eq]]
  simp
theorem tx_size {d : Nat} {t : Parl.Tm} (h : Parl.gT d t) (hd : d ≤ 2) : (⟨(Parl.tx t).toArray⟩ : ByteArray).size ≤ 100 := by
  have h1 := Parl.tx_len h (by omega)
  have h2 : Parl.lenG 1 d ≤ 16 := by
    rcases (show d = 0 ∨ d = 1 ∨ d = 2 by omega) with rfl | rfl | rfl <;> decide
  show (Parl.tx t).toArray.size ≤ 100
  simp
  omega

set_option maxHeartbeats 4000000 in
theorem term_s {d : Nat} (hd : d ≤ 1) (IH : TmSaid d) : TmSaid (d + 1) := by
  intro w xb h
  have HN := hide (nextK_any w xb 4 h (by omega) (by omega))
  have HL := hide (fun W (q : SrcA W xb) => leaf_any W xb q)
  have HI := hide (fun W (q : SrcA W xb) => IH W xb q)
  have t0 : (((d + 1 : Nat) : Int) == 0) = false := by simp; omega
  have t1 : ((d : Int) + 1 == 0) = false := by simp; omega
  have e1 : (d : Int) + 1 - 1 = (d : Int) := by omega
  clear h IH
  go_enter Tryd.func11, Tryd.ntmps11
  go_wp2_with fail
  refine (unhide HN).mono ?_
  rintro e w2 ⟨⟨m, hm, rfl⟩, hs, fr⟩
  have HS := hide hs
  have HF := hide fr
  clear hs fr
  rcases (show m < 2 ∨ m = 2 ∨ m = 3 by omega) with hq | rfl | rfl
  · have t2 : decide ((m : Int) < 2) = true := by simp; omega
    clear hm hq
    go_wp2_with fail
    refine (unhide HL _ (unhide HS)).mono ?_
    rintro e w3 ⟨⟨t, ht, rfl⟩, hs, fr⟩
    have HT := hide ht
    have HS3 := hide hs
    have HF3 := hide ((unhide HF).trans fr)
    clear ht hs fr
    generalize hta : (⟨(Parl.tx t).toArray⟩ : ByteArray) = tt at *
    have HTT := hide hta
    clear hta
    go_wp2_with fail
    go_ret
    exact ⟨⟨t, gT_leaf (unhide HT) _, by rw [unhide HTT]; rfl⟩, unhide HS3, unhide HF3⟩
  · clear hm
    go_wp2_with fail
    try simp only [e1]
    refine (unhide HI _ (unhide HS)).mono ?_
    rintro e w3 ⟨⟨a, ha, rfl⟩, hs, fr⟩
    have HA := hide ha
    have HS3 := hide hs
    have HF3 := hide ((unhide HF).trans fr)
    have za := tx_size ha (by omega)
    have HTX := hide (f_text ha (by omega))
    clear ha hs fr
    generalize (⟨(Parl.tx a).toArray⟩ : ByteArray) = ta at *
    go_wp2_with fail
    go_ret
    exact ⟨⟨⟨2, ⟨#[102]⟩, [a]⟩, Or.inr (Or.inl ⟨rfl, rfl, a, rfl, unhide HA⟩), by rw [← unhide HTX]; rfl⟩, unhide HS3, unhide HF3⟩
  · clear hm
    go_wp2_with fail
    try simp only [e1]
    refine (unhide HI _ (unhide HS)).mono ?_
    rintro e w3 ⟨⟨a, ha, rfl⟩, hs, fr⟩
    have HA := hide ha
    have HS3 := hide hs
    have HF3 := hide ((unhide HF).trans fr)
    have za := tx_size ha (by omega)
    clear ha hs fr
    generalize hta : (⟨(Parl.tx a).toArray⟩ : ByteArray) = ta at *
    have HTA := hide hta
    clear hta
    go_wp2_with fail
    try simp only [e1]
    refine (unhide HI _ (unhide HS3)).mono ?_
    rintro e w4 ⟨⟨b, hb, rfl⟩, hs, fr⟩
    have HB := hide hb
    have HS4 := hide hs
    have HF4 := hide ((unhide HF3).trans fr)
    have zb := tx_size hb (by omega)
    have HTX := hide (g_text (unhide HA) (by omega) hb)
    rw [unhide HTA] at HTX
    clear hb hs fr
    generalize (⟨(Parl.tx b).toArray⟩ : ByteArray) = tb at *
    go_wp2_with fail
    go_ret
    exact ⟨⟨⟨2, ⟨#[103]⟩, [a, b]⟩, Or.inr (Or.inr ⟨rfl, rfl, a, b, rfl, unhide HA, unhide HB⟩), by rw [← unhide HTX]; rfl⟩, unhide HS4, unhide HF4⟩
theorem term_1 : TmSaid 1 := term_s (by omega) term_0
theorem term_2 : TmSaid 2 := term_s (by omega) term_1
end Go.Proofs.YthfjnfcekeknlaaDoor
namespace Go.Proofs.YthfjnfcekeknlaaDoor
open Go.RowKit

theorem flat_at {α : Type} {F : α → List Value} {c : Nat} (hF : ∀ a, (F a).length = c) : ∀ {us : List α} {i : Nat} (h : i < us.length) (j : Nat), j < c → (us.flatMap F)[i * c + j]? = (F us[i])[j]?
  | t :: r, 0, _, j, hj => by rw [List.flatMap_cons, List.getElem?_append_left (by rw [hF]; omega)]; simp
  | t :: r, i + 1, h, j, hj => by
    rw [List.flatMap_cons, List.getElem?_append_right (by rw [hF, Nat.add_mul]; omega), hF]
    rw [show (i + 1) * c + j - c = i * c + j by rw [Nat.add_mul]; omega]
    simpa using flat_at hF (by simpa using h) j hj
/-- A node. -/
structure Nd where
  k : Int
  val : Int
  tx : ByteArray
  cnt : Nat
  ao : Option Addr
  cap : Nat
  args : List Nat
def ndC (p : Nd × Nat) : List Value := [.int .i64 p.1.k, .int .i64 p.1.val, .string p.1.tx, .int .i64 (p.1.cnt : Int), .slice p.1.ao p.1.args.length p.1.cap, .int .i64 (p.2 : Int), .int .i64 0]
def ndsC (D : List Nd) : List Value := D.zipIdx.flatMap ndC
theorem ndC_len : ∀ p, (ndC p).length = 7 := fun _ => rfl
theorem ndsC_at {D : List Nd} {n : Nat} (h : n < D.length) (j : Nat) (hj : j < 7) : (ndsC D)[n * 7 + j]? = (ndC (D[n], n))[j]? := by
  unfold ndsC
  rw [flat_at ndC_len (by simpa using h) j hj]
  simp
theorem ndsC_more (D : List Nd) (d : Nd) : ndsC (D ++ [d]) = ndsC D ++ ndC (d, D.length) := by
  unfold ndsC
  rw [List.zipIdx_append, List.flatMap_append]
  simp
def intV (n : Nat) : Value := .int .i64 (n : Int)
/-- The rows that grow. -/
def rowsA (sb cb : Nat) (no vo : Option Addr) (k : Nat) : Prop := k = sb ∨ k = cb ∨ (∃ p, no = some p ∧ k = p.block) ∨ (∃ p, vo = some p ∧ k = p.block)
/-- The arguments of the nodes lie there. -/
def ArgsN (w : World) (D : List Nd) (R : Nat → Prop) : Prop := ∀ d ∈ D, d.args ≠ [] → ∃ (g : Nat) (cs : Array Value), d.ao = some ⟨g, 0, none⟩ ∧ ¬ R g ∧ w.heap[g]? = some (.cells cs 3 (0, 0)) ∧ cs.toList.take d.args.length = d.args.map intV
/-- The store and the scope lie there. -/
structure SoB (w : World) (sb cb : Nat) (D : List Nd) (V : List Nat) (no : Option Addr) (nc : Nat) (vo : Option Addr) (vc : Nat) : Prop where
  sblk : w.heap[sb]? = some (.cells #[.slice no D.length nc] 59 (0, 0))
  cblk : w.heap[cb]? = some (.cells #[.slice vo V.length vc] 63 (0, 0))
  sown : w.ownsRow (cb + 1) 95 7 (.slice no D.length nc) D.length (ndsC D)
  cown : w.ownsRow (cb + 1) 3 1 (.slice vo V.length vc) V.length (V.map intV)
  lt : sb < cb
  args : ArgsN w D (rowsA sb cb no vo)
def SoA (w : World) (sb cb : Nat) (D : List Nd) (V : List Nat) (R : Nat → Prop) : Prop := ∃ no nc vo vc, SoB w sb cb D V no nc vo vc ∧ R = rowsA sb cb no vo
theorem SoB.below {w w' : World} {sb cb : Nat} {D : List Nd} {V : List Nat} {no : Option Addr} {nc : Nat} {vo : Option Addr} {vc : Nat} (h : SoB w sb cb D V no nc vo vc) (hb : Below w.heap.size w w') : SoB w' sb cb D V no nc vo vc :=
  ⟨(hb.block sb (blk_lt h.sblk)).trans h.sblk, (hb.block cb (blk_lt h.cblk)).trans h.cblk, own_keepG h.sown (fun g q => hb.block g (h.sown.lt g q).2), own_keepG h.cown (fun g q => hb.block g (h.cown.lt g q).2), h.lt, fun d hd q => by
    obtain ⟨g, cs, h1, h2, h3, h4⟩ := h.args d hd q
    exact ⟨g, cs, h1, h2, (hb.block g (blk_lt h3)).trans h3, h4⟩⟩
theorem SoA.below {w w' : World} {sb cb : Nat} {D : List Nd} {V : List Nat} {R : Nat → Prop} (h : SoA w sb cb D V R) (hb : Below w.heap.size w w') : SoA w' sb cb D V R := by
  obtain ⟨no, nc, vo, vc, h, rfl⟩ := h
  exact ⟨no, nc, vo, vc, h.below hb, rfl⟩
theorem SoB.rows {w : World} {sb cb : Nat} {D : List Nd} {V : List Nat} {no : Option Addr} {nc : Nat} {vo : Option Addr} {vc : Nat} (h : SoB w sb cb D V no nc vo vc) : ∀ k, rowsA sb cb no vo k → sb ≤ k ∧ k < w.heap.size := by
  have h1 := blk_lt h.sblk
  have h2 := blk_lt h.cblk
  have h3 := h.lt
  rintro k (rfl | rfl | ⟨p, rfl, rfl⟩ | ⟨p, rfl, rfl⟩)
  · omega
  · omega
  · have := h.sown.lt p.block rfl; omega
  · have := h.cown.lt p.block rfl; omega
/-- The two rows are of two kinds. -/
theorem SoB.apart {w : World} {sb cb : Nat} {D : List Nd} {V : List Nat} {no : Option Addr} {nc : Nat} {vo : Option Addr} {vc : Nat} (h : SoB w sb cb D V no nc vo vc) : ∀ p q, no = some p → vo = some q → p.block ≠ q.block := by
  rintro p q rfl rfl e
  rcases h.sown.2 with ⟨c, _⟩ | ⟨g, cp, cur, c, _, hc, _⟩
  · cases c
  · rcases h.cown.2 with ⟨d, _⟩ | ⟨g', cp', cur', d, _, hd, _⟩
    · cases d
    · simp only [Value.slice.injEq, Option.some.injEq] at c d
      obtain ⟨rfl, _⟩ := c
      obtain ⟨rfl, _⟩ := d
      dsimp only at e
      subst e
      rw [hc] at hd
      simp at hd
/-- A node more. -/
theorem SoB.node {w W w1 : World} {sb cb : Nat} {D : List Nd} {V : List Nat} {no : Option Addr} {nc : Nat} {vo : Option Addr} {vc : Nat} (h : SoB w sb cb D V no nc vo vc) (hW : Below w.heap.size w W) {g cap' : Nat} {d : Nd}
    (hown : w1.ownsRow (cb + 1) 95 7 (.slice (some ⟨g, 0, none⟩) (D.length + 1) cap') (D.length + 1) (ndsC D ++ ndC (d, D.length))) (hg : W.grownBy w1 (Value.slice no D.length nc).ownBlock) (hat : (Value.slice no D.length nc).ownBlock = some g ∨ w.heap.size ≤ g)
    (hd : d.args ≠ [] → ∃ (q : Nat) (cs : Array Value), d.ao = some ⟨q, 0, none⟩ ∧ ¬ rowsA sb cb no vo q ∧ q < w.heap.size ∧ w.heap[q]? = some (.cells cs 3 (0, 0)) ∧ cs.toList.take d.args.length = d.args.map intV) :
    SoB (w1.setCell ⟨sb, 0, none⟩ (.slice (some ⟨g, 0, none⟩) (D.length + 1) cap')) sb cb (D ++ [d]) V (some ⟨g, 0, none⟩) cap' vo vc ∧ FrG (rowsA sb cb no vo) (rowsA sb cb (some ⟨g, 0, none⟩) vo) w (w1.setCell ⟨sb, 0, none⟩ (.slice (some ⟨g, 0, none⟩) (D.length + 1) cap')) := by
  have hz := hW.size
  have hlt := h.lt
  have s0 := blk_lt h.sblk
  have c0 := blk_lt h.cblk
  have keep : ∀ k, k < w.heap.size → k ≠ sb → (∀ p, no = some p → k ≠ p.block) → (w1.setCell ⟨sb, 0, none⟩ (.slice (some ⟨g, 0, none⟩) (D.length + 1) cap')).heap[k]? = w.heap[k]? := fun k h1 h2 h3 => by
    rw [hset _ _ _ _ h2, hg.block k (by omega) (own_free h3), hW.block k h1]
  have nos : ∀ k, k ≤ cb → ∀ p, no = some p → k ≠ p.block := fun k hk p q e => by
    have := h.sown.lt p.block (by rw [q]; rfl)
    omega
  have row : ∀ k, rowsA sb cb (some ⟨g, 0, none⟩) vo k → rowsA sb cb no vo k ∨ w.heap.size ≤ k := by
    rintro k (e | e | ⟨p, q, e⟩ | e)
    · exact Or.inl (Or.inl e)
    · exact Or.inl (Or.inr (Or.inl e))
    · cases q
      dsimp only at e
      rcases hat with a | a
      · left
        right
        right
        left
        cases no with
        | none => simp [Value.ownBlock] at a
        | some s => simp [Value.ownBlock] at a; exact ⟨s, rfl, by omega⟩
      · right; omega
    · exact Or.inl (Or.inr (Or.inr (Or.inr e)))
  have out : ∀ k, k < w.heap.size → ¬ rowsA sb cb no vo k → ¬ rowsA sb cb (some ⟨g, 0, none⟩) vo k := fun k hk hr q => by
    rcases row k q with e | e
    · exact hr e
    · omega
  have keepR : ∀ k, k < w.heap.size → ¬ rowsA sb cb no vo k → (w1.setCell ⟨sb, 0, none⟩ (.slice (some ⟨g, 0, none⟩) (D.length + 1) cap')).heap[k]? = w.heap[k]? := fun k hk hr => keep k hk (fun e => hr (Or.inl e)) (fun p q e => hr (Or.inr (Or.inr (Or.inl ⟨p, q, e⟩))))
  refine ⟨⟨?_, ?_, ?_, ?_, hlt, ?_⟩, ⟨hg.os.trans hW.os, hg.tape.trans hW.tape, hg.output.trans hW.output, by rw [zset]; have := hg.size; omega, keepR, row⟩⟩
  · have q0 : w1.heap[sb]? = some (.cells #[.slice no D.length nc] 59 (0, 0)) := by
      rw [hg.block sb (by omega) (own_free (nos sb (by omega))), hW.block sb s0]
      exact h.sblk
    have := blk_set q0 0 (.slice (some ⟨g, 0, none⟩) (D.length + 1) cap')
    simpa using this
  · exact (keep cb c0 (by omega) (nos cb (Nat.le_refl _))).trans h.cblk
  · have := own_keepG hown (w' := w1.setCell ⟨sb, 0, none⟩ (.slice (some ⟨g, 0, none⟩) (D.length + 1) cap')) (fun k q => hset _ _ _ _ (by have := (hown.lt k q).1; omega))
    rw [ndsC_more]
    simpa using this
  · refine own_keepG h.cown (fun k q => keep k (h.cown.lt k q).2 (by have := (h.cown.lt k q).1; omega) (fun p e r => ?_))
    cases vo with
    | none => simp [Value.ownBlock] at q
    | some s => simp [Value.ownBlock] at q; exact h.apart p s e rfl (by omega)
  · intro d' hd' hne
    rcases List.mem_append.1 hd' with q | q
    · obtain ⟨r, cs, h1, h2, h3, h4⟩ := h.args d' q hne
      exact ⟨r, cs, h1, out r (blk_lt h3) h2, (keepR r (blk_lt h3) h2).trans h3, h4⟩
    · obtain rfl : d' = d := by simpa using q
      obtain ⟨r, cs, h1, h2, h3, h4, h5⟩ := hd hne
      exact ⟨r, cs, h1, out r h3 h2, (keepR r h3 h2).trans h4, h5⟩
/-- A variable more. -/
theorem SoB.vari {w W w1 : World} {sb cb : Nat} {D : List Nd} {V : List Nat} {no : Option Addr} {nc : Nat} {vo : Option Addr} {vc : Nat} (h : SoB w sb cb D V no nc vo vc) (hW : Below w.heap.size w W) {g cap' n : Nat}
    (hown : w1.ownsRow (cb + 1) 3 1 (.slice (some ⟨g, 0, none⟩) (V.length + 1) cap') (V.length + 1) (V.map intV ++ [intV n])) (hg : W.grownBy w1 (Value.slice vo V.length vc).ownBlock) (hat : (Value.slice vo V.length vc).ownBlock = some g ∨ w.heap.size ≤ g) :
    SoB (w1.setCell ⟨cb, 0, none⟩ (.slice (some ⟨g, 0, none⟩) (V.length + 1) cap')) sb cb D (V ++ [n]) no nc (some ⟨g, 0, none⟩) cap' ∧ FrG (rowsA sb cb no vo) (rowsA sb cb no (some ⟨g, 0, none⟩)) w (w1.setCell ⟨cb, 0, none⟩ (.slice (some ⟨g, 0, none⟩) (V.length + 1) cap')) := by
  have hz := hW.size
  have hlt := h.lt
  have s0 := blk_lt h.sblk
  have c0 := blk_lt h.cblk
  have keep : ∀ k, k < w.heap.size → k ≠ cb → (∀ p, vo = some p → k ≠ p.block) → (w1.setCell ⟨cb, 0, none⟩ (.slice (some ⟨g, 0, none⟩) (V.length + 1) cap')).heap[k]? = w.heap[k]? := fun k h1 h2 h3 => by
    rw [hset _ _ _ _ h2, hg.block k (by omega) (own_free h3), hW.block k h1]
  have nos : ∀ k, k ≤ cb → ∀ p, vo = some p → k ≠ p.block := fun k hk p q e => by
    have := h.cown.lt p.block (by rw [q]; rfl)
    omega
  have row : ∀ k, rowsA sb cb no (some ⟨g, 0, none⟩) k → rowsA sb cb no vo k ∨ w.heap.size ≤ k := by
    rintro k (e | e | e | ⟨p, q, e⟩)
    · exact Or.inl (Or.inl e)
    · exact Or.inl (Or.inr (Or.inl e))
    · exact Or.inl (Or.inr (Or.inr (Or.inl e)))
    · cases q
      dsimp only at e
      rcases hat with a | a
      · left
        right
        right
        right
        cases vo with
        | none => simp [Value.ownBlock] at a
        | some s => simp [Value.ownBlock] at a; exact ⟨s, rfl, by omega⟩
      · right; omega
  have out : ∀ k, k < w.heap.size → ¬ rowsA sb cb no vo k → ¬ rowsA sb cb no (some ⟨g, 0, none⟩) k := fun k hk hr q => by
    rcases row k q with e | e
    · exact hr e
    · omega
  have keepR : ∀ k, k < w.heap.size → ¬ rowsA sb cb no vo k → (w1.setCell ⟨cb, 0, none⟩ (.slice (some ⟨g, 0, none⟩) (V.length + 1) cap')).heap[k]? = w.heap[k]? := fun k hk hr => keep k hk (fun e => hr (Or.inr (Or.inl e))) (fun p q e => hr (Or.inr (Or.inr (Or.inr ⟨p, q, e⟩))))
  refine ⟨⟨?_, ?_, ?_, ?_, hlt, ?_⟩, ⟨hg.os.trans hW.os, hg.tape.trans hW.tape, hg.output.trans hW.output, by rw [zset]; have := hg.size; omega, keepR, row⟩⟩
  · exact (keep sb s0 (by omega) (nos sb (by omega))).trans h.sblk
  · have q0 : w1.heap[cb]? = some (.cells #[.slice vo V.length vc] 63 (0, 0)) := by
      rw [hg.block cb (by omega) (own_free (nos cb (Nat.le_refl _))), hW.block cb c0]
      exact h.cblk
    have := blk_set q0 0 (.slice (some ⟨g, 0, none⟩) (V.length + 1) cap')
    simpa using this
  · refine own_keepG h.sown (fun k q => keep k (h.sown.lt k q).2 (by have := (h.sown.lt k q).1; omega) (fun p e r => ?_))
    cases no with
    | none => simp [Value.ownBlock] at q
    | some s => simp [Value.ownBlock] at q; exact h.apart s p rfl e (by omega)
  · have := own_keepG hown (w' := w1.setCell ⟨cb, 0, none⟩ (.slice (some ⟨g, 0, none⟩) (V.length + 1) cap')) (fun k q => hset _ _ _ _ (by have := (hown.lt k q).1; omega))
    simpa using this
  · intro d' hd' hne
    obtain ⟨r, cs, h1, h2, h3, h4⟩ := h.args d' hd' hne
    exact ⟨r, cs, h1, out r (blk_lt h3) h2, (keepR r (blk_lt h3) h2).trans h3, h4⟩
end Go.Proofs.YthfjnfcekeknlaaDoor
