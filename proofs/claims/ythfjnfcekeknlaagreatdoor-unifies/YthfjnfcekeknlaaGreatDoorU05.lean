import Derived.Test.YthfjnfcekeknlaaGreatDoorU04
namespace Go.Proofs.YthfjnfcekeknlaaGreatDoor
open Go.RowKit

set_option maxHeartbeats 1000000 in
theorem take_any (w : World) (rb : Nat) (s : ByteArray) (l : List Parl.Tok) (ns : List ByteArray) (nv : Value) (e0 : Int) (h : St w rb s l ns nv e0) (h0 : (Parl.hd l).kind ≠ 0) :
    Calls Tryz.prog 77 #[.pointer (some ⟨rb, 0, none⟩)] w fun e w' => e = .returned (.tuple #[]) ∧ St w' rb s l.tail ns nv e0 ∧ KA rb [rb] w w' := by
  have HS := hide h
  obtain ⟨⟨c0, c1, c2, c3, c4, c5, f1, f2, f3, f4, f5⟩, own, chain, ⟨p, isn⟩, few, short, signs, pos, lt⟩ := h
  have hfit : (Parl.hd l).pos + (Parl.hd l).text.size ≤ s.size := by rw [isn]; exact Parl.next_fits
  have hmx : s.size ≤ maxLen := by unfold maxLen; omega
  have hz : 0 < w.heap.size := by omega
  have hC := hide chain
  have HG := hide signs
  have hw : IntKind.i64.wrap (((Parl.hd l).pos : Int) + ((Parl.hd l).text.size : Int)) = ((Parl.hd l).pos : Int) + ((Parl.hd l).text.size : Int) := by rw [IntWalk.i64_in _ ⟨by omega, by omega⟩]
  have HP := hide (show ((Parl.hd l).pos : Int) + ((Parl.hd l).text.size : Int) = (((Parl.hd l).pos + (Parl.hd l).text.size : Nat) : Int) by omega)
  clear chain own isn few signs
  go_enter Tryz.func77, Tryz.ntmps77
  go_wp2
  go_region_with (go_at_call 38; rw [unhide HP]; refine (next_any s ((Parl.hd l).pos + (Parl.hd l).text.size) _ hmx hfit ((unhide HG).draws 1) hz).mono ?_; rintro e w1 ⟨rfl, hb⟩; obtain ⟨d0, d1, d2, d3, d4, d5, g1, g2, g3, g4, g5⟩ := (unhide HS).rd.below (Below.trans (Below.refl _ _).drew hb) lt)
  all_goals
    go_wp2
    go_end0
    exact ⟨rfl, take_end (unhide HS) h0 (Below.trans (Below.refl _ _).drew hb)⟩
end Go.Proofs.YthfjnfcekeknlaaGreatDoor
namespace Go.Proofs.YthfjnfcekeknlaaGreatDoor
open Go.RowKit

theorem takeIf_any (w : World) (rb : Nat) (s : ByteArray) (l : List Parl.Tok) (ns : List ByteArray) (nv : Value) (e0 : Int) (f : Bool) (h : St w rb s l ns nv e0) (h0 : f = true → (Parl.hd l).kind ≠ 0) :
    Calls Tryz.prog 79 #[.pointer (some ⟨rb, 0, none⟩), .bool f] w fun e w' => e = .returned (.bool f) ∧ St w' rb s (if f then l.tail else l) ns nv (if f then e0 else 2) ∧ KA rb [rb] w w' := by
  have H := hide h
  clear h
  cases f
  · go_enter Tryz.func79, Tryz.ntmps79
    go_wp2_with (go_at_call 82; refine (refuse_any _ _ _ _ _ _ _ 2 (unhide H)).mono ?_; rintro e w1 ⟨rfl, hs, hk⟩; have HS := hide hs; have HK := hide hk; clear hs hk)
    go_ret
    exact ⟨rfl, unhide HS, unhide HK⟩
  · have h0' := hide (h0 rfl)
    clear h0
    go_enter Tryz.func79, Tryz.ntmps79
    go_wp2_with (go_at_call 77; refine (take_any _ _ _ _ _ _ _ (unhide H) (unhide h0')).mono ?_; rintro e w1 ⟨rfl, hs, hk⟩; have HS := hide hs; have HK := hide hk; clear hs hk)
    go_ret
    exact ⟨rfl, unhide HS, unhide HK⟩

theorem comma_any (w : World) (rb : Nat) (s : ByteArray) (l : List Parl.Tok) (ns : List ByteArray) (nv : Value) (e0 : Int) (c m : Nat) (h : St w rb s l ns nv e0) (h0 : (Parl.hd l).kind ≠ 0) :
    Calls Tryz.prog 81 #[.pointer (some ⟨rb, 0, none⟩), .int .i64 (c : Int), .int .i64 (m : Int)] w fun e w' => e = .returned (.bool (decide (c < m))) ∧ St w' rb s (if c < m then l.tail else l) ns nv (if c < m then e0 else 3) ∧ KA rb [rb] w w' := by
  have H := hide h
  have h0' := hide h0
  clear h h0
  by_cases hc : c < m
  · rw [if_pos hc, if_pos hc]
    go_enter Tryz.func81, Tryz.ntmps81
    go_wp2_with (go_at_call 77; refine (take_any _ _ _ _ _ _ _ (unhide H) (unhide h0')).mono ?_; rintro e w1 ⟨rfl, hs, hk⟩; have HS := hide hs; have HK := hide hk; clear hs hk)
    go_ret
    exact ⟨ret_bool (by simp [hc]), unhide HS, unhide HK⟩
  · rw [if_neg hc, if_neg hc]
    go_enter Tryz.func81, Tryz.ntmps81
    go_wp2_with (go_at_call 82; refine (refuse_any _ _ _ _ _ _ _ 3 (unhide H)).mono ?_; rintro e w1 ⟨rfl, hs, hk⟩; have HS := hide hs; have HK := hide hk; clear hs hk)
    go_ret
    exact ⟨ret_bool (by simp; omega), unhide HS, unhide HK⟩

end Go.Proofs.YthfjnfcekeknlaaGreatDoor
namespace Go.Proofs.YthfjnfcekeknlaaGreatDoor
open Go.RowKit

/-- What mayBegin says: 0 it may; else the error. -/
def mayB (d : Nat) (t : Parl.Tok) : Nat := if Parl.begins t = true then (if t.kind = 4 ∧ 6 < t.text.size ∨ 8 < d then 3 else 0) else 2

theorem mayB_two {d : Nat} {t : Parl.Tok} (h : ¬ (t.kind = 2 ∨ t.kind = 3 ∨ t.kind = 4)) : mayB d t = 2 := by
  unfold mayB Parl.begins; rw [if_neg]; simp; omega
theorem mayB_three {d : Nat} {t : Parl.Tok} (h : t.kind = 2 ∨ t.kind = 3 ∨ t.kind = 4) (b : t.kind = 4 ∧ 6 < t.text.size ∨ 8 < d) : mayB d t = 3 := by
  unfold mayB Parl.begins; rw [if_pos, if_pos b]; simp; omega
theorem mayB_none {d : Nat} {t : Parl.Tok} (h : t.kind = 2 ∨ t.kind = 3 ∨ t.kind = 4) (b : ¬ (t.kind = 4 ∧ 6 < t.text.size ∨ 8 < d)) : mayB d t = 0 := by
  unfold mayB Parl.begins; rw [if_pos, if_neg b]; simp; omega

set_option maxHeartbeats 1000000 in
/-- It may not begin here. -/
theorem may_no (w : World) (rb : Nat) (s : ByteArray) (l : List Parl.Tok) (ns : List ByteArray) (nv : Value) (e0 : Int) (d k z : Nat) (h : St w rb s l ns nv e0) (hkk : (Parl.hd l).kind = k) (hzz : (Parl.hd l).text.size = z) (hz : z ≤ 240) (m : Nat)
    (hm : (m = 2 ∧ ¬ (k = 2 ∨ k = 3 ∨ k = 4)) ∨ (m = 3 ∧ (k = 2 ∨ k = 3 ∨ k = 4) ∧ (k = 4 ∧ 6 < z ∨ 8 < d))) :
    Calls Tryz.prog 129 #[.pointer (some ⟨rb, 0, none⟩), .int .i64 (d : Int)] w fun e w' => e = .returned (.bool false) ∧ St w' rb s l ns nv (m : Int) ∧ KA rb [rb] w w' := by
  have H := hide h
  obtain ⟨⟨c0, c1, c2, c3, c4, c5, f1, f2, f3, f4, f5⟩, own, chain, isn, few, short, signs, pos, lt⟩ := h
  clear own chain isn few short signs pos lt c0 c2 c4 c5 f1 f2 f3 f4 f5
  rw [hkk] at c1
  generalize (Parl.hd l).text = tx at c3 hzz
  clear hkk
  subst hzz
  rcases hm with ⟨rfl, hn⟩ | ⟨rfl, hk, hb⟩
  · have n2 : ((k : Int) != 2) = true := by simp; omega
    have n3 : ((k : Int) != 3) = true := by simp; omega
    have n4 : ((k : Int) != 4) = true := by simp; omega
    clear hn
    go_enter Tryz.func129, Tryz.ntmps129
    go_wp2_with (go_at_call 82; refine (refuse_any _ _ _ _ _ _ _ 2 (unhide H)).mono ?_; rintro e w1 ⟨rfl, hs, hk⟩; have HS := hide hs; have HK := hide hk; clear hs hk)
    go_ret
    exact ⟨rfl, unhide HS, unhide HK⟩
  · rcases hk with rfl | rfl | rfl
    · have hd8 : 8 < d := by omega
      clear hb
      go_enter Tryz.func129, Tryz.ntmps129
      go_wp2_with (go_at_call 82; refine (refuse_any _ _ _ _ _ _ _ 3 (unhide H)).mono ?_; rintro e w1 ⟨rfl, hs, hk⟩; have HS := hide hs; have HK := hide hk; clear hs hk)
      go_ret
      exact ⟨rfl, unhide HS, unhide HK⟩
    · have hd8 : 8 < d := by omega
      clear hb
      go_enter Tryz.func129, Tryz.ntmps129
      go_wp2_with (go_at_call 82; refine (refuse_any _ _ _ _ _ _ _ 3 (unhide H)).mono ?_; rintro e w1 ⟨rfl, hs, hk⟩; have HS := hide hs; have HK := hide hk; clear hs hk)
      go_ret
      exact ⟨rfl, unhide HS, unhide HK⟩
    · by_cases h6 : 6 < tx.size
      · clear hb
        go_enter Tryz.func129, Tryz.ntmps129
        go_wp2_with (go_at_call 82; refine (refuse_any _ _ _ _ _ _ _ 3 (unhide H)).mono ?_; rintro e w1 ⟨rfl, hs, hk⟩; have HS := hide hs; have HK := hide hk; clear hs hk)
        go_ret
        exact ⟨rfl, unhide HS, unhide HK⟩
      · have hd8 : 8 < d := by omega
        clear hb
        go_enter Tryz.func129, Tryz.ntmps129
        go_wp2_with (go_at_call 82; refine (refuse_any _ _ _ _ _ _ _ 3 (unhide H)).mono ?_; rintro e w1 ⟨rfl, hs, hk⟩; have HS := hide hs; have HK := hide hk; clear hs hk)
        go_ret
        exact ⟨rfl, unhide HS, unhide HK⟩

set_option maxHeartbeats 1000000 in
/-- It may. -/
theorem may_yes (w : World) (rb : Nat) (s : ByteArray) (l : List Parl.Tok) (ns : List ByteArray) (nv : Value) (e0 : Int) (d k z : Nat) (h : St w rb s l ns nv e0) (hkk : (Parl.hd l).kind = k) (hzz : (Parl.hd l).text.size = z) (hz : z ≤ 240)
    (hk : k = 2 ∨ k = 3 ∨ k = 4) (hn : ¬ (k = 4 ∧ 6 < z ∨ 8 < d)) :
    Calls Tryz.prog 129 #[.pointer (some ⟨rb, 0, none⟩), .int .i64 (d : Int)] w fun e w' => e = .returned (.bool true) ∧ w' = w := by
  obtain ⟨⟨c0, c1, c2, c3, c4, c5, f1, f2, f3, f4, f5⟩, own, chain, isn, few, short, signs, pos, lt⟩ := h
  clear own chain isn few short signs pos lt c0 c2 c4 c5 f1 f2 f3 f4 f5
  rw [hkk] at c1
  generalize (Parl.hd l).text = tx at c3 hzz
  clear hkk
  subst hzz
  have hd8 : d ≤ 8 := by omega
  rcases hk with rfl | rfl | rfl
  · clear hn
    go_enter Tryz.func129, Tryz.ntmps129
    go_wp2_with fail
    go_ret
    exact ⟨rfl, rfl⟩
  · clear hn
    go_enter Tryz.func129, Tryz.ntmps129
    go_wp2_with fail
    go_ret
    exact ⟨rfl, rfl⟩
  · have h6 : tx.size ≤ 6 := by omega
    clear hn
    go_enter Tryz.func129, Tryz.ntmps129
    go_wp2_with fail
    go_ret
    exact ⟨rfl, rfl⟩

theorem mayBegin_any (w : World) (rb : Nat) (s : ByteArray) (l : List Parl.Tok) (ns : List ByteArray) (nv : Value) (e0 : Int) (d : Nat) (h : St w rb s l ns nv e0) :
    Calls Tryz.prog 129 #[.pointer (some ⟨rb, 0, none⟩), .int .i64 (d : Int)] w fun e w' => e = .returned (.bool (mayB d (Parl.hd l) == 0)) ∧ St w' rb s l ns nv (if mayB d (Parl.hd l) = 0 then e0 else (mayB d (Parl.hd l) : Int)) ∧ KA rb [rb] w w' := by
  have hz : (Parl.hd l).text.size ≤ 240 := by obtain ⟨p, e⟩ := h.isNext; have h1 := h.short; have h2 := @Parl.next_fits s p; rw [e]; omega
  by_cases hk : (Parl.hd l).kind = 2 ∨ (Parl.hd l).kind = 3 ∨ (Parl.hd l).kind = 4
  · by_cases hb : (Parl.hd l).kind = 4 ∧ 6 < (Parl.hd l).text.size ∨ 8 < d
    · rw [mayB_three hk hb]
      exact may_no w rb s l ns nv e0 d _ _ h rfl rfl hz 3 (Or.inr ⟨rfl, hk, hb⟩)
    · rw [mayB_none hk hb]
      refine (may_yes w rb s l ns nv e0 d _ _ h rfl rfl hz hk hb).mono ?_
      rintro e w' ⟨rfl, rfl⟩
      exact ⟨rfl, h, KA.refl _ _ _⟩
  · rw [mayB_two hk]
    exact may_no w rb s l ns nv e0 d _ _ h rfl rfl hz 2 (Or.inl ⟨rfl, hk⟩)
end Go.Proofs.YthfjnfcekeknlaaGreatDoor
namespace Go.Proofs.YthfjnfcekeknlaaGreatDoor
open Go.RowKit

/-- The names as lists. -/
def nmsA (ns : List ByteArray) : List (List UInt8) := ns.map fun b => b.toList
theorem nmA_idx {ns : List ByteArray} {k : Nat} {x : List UInt8} (h : k < ns.length) (he : ns[k].toList = x) (hno : ∀ j (hj : j < ns.length), j < k → ns[j].toList ≠ x) : (nmsA ns).idxOf x = k := by
  unfold nmsA
  induction ns generalizing k with
  | nil => simp at h
  | cons u us ih =>
    rw [List.map_cons]
    cases k with
    | zero => rw [List.idxOf_cons]; simp at he; simp [he]
    | succ k =>
      have h0 : u.toList ≠ x := hno 0 (by simp) (by omega)
      rw [List.idxOf_cons]
      simp only [beq_iff_eq, h0, cond_eq_ite, if_false]
      have := ih (k := k) (by simpa using h) (by simpa using he) (fun j hj q => by have := hno (j + 1) (by simpa using hj) (by omega); simpa using this)
      rw [this]
theorem nmA_in {ns : List ByteArray} {k : Nat} {x : List UInt8} (h : k < ns.length) (he : ns[k].toList = x) : Parl.addN (nmsA ns) x = nmsA ns := by
  unfold Parl.addN
  rw [if_pos]
  subst he
  exact List.mem_map.2 ⟨ns[k], by simp, rfl⟩
theorem nmA_out {ns : List ByteArray} {x : List UInt8} (hno : ∀ j (hj : j < ns.length), ns[j].toList ≠ x) : x ∉ nmsA ns := by
  intro q
  obtain ⟨u, hu, rfl⟩ := List.mem_map.1 q
  obtain ⟨i, hi, rfl⟩ := List.getElem_of_mem hu
  exact hno i hi rfl
theorem nmA_new {ns : List ByteArray} {g : ByteArray} (h : g.toList ∉ nmsA ns) : nmsA (ns ++ [g]) = Parl.addN (nmsA ns) g.toList ∧ (nmsA ns).idxOf g.toList = ns.length := by
  unfold Parl.addN
  rw [if_neg h, List.idxOf_eq_length h]
  simp [nmsA]
/-- A term's four cells, as the program lays them. -/
structure AV where
  k : Int
  val : Int
  tx : ByteArray
  ao : Option Addr
  n : Nat
  cap : Nat
def avC (a : AV) : List Value := [.int .i64 a.k, .int .i64 a.val, .string a.tx, .slice a.ao a.n a.cap]
/-- The kinds of terms, as the program numbers them. -/
def ak (k : Nat) : Int := if k = 3 then 1 else if k = 4 then 2 else 3
/-- What a term's own cells say; N: the variables met so far. -/
def LeafA (N : List (List UInt8)) (a : AV) (t : Parl.Tm) : Prop := a.k = ak t.kind ∧ a.n = t.args.length ∧ (t.kind = 3 → t.text.toList ∈ N ∧ a.val = (N.idxOf t.text.toList : Int)) ∧ (t.kind = 4 → a.val = (Parl.numOf t.text : Int) ∧ t.text.size ≤ 6 ∧ a.tx = ⟨#[]⟩) ∧ (t.kind = 2 → a.tx = t.text) ∧ (t.kind = 2 ∨ t.kind = 3 ∨ t.kind = 4) ∧ t.text.size ≤ 240 ∧ t.args.length ≤ 3
def RA : Nat → List (List UInt8) → (Nat → Prop) → World → AV → Parl.Tm → Prop
  | 0, _, _, _, _, _ => False
  | f + 1, N, P, w, a, t => LeafA N a t ∧ (t.args ≠ [] → ∃ (g : Nat) (us : List AV) (cs : Array Value), a.ao = some ⟨g, 0, none⟩ ∧ P g ∧ w.heap[g]? = some (.cells cs 76 (0, 0)) ∧ cs.toList.take (us.length * 4) = us.flatMap avC ∧ All2 (RA f N P w) us t.args)
theorem RA.keep {N : List (List UInt8)} {P Q : Nat → Prop} {w w' : World} (hk : ∀ (g : Nat) (cs : Array Value), P g → w.heap[g]? = some (.cells cs 76 (0, 0)) → (∃ k r, cs.toList = .int .i64 k :: r) → w'.heap[g]? = some (.cells cs 76 (0, 0)) ∧ Q g) : ∀ {f : Nat} {a : AV} {t : Parl.Tm}, RA f N P w a t → RA f N Q w' a t
  | f + 1, _, _, ⟨h, q⟩ => ⟨h, fun n => by
    obtain ⟨g, us, cs, h1, h2, h3, h4, h5⟩ := q n
    have hi : ∃ k r, cs.toList = .int .i64 k :: r := by
      cases us with
      | nil => have := h5.length; simp at this; exact absurd (List.length_eq_zero_iff.1 this.symm) n
      | cons u us =>
        cases hc : cs.toList with
        | nil => rw [hc] at h4; simp [avC] at h4
        | cons c r =>
          rw [hc] at h4
          simp only [List.length_cons, Nat.add_mul, Nat.one_mul, List.flatMap_cons, avC, List.cons_append, List.take_succ_cons] at h4
          injection h4 with h4 _
          exact ⟨_, r, by rw [h4]⟩
    obtain ⟨r1, r2⟩ := hk g cs h2 h3 hi
    exact ⟨g, us, cs, h1, r2, r1, h4, h5.imp fun _ _ => RA.keep hk⟩⟩
theorem RA.imp {N : List (List UInt8)} {P Q : Nat → Prop} {w : World} {f : Nat} {a : AV} {t : Parl.Tm} (h : RA f N P w a t) (hk : ∀ g, P g → g < w.heap.size → Q g) : RA f N Q w a t :=
  h.keep fun g _ hp hg _ => ⟨hg, hk g hp (Array.getElem?_eq_some_iff.1 hg).1⟩
theorem RA.set {N : List (List UInt8)} {P : Nat → Prop} {w : World} {f : Nat} {a : AV} {t : Parl.Tm} (h : RA f N P w a t) {b : Nat} (hP : ∀ g, P g → g ≠ b) (o : Nat) (v : Value) : RA f N P (w.setCell ⟨b, o, none⟩ v) a t :=
  h.keep fun g _ hp hg _ => ⟨(Below.heap_setCell _ _ _ _ (fun e => hP g hp e)).trans hg, hp⟩
theorem LeafA.more {N : List (List UInt8)} {a : AV} {t : Parl.Tm} (h : LeafA N a t) (M : List (List UInt8)) : LeafA (N ++ M) a t :=
  ⟨h.1, h.2.1, fun k => ⟨List.mem_append_left _ (h.2.2.1 k).1, by rw [(h.2.2.1 k).2, List.idxOf_append, if_pos (h.2.2.1 k).1]⟩, h.2.2.2⟩
theorem RA.more {P : Nat → Prop} {w : World} {N : List (List UInt8)} (M : List (List UInt8)) : ∀ {f : Nat} {a : AV} {t : Parl.Tm}, RA f N P w a t → RA f (N ++ M) P w a t
  | f + 1, _, _, ⟨h, q⟩ => ⟨h.more M, fun n => by
    obtain ⟨g, us, cs, h1, h2, h3, h4, h5⟩ := q n
    exact ⟨g, us, cs, h1, h2, h3, h4, h5.imp fun _ _ => RA.more M⟩⟩
theorem RA.ok3 {P : Nat → Prop} {w : World} {N : List (List UInt8)} : ∀ {f : Nat} {a : AV} {t : Parl.Tm}, RA f N P w a t → Parl.ok3 f t
  | f + 1, a, t, ⟨h, q⟩ => by
    obtain ⟨h1, h2, h3, h4, h5, h6, h7, h8⟩ := h
    refine ⟨h7, h8, fun k => (h4 k).2.1, ?_⟩
    intro u hu
    obtain ⟨g, us, cs, _, _, _, _, ha⟩ := q (fun e => by rw [e] at hu; cases hu)
    have : ∀ (us : List AV) (ts : List Parl.Tm), All2 (RA f N P w) us ts → ∀ u ∈ ts, Parl.ok3 f u := by
      intro us
      induction us with
      | nil => intro ts ha u hu; cases ts with
        | nil => cases hu
        | cons t ts => exact ha.elim
      | cons v us ih => intro ts ha u hu; cases ts with
        | nil => cases hu
        | cons t ts =>
          rcases List.mem_cons.1 hu with rfl | hu
          · exact RA.ok3 ha.1
          · exact ih ts ha.2 u hu
    exact this us t.args ha u hu
/-- What 'term' says of its answer: rows new since w. -/
structure TA (f : Nat) (ns ns' : List ByteArray) (w w' : World) (val : Int) (tx : ByteArray) (ao : Option Addr) (cap : Nat) (t : Parl.Tm) : Prop where
  rep : RA f (nmsA ns') (fun g => w.heap.size ≤ g) w' ⟨ak t.kind, val, tx, ao, t.args.length, cap⟩ t
  nms : nmsA ns' = Parl.namesF f (nmsA ns) t
theorem RA.leaf {f : Nat} {N : List (List UInt8)} {P : Nat → Prop} {w : World} {a : AV} {t : Parl.Tm} (h : RA f N P w a t) : LeafA N a t := by
  cases f with
  | zero => exact h.elim
  | succ f => exact h.1
theorem RA.one {f : Nat} {N : List (List UInt8)} {P : Nat → Prop} {w : World} {a : AV} {t : Parl.Tm} (h : LeafA N a t) (h0 : t.args = []) : RA (f + 1) N P w a t := ⟨h, fun q => absurd h0 q⟩
/-- What 'arguments' says of its answer. -/
structure AA (f : Nat) (ns ns' : List ByteArray) (w w' : World) (ao : Option Addr) (ts : List Parl.Tm) : Prop where
  rows : ts ≠ [] → ∃ (g : Nat) (us : List AV) (cs : Array Value), ao = some ⟨g, 0, none⟩ ∧ w.heap.size ≤ g ∧ w'.heap[g]? = some (.cells cs 76 (0, 0)) ∧ cs.toList.take (us.length * 4) = us.flatMap avC ∧ All2 (RA f (nmsA ns') (fun g => w.heap.size ≤ g) w') us ts
  nms : nmsA ns' = ts.foldl (Parl.namesF f) (nmsA ns)
  few : ts.length ≤ 3
/-- Rows of the program's terms stay. -/
def KeepA (w w' : World) : Prop := ∀ (g : Nat) (cs : Array Value), w.heap[g]? = some (.cells cs 76 (0, 0)) → (∃ k r, cs.toList = .int .i64 k :: r) → w'.heap[g]? = some (.cells cs 76 (0, 0))
theorem KeepA.trans {u v w : World} (h : KeepA u v) (k : KeepA v w) : KeepA u w := fun g cs a b => k g cs (h g cs a b) b
theorem KeepA.below {w w' : World} (h : Below w.heap.size w w') : KeepA w w' := fun g _ a _ => (h.block g (Array.getElem?_eq_some_iff.1 a).1).trans a
theorem KeepA.ka {w w' : World} {rb : Nat} {s : ByteArray} {l : List Parl.Tok} {ns : List ByteArray} {nv : Value} {e : Int} (hs : St w rb s l ns nv e) (hk : KA rb [rb] w w') : KeepA w w' := fun g cs hg hi => (hk.block g (Array.getElem?_eq_some_iff.1 hg).1 (fun q => by
    obtain rfl : g = rb := by simpa using q
    obtain ⟨k, r, hc⟩ := hi
    have := hs.rd.c0
    simp [World.cell?, hg] at this
    rw [← Array.getElem?_toList, hc] at this
    simp at this) (Or.inr (by unfold tyAt; rw [hg]; simp))).trans hg
theorem KeepA.grown {w w' : World} {b0 : Nat} {T : TypeId} {sz : Nat} {av : Value} {n : Nat} {xs : List Value} (ho : w.ownsRow b0 T sz av n xs) (hg : w.grownBy w' av.ownBlock) (hT : T ≠ 76 := by decide) : KeepA w w' := fun g cs hc _ => (hg.block g (Array.getElem?_eq_some_iff.1 hc).1 (fun q => by
    rcases ho.2 with ⟨rfl, _⟩ | ⟨g', cap, cur, rfl, _, c, _⟩
    · simp [Value.ownBlock] at q
    · simp [Value.ownBlock] at q
      subst q
      rw [c] at hc; simp at hc; exact hT hc.2)).trans hc
end Go.Proofs.YthfjnfcekeknlaaGreatDoor
namespace Go.Proofs.YthfjnfcekeknlaaGreatDoor
open Go.RowKit

theorem Tryz.info9 : (Tryz.prog.info? 9).map (fun i => (i.zero, i.size, i.bytes)) = some (some (.string ⟨#[]⟩), 1, 16) := by kernel_rfl

set_option maxHeartbeats 1000000 in
theorem valueOf_any (g : ByteArray) (w : World) (hg : g.size ≤ 6) : Calls Tryz.prog 131 #[.string g] w fun e w' => e = .returned (.int .i64 (Parl.numOf g : Int)) ∧ w' = w := by
  go_enter Tryz.func131, Tryz.ntmps131
  go_wp2
  go_loop [3, 4] (fun v i => ∃ (k : Nat), k ≤ g.size ∧ i = .int .i64 k ∧ v = .int .i64 (Parl.numL (g.toList.take k) : Int)) (fun _ i => g.size - (intOf i).toNat)
  case atStart => exact ⟨0, by omega, rfl, rfl⟩
  case round =>
    obtain ⟨k, hk, rfl, rfl⟩ := hrel
    by_cases hlt : k < g.size
    · go_wp2
      go_round
      case rel =>
        refine ⟨k + 1, by omega, by go_num, ?_⟩
        rw [num_next hlt]
        have hb := Parl.numL_le (g.toList.take k) (by simp; omega)
        generalize Parl.numL (g.toList.take k) = v at *
        have hc : g[k].toNat < 256 := g[k].toNat_lt
        generalize g[k].toNat = c at *
        congr 1
        unfold wrap64
        omega
      case measure => simp [intOf]; omega
    · go_wp2
      go_ret
      obtain rfl : k = g.size := by omega
      exact ⟨by rw [num_all]; rfl, rfl⟩

/-- The names' cell behind the append. -/
theorem names_cell {w w1 : World} {rb : Nat} {s : ByteArray} {l : List Parl.Tok} {ns : List ByteArray} {nv : Value} {e0 : Int} {o : Obj} (h : St w rb s l ns nv e0) (hg : (w.alloc o).grownBy w1 nv.ownBlock) :
    w1.cell? ⟨rb, 4, none⟩ = some nv ∧ w1.frozen? ⟨rb, 4, none⟩ = false := by
  have hne : some rb ≠ nv.ownBlock := fun e => by have := (h.own.lt rb e.symm).1; omega
  have hb := hg.block rb (by simp; have := h.lt; omega) hne
  exact ⟨by rw [World.cell?_of_block (a := ⟨rb, 4, none⟩) hb, World.cell?_alloc_past _ _ _ h.lt]; exact h.rd.c4, by rw [World.frozen?_of_block (a := ⟨rb, 4, none⟩) hb, World.frozen?_alloc_past _ _ _ h.lt]; exact h.rd.f4⟩
/-- A row that owns something is no nil. -/
theorem own_some {w : World} {b : Nat} {e : TypeId} {sz : Nat} {v : Value} {n : Nat} {xs : List Value} (h : w.ownsRow b e sz v (n + 1) xs) : ∃ g cap, v = .slice (some ⟨g, 0, none⟩) (n + 1) cap ∧ cap ≤ maxLen := by
  rcases h.2 with ⟨_, q⟩ | ⟨g, cap, cur, q, _, _, _, m, _⟩
  · omega
  · exact ⟨g, cap, q, m⟩
/-- What stands behind a store of the names. -/
theorem names_end {w w1 : World} {rb : Nat} {s : ByteArray} {l : List Parl.Tok} {ns : List ByteArray} {nv nv' : Value} {e0 : Int} {g : ByteArray} {o : Obj} (h : St w rb s l ns nv e0) (few : ns.length + l.length < 1000)
    (hown : w1.ownsRow (rb + 1) 9 1 nv' (ns.length + 1) (ns.map Value.string ++ [.string g])) (hg : (w.alloc o).grownBy w1 nv.ownBlock) :
    St (w1.setCell ⟨rb, 4, none⟩ nv') rb s l (ns ++ [g]) nv' e0 ∧ KA rb [rb] w (w1.setCell ⟨rb, 4, none⟩ nv') := by
  have hka : KA rb [rb] w w1 := ((KA.refl rb [rb] w).alloc o).grown hg (fun k hk => by
    have h1 := h.own.lt k hk
    rcases h.own.2 with ⟨rfl, _⟩ | ⟨q, cap, cur, rfl, hb, hq, _⟩
    · simp [Value.ownBlock] at hk
    · simp [Value.ownBlock] at hk
      subst hk
      refine Or.inr (Or.inr ⟨by omega, ?_⟩)
      unfold tyAt
      rw [Below.heap_alloc _ _ _ h1.2, hq])
  have hne : some rb ≠ nv.ownBlock := fun e => by have := (h.own.lt rb e.symm).1; omega
  have cell : ∀ i v, w.cell? ⟨rb, i, none⟩ = some v → w1.cell? ⟨rb, i, none⟩ = some v := fun i v q => by
    rw [World.cell?_of_block (a := ⟨rb, i, none⟩) (hg.block rb (by simp; have := h.lt; omega) hne), World.cell?_alloc_past _ _ _ h.lt]; exact q
  have fro : ∀ i, w.frozen? ⟨rb, i, none⟩ = false → w1.frozen? ⟨rb, i, none⟩ = false := fun i q => by
    rw [World.frozen?_of_block (a := ⟨rb, i, none⟩) (hg.block rb (by simp; have := h.lt; omega) hne), World.frozen?_alloc_past _ _ _ h.lt]; exact q
  have z : rb ≠ 0 := by have := h.pos; omega
  have sg : Signs w1 := h.signs.ka hka (by have := h.lt; omega) (by simp; omega) h.pos
  obtain ⟨⟨c0, c1, c2, c3, c4, c5, f1, f2, f3, f4, f5⟩, own, chain, isn, few1, short, signs, pos, lt⟩ := h
  have d0 := cell _ _ c0
  have d1 := cell _ _ c1
  have d2 := cell _ _ c2
  have d3 := cell _ _ c3
  have d4 := cell _ _ c4
  have d5 := cell _ _ c5
  have g1 := fro _ f1
  have g2 := fro _ f2
  have g3 := fro _ f3
  have g4 := fro _ f4
  have g5 := fro _ f5
  refine ⟨⟨⟨by go_cell, by go_cell, by go_cell, by go_cell, by go_cell, by go_cell, by go_cell, by go_cell, by go_cell, by go_cell, by go_cell⟩, ?_, chain, isn, by simp; omega, short, sg.setCell (by exact z) _, pos, by have := hka.size; simp; omega⟩, hka.setIn (by simp) _⟩
  have := own_setCell hown 4 nv'
  simpa using this

/-- What 'variable' leaves. -/
def PVar (rb : Nat) (s : ByteArray) (l : List Parl.Tok) (ns : List ByteArray) (g : ByteArray) (e0 : Int) (w : World) (e : Ending) (w' : World) : Prop := ∃ (ns' : List ByteArray) (nv' : Value), e = .returned (.int .i64 ((nmsA ns).idxOf g.toList : Int)) ∧ nmsA ns' = Parl.addN (nmsA ns) g.toList ∧ St w' rb s l ns' nv' e0 ∧ KA rb [rb] w w'

set_option maxHeartbeats 1000000 in
theorem variable_any (w : World) (rb : Nat) (s : ByteArray) (l : List Parl.Tok) (ns : List ByteArray) (nv : Value) (e0 : Int) (g : ByteArray) (h : St w rb s l ns nv e0) (few : ns.length + l.length < 1000) :
    Calls Tryz.prog 130 #[.pointer (some ⟨rb, 0, none⟩), .string g] w fun e w' => PVar rb s l ns g e0 w e w' := by
  have H := hide h
  obtain ⟨i0, hi, hz0, hz1, hz2⟩ := info_parts Tryz.info9
  have hnl : ns.length ≤ 1000 := by have := h.few; omega
  rcases h.own.2 with ⟨hnv, hn0⟩ | ⟨q, cap, cur, hnv, hb, hq, hcap, hmx, _⟩
  · subst hnv
    obtain rfl : ns = [] := List.length_eq_zero_iff.1 hn0
    have hown := h.own
    obtain ⟨⟨c0, c1, c2, c3, c4, c5, f1, f2, f3, f4, f5⟩, own, chain, isn, few1, short, signs, pos, lt⟩ := h
    clear own chain isn few1 short signs
    go_enter Tryz.func130, Tryz.ntmps130
    go_wp2
    refine wp_loop_rounds 1 ?_
    rw [rounds_succ]
    go_wp2_with (first | (at_builtin; refine wpList_append_own _ rfl (.tmp 26) (.tmp 28) 29 rfl (rb + 1) 9 i0 (.string ⟨#[]⟩) 1 16 Tryz.underlying29 hi hz0 hz1 hz2 rfl (by decide) _ 0 [] rfl (hown.alloc _) ⟨w.heap.size, 0, none⟩ 1 1 [.string g] rfl rfl (by intro j u hj; match j, hj with | 0, hj => simp at hj; subst hj; simp [Addr.add]) (by intro u hu; simp at hu; subst hu; rfl) (by unfold maxLen; omega) (by omega) (by simp; omega) ?_; intro v' w1 hown' hgrow _; have R := hide (names_end (unhide H) few hown' hgrow); obtain ⟨d4, x4⟩ := names_cell (unhide H) hgrow; obtain ⟨g', cap', hv, hcm⟩ := own_some hown'; rw [hv] at R ⊢; clear hown' hgrow hv))
    go_ret
    exact ⟨_, _, rfl, by simp [nmsA, Parl.addN], (unhide R).1, (unhide R).2⟩
  · subst hnv
    have hown := h.own
    have hcell := hide (fun k (hk : k < ns.length) => (h.own.cellAt k (by omega)))
    obtain ⟨⟨c0, c1, c2, c3, c4, c5, f1, f2, f3, f4, f5⟩, own, chain, isn, few1, short, signs, pos, lt⟩ := h
    clear own chain isn few1 short signs hq
    go_enter Tryz.func130, Tryz.ntmps130
    go_wp2
    go_loop [12] (fun v => ∃ k : Nat, k ≤ ns.length ∧ v = .int .i64 k ∧ ∀ m (hm : m < ns.length), m < k → ns[m].toList ≠ g.toList) (fun v => ns.length - (intOf v).toNat)
    case atStart => exact ⟨0, by omega, rfl, fun m _ q => by omega⟩
    case round =>
      obtain ⟨k, hk, rfl, hno⟩ := hrel
      have HNO := hide hno
      clear hno
      by_cases hlt : k < ns.length
      · have hc : w.cell? ⟨q, k, none⟩ = some (.string ns[k]) := by rw [unhide hcell k hlt]; simp [hlt]
        cases he : (ns[k].toList == g.toList)
        · go_wp2_with fail
          go_round
          case rel => exact ⟨k + 1, by omega, by go_num, fun m hm q => by
            by_cases hmk : m = k
            · subst hmk; simpa using he
            · exact unhide HNO m hm (by omega)⟩
          case measure => simp [intOf]; omega
        · go_wp2_with fail
          go_ret
          exact ⟨ns, _, by rw [nmA_idx hlt (by simpa using he) (unhide HNO)]; rfl, (nmA_in hlt (by simpa using he)).symm, unhide H, KA.refl _ _ _⟩
      · go_wp2_with (first | (at_builtin; refine wpList_append_own _ rfl (.tmp 26) (.tmp 28) 29 rfl (rb + 1) 9 i0 (.string ⟨#[]⟩) 1 16 Tryz.underlying29 hi hz0 hz1 hz2 rfl (by decide) _ ns.length _ rfl (hown.alloc _) ⟨w.heap.size, 0, none⟩ 1 1 [.string g] rfl rfl (by intro j u hj; match j, hj with | 0, hj => simp at hj; subst hj; simp [Addr.add]) (by intro u hu; simp at hu; subst hu; rfl) (by unfold maxLen; omega) (by omega) (by simp; omega) ?_; intro v' w1 hown' hgrow _; have R := hide (names_end (unhide H) few hown' hgrow); obtain ⟨d4, x4⟩ := names_cell (unhide H) hgrow; obtain ⟨g', cap', hv, hcm⟩ := own_some hown'; rw [hv] at R ⊢; clear hown' hgrow hv))
        go_ret
        obtain ⟨q1, q2⟩ := nmA_new (nmA_out fun m hm => unhide HNO m hm (by omega))
        exact ⟨_, _, by rw [q2]; simp, q1, (unhide R).1, (unhide R).2⟩
end Go.Proofs.YthfjnfcekeknlaaGreatDoor
namespace Go.Proofs.YthfjnfcekeknlaaGreatDoor
open Go.RowKit

def PTerm (f rb : Nat) (s : ByteArray) (ns : List ByteArray) (r : Parl.Res Parl.Tm) (w : World) (e : Ending) (w' : World) : Prop := match r with
  | .inl (er, pos) => ∃ (k val : Int) (tx : ByteArray) (ao : Option Addr) (n cap : Nat) (l' : List Parl.Tok) (ns' : List ByteArray) (nv' : Value),
      e = .returned (.tuple #[.agg #[.int .i64 k, .int .i64 val, .string tx, .slice ao n cap], .bool false]) ∧ St w' rb s l' ns' nv' (er : Int) ∧ (Parl.hd l').pos = pos ∧ KA rb [rb] w w'
  | .inr (t, l1) => ∃ (val : Int) (tx : ByteArray) (ao : Option Addr) (cap : Nat) (ns' : List ByteArray) (nv' : Value) (e' : Int),
      e = .returned (.tuple #[.agg #[.int .i64 (ak t.kind), .int .i64 val, .string tx, .slice ao t.args.length cap], .bool true]) ∧ TA f ns ns' w w' val tx ao cap t ∧ St w' rb s l1 ns' nv' e' ∧ KA rb [rb] w w'

def PArgs (f rb : Nat) (s : ByteArray) (ns : List ByteArray) (r : Parl.Res (List Parl.Tm)) (w : World) (e : Ending) (w' : World) : Prop := match r with
  | .inl (er, pos) => ∃ (l' : List Parl.Tok) (ns' : List ByteArray) (nv' : Value) (ao : Option Addr) (n cap : Nat),
      e = .returned (.tuple #[.slice ao n cap, .bool false]) ∧ St w' rb s l' ns' nv' (er : Int) ∧ (Parl.hd l').pos = pos ∧ KA rb [rb] w w'
  | .inr (ts, l1) => ∃ (ao : Option Addr) (cap : Nat) (ns' : List ByteArray) (nv' : Value) (e' : Int),
      e = .returned (.tuple #[.slice ao ts.length cap, .bool true]) ∧ AA f ns ns' w w' ao ts ∧ St w' rb s l1 ns' nv' e' ∧ KA rb [rb] w w'

/-- The arguments that may stand behind a name. -/
def optArgs (f : Nat) (l : List Parl.Tok) : Parl.Res (List Parl.Tm) := if Parl.sees l [40] = true then Parl.argsOf (Parl.term f) 2 l.tail else .inr ([], l)

def TermSaid (f : Nat) : Prop := ∀ (w : World) (rb : Nat) (s : ByteArray) (l : List Parl.Tok) (ns : List ByteArray) (nv : Value) (e0 : Int) (d : Nat), f + d = 9 → St w rb s l ns nv e0 →
  Calls Tryz.prog 75 #[.pointer (some ⟨rb, 0, none⟩), .int .i64 (d : Int)] w fun e w' => PTerm f rb s ns (Parl.term f l) w e w'
def ArgsSaid (f : Nat) : Prop := ∀ (w : World) (rb : Nat) (s : ByteArray) (l : List Parl.Tok) (ns : List ByteArray) (nv : Value) (e0 : Int) (d : Nat), f + d = 9 → St w rb s l ns nv e0 →
  Calls Tryz.prog 132 #[.pointer (some ⟨rb, 0, none⟩), .int .i64 (d : Int)] w fun e w' => PArgs f rb s ns (optArgs f l) w e w'

theorem term_zero (l : List Parl.Tok) : Parl.term 0 l = Parl.bad (mayB 9 (Parl.hd l)) l := by
  unfold Parl.term mayB
  by_cases h : Parl.begins (Parl.hd l) = true
  · rw [if_pos h, if_pos h, if_pos (by omega)]
  · rw [if_neg h, if_neg h]
theorem mayB9 (t : Parl.Tok) : mayB 9 t ≠ 0 := by unfold mayB; split <;> (try rw [if_pos (by omega)]) <;> omega
theorem term_bad {f d : Nat} {l : List Parl.Tok} (hd : d ≤ 8) (h : mayB d (Parl.hd l) ≠ 0) : Parl.term (f + 1) l = Parl.bad (mayB d (Parl.hd l)) l := by
  unfold Parl.term mayB at *
  by_cases hb : Parl.begins (Parl.hd l) = true
  · rw [if_pos hb] at h ⊢
    rw [if_pos hb]
    by_cases hc : (Parl.hd l).kind = 4 ∧ 6 < (Parl.hd l).text.size
    · rw [if_pos hc, if_pos (Or.inl hc)]
    · rw [if_neg (by omega)] at h; exact absurd rfl h
  · rw [if_neg hb, if_neg hb]
theorem term_name {f d : Nat} {l : List Parl.Tok} (_h : mayB d (Parl.hd l) = 0) (hk : (Parl.hd l).kind = 2) : Parl.term (f + 1) l = match optArgs f l.tail with
    | .inl e => .inl e
    | .inr (ts, l2) => .inr (⟨2, (Parl.hd l).text, ts⟩, l2) := by
  have hb : Parl.begins (Parl.hd l) = true := by simp [Parl.begins, hk]
  rw [Parl.term, if_pos hb, if_neg (by omega), if_pos hk]
  unfold optArgs
  by_cases hs : Parl.sees l.tail [40] = true
  · rw [if_pos hs, if_pos hs]
    rcases Parl.argsOf (Parl.term f) 2 l.tail.tail with e | ⟨ts, l2⟩ <;> rfl
  · rw [if_neg hs, if_neg hs]
theorem term_leaf {f d : Nat} {l : List Parl.Tok} (h : mayB d (Parl.hd l) = 0) (hk : (Parl.hd l).kind = 3 ∨ (Parl.hd l).kind = 4) : Parl.term (f + 1) l = .inr (⟨(Parl.hd l).kind, (Parl.hd l).text, []⟩, l.tail) := by
  have hb : Parl.begins (Parl.hd l) = true := by rcases hk with e | e <;> simp [Parl.begins, e]
  unfold mayB at h
  rw [if_pos hb] at h
  have hc : ¬ ((Parl.hd l).kind = 4 ∧ 6 < (Parl.hd l).text.size) := fun q => by rw [if_pos (Or.inl q)] at h; omega
  rw [Parl.term, if_pos hb, if_neg hc, if_neg (by omega)]
theorem mayB_kind {d : Nat} {t : Parl.Tok} (h : mayB d t = 0) : t.kind = 2 ∨ t.kind = 3 ∨ t.kind = 4 := by
  unfold mayB at h
  by_cases hb : Parl.begins t = true
  · simpa [Parl.begins, or_assoc] using hb
  · rw [if_neg hb] at h; omega

/-- A cell of a block that is neither the reader's nor a row of texts stays. -/
theorem KA.loc {rb : Nat} {W w : World} (hk : KA rb [rb] W w) {b i : Nat} {v : Value} (hc : W.cell? ⟨b, i, none⟩ = some v) (hb : b < W.heap.size) (hne : b ≠ rb) (ht : tyAt W b ≠ some 9) : w.cell? ⟨b, i, none⟩ = some v :=
  (hk.cell (p := ⟨b, i, none⟩) hb (by simpa using hne) (Or.inr ht)).trans hc
theorem KA.locF {rb : Nat} {W w : World} (hk : KA rb [rb] W w) {b i : Nat} (hc : W.frozen? ⟨b, i, none⟩ = false) (hb : b < W.heap.size) (hne : b ≠ rb) (ht : tyAt W b ≠ some 9) : w.frozen? ⟨b, i, none⟩ = false :=
  (hk.frozen (p := ⟨b, i, none⟩) hb (by simpa using hne) (Or.inr ht)).trans hc

/-- The two boxes that 'term' lays: its result's, its first token's. -/
def boxR : Obj := .cells #[.int .i64 0, .int .i64 0, .string ⟨#[]⟩, .slice none 0 0] 76
def boxT (t : Parl.Tok) : Obj := .cells #[.int .i64 (t.kind : Int), .int .i64 (t.pos : Int), .string t.text] 70

/-- What is known of the boxes in a later world. -/
structure Boxes (w : World) (n : Nat) (t : Parl.Tok) : Prop where
  r0 : w.cell? ⟨n, 0, none⟩ = some (.int .i64 0)
  r1 : w.cell? ⟨n, 1, none⟩ = some (.int .i64 0)
  r2 : w.cell? ⟨n, 2, none⟩ = some (.string ⟨#[]⟩)
  r3 : w.cell? ⟨n, 3, none⟩ = some (.slice none 0 0)
  x0 : w.frozen? ⟨n, 0, none⟩ = false
  x1 : w.frozen? ⟨n, 1, none⟩ = false
  x2 : w.frozen? ⟨n, 2, none⟩ = false
  x3 : w.frozen? ⟨n, 3, none⟩ = false
  t0 : w.cell? ⟨n + 1, 0, none⟩ = some (.int .i64 (t.kind : Int))
  t2 : w.cell? ⟨n + 1, 2, none⟩ = some (.string t.text)

theorem boxes {rb : Nat} {w w1 : World} {t : Parl.Tok} (hlt : rb < w.heap.size) (hk : KA rb [rb] ((w.alloc boxR).alloc (boxT t)) w1) : Boxes w1 w.heap.size t := by
  have ty0 : tyAt ((w.alloc boxR).alloc (boxT t)) w.heap.size ≠ some 9 := by
    unfold tyAt; rw [Below.heap_alloc _ _ _ (by simp), heap_alloc_new]; simp [boxR]
  have ty1 : tyAt ((w.alloc boxR).alloc (boxT t)) (w.heap.size + 1) ≠ some 9 := by
    unfold tyAt
    have := heap_alloc_new (w.alloc boxR) (boxT t)
    rw [World.size_alloc] at this
    rw [this]; simp [boxT]
  refine ⟨hk.loc ?_ ?_ ?_ ty0, hk.loc ?_ ?_ ?_ ty0, hk.loc ?_ ?_ ?_ ty0, hk.loc ?_ ?_ ?_ ty0, hk.locF ?_ ?_ ?_ ty0, hk.locF ?_ ?_ ?_ ty0, hk.locF ?_ ?_ ?_ ty0, hk.locF ?_ ?_ ?_ ty0, hk.loc ?_ ?_ ?_ ty1, hk.loc ?_ ?_ ?_ ty1⟩
  all_goals first | (simp; done) | omega | (simp; omega) | (simp [boxR, boxT]; done)
end Go.Proofs.YthfjnfcekeknlaaGreatDoor
namespace Go.Proofs.YthfjnfcekeknlaaGreatDoor
open Go.RowKit

theorem tyAt_setCell (w : World) (a : Addr) (v : Value) (k : Nat) : tyAt (w.setCell a v) k = tyAt w k := by
  unfold tyAt World.setCell
  simp only [Array.getElem?_modify]
  by_cases h : a.block = k
  · rw [if_pos h]
    cases hq : w.heap[k]? with
    | none => rfl
    | some o => cases o <;> rfl
  · rw [if_neg h]
theorem KA.ty {b : Nat} {X : List Nat} {w w' : World} (h : KA b X w w') {k : Nat} (hk : k < w.heap.size) (hX : k ∉ X) (ht : tyAt w k ≠ some 9) : tyAt w' k = tyAt w k := by
  unfold tyAt; rw [h.block k hk hX (Or.inr ht)]

theorem St.setBox {w : World} {rb : Nat} {s : ByteArray} {l : List Parl.Tok} {ns : List ByteArray} {nv : Value} {e : Int} (h : St w rb s l ns nv e) {b : Nat} (hb : b ≠ rb) (h0 : b ≠ 0) (ht : tyAt w b ≠ some 9) (i : Nat) (v : Value) : St (w.setCell ⟨b, i, none⟩ v) rb s l ns nv e := by
  have k : ∀ q, q ≠ b → (w.setCell ⟨b, i, none⟩ v).heap[q]? = w.heap[q]? := fun q hq => Below.heap_setCell _ _ _ _ hq
  have c : ∀ o, (w.setCell ⟨b, i, none⟩ v).cell? ⟨rb, o, none⟩ = w.cell? ⟨rb, o, none⟩ := fun o => World.cell?_of_block (k rb (Ne.symm hb))
  have f : ∀ o, (w.setCell ⟨b, i, none⟩ v).frozen? ⟨rb, o, none⟩ = w.frozen? ⟨rb, o, none⟩ := fun o => World.frozen?_of_block (k rb (Ne.symm hb))
  obtain ⟨⟨c0, c1, c2, c3, c4, c5, f1, f2, f3, f4, f5⟩, own, chain, isn, few, short, signs, pos, lt⟩ := h
  refine ⟨⟨(c 0).trans c0, (c 1).trans c1, (c 2).trans c2, (c 3).trans c3, (c 4).trans c4, (c 5).trans c5, (f 1).trans f1, (f 2).trans f2, (f 3).trans f3, (f 4).trans f4, (f 5).trans f5⟩, ⟨own.1, ?_⟩, chain, isn, few, short, signs.setCell h0 _, pos, by simpa using lt⟩
  rcases own.2 with q | ⟨g, cap, cur, a, b', c', d⟩
  · exact Or.inl q
  · refine Or.inr ⟨g, cap, cur, a, b', ?_, d⟩
    rw [k g (fun e => ht (by rw [← e]; unfold tyAt; rw [c']))]
    exact c'

/-- Storing the result into its box. -/
theorem box_end {w w1 : World} {rb : Nat} {s : ByteArray} {l' : List Parl.Tok} {ns : List ByteArray} {nv : Value} {e : Int} {t : Parl.Tok} (hk : KA rb [rb] ((w.alloc boxR).alloc (boxT t)) w1) (h : St w1 rb s l' ns nv e) (hlt : rb < w.heap.size) (v0 v1 v2 v3 : Value) :
    St ((((w1.setCell ⟨w.heap.size, 0, none⟩ v0).setCell ⟨w.heap.size, 1, none⟩ v1).setCell ⟨w.heap.size, 2, none⟩ v2).setCell ⟨w.heap.size, 3, none⟩ v3) rb s l' ns nv e ∧
    KA rb [rb] w ((((w1.setCell ⟨w.heap.size, 0, none⟩ v0).setCell ⟨w.heap.size, 1, none⟩ v1).setCell ⟨w.heap.size, 2, none⟩ v2).setCell ⟨w.heap.size, 3, none⟩ v3) := by
  have ty0 : tyAt ((w.alloc boxR).alloc (boxT t)) w.heap.size = some 76 := by
    unfold tyAt; rw [Below.heap_alloc _ _ _ (by simp), heap_alloc_new]; simp [boxR]
  have ne : w.heap.size ≠ rb := by omega
  have n0 : w.heap.size ≠ 0 := by omega
  have ty1 : tyAt w1 w.heap.size ≠ some 9 := by
    rw [hk.ty (by simp; omega) (by simpa using ne) (by rw [ty0]; simp), ty0]; simp
  have base : KA rb [rb] w w1 := (((KA.refl rb [rb] w).alloc _).alloc _).trans hk
  refine ⟨?_, (((base.setNew (Nat.le_refl _) _).setNew (Nat.le_refl _) _).setNew (Nat.le_refl _) _).setNew (Nat.le_refl _) _⟩
  have a1 := h.setBox ne n0 ty1 0 v0
  have a2 := a1.setBox ne n0 (by rw [tyAt_setCell]; exact ty1) 1 v1
  have a3 := a2.setBox ne n0 (by rw [tyAt_setCell, tyAt_setCell]; exact ty1) 2 v2
  exact a3.setBox ne n0 (by rw [tyAt_setCell, tyAt_setCell, tyAt_setCell]; exact ty1) 3 v3
end Go.Proofs.YthfjnfcekeknlaaGreatDoor
namespace Go.Proofs.YthfjnfcekeknlaaGreatDoor
open Go.RowKit
/-- What such calls leave as it was. -/
structure FrG (R R' : Nat → Prop) (w w' : World) : Prop where
  os : w'.os = w.os
  tape : w'.tape = w.tape
  output : w'.output = w.output
  size : w.heap.size ≤ w'.heap.size
  block : ∀ k, k < w.heap.size → ¬ R k → w'.heap[k]? = w.heap[k]?
  row : ∀ k, R' k → R k ∨ w.heap.size ≤ k
theorem FrG.of_below {R : Nat → Prop} {w w' : World} (h : Below w.heap.size w w') : FrG R R w w' := ⟨h.os, h.tape, h.output, h.size, fun k hk _ => h.block k hk, fun _ q => Or.inl q⟩
theorem FrG.trans {R R1 R2 : Nat → Prop} {u v w : World} (h : FrG R R1 u v) (k : FrG R1 R2 v w) : FrG R R2 u w :=
  ⟨k.os.trans h.os, k.tape.trans h.tape, k.output.trans h.output, Nat.le_trans h.size k.size, fun i hi h1 => (k.block i (Nat.lt_of_lt_of_le hi h.size) (fun q => by
    rcases h.row i q with e | e
    · exact h1 e
    · omega)).trans (h.block i hi h1), fun i q => by
    rcases k.row i q with e | e
    · exact h.row i e
    · exact Or.inr (Nat.le_trans h.size e)⟩
theorem FrG.not {R R' : Nat → Prop} {w w' : World} (h : FrG R R' w w') {k : Nat} (hk : k < w.heap.size) (hr : ¬ R k) : ¬ R' k := fun q => by
  rcases h.row k q with e | e
  · exact hr e
  · omega
theorem own_keepG {w w' : World} {b0 : Nat} {T : TypeId} {sz : Nat} {v : Value} {n : Nat} {xs : List Value} (h : w.ownsRow b0 T sz v n xs) (hk : ∀ g, v.ownBlock = some g → w'.heap[g]? = w.heap[g]?) : w'.ownsRow b0 T sz v n xs :=
  ⟨h.1, h.2.imp id fun ⟨g, cap, cur, a, b, c, d⟩ => ⟨g, cap, cur, a, b, (hk g (by rw [a]; rfl)).trans c, d⟩⟩
theorem own_free {o : Option Addr} {n cap : Nat} {k : Nat} (h : ∀ q, o = some q → k ≠ q.block) : some k ≠ (Value.slice o n cap).ownBlock := by
  cases o with
  | none => simp [Value.ownBlock]
  | some q => have := h q rfl; simpa [Value.ownBlock] using this
theorem FrG.cell {R R' : Nat → Prop} {w w' : World} (h : FrG R R' w w') {p : Addr} (hp : p.block < w.heap.size) (hr : ¬ R p.block) : w'.cell? p = w.cell? p := World.cell?_of_block (w := w) (h.block p.block hp hr)
theorem FrG.down {R R' : Nat → Prop} {w w' : World} (h : FrG R R' w w') {b : Nat} (hb : b ≤ w.heap.size) (hr : ∀ k, R k → b ≤ k) : Below b w w' :=
  ⟨h.os, h.tape, h.output, h.size, fun k hk => h.block k (by omega) (fun q => by have := hr k q; omega)⟩
end Go.Proofs.YthfjnfcekeknlaaGreatDoor
