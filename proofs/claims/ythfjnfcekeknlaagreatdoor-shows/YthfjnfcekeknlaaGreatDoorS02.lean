import Derived.Test.YthfjnfcekeknlaaGreatDoorS01
namespace Go.Proofs.YthfjnfcekeknlaaGreatDoor
open Go.RowKit

theorem SB.draws {w : World} {rb tb cap : Nat} {s : ByteArray} {L : List Parl.Tok} {i : Nat} {e p : Int} (h : SB w rb tb cap s L i e p) (n : Nat) : SB (w.drewN n) rb tb cap s L i e p :=
  ⟨h.c0, h.c1, h.c2, h.c3, h.f1, h.f2, h.f3, h.own, h.ne, h.lt, h.chain, h.few, h.kinds, h.hlt⟩

theorem SB.set {w : World} {rb tb cap : Nat} {s : ByteArray} {L : List Parl.Tok} {i : Nat} {e p : Int} (h : SB w rb tb cap s L i e p) (n : Nat) (e' p' : Int) :
    SB (((w.setCell ⟨rb, 2, none⟩ (.int .i64 e')).drewN n).setCell ⟨rb, 3, none⟩ (.int .i64 p')) rb tb cap s L i e' p' ∧ KB [rb] w (((w.setCell ⟨rb, 2, none⟩ (.int .i64 e')).drewN n).setCell ⟨rb, 3, none⟩ (.int .i64 p')) := by
  refine ⟨?_, (((KB.refl [rb] w).setIn (by simp) _).drewN n).setIn (by simp) _⟩
  obtain ⟨c0, c1, c2, c3, f1, f2, f3, own, ne, lt, chain, few, kinds, hlt⟩ := h
  have q : SB (((w.setCell ⟨rb, 2, none⟩ (.int .i64 e'))).setCell ⟨rb, 3, none⟩ (.int .i64 p')) rb tb cap s L i e' p' := ⟨by go_cell, by go_cell, by go_cell, by go_cell, by go_cell, by go_cell, by go_cell, ownTb_set (ownTb_set own ne _ _) ne _ _, ne, lt, chain, few, kinds, by simpa using hlt⟩
  exact q.draws n

theorem SB.step {w : World} {rb tb cap : Nat} {s : ByteArray} {L : List Parl.Tok} {i : Nat} {e p : Int} (h : SB w rb tb cap s L i e p) (hi : i + 1 < L.length) :
    SB (w.setCell ⟨rb, 1, none⟩ (.int .i64 ((i + 1 : Nat) : Int))) rb tb cap s L (i + 1) e p ∧ KB [rb] w (w.setCell ⟨rb, 1, none⟩ (.int .i64 ((i + 1 : Nat) : Int))) := by
  refine ⟨?_, (KB.refl [rb] w).setIn (by simp) _⟩
  obtain ⟨c0, c1, c2, c3, f1, f2, f3, own, ne, lt, chain, few, kinds, hlt⟩ := h
  exact ⟨by go_cell, by go_cell, by go_cell, by go_cell, by go_cell, by go_cell, by go_cell, ownTb_set own ne _ _, ne, hi, chain, few, kinds, by simpa using hlt⟩

set_option maxHeartbeats 1000000 in
theorem bad_first (w : World) (rb tb cap : Nat) (s : ByteArray) (L : List Parl.Tok) (i : Nat) (p0 er : Int) (h : SB w rb tb cap s L i 0 p0) :
    Calls Tryz.prog 148 #[.pointer (some ⟨rb, 0, none⟩), .int .i64 er] w fun e w' => e = .returned (.tuple #[]) ∧ SB w' rb tb cap s L i er ((Parl.hd (L.drop i)).pos : Int) ∧ KB [rb] w w' := by
  have H := hide h
  obtain ⟨k0, k1, k2⟩ := h.tok
  obtain ⟨c0, c1, c2, c3, f1, f2, f3, own, ne, lt, chain, few, kinds, hlt⟩ := h
  clear own chain kinds k0 k1
  generalize Parl.hd (L.drop i) = t at *
  have hq : (w.setCell ⟨rb, 2, none⟩ (.int .i64 er)).cell? ⟨tb, i * 3 + 2, none⟩ = some (.int .i64 (t.pos : Int)) := (World.cell?_of_block (a := ⟨tb, i * 3 + 2, none⟩) (Below.heap_setCell _ _ _ _ ne)).trans k2
  go_enter Tryz.func148, Tryz.ntmps148
  go_wp2
  go_big_region
  go_wp2
  go_end0
  have R := (unhide H).set 1 er (t.pos : Int)
  exact ⟨rfl, R.1, R.2⟩

set_option maxHeartbeats 1000000 in
theorem bad_later (w : World) (rb tb cap : Nat) (s : ByteArray) (L : List Parl.Tok) (i : Nat) (e0 p0 er : Int) (h : SB w rb tb cap s L i e0 p0) (he : e0 ≠ 0) :
    Calls Tryz.prog 148 #[.pointer (some ⟨rb, 0, none⟩), .int .i64 er] w fun e w' => e = .returned (.tuple #[]) ∧ w' = w := by
  obtain ⟨c0, c1, c2, c3, f1, f2, f3, own, ne, lt, chain, few, kinds, hlt⟩ := h
  clear own chain kinds
  have he' : (e0 == 0) = false := by simpa using he
  go_enter Tryz.func148, Tryz.ntmps148
  go_wp2
  go_end0
  exact ⟨rfl, rfl⟩

set_option maxHeartbeats 1000000 in
theorem pass_on (w : World) (rb tb cap : Nat) (s : ByteArray) (L : List Parl.Tok) (i : Nat) (e0 p0 : Int) (h : SB w rb tb cap s L i e0 p0) (hk : (Parl.hd (L.drop i)).kind ≠ 0) :
    Calls Tryz.prog 151 #[.pointer (some ⟨rb, 0, none⟩)] w fun e w' => e = .returned (.tuple #[]) ∧ SB w' rb tb cap s L (i + 1) e0 p0 ∧ KB [rb] w w' := by
  have H := hide h
  have hn := chain_lt h.chain h.lt hk
  have hb : (bk (Parl.hd (L.drop i)).kind != 6) = true := by rw [bk6 h.kind]; simpa using hk
  obtain ⟨k0, k1, k2⟩ := h.tok
  obtain ⟨c0, c1, c2, c3, f1, f2, f3, own, ne, lt, chain, few, kinds, hlt⟩ := h
  clear own chain kinds k1 k2 hk
  generalize bk (Parl.hd (L.drop i)).kind = q at *
  go_enter Tryz.func151, Tryz.ntmps151
  go_wp2
  go_big_region
  go_wp2
  go_end0
  have R := ((unhide H).draws 1).step hn
  exact ⟨rfl, R.1, ((KB.refl [rb] w).drewN 1).trans R.2⟩

set_option maxHeartbeats 1000000 in
theorem pass_end (w : World) (rb tb cap : Nat) (s : ByteArray) (L : List Parl.Tok) (i : Nat) (e0 p0 : Int) (h : SB w rb tb cap s L i e0 p0) (hk : (Parl.hd (L.drop i)).kind = 0) :
    Calls Tryz.prog 151 #[.pointer (some ⟨rb, 0, none⟩)] w fun e w' => e = .returned (.tuple #[]) ∧ ∃ n, w' = w.drewN n := by
  have hb : (bk (Parl.hd (L.drop i)).kind != 6) = false := by rw [bk6 h.kind]; simpa using hk
  obtain ⟨k0, k1, k2⟩ := h.tok
  obtain ⟨c0, c1, c2, c3, f1, f2, f3, own, ne, lt, chain, few, kinds, hlt⟩ := h
  clear own chain kinds k1 k2 hk
  generalize bk (Parl.hd (L.drop i)).kind = q at *
  go_enter Tryz.func151, Tryz.ntmps151
  go_wp2
  go_big_region
  go_wp2
  go_end0
  exact ⟨rfl, 1, rfl⟩

/-- It stands somewhere, with what was wrong first. -/
def EB (w : World) (rb tb cap : Nat) (s : ByteArray) (L : List Parl.Tok) (e p : Int) : Prop := ∃ i, SB w rb tb cap s L i e p

theorem pass_any (w : World) (rb tb cap : Nat) (s : ByteArray) (L : List Parl.Tok) (e0 p0 : Int) (h : EB w rb tb cap s L e0 p0) :
    Calls Tryz.prog 151 #[.pointer (some ⟨rb, 0, none⟩)] w fun e w' => e = .returned (.tuple #[]) ∧ EB w' rb tb cap s L e0 p0 ∧ KB [rb] w w' := by
  obtain ⟨i, h⟩ := h
  by_cases hk : (Parl.hd (L.drop i)).kind = 0
  · refine (pass_end w rb tb cap s L i e0 p0 h hk).mono ?_
    rintro e w' ⟨rfl, n, rfl⟩
    exact ⟨rfl, ⟨i, h.draws n⟩, (KB.refl _ _).drewN n⟩
  · refine (pass_on w rb tb cap s L i e0 p0 h hk).mono ?_
    rintro e w' ⟨rfl, hs, hk⟩
    exact ⟨rfl, ⟨i + 1, hs⟩, hk⟩
theorem bad_err (w : World) (rb tb cap : Nat) (s : ByteArray) (L : List Parl.Tok) (e0 p0 er : Int) (h : EB w rb tb cap s L e0 p0) (he : e0 ≠ 0) :
    Calls Tryz.prog 148 #[.pointer (some ⟨rb, 0, none⟩), .int .i64 er] w fun e w' => e = .returned (.tuple #[]) ∧ EB w' rb tb cap s L e0 p0 ∧ KB [rb] w w' := by
  obtain ⟨i, h⟩ := h
  refine (bad_later w rb tb cap s L i e0 p0 er h he).mono ?_
  rintro e w' ⟨rfl, rfl⟩
  exact ⟨rfl, ⟨i, h⟩, KB.refl _ _⟩

/-- A sign that stands there is passed. -/
theorem want_yes (w : World) (rb tb cap : Nat) (s : ByteArray) (L : List Parl.Tok) (i : Nat) (e0 p0 : Int) (g : ByteArray) (h : SB w rb tb cap s L i e0 p0) (hs : Parl.sees (L.drop i) g.toList = true) :
    Calls Tryz.prog 153 #[.pointer (some ⟨rb, 0, none⟩), .string g] w fun e w' => e = .returned (.tuple #[]) ∧ SB w' rb tb cap s L (i + 1) e0 p0 ∧ KB [rb] w w' := by
  have H := hide h
  have hk := hide (show (Parl.hd (L.drop i)).kind ≠ 0 by rw [Parl.sees_kind hs]; omega)
  clear h
  go_enter Tryz.func153, Tryz.ntmps153
  go_wp2_with fail
  refine (is_any _ rb tb cap s L i e0 p0 g (unhide H)).mono ?_
  rintro e w1 ⟨rfl, n, rfl⟩
  go_wp2_with fail
  refine (pass_on _ rb tb cap s L i e0 p0 ((unhide H).draws n) (unhide hk)).mono ?_
  rintro e w2 ⟨rfl, hs2, hk2⟩
  have HS := hide hs2
  have HK := hide (((KB.refl [rb] w).drewN n).trans hk2)
  clear hs2 hk2
  go_wp2_with fail
  go_end0
  exact ⟨rfl, unhide HS, unhide HK⟩
/-- One that does not: that is wrong. -/
theorem want_no (w : World) (rb tb cap : Nat) (s : ByteArray) (L : List Parl.Tok) (i : Nat) (p0 : Int) (g : ByteArray) (h : SB w rb tb cap s L i 0 p0) (hs : Parl.sees (L.drop i) g.toList = false) :
    Calls Tryz.prog 153 #[.pointer (some ⟨rb, 0, none⟩), .string g] w fun e w' => e = .returned (.tuple #[]) ∧ EB w' rb tb cap s L 2 ((Parl.hd (L.drop i)).pos : Int) ∧ KB [rb] w w' := by
  have H := hide h
  clear h
  go_enter Tryz.func153, Tryz.ntmps153
  go_wp2_with fail
  refine (is_any _ rb tb cap s L i 0 p0 g (unhide H)).mono ?_
  rintro e w1 ⟨rfl, n, rfl⟩
  go_wp2_with fail
  refine (bad_first _ rb tb cap s L i p0 2 ((unhide H).draws n)).mono ?_
  rintro e w2 ⟨rfl, hs2, hk2⟩
  have HS := hide hs2
  have HK := hide (((KB.refl [rb] w).drewN n).trans hk2)
  clear hs2 hk2
  go_wp2_with fail
  refine (pass_any _ rb tb cap s L _ _ ⟨i, unhide HS⟩).mono ?_
  rintro e w3 ⟨rfl, hs3, hk3⟩
  have HS3 := hide hs3
  have HK3 := hide ((unhide HK).trans hk3)
  clear hs3 hk3
  go_wp2_with fail
  go_end0
  exact ⟨rfl, unhide HS3, unhide HK3⟩
/-- Behind an error: nothing of it turns. -/
theorem want_err (w : World) (rb tb cap : Nat) (s : ByteArray) (L : List Parl.Tok) (e0 p0 : Int) (g : ByteArray) (h : EB w rb tb cap s L e0 p0) (he : e0 ≠ 0) :
    Calls Tryz.prog 153 #[.pointer (some ⟨rb, 0, none⟩), .string g] w fun e w' => e = .returned (.tuple #[]) ∧ EB w' rb tb cap s L e0 p0 ∧ KB [rb] w w' := by
  obtain ⟨i, h⟩ := h
  have H := hide h
  clear h
  cases hs : Parl.sees (L.drop i) g.toList
  · go_enter Tryz.func153, Tryz.ntmps153
    go_wp2_with fail
    refine (is_any _ rb tb cap s L i e0 p0 g (unhide H)).mono ?_
    rintro e w1 ⟨rfl, n, rfl⟩
    go_wp2_with fail
    refine (bad_later _ rb tb cap s L i e0 p0 2 ((unhide H).draws n) he).mono ?_
    rintro e w2 ⟨rfl, rfl⟩
    go_wp2_with fail
    refine (pass_any _ rb tb cap s L _ _ ⟨i, (unhide H).draws n⟩).mono ?_
    rintro e w3 ⟨rfl, hs3, hk3⟩
    have HS3 := hide hs3
    have HK3 := hide (((KB.refl [rb] w).drewN n).trans hk3)
    clear hs3 hk3
    go_wp2_with fail
    go_end0
    exact ⟨rfl, unhide HS3, unhide HK3⟩
  · refine (want_yes w rb tb cap s L i e0 p0 g (unhide H) hs).mono ?_
    rintro e w' ⟨rfl, hs, hk⟩
    exact ⟨rfl, ⟨i + 1, hs⟩, hk⟩

theorem number_any (g : ByteArray) (w : World) (hg : g.size ≤ 240) : Calls Tryz.prog 185 #[.string g] w fun e w' => (∃ n : Int, e = .returned (.int .i64 n)) ∧ w' = w := by
  go_enter Tryz.func185, Tryz.ntmps185
  go_wp2
  go_loop [3, 4] (fun v i => ∃ (k : Nat) (n : Int), k ≤ g.size ∧ k ≤ 9 ∧ i = .int .i64 k ∧ v = .int .i64 n) (fun _ i => g.size - (intOf i).toNat)
  case atStart => exact ⟨0, 0, by omega, by omega, rfl, rfl⟩
  case round =>
    obtain ⟨k, n, hk, h9, rfl, rfl⟩ := hrel
    by_cases hlt : k < g.size
    · by_cases h9' : k < 9
      · go_wp2
        go_round
        case rel => exact ⟨k + 1, _, by omega, by omega, by go_num, rfl⟩
        case measure => simp [intOf]; omega
      · go_wp2
        go_ret
        exact ⟨⟨n, rfl⟩, rfl⟩
    · go_wp2
      go_ret
      exact ⟨⟨n, rfl⟩, rfl⟩
end Go.Proofs.YthfjnfcekeknlaaGreatDoor
namespace Go.Proofs.YthfjnfcekeknlaaGreatDoor
open Go.RowKit

/-- A term's four cells there. -/
structure BV where
  k : Int
  nm : ByteArray
  num : Int
  ao : Option Addr
  n : Nat
  cap : Nat
def bvC (a : BV) : List Value := [.int .i64 a.k, .string a.nm, .int .i64 a.num, .slice a.ao a.n a.cap]
theorem bvC_length (us : List BV) : (us.flatMap bvC).length = us.length * 4 := by
  induction us with
  | nil => rfl
  | cons a r ih => rw [List.flatMap_cons, List.length_append, ih]; simp [bvC]; omega

/-- What a term's own cells say. -/
def LeafB (a : BV) (t : Parl.Tm) : Prop := a.k = bk t.kind ∧ a.n = t.args.length ∧ (t.kind ≠ 4 → a.nm = t.text ∧ a.num = 0) ∧ (t.kind = 4 → a.num = (Parl.numOf t.text : Int) ∧ t.text.size ≤ 6 ∧ a.nm = ⟨#[]⟩) ∧ t.text.size ≤ 240 ∧ t.args.length ≤ 3
def RB : Nat → (Nat → Prop) → World → BV → Parl.Tm → Prop
  | 0, _, _, _, _ => False
  | f + 1, P, w, a, t => LeafB a t ∧ (t.args ≠ [] → ∃ (g : Nat) (us : List BV) (cs : Array Value), a.ao = some ⟨g, 0, none⟩ ∧ P g ∧ w.heap[g]? = some (.cells cs 109 (0, 0)) ∧ cs.toList.take (us.length * 4) = us.flatMap bvC ∧ All2 (RB f P w) us t.args)
/-- The term lies there; its rows are of the kind P. -/
def VB (P : Nat → Prop) (w : World) (a : BV) (t : Parl.Tm) : Prop := ∃ f, RB f P w a t

theorem RB.up {P : Nat → Prop} {w : World} : ∀ {f : Nat} {a : BV} {t : Parl.Tm}, RB f P w a t → RB (f + 1) P w a t
  | f + 1, _, _, ⟨h, q⟩ => ⟨h, fun n => by
    obtain ⟨g, us, cs, h1, h2, h3, h4, h5⟩ := q n
    exact ⟨g, us, cs, h1, h2, h3, h4, h5.imp fun _ _ => RB.up⟩⟩
theorem RB.le {P : Nat → Prop} {w : World} {f f' : Nat} {a : BV} {t : Parl.Tm} (h : RB f P w a t) (hf : f ≤ f') : RB f' P w a t := by
  induction hf with
  | refl => exact h
  | step _ ih => exact ih.up
theorem VB.all {P : Nat → Prop} {w : World} : ∀ {us : List BV} {ts : List Parl.Tm}, All2 (VB P w) us ts → ∃ f, All2 (RB f P w) us ts
  | [], [], _ => ⟨0, trivial⟩
  | _ :: _, _ :: _, q => by
    obtain ⟨f, hf⟩ := q.1
    obtain ⟨f', hf'⟩ := VB.all q.2
    exact ⟨max f f', hf.le (by omega), hf'.imp fun _ _ h => h.le (by omega)⟩
theorem VB.leaf {P : Nat → Prop} {w : World} {a : BV} {t : Parl.Tm} (h : LeafB a t) (h0 : t.args = []) : VB P w a t := ⟨1, h, fun q => absurd h0 q⟩
theorem VB.node {P : Nat → Prop} {w : World} {a : BV} {t : Parl.Tm} {g : Nat} {us : List BV} {cs : Array Value} (h : LeafB a t) (h1 : a.ao = some ⟨g, 0, none⟩) (h2 : P g) (h3 : w.heap[g]? = some (.cells cs 109 (0, 0))) (h4 : cs.toList.take (us.length * 4) = us.flatMap bvC) (h5 : All2 (VB P w) us t.args) : VB P w a t := by
  obtain ⟨f, hf⟩ := VB.all h5
  exact ⟨f + 1, h, fun _ => ⟨g, us, cs, h1, h2, h3, h4, hf⟩⟩
theorem VB.its {P : Nat → Prop} {w : World} {a : BV} {t : Parl.Tm} (h : VB P w a t) : LeafB a t ∧ (t.args ≠ [] → ∃ (g : Nat) (us : List BV) (cs : Array Value), a.ao = some ⟨g, 0, none⟩ ∧ P g ∧ w.heap[g]? = some (.cells cs 109 (0, 0)) ∧ cs.toList.take (us.length * 4) = us.flatMap bvC ∧ All2 (VB P w) us t.args) := by
  obtain ⟨f, hf⟩ := h
  cases f with
  | zero => exact hf.elim
  | succ f =>
    refine ⟨hf.1, fun q => ?_⟩
    obtain ⟨g, us, cs, h1, h2, h3, h4, h5⟩ := hf.2 q
    exact ⟨g, us, cs, h1, h2, h3, h4, h5.imp fun _ _ h => ⟨f, h⟩⟩
theorem RB.keep {P Q : Nat → Prop} {w w' : World} (hk : ∀ g cs, P g → w.heap[g]? = some (.cells cs 109 (0, 0)) → (∃ k r, cs.toList = .int .i64 k :: r) → w'.heap[g]? = some (.cells cs 109 (0, 0)) ∧ Q g) : ∀ {f : Nat} {a : BV} {t : Parl.Tm}, RB f P w a t → RB f Q w' a t
  | f + 1, _, _, ⟨h, q⟩ => ⟨h, fun n => by
    obtain ⟨g, us, cs, h1, h2, h3, h4, h5⟩ := q n
    have hi : ∃ k r, cs.toList = .int .i64 k :: r := by
      cases us with
      | nil => have := h5.length; simp at this; exact absurd (List.length_eq_zero_iff.1 this.symm) n
      | cons u us =>
        cases hc : cs.toList with
        | nil => rw [hc] at h4; simp [bvC] at h4
        | cons c r =>
          rw [hc] at h4
          simp only [List.length_cons, Nat.add_mul, Nat.one_mul, List.flatMap_cons, bvC, List.cons_append, List.take_succ_cons] at h4
          injection h4 with h4 _
          exact ⟨_, r, by rw [h4]⟩
    obtain ⟨r1, r2⟩ := hk g cs h2 h3 hi
    exact ⟨g, us, cs, h1, r2, r1, h4, h5.imp fun _ _ => RB.keep hk⟩⟩
theorem VB.keep {P Q : Nat → Prop} {w w' : World} {a : BV} {t : Parl.Tm} (h : VB P w a t) (hk : ∀ g cs, P g → w.heap[g]? = some (.cells cs 109 (0, 0)) → (∃ k r, cs.toList = .int .i64 k :: r) → w'.heap[g]? = some (.cells cs 109 (0, 0)) ∧ Q g) : VB Q w' a t := by
  obtain ⟨f, hf⟩ := h
  exact ⟨f, hf.keep hk⟩
theorem VB.imp {P Q : Nat → Prop} {w : World} {a : BV} {t : Parl.Tm} (h : VB P w a t) (hk : ∀ g, P g → g < w.heap.size → Q g) : VB Q w a t :=
  h.keep fun g _ hp hg _ => ⟨hg, hk g hp (Array.getElem?_eq_some_iff.1 hg).1⟩
/-- Across a call of the reader. -/
theorem VB.kb {P : Nat → Prop} {w w' : World} {a : BV} {t : Parl.Tm} {X : List Nat} (h : VB P w a t) (hk : KB X w w') (hX : ∀ x ∈ X, ¬ P x) : VB P w' a t :=
  h.keep fun g _ hp hg _ => ⟨(hk.block g (Array.getElem?_eq_some_iff.1 hg).1 (fun q => hX g q hp)).trans hg, hp⟩
theorem VB.below {P : Nat → Prop} {w w' : World} {a : BV} {t : Parl.Tm} (h : VB P w a t) (hb : Below w.heap.size w w') : VB P w' a t := h.kb (KB.of_below (X := []) hb) (by simp)
/-- The reader's own block is no row. -/
theorem VB.kbs {P : Nat → Prop} {w w' : World} {a : BV} {t : Parl.Tm} {rb tb cap : Nat} {s : ByteArray} {L : List Parl.Tok} {i : Nat} {e p : Int} (h : VB P w a t) (hs : SB w rb tb cap s L i e p) (hk : KB [rb] w w') : VB P w' a t :=
  h.keep fun g cs hp hg hi => ⟨(hk.block g (Array.getElem?_eq_some_iff.1 hg).1 (fun q => by
    obtain rfl : g = rb := by simpa using q
    obtain ⟨k, r, hc⟩ := hi
    have := hs.c0
    simp [World.cell?, hg] at this
    rw [← Array.getElem?_toList, hc] at this
    simp at this)).trans hg, hp⟩

set_option maxHeartbeats 1000000 in
theorem number_is (g : ByteArray) (w : World) (hg : g.size ≤ 6) : Calls Tryz.prog 185 #[.string g] w fun e w' => e = .returned (.int .i64 (Parl.numOf g : Int)) ∧ w' = w := by
  go_enter Tryz.func185, Tryz.ntmps185
  go_wp2
  go_loop [3, 4] (fun v i => ∃ (k : Nat), k ≤ g.size ∧ i = .int .i64 k ∧ v = .int .i64 (Parl.numL (g.toList.take k) : Int)) (fun _ i => g.size - (intOf i).toNat)
  case atStart => exact ⟨0, by omega, rfl, rfl⟩
  case round =>
    obtain ⟨k, hk, rfl, rfl⟩ := hrel
    by_cases hlt : k < g.size
    · go_wp2
      go_round
      case rel =>
        refine ⟨k + 1, by omega, by go_num, ?_⟩
        rw [num_next hlt]
        have hb := Parl.numL_le (g.toList.take k) (by simp; omega)
        generalize Parl.numL (g.toList.take k) = v at *
        have hc : g[k].toNat < 256 := g[k].toNat_lt
        generalize g[k].toNat = c at *
        congr 1
        unfold wrap64
        omega
      case measure => simp [intOf]; omega
    · go_wp2
      go_ret
      obtain rfl : k = g.size := by omega
      exact ⟨by rw [num_all]; rfl, rfl⟩
end Go.Proofs.YthfjnfcekeknlaaGreatDoor
namespace Go.Proofs.YthfjnfcekeknlaaGreatDoor
open Go.RowKit

def PTermB (rb tb cap : Nat) (s : ByteArray) (L : List Parl.Tok) (p0 : Int) (r : Parl.Res Parl.Tm) (w : World) (e : Ending) (w' : World) : Prop := match r with
  | .inl (er, pos) => ∃ a : BV, e = .returned (.agg #[.int .i64 a.k, .string a.nm, .int .i64 a.num, .slice a.ao a.n a.cap]) ∧ EB w' rb tb cap s L (er : Int) (pos : Int) ∧ KB [rb] w w'
  | .inr (t, l1) => ∃ (nm : ByteArray) (num : Int) (ao : Option Addr) (cp j : Nat), e = .returned (.agg #[.int .i64 (bk t.kind), .string nm, .int .i64 num, .slice ao t.args.length cp]) ∧ (t.kind ≠ 4 → nm = t.text) ∧ L.drop j = l1 ∧ SB w' rb tb cap s L j 0 p0 ∧ KB [rb] w w' ∧ VB (fun g => w.heap.size ≤ g) w' ⟨bk t.kind, nm, num, ao, t.args.length, cp⟩ t
def PErrB (rb tb cap : Nat) (s : ByteArray) (L : List Parl.Tok) (e0 p0 : Int) (w : World) (e : Ending) (w' : World) : Prop :=
  ∃ a : BV, e = .returned (.agg #[.int .i64 a.k, .string a.nm, .int .i64 a.num, .slice a.ao a.n a.cap]) ∧ EB w' rb tb cap s L e0 p0 ∧ KB [rb] w w'

theorem bad_any (w : World) (rb tb cap : Nat) (s : ByteArray) (L : List Parl.Tok) (i : Nat) (e0 p0 er : Int) (h : SB w rb tb cap s L i e0 p0) :
    Calls Tryz.prog 148 #[.pointer (some ⟨rb, 0, none⟩), .int .i64 er] w fun e w' => e = .returned (.tuple #[]) ∧ SB w' rb tb cap s L i (if e0 = 0 then er else e0) (if e0 = 0 then ((Parl.hd (L.drop i)).pos : Int) else p0) ∧ KB [rb] w w' := by
  by_cases he : e0 = 0
  · subst he
    rw [if_pos rfl, if_pos rfl]
    exact bad_first w rb tb cap s L i p0 er h
  · rw [if_neg he, if_neg he]
    refine (bad_later w rb tb cap s L i e0 p0 er h he).mono ?_
    rintro e w' ⟨rfl, rfl⟩
    exact ⟨rfl, h, KB.refl _ _⟩
theorem mix_ne {e0 er : Int} (h : er ≠ 0) : (if e0 = 0 then er else e0) ≠ 0 := by split <;> assumption

theorem blkA' {w : World} {b : Nat} {cs : Array Value} {T : TypeId} (h : w.heap[b]? = some (.cells cs T (0, 0))) : ∀ i, w.cell? ⟨b, i, none⟩ = cs[i]? := fun i => by simp [World.cell?, h]
theorem blkX' {w : World} {b : Nat} {cs : Array Value} {T : TypeId} (h : w.heap[b]? = some (.cells cs T (0, 0))) : ∀ i, w.frozen? ⟨b, i, none⟩ = false := fun i => by simp [World.frozen?, h]
theorem blk_kb {w w' : World} {b : Nat} {X : List Nat} {x : Obj} (hk : KB X w w') (h : w.heap[b]? = some x) (hb : b ∉ X) : w'.heap[b]? = some x := (hk.block b (Array.getElem?_eq_some_iff.1 h).1 hb).trans h
theorem blk_lt' {w : World} {b : Nat} {x : Obj} (h : w.heap[b]? = some x) : b < w.heap.size := (Array.getElem?_eq_some_iff.1 h).1
theorem blk_alloc' {w : World} {b : Nat} {x : Obj} (h : w.heap[b]? = some x) (o : Obj) : (w.alloc o).heap[b]? = some x := by
  rw [Below.heap_alloc _ _ _ (Array.getElem?_eq_some_iff.1 h).1]; exact h

def boxRB : Obj := .cells #[.int .i64 0, .string ⟨#[]⟩, .int .i64 0, .slice none 0 0] 109
def boxTB (t : Parl.Tok) : Obj := .cells #[.int .i64 (bk t.kind), .string t.text, .int .i64 (t.pos : Int)] 168
theorem term_boxes {w : World} {rb tb cap : Nat} {s : ByteArray} {L : List Parl.Tok} {i : Nat} {e p : Int} (t : Parl.Tok) (h : SB w rb tb cap s L i e p) :
    SB ((w.alloc boxRB).alloc (boxTB t)).drew rb tb cap s L i e p ∧ KB [rb] w ((w.alloc boxRB).alloc (boxTB t)).drew ∧
    ((w.alloc boxRB).alloc (boxTB t)).drew.heap[w.heap.size]? = some (.cells #[.int .i64 0, .string ⟨#[]⟩, .int .i64 0, .slice none 0 0] 109 (0, 0)) ∧
    ((w.alloc boxRB).alloc (boxTB t)).drew.heap[w.heap.size + 1]? = some (.cells #[.int .i64 (bk t.kind), .string t.text, .int .i64 (t.pos : Int)] 168 (0, 0)) := by
  refine ⟨h.below (((Below.refl _ _).alloc (Nat.le_refl _) _).alloc (by simp) _).drew, (((KB.refl [rb] w).alloc _).alloc _).drew, ?_, ?_⟩
  · show ((w.alloc boxRB).alloc (boxTB t)).heap[w.heap.size]? = _
    exact blk_alloc' (heap_alloc_new w _) _
  · show ((w.alloc boxRB).alloc (boxTB t)).heap[w.heap.size + 1]? = _
    have := heap_alloc_new (w.alloc boxRB) (boxTB t)
    rw [World.size_alloc] at this
    exact this
theorem KB.onlyNew {X : List Nat} {u w : World} (h : KB X u w) {b : Nat} (hb : u.heap.size ≤ b) (v0 v1 v2 v3 : Value) : KB X u ((((w.setCell ⟨b, 0, none⟩ v0).setCell ⟨b, 1, none⟩ v1).setCell ⟨b, 2, none⟩ v2).setCell ⟨b, 3, none⟩ v3) :=
  (((h.setNew hb _).setNew hb _).setNew hb _).setNew hb _
theorem SB.box {w : World} {rb tb cap : Nat} {s : ByteArray} {L : List Parl.Tok} {i : Nat} {e p : Int} (h : SB w rb tb cap s L i e p) {b : Nat} (h1 : b ≠ rb) (h2 : b ≠ tb) (v0 v1 v2 v3 : Value) : SB ((((w.setCell ⟨b, 0, none⟩ v0).setCell ⟨b, 1, none⟩ v1).setCell ⟨b, 2, none⟩ v2).setCell ⟨b, 3, none⟩ v3) rb tb cap s L i e p :=
  h.kb (X := [b]) ((((((KB.refl [b] w).setIn (by simp) _).setIn (by simp) _).setIn (by simp) _).setIn (by simp) _)) (by simpa using Ne.symm h1) (by simpa using Ne.symm h2)

set_option maxHeartbeats 4000000 in
set_option maxRecDepth 100000 in
theorem trm_nobegin (w : World) (rb tb cap : Nat) (s : ByteArray) (L : List Parl.Tok) (i : Nat) (e0 p0 : Int) (d : Nat) (h : SB w rb tb cap s L i e0 p0) (hn : ¬ ((Parl.hd (L.drop i)).kind = 2 ∨ (Parl.hd (L.drop i)).kind = 3 ∨ (Parl.hd (L.drop i)).kind = 4)) :
    Calls Tryz.prog 149 #[.pointer (some ⟨rb, 0, none⟩), .int .i64 (d : Int)] w fun e w' => PErrB rb tb cap s L (if e0 = 0 then 2 else e0) (if e0 = 0 then ((Parl.hd (L.drop i)).pos : Int) else p0) w e w' := by
  obtain ⟨hS, hK, hB0, hB1⟩ := term_boxes (Parl.hd (L.drop i)) h
  unfold boxRB boxTB at hS hK hB0 hB1
  have HS := hide hS
  have HK := hide hK
  have HB0 := hide hB0
  have HB1 := hide hB1
  have hlt := h.hlt
  have htl := h.tblt
  have hk5 := h.kind
  have hz := h.tsize
  clear hS hK hB0 hB1
  obtain ⟨k0, k1, k2⟩ := h.tok
  obtain ⟨c0, c1, c2, c3, f1, f2, f3, own, ne, lt, chain, few, kinds, hlt'⟩ := h
  clear own chain kinds f1 f2 f3 c2 c3
  have BAD := hide (fun W (hW : SB W rb tb cap s L i e0 p0) => bad_any W rb tb cap s L i e0 p0 2 hW)
  have HE := hide (mix_ne (e0 := e0) (er := 2) (by omega))
  generalize (if e0 = 0 then (2 : Int) else e0) = e1 at BAD HE ⊢
  generalize (if e0 = 0 then ((Parl.hd (L.drop i)).pos : Int) else p0) = p1 at BAD ⊢
  have b1 : (bk (Parl.hd (L.drop i)).kind != 1) = true := by generalize (Parl.hd (L.drop i)).kind = k at *; rcases (show k = 0 ∨ k = 1 ∨ k = 5 by omega) with rfl | rfl | rfl <;> rfl
  have b2 : (bk (Parl.hd (L.drop i)).kind != 2) = true := by generalize (Parl.hd (L.drop i)).kind = k at *; rcases (show k = 0 ∨ k = 1 ∨ k = 5 by omega) with rfl | rfl | rfl <;> rfl
  have b3 : (bk (Parl.hd (L.drop i)).kind != 3) = true := by generalize (Parl.hd (L.drop i)).kind = k at *; rcases (show k = 0 ∨ k = 1 ∨ k = 5 by omega) with rfl | rfl | rfl <;> rfl
  have b4 : (bk (Parl.hd (L.drop i)).kind == 3) = false := by generalize (Parl.hd (L.drop i)).kind = k at *; rcases (show k = 0 ∨ k = 1 ∨ k = 5 by omega) with rfl | rfl | rfl <;> rfl
  clear hn hk5
  generalize bk (Parl.hd (L.drop i)).kind = q at *
  go_enter Tryz.func149, Tryz.ntmps149
  go_wp2_with fail
  go_big_region
  go_wp2_with fail
  refine (unhide BAD _ (unhide HS)).mono ?_
  rintro e w1 ⟨rfl, hs1, hk1⟩
  have HS1 := hide hs1
  have HK1 := hide ((unhide HK).trans hk1)
  have HB01 := hide (blk_kb hk1 (unhide HB0) (by simp; omega))
  have HB11 := hide (blk_kb hk1 (unhide HB1) (by simp; omega))
  clear hs1 hk1
  go_wp2_with fail
  refine (pass_any _ rb tb cap s L e1 p1 ⟨i, unhide HS1⟩).mono ?_
  rintro e w2 ⟨rfl, ⟨j, hs2⟩, hk2⟩
  have HS2 := hide hs2
  have HK2 := hide ((unhide HK1).trans hk2)
  have hb0 := blk_kb hk2 (unhide HB01) (by simp; omega)
  have hb1 := blk_kb hk2 (unhide HB11) (by simp; omega)
  have hz0 : w.heap.size < w2.heap.size := blk_lt' hb0
  have hz1 : w.heap.size + 1 < w2.heap.size := blk_lt' hb1
  have r := blkA' hb0
  have x := blkX' hb0
  have y := blkA' hb1
  clear hs2 hk2 hb0 hb1 k0 k1 k2 c0 c1
  go_wp2_with fail
  refine (is_any _ rb tb cap s L j e1 p1 _ ((unhide HS2).below ((Below.refl _ _).alloc (Nat.le_refl _) _))).mono ?_
  rintro e w3 ⟨rfl, n, rfl⟩
  go_wp2_with fail
  refine bodyPost_ret (v := .agg #[.int .i64 q, .string (Parl.hd (L.drop i)).text, .int .i64 0, .slice none 0 0]) (by simp [results, Tryz.results149, go_sem, hz0, r]) rfl ?_
  exact ⟨⟨q, (Parl.hd (L.drop i)).text, 0, none, 0, 0⟩, rfl, ⟨j, SB.box (((unhide HS2).below ((Below.refl _ _).alloc (Nat.le_refl _) _)).draws n) (by omega) (by omega) _ _ _ _⟩, (((unhide HK2).alloc _).drewN n).onlyNew (Nat.le_refl _) _ _ _ _⟩

end Go.Proofs.YthfjnfcekeknlaaGreatDoor
namespace Go.Proofs.YthfjnfcekeknlaaGreatDoor
open Go.RowKit

set_option maxHeartbeats 4000000 in
set_option maxRecDepth 100000 in
theorem trm_err_var (w : World) (rb tb cap : Nat) (s : ByteArray) (L : List Parl.Tok) (i : Nat) (e1 p1 : Int) (d : Nat) (h : SB w rb tb cap s L i e1 p1) (hkk : (Parl.hd (L.drop i)).kind = 3) (hd8 : d ≤ 8) (he : e1 ≠ 0) :
    Calls Tryz.prog 149 #[.pointer (some ⟨rb, 0, none⟩), .int .i64 (d : Int)] w fun e w' => PErrB rb tb cap s L e1 p1 w e w' := by
  obtain ⟨hS, hK, hB0, hB1⟩ := term_boxes (Parl.hd (L.drop i)) h
  unfold boxRB boxTB at hS hK hB0 hB1
  have HS := hide hS
  have HK := hide hK
  have HB0 := hide hB0
  have HB1 := hide hB1
  have hlt := h.hlt
  have htl := h.tblt
  have hk5 := h.kind
  have hz := h.tsize
  clear hS hK hB0 hB1
  obtain ⟨k0, k1, k2⟩ := h.tok
  obtain ⟨c0, c1, c2, c3, f1, f2, f3, own, ne, lt, chain, few, kinds, hlt'⟩ := h
  clear own chain kinds f1 f2 f3 c2 c3
  have hq : bk (Parl.hd (L.drop i)).kind = 2 := by rw [hkk]; rfl
  rw [hq] at k0 HB1 HS HK HB0
  clear hkk hk5 hq
  have HE := hide he
  clear he
  go_enter Tryz.func149, Tryz.ntmps149
  go_wp2_with fail
  go_big_region
  go_wp2_with fail
  refine (pass_any _ rb tb cap s L e1 p1 ⟨i, unhide HS⟩).mono ?_
  rintro e w2 ⟨rfl, ⟨j, hs2⟩, hk2⟩
  have HS2 := hide hs2
  have HK2 := hide ((unhide HK).trans hk2)
  have hb0 := blk_kb hk2 (unhide HB0) (by simp; omega)
  have hb1 := blk_kb hk2 (unhide HB1) (by simp; omega)
  have hz0 : w.heap.size < w2.heap.size := blk_lt' hb0
  have hz1 : w.heap.size + 1 < w2.heap.size := blk_lt' hb1
  have r := blkA' hb0
  have x := blkX' hb0
  have y := blkA' hb1
  clear hs2 hk2 hb0 hb1 k0 k1 k2 c0 c1
  go_wp2_with fail
  refine (is_any _ rb tb cap s L j e1 p1 _ ((unhide HS2).below ((Below.refl _ _).alloc (Nat.le_refl _) _))).mono ?_
  rintro e w3 ⟨rfl, n, rfl⟩
  go_wp2_with fail
  refine bodyPost_ret (v := .agg #[.int .i64 2, .string (Parl.hd (L.drop i)).text, .int .i64 0, .slice none 0 0]) (by simp [results, Tryz.results149, go_sem, hz0, r]) rfl ?_
  exact ⟨⟨2, (Parl.hd (L.drop i)).text, 0, none, 0, 0⟩, rfl, ⟨j, SB.box (((unhide HS2).below ((Below.refl _ _).alloc (Nat.le_refl _) _)).draws n) (by omega) (by omega) _ _ _ _⟩, (((unhide HK2).alloc _).drewN n).onlyNew (Nat.le_refl _) _ _ _ _⟩

set_option maxHeartbeats 4000000 in
set_option maxRecDepth 100000 in
theorem trm_err_num (w : World) (rb tb cap : Nat) (s : ByteArray) (L : List Parl.Tok) (i : Nat) (e1 p1 : Int) (d : Nat) (h : SB w rb tb cap s L i e1 p1) (hkk : (Parl.hd (L.drop i)).kind = 4) (hd8 : d ≤ 8) (h6 : (Parl.hd (L.drop i)).text.size ≤ 6) (he : e1 ≠ 0) :
    Calls Tryz.prog 149 #[.pointer (some ⟨rb, 0, none⟩), .int .i64 (d : Int)] w fun e w' => PErrB rb tb cap s L e1 p1 w e w' := by
  obtain ⟨hS, hK, hB0, hB1⟩ := term_boxes (Parl.hd (L.drop i)) h
  unfold boxRB boxTB at hS hK hB0 hB1
  have HS := hide hS
  have HK := hide hK
  have HB0 := hide hB0
  have HB1 := hide hB1
  have hlt := h.hlt
  have htl := h.tblt
  have hk5 := h.kind
  have hz := h.tsize
  clear hS hK hB0 hB1
  obtain ⟨k0, k1, k2⟩ := h.tok
  obtain ⟨c0, c1, c2, c3, f1, f2, f3, own, ne, lt, chain, few, kinds, hlt'⟩ := h
  clear own chain kinds f1 f2 f3 c2 c3
  have hq : bk (Parl.hd (L.drop i)).kind = 3 := by rw [hkk]; rfl
  rw [hq] at k0 HB1 HS HK HB0
  clear hkk hk5 hq
  have HE := hide he
  clear he
  go_enter Tryz.func149, Tryz.ntmps149
  go_wp2_with fail
  go_big_region
  go_wp2_with fail
  refine (pass_any _ rb tb cap s L e1 p1 ⟨i, unhide HS⟩).mono ?_
  rintro e w2 ⟨rfl, ⟨j, hs2⟩, hk2⟩
  have HS2 := hide hs2
  have HK2 := hide ((unhide HK).trans hk2)
  have hb0 := blk_kb hk2 (unhide HB0) (by simp; omega)
  have hb1 := blk_kb hk2 (unhide HB1) (by simp; omega)
  have hz0 : w.heap.size < w2.heap.size := blk_lt' hb0
  have hz1 : w.heap.size + 1 < w2.heap.size := blk_lt' hb1
  have r := blkA' hb0
  have x := blkX' hb0
  have y := blkA' hb1
  clear hs2 hk2 hb0 hb1 k0 k1 k2 c0 c1
  go_wp2_with fail
  refine (number_any _ _ hz).mono ?_
  rintro e w3 ⟨⟨n, rfl⟩, rfl⟩
  go_wp2_with fail
  refine bodyPost_ret (v := .agg #[.int .i64 3, .string ⟨#[]⟩, .int .i64 n, .slice none 0 0]) (by simp [results, Tryz.results149, go_sem, hz0, r]) rfl ?_
  exact ⟨⟨3, ⟨#[]⟩, n, none, 0, 0⟩, rfl, ⟨j, (SB.box (unhide HS2) (by omega) (by omega) _ _ _ _).below ((Below.refl _ _).alloc (Nat.le_refl _) _)⟩, ((unhide HK2).onlyNew (Nat.le_refl _) _ _ _ _).alloc _⟩

set_option maxHeartbeats 4000000 in
set_option maxRecDepth 100000 in
theorem trm_err_name (w : World) (rb tb cap : Nat) (s : ByteArray) (L : List Parl.Tok) (i : Nat) (e1 p1 : Int) (d : Nat) (h : SB w rb tb cap s L i e1 p1) (hkk : (Parl.hd (L.drop i)).kind = 2) (hd8 : d ≤ 8) (he : e1 ≠ 0) :
    Calls Tryz.prog 149 #[.pointer (some ⟨rb, 0, none⟩), .int .i64 (d : Int)] w fun e w' => PErrB rb tb cap s L e1 p1 w e w' := by
  obtain ⟨hS, hK, hB0, hB1⟩ := term_boxes (Parl.hd (L.drop i)) h
  unfold boxRB boxTB at hS hK hB0 hB1
  have HS := hide hS
  have HK := hide hK
  have HB0 := hide hB0
  have HB1 := hide hB1
  have hlt := h.hlt
  have htl := h.tblt
  have hk5 := h.kind
  have hz := h.tsize
  clear hS hK hB0 hB1
  obtain ⟨k0, k1, k2⟩ := h.tok
  obtain ⟨c0, c1, c2, c3, f1, f2, f3, own, ne, lt, chain, few, kinds, hlt'⟩ := h
  clear own chain kinds f1 f2 f3 c2 c3
  have hq : bk (Parl.hd (L.drop i)).kind = 1 := by rw [hkk]; rfl
  rw [hq] at k0 HB1 HS HK HB0
  clear hkk hk5 hq
  have HE := hide he
  clear he
  go_enter Tryz.func149, Tryz.ntmps149
  go_wp2_with fail
  go_big_region
  go_wp2_with fail
  refine (pass_any _ rb tb cap s L e1 p1 ⟨i, unhide HS⟩).mono ?_
  rintro e w2 ⟨rfl, ⟨j, hs2⟩, hk2⟩
  have HS2 := hide hs2
  have HK2 := hide ((unhide HK).trans hk2)
  have hb0 := blk_kb hk2 (unhide HB0) (by simp; omega)
  have hb1 := blk_kb hk2 (unhide HB1) (by simp; omega)
  have hz0 : w.heap.size < w2.heap.size := blk_lt' hb0
  have hz1 : w.heap.size + 1 < w2.heap.size := blk_lt' hb1
  have r := blkA' hb0
  have x := blkX' hb0
  have y := blkA' hb1
  clear hs2 hk2 hb0 hb1 k0 k1 k2 c0 c1
  go_wp2_with fail
  have d2 : ∀ o, (w2.alloc o).cell? ⟨rb, 2, none⟩ = some (.int .i64 e1) := fun o => ((unhide HS2).below ((Below.refl _ _).alloc (Nat.le_refl _) o)).c2
  have he1 : (e1 != 0) = true := by simpa using unhide HE
  refine (is_any _ rb tb cap s L j e1 p1 _ ((unhide HS2).below ((Below.refl _ _).alloc (Nat.le_refl _) _))).mono ?_
  rintro e w3 ⟨rfl, n, rfl⟩
  generalize Parl.sees (L.drop j) _ = bb
  cases bb
  all_goals
    go_wp2_with fail
    refine bodyPost_ret (v := .agg #[.int .i64 1, .string (Parl.hd (L.drop i)).text, .int .i64 0, .slice none 0 0]) (by simp [results, Tryz.results149, go_sem, hz0, r]) rfl ?_
    exact ⟨⟨1, (Parl.hd (L.drop i)).text, 0, none, 0, 0⟩, rfl, ⟨j, SB.box (((unhide HS2).below ((Below.refl _ _).alloc (Nat.le_refl _) _)).draws n) (by omega) (by omega) _ _ _ _⟩, (((unhide HK2).alloc _).drewN n).onlyNew (Nat.le_refl _) _ _ _ _⟩

end Go.Proofs.YthfjnfcekeknlaaGreatDoor
namespace Go.Proofs.YthfjnfcekeknlaaGreatDoor
open Go.RowKit

set_option maxHeartbeats 4000000 in
set_option maxRecDepth 100000 in
theorem trm_deep_var (w : World) (rb tb cap : Nat) (s : ByteArray) (L : List Parl.Tok) (i : Nat) (e0 p0 : Int) (d : Nat) (h : SB w rb tb cap s L i e0 p0) (hkk : (Parl.hd (L.drop i)).kind = 3) (hb : 8 < d) :
    Calls Tryz.prog 149 #[.pointer (some ⟨rb, 0, none⟩), .int .i64 (d : Int)] w fun e w' => PErrB rb tb cap s L (if e0 = 0 then 3 else e0) (if e0 = 0 then ((Parl.hd (L.drop i)).pos : Int) else p0) w e w' := by
  obtain ⟨hS, hK, hB0, hB1⟩ := term_boxes (Parl.hd (L.drop i)) h
  unfold boxRB boxTB at hS hK hB0 hB1
  have HS := hide hS
  have HK := hide hK
  have HB0 := hide hB0
  have HB1 := hide hB1
  have hlt := h.hlt
  have htl := h.tblt
  have hk5 := h.kind
  have hz := h.tsize
  clear hS hK hB0 hB1
  obtain ⟨k0, k1, k2⟩ := h.tok
  obtain ⟨c0, c1, c2, c3, f1, f2, f3, own, ne, lt, chain, few, kinds, hlt'⟩ := h
  clear own chain kinds f1 f2 f3 c2 c3
  have BAD := hide (fun W (hW : SB W rb tb cap s L i e0 p0) => bad_any W rb tb cap s L i e0 p0 3 hW)
  have HE := hide (mix_ne (e0 := e0) (er := 3) (by omega))
  generalize (if e0 = 0 then (3 : Int) else e0) = e1 at BAD HE ⊢
  generalize (if e0 = 0 then ((Parl.hd (L.drop i)).pos : Int) else p0) = p1 at BAD ⊢
  have hq : bk (Parl.hd (L.drop i)).kind = 2 := by rw [hkk]; rfl
  rw [hq] at k0 HB1 HS HK HB0
  clear hkk hk5 hq
  go_enter Tryz.func149, Tryz.ntmps149
  go_wp2_with fail
  go_big_region
  go_wp2_with fail
  refine (unhide BAD _ (unhide HS)).mono ?_
  rintro e w1 ⟨rfl, hs1, hk1⟩
  have HS1 := hide hs1
  have HK1 := hide ((unhide HK).trans hk1)
  have HB01 := hide (blk_kb hk1 (unhide HB0) (by simp; omega))
  have HB11 := hide (blk_kb hk1 (unhide HB1) (by simp; omega))
  clear hs1 hk1
  go_wp2_with fail
  refine (pass_any _ rb tb cap s L e1 p1 ⟨i, unhide HS1⟩).mono ?_
  rintro e w2 ⟨rfl, ⟨j, hs2⟩, hk2⟩
  have HS2 := hide hs2
  have HK2 := hide ((unhide HK1).trans hk2)
  have hb0 := blk_kb hk2 (unhide HB01) (by simp; omega)
  have hb1 := blk_kb hk2 (unhide HB11) (by simp; omega)
  have hz0 : w.heap.size < w2.heap.size := blk_lt' hb0
  have hz1 : w.heap.size + 1 < w2.heap.size := blk_lt' hb1
  have r := blkA' hb0
  have x := blkX' hb0
  have y := blkA' hb1
  clear hs2 hk2 hb0 hb1 k0 k1 k2 c0 c1
  go_wp2_with fail
  refine (is_any _ rb tb cap s L j e1 p1 _ ((unhide HS2).below ((Below.refl _ _).alloc (Nat.le_refl _) _))).mono ?_
  rintro e w3 ⟨rfl, n, rfl⟩
  go_wp2_with fail
  refine bodyPost_ret (v := .agg #[.int .i64 2, .string (Parl.hd (L.drop i)).text, .int .i64 0, .slice none 0 0]) (by simp [results, Tryz.results149, go_sem, hz0, r]) rfl ?_
  exact ⟨⟨2, (Parl.hd (L.drop i)).text, 0, none, 0, 0⟩, rfl, ⟨j, SB.box (((unhide HS2).below ((Below.refl _ _).alloc (Nat.le_refl _) _)).draws n) (by omega) (by omega) _ _ _ _⟩, (((unhide HK2).alloc _).drewN n).onlyNew (Nat.le_refl _) _ _ _ _⟩

set_option maxHeartbeats 4000000 in
set_option maxRecDepth 100000 in
theorem trm_deep_name (w : World) (rb tb cap : Nat) (s : ByteArray) (L : List Parl.Tok) (i : Nat) (e0 p0 : Int) (d : Nat) (h : SB w rb tb cap s L i e0 p0) (hkk : (Parl.hd (L.drop i)).kind = 2) (hb : 8 < d) :
    Calls Tryz.prog 149 #[.pointer (some ⟨rb, 0, none⟩), .int .i64 (d : Int)] w fun e w' => PErrB rb tb cap s L (if e0 = 0 then 3 else e0) (if e0 = 0 then ((Parl.hd (L.drop i)).pos : Int) else p0) w e w' := by
  obtain ⟨hS, hK, hB0, hB1⟩ := term_boxes (Parl.hd (L.drop i)) h
  unfold boxRB boxTB at hS hK hB0 hB1
  have HS := hide hS
  have HK := hide hK
  have HB0 := hide hB0
  have HB1 := hide hB1
  have hlt := h.hlt
  have htl := h.tblt
  have hk5 := h.kind
  have hz := h.tsize
  clear hS hK hB0 hB1
  obtain ⟨k0, k1, k2⟩ := h.tok
  obtain ⟨c0, c1, c2, c3, f1, f2, f3, own, ne, lt, chain, few, kinds, hlt'⟩ := h
  clear own chain kinds f1 f2 f3 c2 c3
  have BAD := hide (fun W (hW : SB W rb tb cap s L i e0 p0) => bad_any W rb tb cap s L i e0 p0 3 hW)
  have HE := hide (mix_ne (e0 := e0) (er := 3) (by omega))
  generalize (if e0 = 0 then (3 : Int) else e0) = e1 at BAD HE ⊢
  generalize (if e0 = 0 then ((Parl.hd (L.drop i)).pos : Int) else p0) = p1 at BAD ⊢
  have hq : bk (Parl.hd (L.drop i)).kind = 1 := by rw [hkk]; rfl
  rw [hq] at k0 HB1 HS HK HB0
  clear hkk hk5 hq
  go_enter Tryz.func149, Tryz.ntmps149
  go_wp2_with fail
  go_big_region
  go_wp2_with fail
  refine (unhide BAD _ (unhide HS)).mono ?_
  rintro e w1 ⟨rfl, hs1, hk1⟩
  have HS1 := hide hs1
  have HK1 := hide ((unhide HK).trans hk1)
  have HB01 := hide (blk_kb hk1 (unhide HB0) (by simp; omega))
  have HB11 := hide (blk_kb hk1 (unhide HB1) (by simp; omega))
  clear hs1 hk1
  go_wp2_with fail
  refine (pass_any _ rb tb cap s L e1 p1 ⟨i, unhide HS1⟩).mono ?_
  rintro e w2 ⟨rfl, ⟨j, hs2⟩, hk2⟩
  have HS2 := hide hs2
  have HK2 := hide ((unhide HK1).trans hk2)
  have hb0 := blk_kb hk2 (unhide HB01) (by simp; omega)
  have hb1 := blk_kb hk2 (unhide HB11) (by simp; omega)
  have hz0 : w.heap.size < w2.heap.size := blk_lt' hb0
  have hz1 : w.heap.size + 1 < w2.heap.size := blk_lt' hb1
  have r := blkA' hb0
  have x := blkX' hb0
  have y := blkA' hb1
  clear hs2 hk2 hb0 hb1 k0 k1 k2 c0 c1
  go_wp2_with fail
  have d2 : ∀ o, (w2.alloc o).cell? ⟨rb, 2, none⟩ = some (.int .i64 e1) := fun o => ((unhide HS2).below ((Below.refl _ _).alloc (Nat.le_refl _) o)).c2
  have he1 : (e1 != 0) = true := by simpa using unhide HE
  refine (is_any _ rb tb cap s L j e1 p1 _ ((unhide HS2).below ((Below.refl _ _).alloc (Nat.le_refl _) _))).mono ?_
  rintro e w3 ⟨rfl, n, rfl⟩
  generalize Parl.sees (L.drop j) _ = bb
  cases bb
  all_goals
    go_wp2_with fail
    refine bodyPost_ret (v := .agg #[.int .i64 1, .string (Parl.hd (L.drop i)).text, .int .i64 0, .slice none 0 0]) (by simp [results, Tryz.results149, go_sem, hz0, r]) rfl ?_
    exact ⟨⟨1, (Parl.hd (L.drop i)).text, 0, none, 0, 0⟩, rfl, ⟨j, SB.box (((unhide HS2).below ((Below.refl _ _).alloc (Nat.le_refl _) _)).draws n) (by omega) (by omega) _ _ _ _⟩, (((unhide HK2).alloc _).drewN n).onlyNew (Nat.le_refl _) _ _ _ _⟩

end Go.Proofs.YthfjnfcekeknlaaGreatDoor
namespace Go.Proofs.YthfjnfcekeknlaaGreatDoor
open Go.RowKit

set_option maxHeartbeats 4000000 in
set_option maxRecDepth 100000 in
theorem trm_deep_num (w : World) (rb tb cap : Nat) (s : ByteArray) (L : List Parl.Tok) (i : Nat) (e0 p0 : Int) (d : Nat) (h : SB w rb tb cap s L i e0 p0) (hkk : (Parl.hd (L.drop i)).kind = 4) (hb : 6 < (Parl.hd (L.drop i)).text.size ∨ 8 < d) :
    Calls Tryz.prog 149 #[.pointer (some ⟨rb, 0, none⟩), .int .i64 (d : Int)] w fun e w' => PErrB rb tb cap s L (if e0 = 0 then 3 else e0) (if e0 = 0 then ((Parl.hd (L.drop i)).pos : Int) else p0) w e w' := by
  obtain ⟨hS, hK, hB0, hB1⟩ := term_boxes (Parl.hd (L.drop i)) h
  unfold boxRB boxTB at hS hK hB0 hB1
  have HS := hide hS
  have HK := hide hK
  have HB0 := hide hB0
  have HB1 := hide hB1
  have hlt := h.hlt
  have htl := h.tblt
  have hk5 := h.kind
  have hz := h.tsize
  clear hS hK hB0 hB1
  obtain ⟨k0, k1, k2⟩ := h.tok
  obtain ⟨c0, c1, c2, c3, f1, f2, f3, own, ne, lt, chain, few, kinds, hlt'⟩ := h
  clear own chain kinds f1 f2 f3 c2 c3
  have BAD := hide (fun W (hW : SB W rb tb cap s L i e0 p0) => bad_any W rb tb cap s L i e0 p0 3 hW)
  have HE := hide (mix_ne (e0 := e0) (er := 3) (by omega))
  generalize (if e0 = 0 then (3 : Int) else e0) = e1 at BAD HE ⊢
  generalize (if e0 = 0 then ((Parl.hd (L.drop i)).pos : Int) else p0) = p1 at BAD ⊢
  have hq : bk (Parl.hd (L.drop i)).kind = 3 := by rw [hkk]; rfl
  rw [hq] at k0 HB1 HS HK HB0
  clear hkk hk5 hq
  have hcc : 8 < d ∨ (¬ 8 < d ∧ 6 < (Parl.hd (L.drop i)).text.size) := by omega
  clear hb
  generalize (Parl.hd (L.drop i)).text = tx at *
  generalize (Parl.hd (L.drop i)).pos = ps at *
  rcases hcc with hcc | ⟨hcc, hcc2⟩
  · go_enter Tryz.func149, Tryz.ntmps149
    go_wp2_with fail
    go_big_region
    go_wp2_with fail
    refine (unhide BAD _ (unhide HS)).mono ?_
    rintro e w1 ⟨rfl, hs1, hk1⟩
    have HS1 := hide hs1
    have HK1 := hide ((unhide HK).trans hk1)
    have HB01 := hide (blk_kb hk1 (unhide HB0) (by simp; omega))
    have HB11 := hide (blk_kb hk1 (unhide HB1) (by simp; omega))
    clear hs1 hk1
    go_wp2_with fail
    refine (pass_any _ rb tb cap s L e1 p1 ⟨i, unhide HS1⟩).mono ?_
    rintro e w2 ⟨rfl, ⟨j, hs2⟩, hk2⟩
    have HS2 := hide hs2
    have HK2 := hide ((unhide HK1).trans hk2)
    have hb0 := blk_kb hk2 (unhide HB01) (by simp; omega)
    have hb1 := blk_kb hk2 (unhide HB11) (by simp; omega)
    have hz0 : w.heap.size < w2.heap.size := blk_lt' hb0
    have hz1 : w.heap.size + 1 < w2.heap.size := blk_lt' hb1
    have r := blkA' hb0
    have x := blkX' hb0
    have y := blkA' hb1
    clear hs2 hk2 hb0 hb1 k0 k1 k2 c0 c1
    go_wp2_with fail
    refine (number_any _ _ hz).mono ?_
    rintro e w3 ⟨⟨n, rfl⟩, rfl⟩
    go_wp2_with fail
    refine bodyPost_ret (v := .agg #[.int .i64 3, .string ⟨#[]⟩, .int .i64 n, .slice none 0 0]) (by simp [results, Tryz.results149, go_sem, hz0, r]) rfl ?_
    exact ⟨⟨3, ⟨#[]⟩, n, none, 0, 0⟩, rfl, ⟨j, (SB.box (unhide HS2) (by omega) (by omega) _ _ _ _).below ((Below.refl _ _).alloc (Nat.le_refl _) _)⟩, ((unhide HK2).onlyNew (Nat.le_refl _) _ _ _ _).alloc _⟩
  · go_enter Tryz.func149, Tryz.ntmps149
    go_wp2_with fail
    go_big_region
    go_wp2_with fail
    refine (unhide BAD _ (unhide HS)).mono ?_
    rintro e w1 ⟨rfl, hs1, hk1⟩
    have HS1 := hide hs1
    have HK1 := hide ((unhide HK).trans hk1)
    have HB01 := hide (blk_kb hk1 (unhide HB0) (by simp; omega))
    have HB11 := hide (blk_kb hk1 (unhide HB1) (by simp; omega))
    clear hs1 hk1
    go_wp2_with fail
    refine (pass_any _ rb tb cap s L e1 p1 ⟨i, unhide HS1⟩).mono ?_
    rintro e w2 ⟨rfl, ⟨j, hs2⟩, hk2⟩
    have HS2 := hide hs2
    have HK2 := hide ((unhide HK1).trans hk2)
    have hb0 := blk_kb hk2 (unhide HB01) (by simp; omega)
    have hb1 := blk_kb hk2 (unhide HB11) (by simp; omega)
    have hz0 : w.heap.size < w2.heap.size := blk_lt' hb0
    have hz1 : w.heap.size + 1 < w2.heap.size := blk_lt' hb1
    have r := blkA' hb0
    have x := blkX' hb0
    have y := blkA' hb1
    clear hs2 hk2 hb0 hb1 k0 k1 k2 c0 c1
    go_wp2_with fail
    refine (number_any _ _ hz).mono ?_
    rintro e w3 ⟨⟨n, rfl⟩, rfl⟩
    go_wp2_with fail
    refine bodyPost_ret (v := .agg #[.int .i64 3, .string ⟨#[]⟩, .int .i64 n, .slice none 0 0]) (by simp [results, Tryz.results149, go_sem, hz0, r]) rfl ?_
    exact ⟨⟨3, ⟨#[]⟩, n, none, 0, 0⟩, rfl, ⟨j, (SB.box (unhide HS2) (by omega) (by omega) _ _ _ _).below ((Below.refl _ _).alloc (Nat.le_refl _) _)⟩, ((unhide HK2).onlyNew (Nat.le_refl _) _ _ _ _).alloc _⟩

end Go.Proofs.YthfjnfcekeknlaaGreatDoor
namespace Go.Proofs.YthfjnfcekeknlaaGreatDoor
open Go.RowKit

def mayR (d : Nat) (t : Parl.Tok) : Nat := if Parl.begins t = true then (if t.kind = 4 ∧ 6 < t.text.size ∨ 8 < d then 3 else 0) else 2

/-- Whatever stands there: where it may not, that is wrong. -/
theorem trm_bad (w : World) (rb tb cap : Nat) (s : ByteArray) (L : List Parl.Tok) (i : Nat) (e0 p0 : Int) (d : Nat) (h : SB w rb tb cap s L i e0 p0) (hm : mayR d (Parl.hd (L.drop i)) ≠ 0) :
    Calls Tryz.prog 149 #[.pointer (some ⟨rb, 0, none⟩), .int .i64 (d : Int)] w fun e w' => PErrB rb tb cap s L (if e0 = 0 then (mayR d (Parl.hd (L.drop i)) : Int) else e0) (if e0 = 0 then ((Parl.hd (L.drop i)).pos : Int) else p0) w e w' := by
  by_cases hk : (Parl.hd (L.drop i)).kind = 2 ∨ (Parl.hd (L.drop i)).kind = 3 ∨ (Parl.hd (L.drop i)).kind = 4
  · have hb : Parl.begins (Parl.hd (L.drop i)) = true := by simp [Parl.begins]; omega
    by_cases hc : (Parl.hd (L.drop i)).kind = 4 ∧ 6 < (Parl.hd (L.drop i)).text.size ∨ 8 < d
    · rw [show mayR d (Parl.hd (L.drop i)) = 3 by unfold mayR; rw [if_pos hb, if_pos hc]]
      rcases hk with hk | hk | hk
      · exact trm_deep_name w rb tb cap s L i e0 p0 d h hk (by omega)
      · exact trm_deep_var w rb tb cap s L i e0 p0 d h hk (by omega)
      · exact trm_deep_num w rb tb cap s L i e0 p0 d h hk (by omega)
    · exact absurd (show mayR d (Parl.hd (L.drop i)) = 0 by unfold mayR; rw [if_pos hb, if_neg hc]) hm
  · have hb : ¬ Parl.begins (Parl.hd (L.drop i)) = true := by simp [Parl.begins]; omega
    rw [show mayR d (Parl.hd (L.drop i)) = 2 by unfold mayR; rw [if_neg hb]]
    exact trm_nobegin w rb tb cap s L i e0 p0 d h hk
/-- Behind an error. -/
theorem trm_err (w : World) (rb tb cap : Nat) (s : ByteArray) (L : List Parl.Tok) (e0 p0 : Int) (d : Nat) (h : EB w rb tb cap s L e0 p0) (he : e0 ≠ 0) :
    Calls Tryz.prog 149 #[.pointer (some ⟨rb, 0, none⟩), .int .i64 (d : Int)] w fun e w' => PErrB rb tb cap s L e0 p0 w e w' := by
  obtain ⟨i, h⟩ := h
  by_cases hm : mayR d (Parl.hd (L.drop i)) = 0
  · have hb : Parl.begins (Parl.hd (L.drop i)) = true := by
      unfold mayR at hm
      by_cases hb : Parl.begins (Parl.hd (L.drop i)) = true
      · exact hb
      · rw [if_neg hb] at hm; omega
    have hc : ¬ ((Parl.hd (L.drop i)).kind = 4 ∧ 6 < (Parl.hd (L.drop i)).text.size ∨ 8 < d) := fun q => by unfold mayR at hm; rw [if_pos hb, if_pos q] at hm; omega
    rcases (show (Parl.hd (L.drop i)).kind = 2 ∨ (Parl.hd (L.drop i)).kind = 3 ∨ (Parl.hd (L.drop i)).kind = 4 by simpa [Parl.begins, or_assoc] using hb) with hk | hk | hk
    · exact trm_err_name w rb tb cap s L i e0 p0 d h hk (by omega) he
    · exact trm_err_var w rb tb cap s L i e0 p0 d h hk (by omega) he
    · exact trm_err_num w rb tb cap s L i e0 p0 d h hk (by omega) (by omega) he
  · have := trm_bad w rb tb cap s L i e0 p0 d h hm
    rw [if_neg he, if_neg he] at this
    exact this
end Go.Proofs.YthfjnfcekeknlaaGreatDoor
