import Derived.Test.YthfjnfcekeknlaaDoorF01
import Derived.Test.YthfjnfcekeknlaaDoorF03
namespace Parl
/-- The error of one text as a term. -/
def erS (s : ByteArray) (l : List Tok) : Nat := if 64 < s.size then 1 else erT (whole l)
def fe (a b : Nat) : Nat := if a = 0 ∨ b = 1 then b else a
theorem whole_err2 {l : List Tok} {er ps : Nat} (h : whole l = .inl (er, ps)) : er = 2 ∨ er = 3 := by
  unfold whole at h
  rcases hq : term 8 l with e | ⟨t, l1⟩
  · rw [hq] at h
    cases h
    exact term_err 8 l _ hq
  · rw [hq] at h
    dsimp only at h
    split at h
    · cases h
    · cases h; omega
theorem erT_is (l : List Tok) : erT (whole l) = 0 ∨ erT (whole l) = 2 ∨ erT (whole l) = 3 := by
  rcases hq : whole l with ⟨e, p⟩ | x
  · right
    exact whole_err2 hq
  · left; rfl
theorem fe_both (a b : ByteArray) (la lb : List Tok) : fe (erS a la) (erS b lb) = bothE a b la lb := by
  have ha := erT_is la
  have hb := erT_is lb
  unfold fe erS bothE
  by_cases h1 : 64 < a.size
  · rw [if_pos h1, if_pos (Or.inl h1)]
    by_cases h2 : 64 < b.size
    · rw [if_pos h2]; simp
    · rw [if_neg h2, if_neg (by omega)]
  · rw [if_neg h1]
    by_cases h2 : 64 < b.size
    · rw [if_pos h2, if_pos (Or.inr rfl), if_pos (Or.inr h2)]
    · rw [if_neg h2, if_neg (show ¬ (64 < a.size ∨ 64 < b.size) by omega)]
      rcases hq : whole la with ⟨e, p⟩ | x
      · rw [hq] at ha
        have := whole_err2 hq
        show (if e = 0 ∨ erT (whole lb) = 1 then erT (whole lb) else e) = e
        rw [if_neg (by omega)]
      · show (if (0 : Nat) = 0 ∨ erT (whole lb) = 1 then erT (whole lb) else 0) = erT (whole lb)
        rw [if_pos (Or.inl rfl)]
end Parl
namespace Go.Proofs.YthfjnfcekeknlaaDoor
open Go.RowKit

set_option maxHeartbeats 1000000 in
theorem firstError_any (w : World) (a b : Nat) :
    Calls Tryd.prog 24 #[.int .i64 (a : Int), .int .i64 (b : Int)] w fun e w' => e = .returned (.int .i64 (Parl.fe a b : Int)) ∧ w' = w := by
  by_cases h1 : a = 0
  · subst h1
    go_enter Tryd.func24, Tryd.ntmps24
    go_wp2_with fail
    go_ret
    exact ⟨by simp [Parl.fe], rfl⟩
  · have t1 : ((a : Int) == 0) = false := by simpa using h1
    by_cases h2 : b = 1
    · subst h2
      have HS := hide (show Parl.fe a 1 = 1 by simp [Parl.fe])
      clear h1
      go_enter Tryd.func24, Tryd.ntmps24
      go_wp2_with fail
      go_ret
      exact ⟨by rw [unhide HS]; rfl, rfl⟩
    · have t2 : ((b : Int) == 1) = false := by simp; omega
      have HS := hide (show Parl.fe a b = a by unfold Parl.fe; rw [if_neg (by omega)])
      clear h1 h2
      go_enter Tryd.func24, Tryd.ntmps24
      go_wp2_with fail
      go_ret
      exact ⟨by rw [unhide HS]; rfl, rfl⟩
/-- What read.Term answers, of any text. -/
def PRd (s : ByteArray) (L : List Parl.Tok) (w : World) (e : Ending) (w' : World) : Prop :=
  ∃ (a : AV) (no : Option Addr) (nl nc : Nat), e = .returned (.agg #[.int .i64 a.k, .int .i64 a.val, .string a.tx, .slice a.ao a.n a.cap, .slice no nl nc, .int .i64 (Parl.erS s L : Int)]) ∧
    (∀ t l1, s.size ≤ 64 → Parl.whole L = .inr (t, l1) → ∃ ns : List ByteArray, RA 8 (nmsA ns) anyA w' a t ∧ nmsA ns = Parl.namesF 8 [] t ∧ w'.ownsRow w.heap.size 9 1 (.slice no nl nc) ns.length (ns.map Value.string)) ∧ Below w.heap.size w w'
theorem rd_any (w : World) (s : ByteArray) (L : List Parl.Tok) (hL : Parl.Chain s L) (hh : Parl.hd L = Parl.next s 0) (hl : s.size ≤ 64 → L.length ≤ 1000) (hsg : Signs w) (h0 : 0 < w.heap.size) :
    Calls Tryd.prog 23 #[.string s] w fun e w' => PRd s L w e w' := by
  by_cases hs : 64 < s.size
  · refine (rt_long w s hs).mono ?_
    rintro e w' ⟨rfl, hb⟩
    exact ⟨⟨0, 0, ⟨#[]⟩, none, 0, 0⟩, none, 0, 0, by unfold Parl.erS; rw [if_pos hs]; rfl, fun _ _ h => absurd h (by omega), hb⟩
  · refine (rt_any w s L (by omega) hL hh (hl (by omega)) hsg h0).mono ?_
    rintro e w' ⟨a, no, nl, nc, rfl, hr, hb⟩
    refine ⟨a, no, nl, nc, by unfold Parl.erS; rw [if_neg hs], fun t l1 _ h => ?_, hb⟩
    rw [h] at hr
    exact hr

end Go.Proofs.YthfjnfcekeknlaaDoor
