import Derived.Test.YthfjnfcekeknlaaDoorRows
import Derived.WalkKit
import Derived.WalkLawsBesides
import Derived.WalkSpells
import Derived.Lib.Strings
import Derived.Deep.QuietTactic
import Derived.BigQuiet
import Derived.Deep.RegionWith
import Derived.Laws.Strings
import Derived.Lib.ItoaNum
import Derived.OpenShut
/- The plain mathematics: tokens and the reader of the document, over lists. Nothing of the program. -/
namespace Parl

/-- The byte at a place; nought beyond the end. -/
def bAt (s : ByteArray) (i : Nat) : Nat := if h : i < s.size then (s[i]'h).toNat else 0

def low (c : Nat) : Bool := decide (97 ≤ c) && decide (c ≤ 122)
def upp (c : Nat) : Bool := decide (65 ≤ c) && decide (c ≤ 90)
def dig (c : Nat) : Bool := decide (48 ≤ c) && decide (c ≤ 57)
def blank (c : Nat) : Bool := c == 32 || c == 10

/-- The first place from i on, n places at most, that holds no blank. -/
def skipN (s : ByteArray) : Nat → Nat → Nat
  | 0, i => i
  | n + 1, i => if i < s.size ∧ blank (bAt s i) = true then skipN s n (i + 1) else i
def skip (s : ByteArray) (i : Nat) : Nat := skipN s (s.size - i) i

/-- Kinds of tokens: 0 the end, 1 no token, 2 a name, 3 a variable, 4 a number, 5 a sign. -/
def inWord (k : Nat) (c : Nat) : Bool :=
  if k = 2 then low c || dig c else if k = 3 then low c || dig c || upp c else dig c

def wordN (s : ByteArray) (k : Nat) : Nat → Nat → Nat
  | 0, i => i
  | n + 1, i => if i < s.size ∧ inWord k (bAt s i) = true then wordN s k n (i + 1) else i
def wordEnd (s : ByteArray) (k i : Nat) : Nat := wordN s k (s.size - i) i

/-- Two bytes that make a sign. -/
def longSign (a b : Nat) : Bool :=
  (a == 58 && b == 45) || (a == 58 && b == 61) || (a == 61 && b == 61) || (a == 92 && b == 61) || (a == 61 && b == 60)
def shortSign (a : Nat) : Bool :=
  a == 61 || a == 60 || a == 43 || a == 45 || a == 42 || a == 40 || a == 41 || a == 44 || a == 124 || a == 46
def signLen (s : ByteArray) (i : Nat) : Nat :=
  if i + 1 < s.size ∧ longSign (bAt s i) (bAt s (i + 1)) = true then 2
  else if i < s.size ∧ shortSign (bAt s i) = true then 1 else 0

def kindAt (s : ByteArray) (i : Nat) : Nat :=
  if s.size ≤ i then 0
  else if low (bAt s i) = true then 2
  else if upp (bAt s i) = true then 3
  else if dig (bAt s i) = true then 4
  else if 0 < signLen s i then 5 else 1

def endAt (s : ByteArray) (i : Nat) : Nat :=
  if kindAt s i = 0 then i
  else if kindAt s i = 1 then i + 1
  else if kindAt s i = 5 then i + signLen s i
  else wordEnd s (kindAt s i) i

structure Tok where
  kind : Nat
  pos : Nat
  text : ByteArray

def next (s : ByteArray) (p : Nat) : Tok :=
  let i := skip s p
  if s.size ≤ i then ⟨0, s.size, ByteArray.empty⟩ else ⟨kindAt s i, i, s.extract i (endAt s i)⟩

/-- Tokens in a row: each is the next one behind the one ahead of it; the end is the last. -/
def Chain (s : ByteArray) : List Tok → Prop
  | [] => False
  | [t] => t.kind = 0
  | t :: u :: r => t.kind ≠ 0 ∧ u = next s (t.pos + t.text.size) ∧ Chain s (u :: r)

/-- What is wrong (the error's number, the place), or a value and what is left. -/
abbrev Res (α : Type) := Sum (Nat × Nat) (α × List Tok)

def hd (l : List Tok) : Tok := l.headD ⟨0, 0, ByteArray.empty⟩
def sees (l : List Tok) (g : List UInt8) : Bool := (hd l).kind == 5 && (hd l).text.toList == g
def bad {α : Type} (e : Nat) (l : List Tok) : Res α := .inl (e, (hd l).pos)

structure Tm where
  kind : Nat
  text : ByteArray
  args : List Tm

/-- The items of a list in brackets, k more of them at most behind this one. -/
def argsOf (p : List Tok → Res Tm) : Nat → List Tok → Res (List Tm)
  | k, l =>
    match p l with
    | .inl e => .inl e
    | .inr (t, l1) =>
      if sees l1 [44] = true then
        match k with
        | 0 => bad 3 l1
        | k + 1 =>
          match argsOf p k l1.tail with
          | .inl e => .inl e
          | .inr (ts, l2) => .inr (t :: ts, l2)
      else if sees l1 [41] = true then .inr ([t], l1.tail) else bad 2 l1

def begins (t : Tok) : Bool := t.kind == 2 || t.kind == 3 || t.kind == 4

/-- A term that has f depths left. -/
def term : Nat → List Tok → Res Tm
  | 0, l => if begins (hd l) = true then bad 3 l else bad 2 l
  | f + 1, l =>
    if begins (hd l) = true then
      if (hd l).kind = 4 ∧ 6 < (hd l).text.size then bad 3 l
      else if (hd l).kind = 2 then
        if sees l.tail [40] = true then
          match argsOf (term f) 2 l.tail.tail with
          | .inl e => .inl e
          | .inr (ts, l2) => .inr (⟨2, (hd l).text, ts⟩, l2)
        else .inr (⟨2, (hd l).text, []⟩, l.tail)
      else .inr (⟨(hd l).kind, (hd l).text, []⟩, l.tail)
    else bad 2 l

structure Itm where
  left : Tm
  sign : List UInt8
  right : Option Tm
  op : List UInt8
  last : Option Tm

def testSign (l : List Tok) : Bool := sees l [60] || sees l [61, 60] || sees l [61, 61] || sees l [92, 61]
def operSign (l : List Tok) : Bool := sees l [43] || sees l [45] || sees l [42]
def isInt (t : Tm) : Bool := t.kind == 2 && t.text.toList == [105, 110, 116] && t.args.length == 1

def operand (l : List Tok) : Res Tm := if (hd l).kind = 2 then bad 2 l else term 8 l

/-- What stands behind a sign of a relation. -/
def sides (left : Tm) (fits : Bool) (l : List Tok) : Res Itm :=
  if fits = true then
    match term 8 l.tail with
    | .inl e => .inl e
    | .inr (r, l2) => .inr (⟨left, (hd l).text.toList, some r, [], none⟩, l2)
  else bad 2 l

def assignment (left : Tm) (fits : Bool) (l : List Tok) : Res Itm :=
  if fits = true then
    match operand l.tail with
    | .inl e => .inl e
    | .inr (r, l2) =>
      if operSign l2 = true then
        match operand l2.tail with
        | .inl e => .inl e
        | .inr (z, l3) => .inr (⟨left, (hd l).text.toList, some r, (hd l2).text.toList, some z⟩, l3)
      else .inr (⟨left, (hd l).text.toList, some r, [], none⟩, l2)
  else bad 2 l

/-- An item, where tests (goals) may stand; with what the list may be behind it. -/
def item (tests goals : Bool) (l : List Tok) : Res (Itm × Bool × Bool) :=
  match term 8 l with
  | .inl e => .inl e
  | .inr (t, l1) =>
    if testSign l1 = true then
      match sides t tests l1 with
      | .inl e => .inl e
      | .inr (x, l2) => .inr ((x, tests, false), l2)
    else if sees l1 [61] = true then
      match sides t goals l1 with
      | .inl e => .inl e
      | .inr (x, l2) => .inr ((x, false, goals), l2)
    else if t.kind = 3 ∧ sees l1 [58, 61] = true then
      match assignment t goals l1 with
      | .inl e => .inl e
      | .inr (x, l2) => .inr ((x, false, goals), l2)
    else if t.kind = 2 ∧ ((tests && isInt t) || goals) = true then
      .inr ((⟨t, [], none, [], none⟩, tests && isInt t, goals), l1)
    else bad 2 l1

/-- A list of items, k more of them at most behind this one. -/
def items : Nat → Bool → Bool → List Tok → Res (List Itm × Bool × Bool)
  | k, tests, goals, l =>
    match item tests goals l with
    | .inl e => .inl e
    | .inr ((x, t1, g1), l1) =>
      if sees l1 [44] = true then
        match k with
        | 0 => bad 3 l1
        | k + 1 =>
          match items k t1 g1 l1.tail with
          | .inl e => .inl e
          | .inr ((xs, t2, g2), l2) => .inr ((x :: xs, t2, g2), l2)
      else .inr (([x], t1, g1), l1)

structure Cls where
  head : Tm
  tests : List Itm
  goals : List Itm

/-- What stands behind the neck. -/
def body (l : List Tok) : Res (List Itm × List Itm) :=
  match items 5 true true l with
  | .inl e => .inl e
  | .inr ((xs, t, g), l1) =>
    if t = true ∧ sees l1 [124] = true then
      match items 5 false true l1.tail with
      | .inl e => .inl e
      | .inr ((ys, _, g2), l2) => if g2 = true then .inr ((xs, ys), l2) else bad 2 l2
    else if g = true then .inr (([], xs), l1) else bad 2 l1

def stop {α : Type} (x : α) (l : List Tok) : Res α := if sees l [46] = true then .inr (x, l.tail) else bad 2 l

/-- A clause, if one more may stand. -/
def clause (more : Bool) (l : List Tok) : Res Cls :=
  if (hd l).kind = 2 then
    if more = true then
      match term 8 l with
      | .inl e => .inl e
      | .inr (h, l1) =>
        if sees l1 [58, 45] = true then
          match body l1.tail with
          | .inl e => .inl e
          | .inr ((ts, gs), l2) => stop ⟨h, ts, gs⟩ l2
        else stop ⟨h, [], []⟩ l1
    else bad 3 l
  else bad 2 l

/-- A program, of k clauses at most. -/
def prog : Nat → List Tok → Res (List Cls)
  | k, l =>
    if (hd l).kind = 0 then .inr ([], l)
    else match k with
      | 0 => match clause false l with
        | .inl e => .inl e
        | .inr (c, l1) => .inr ([c], l1)
      | k + 1 =>
        match clause true l with
        | .inl e => .inl e
        | .inr (c, l1) =>
          match prog k l1 with
          | .inl e => .inl e
          | .inr (cs, l2) => .inr (c :: cs, l2)

end Parl
namespace Parl

theorem bAt_lt {s : ByteArray} {i : Nat} (h : i < s.size) : bAt s i = (s[i]'h).toNat := by simp [bAt, h]
theorem skip_step {s : ByteArray} {i : Nat} (h : i < s.size) (hb : blank (bAt s i) = true) : skip s i = skip s (i + 1) := by
  unfold skip
  rw [show s.size - i = (s.size - (i + 1)) + 1 by omega, skipN, if_pos ⟨h, hb⟩]

theorem skip_stop {s : ByteArray} {i : Nat} (h : ¬ (i < s.size ∧ blank (bAt s i) = true)) : skip s i = i := by
  unfold skip
  cases hn : s.size - i with
  | zero => rfl
  | succ n => rw [skipN, if_neg h]

theorem skipN_ge (s : ByteArray) (n i : Nat) : i ≤ skipN s n i := by
  induction n generalizing i with
  | zero => exact Nat.le_refl _
  | succ n ih => rw [skipN]; split
                 · have := ih (i + 1); omega
                 · omega
theorem skip_ge (s : ByteArray) (i : Nat) : i ≤ skip s i := skipN_ge _ _ _

theorem skipN_le (s : ByteArray) (n i : Nat) (h : i ≤ s.size) : skipN s n i ≤ s.size := by
  induction n generalizing i with
  | zero => exact h
  | succ n ih => rw [skipN]; split
                 · exact ih _ (by omega)
                 · exact h
theorem skip_le {s : ByteArray} {i : Nat} (h : i ≤ s.size) : skip s i ≤ s.size := skipN_le _ _ _ h

theorem wordEnd_step {s : ByteArray} {k i : Nat} (h : i < s.size) (hb : inWord k (bAt s i) = true) : wordEnd s k i = wordEnd s k (i + 1) := by
  unfold wordEnd
  rw [show s.size - i = (s.size - (i + 1)) + 1 by omega, wordN, if_pos ⟨h, hb⟩]

theorem wordEnd_stop {s : ByteArray} {k i : Nat} (h : ¬ (i < s.size ∧ inWord k (bAt s i) = true)) : wordEnd s k i = i := by
  unfold wordEnd
  cases hn : s.size - i with
  | zero => rfl
  | succ n => rw [wordN, if_neg h]

theorem wordN_ge (s : ByteArray) (k n i : Nat) : i ≤ wordN s k n i := by
  induction n generalizing i with
  | zero => exact Nat.le_refl _
  | succ n ih => rw [wordN]; split
                 · have := ih (i + 1); omega
                 · omega
theorem wordEnd_ge (s : ByteArray) (k i : Nat) : i ≤ wordEnd s k i := wordN_ge _ _ _ _
theorem wordN_le (s : ByteArray) (k n i : Nat) (h : i ≤ s.size) : wordN s k n i ≤ s.size := by
  induction n generalizing i with
  | zero => exact h
  | succ n ih => rw [wordN]; split
                 · exact ih _ (by omega)
                 · exact h
theorem wordEnd_le {s : ByteArray} {k i : Nat} (h : i ≤ s.size) : wordEnd s k i ≤ s.size := wordN_le _ _ _ _ h

theorem signLen_fits {s : ByteArray} {i : Nat} (h : i ≤ s.size) : i + signLen s i ≤ s.size := by unfold signLen; split <;> (try split) <;> omega

theorem kindAt_le (s : ByteArray) (i : Nat) : kindAt s i ≤ 5 := by
  unfold kindAt
  repeat' split
  all_goals omega
theorem kindAt_zero {s : ByteArray} {i : Nat} : kindAt s i = 0 ↔ s.size ≤ i := by
  unfold kindAt; repeat' split
  all_goals simp_all

theorem endAt_gt {s : ByteArray} {i : Nat} (h : i < s.size) : i < endAt s i := by
  unfold endAt
  have h0 : kindAt s i ≠ 0 := by rw [Ne, kindAt_zero]; omega
  rw [if_neg h0]
  by_cases h1 : kindAt s i = 1
  · rw [if_pos h1]; omega
  · rw [if_neg h1]
    by_cases h5 : kindAt s i = 5
    · rw [if_pos h5]
      unfold kindAt at h5
      rw [if_neg (by omega)] at h5
      by_cases hp : 0 < signLen s i
      · omega
      · repeat' split at h5
        all_goals omega
    · rw [if_neg h5]
      have hw : inWord (kindAt s i) (bAt s i) = true := by
        unfold kindAt at h0 h1 h5 ⊢
        rw [if_neg (by omega)] at h0 h1 h5 ⊢
        by_cases a : low (bAt s i) = true
        · simp [a, inWord]
        · rw [if_neg a] at h0 h1 h5 ⊢
          by_cases b : upp (bAt s i) = true
          · simp [b, inWord]
          · rw [if_neg b] at h0 h1 h5 ⊢
            by_cases c : dig (bAt s i) = true
            · simp [c, inWord]
            · rw [if_neg c] at h0 h1 h5
              by_cases d : 0 < signLen s i
              · rw [if_pos d] at h5; exact absurd rfl h5
              · rw [if_neg d] at h1; exact absurd rfl h1
      rw [wordEnd_step h hw]
      have := wordEnd_ge s (kindAt s i) (i + 1)
      omega

theorem endAt_le {s : ByteArray} {i : Nat} (h : i < s.size) : endAt s i ≤ s.size := by
  unfold endAt
  repeat' split
  · omega
  · omega
  · exact signLen_fits (by omega)
  · exact wordEnd_le (by omega)

theorem next_end {s : ByteArray} {p : Nat} (h : s.size ≤ skip s p) : next s p = ⟨0, s.size, ByteArray.empty⟩ := by simp [next, h]
theorem next_tok {s : ByteArray} {p : Nat} (h : skip s p < s.size) : next s p = ⟨kindAt s (skip s p), skip s p, s.extract (skip s p) (endAt s (skip s p))⟩ := by
  simp [next, show ¬ s.size ≤ skip s p by omega]

theorem next_text_size {s : ByteArray} {p : Nat} (h : skip s p < s.size) : (next s p).text.size = endAt s (skip s p) - skip s p := by
  rw [next_tok h]; simp [ByteArray.size_extract]
  have := endAt_le h; omega

theorem next_behind {s : ByteArray} {p : Nat} (h : skip s p < s.size) : (next s p).pos + (next s p).text.size = endAt s (skip s p) := by
  rw [next_text_size h, next_tok h]; have := endAt_gt h; simp; omega

theorem next_kind {s : ByteArray} {p : Nat} : (next s p).kind = 0 ↔ s.size ≤ skip s p := by
  by_cases h : s.size ≤ skip s p
  · simp [next_end h, h]
  · rw [next_tok (by omega)]; simp [kindAt_zero]

theorem next_fits {s : ByteArray} {p : Nat} : (next s p).pos + (next s p).text.size ≤ s.size := by
  by_cases h : skip s p < s.size
  · rw [next_behind h]; exact endAt_le h
  · rw [next_end (by omega)]; simp

theorem next_kind_le {s : ByteArray} {p : Nat} : (next s p).kind ≤ 5 := by
  by_cases h : skip s p < s.size
  · rw [next_tok h]; exact kindAt_le _ _
  · rw [next_end (by omega)]; simp

theorem chain_is (s : ByteArray) (n p : Nat) (h : s.size - p ≤ n) : ∃ l, Chain s (next s p :: l) := by
  induction n generalizing p with
  | zero => exact ⟨[], by rw [Chain, next_kind]; have := skip_ge s p; omega⟩
  | succ n ih =>
    by_cases hk : s.size ≤ skip s p
    · exact ⟨[], by rw [Chain, next_kind]; exact hk⟩
    · have hk' : skip s p < s.size := by omega
      have hb := next_behind hk'
      have hg := endAt_gt hk'
      have hs := skip_ge s p
      obtain ⟨l, hl⟩ := ih ((next s p).pos + (next s p).text.size) (by omega)
      exact ⟨next s ((next s p).pos + (next s p).text.size) :: l, fun e => hk (next_kind.1 e), rfl, hl⟩

theorem Chain.one {s : ByteArray} {l l' : List Tok} (h : Chain s l) (h' : Chain s l') (e : hd l = hd l') : l = l' := by
  induction l generalizing l' with
  | nil => exact absurd h (by simp [Chain])
  | cons t r ih =>
    cases l' with
    | nil => exact absurd h' (by simp [Chain])
    | cons t' r' =>
      have e' : t = t' := e
      subst e'
      cases r with
      | nil =>
        cases r' with
        | nil => rfl
        | cons u' q' => exact absurd h (by rw [Chain] at h ⊢; exact h'.1)
      | cons u q =>
        cases r' with
        | nil => exact absurd h' (by rw [Chain] at h' ⊢; exact h.1)
        | cons u' q' =>
          rw [Chain] at h h'
          rw [ih h.2.2 h'.2.2 (h.2.1.trans h'.2.1.symm)]

theorem Chain.tail {s : ByteArray} {l : List Tok} (h : Chain s l) (h0 : (hd l).kind ≠ 0) : Chain s l.tail ∧ hd l.tail = next s ((hd l).pos + (hd l).text.size) ∧ l = hd l :: l.tail := by
  match l, h with
  | [t], h => exact absurd h h0
  | t :: u :: r, h => exact ⟨h.2.2, h.2.1, rfl⟩

theorem sees_kind {l : List Tok} {g : List UInt8} (h : sees l g = true) : (hd l).kind = 5 := by
  simp [sees] at h; exact h.1

end Parl
namespace Go.Proofs.YthfjnfcekeknlaaDoor
open Go.RowKit

theorem hide {p : Prop} (h : p) : Hid p := h
theorem unhide {p : Prop} (h : Hid p) : p := h
theorem ret_bool {a b : Bool} (h : a = b) : Ending.returned (.bool a) = .returned (.bool b) := by rw [h]
theorem ret_int {k : IntKind} {a b : Int} (h : a = b) : Ending.returned (.int k a) = .returned (.int k b) := by rw [h]

theorem isBlank_any (c : Nat) (w : World) : Calls Tryd.prog 77 #[.int .u8 (c : Int)] w fun e w' => e = .returned (.bool (Parl.blank c)) ∧ w' = w := by
  by_cases h1 : c = 32
  · subst h1
    go_enter Tryd.func77, Tryd.ntmps77
    go_wp2
    go_ret
    exact ⟨rfl, rfl⟩
  · have e1 : ((c : Int) == 32) = false := by simp; omega
    by_cases h2 : c = 10
    · subst h2
      go_enter Tryd.func77, Tryd.ntmps77
      go_wp2
      go_ret
      exact ⟨rfl, rfl⟩
    · have e2 : ((c : Int) == 10) = false := by simp; omega
      go_enter Tryd.func77, Tryd.ntmps77
      go_wp2
      go_ret
      exact ⟨by simp [Parl.blank, h1, h2], rfl⟩

theorem isSmall_any (c : Nat) (w : World) : Calls Tryd.prog 78 #[.int .u8 (c : Int)] w fun e w' => e = .returned (.bool (Parl.low c)) ∧ w' = w := by
  by_cases h1 : 97 ≤ c
  all_goals
    go_enter Tryd.func78, Tryd.ntmps78
    go_wp2
    go_ret
    exact ⟨ret_bool (by rw [Bool.eq_iff_iff]; simp [Parl.low]; omega), rfl⟩

theorem isCapital_any (c : Nat) (w : World) : Calls Tryd.prog 79 #[.int .u8 (c : Int)] w fun e w' => e = .returned (.bool (Parl.upp c)) ∧ w' = w := by
  by_cases h1 : 65 ≤ c
  all_goals
    go_enter Tryd.func79, Tryd.ntmps79
    go_wp2
    go_ret
    exact ⟨ret_bool (by rw [Bool.eq_iff_iff]; simp [Parl.upp]; omega), rfl⟩

theorem isDigit_any (c : Nat) (w : World) : Calls Tryd.prog 80 #[.int .u8 (c : Int)] w fun e w' => e = .returned (.bool (Parl.dig c)) ∧ w' = w := by
  by_cases h1 : 48 ≤ c
  all_goals
    go_enter Tryd.func80, Tryd.ntmps80
    go_wp2
    go_ret
    exact ⟨ret_bool (by rw [Bool.eq_iff_iff]; simp [Parl.dig]; omega), rfl⟩

theorem goesOn_any (k c : Nat) (w : World) : Calls Tryd.prog 87 #[.int .i64 (k : Int), .int .u8 (c : Int)] w fun e w' => e = .returned (.bool (Parl.inWord k c)) ∧ w' = w := by
  by_cases h2 : k = 2
  · subst h2
    cases hl : Parl.low c
    all_goals
      go_enter Tryd.func87, Tryd.ntmps87
      go_wp2_with (first | (go_at_call 78; refine (isSmall_any _ _).mono ?_; rintro e w' ⟨rfl, rfl⟩) | (go_at_call 80; refine (isDigit_any _ _).mono ?_; rintro e w' ⟨rfl, rfl⟩))
      go_ret
      exact ⟨ret_bool (by simp [Parl.inWord, hl]), rfl⟩
  · have e2 : ((k : Int) == 2) = false := by simp; omega
    by_cases h3 : k = 3
    · subst h3
      cases hl : Parl.low c <;> cases hd : Parl.dig c
      all_goals
        go_enter Tryd.func87, Tryd.ntmps87
        go_wp2_with (first | (go_at_call 78; refine (isSmall_any _ _).mono ?_; rintro e w' ⟨rfl, rfl⟩) | (go_at_call 80; refine (isDigit_any _ _).mono ?_; rintro e w' ⟨rfl, rfl⟩) | (go_at_call 79; refine (isCapital_any _ _).mono ?_; rintro e w' ⟨rfl, rfl⟩))
        go_ret
        exact ⟨ret_bool (by simp [Parl.inWord, hl, hd]), rfl⟩
    · have e3 : ((k : Int) == 3) = false := by simp; omega
      go_enter Tryd.func87, Tryd.ntmps87
      go_wp2_with (first | (go_at_call 80; refine (isDigit_any _ _).mono ?_; rintro e w' ⟨rfl, rfl⟩))
      go_ret
      exact ⟨ret_bool (by simp [Parl.inWord, h2, h3]), rfl⟩

theorem skipBlanks_any (s : ByteArray) (p : Nat) (w : World) (hs : s.size ≤ maxLen) (hp : p ≤ s.size) :
    Calls Tryd.prog 55 #[.string s, .int .i64 (p : Int)] w fun e w' => e = .returned (.int .i64 ((Parl.skip s p : Nat) : Int)) ∧ w' = w := by
  unfold maxLen at hs
  go_enter Tryd.func55, Tryd.ntmps55
  go_wp2
  go_loop [5] (fun i => ∃ k : Nat, k ≤ s.size ∧ Hid (Parl.skip s k = Parl.skip s p) ∧ i = .int .i64 k) (fun i => s.size - (intOf i).toNat)
  case atStart => exact ⟨p, hp, rfl, rfl⟩
  case round =>
    obtain ⟨k, hk, hsk, rfl⟩ := hrel
    by_cases hlt : k < s.size
    · cases hb : Parl.blank (s[k].toNat)
      · have hst : Hid (Parl.skip s p = k) := by rw [← hsk.out]; exact Parl.skip_stop (by rw [Parl.bAt_lt hlt, hb]; simp)
        go_wp2_with (go_at_call 77; refine (isBlank_any _ _).mono ?_; rintro e w' ⟨rfl, rfl⟩)
        go_ret
        exact ⟨ret_int (by rw [hst.out]), rfl⟩
      · have hst : Hid (Parl.skip s (k + 1) = Parl.skip s p) := by rw [← hsk.out]; exact (Parl.skip_step hlt (by rw [Parl.bAt_lt hlt, hb])).symm
        go_wp2_with (go_at_call 77; refine (isBlank_any _ _).mono ?_; rintro e w' ⟨rfl, rfl⟩)
        go_round
        case rel => exact ⟨k + 1, by omega, hst, by go_num⟩
        case measure => simp [intOf]; omega
    · have hst : Hid (Parl.skip s p = k) := by rw [← hsk.out]; exact Parl.skip_stop (by omega)
      go_wp2
      go_ret
      exact ⟨ret_int (by rw [hst.out]), rfl⟩

theorem wordLength_any (k : Nat) (s : ByteArray) (w : World) (hs : s.size ≤ maxLen) :
    Calls Tryd.prog 82 #[.int .i64 (k : Int), .string s] w fun e w' => e = .returned (.int .i64 ((Parl.wordEnd s k 0 : Nat) : Int)) ∧ w' = w := by
  unfold maxLen at hs
  go_enter Tryd.func82, Tryd.ntmps82
  go_wp2
  go_loop [5] (fun i => ∃ j : Nat, j ≤ s.size ∧ Hid (Parl.wordEnd s k j = Parl.wordEnd s k 0) ∧ i = .int .i64 j) (fun i => s.size - (intOf i).toNat)
  case atStart => exact ⟨0, by omega, rfl, rfl⟩
  case round =>
    obtain ⟨j, hj, hsk, rfl⟩ := hrel
    by_cases hlt : j < s.size
    · cases hb : Parl.inWord k (s[j].toNat)
      · have hst : Hid (Parl.wordEnd s k 0 = j) := by rw [← hsk.out]; exact Parl.wordEnd_stop (by rw [Parl.bAt_lt hlt, hb]; simp)
        go_wp2_with (go_at_call 87; refine (goesOn_any _ _ _).mono ?_; rintro e w' ⟨rfl, rfl⟩)
        go_ret
        exact ⟨ret_int (by rw [hst.out]), rfl⟩
      · have hst : Hid (Parl.wordEnd s k (j + 1) = Parl.wordEnd s k 0) := by rw [← hsk.out]; exact (Parl.wordEnd_step hlt (by rw [Parl.bAt_lt hlt, hb])).symm
        go_wp2_with (go_at_call 87; refine (goesOn_any _ _ _).mono ?_; rintro e w' ⟨rfl, rfl⟩)
        go_round
        case rel => exact ⟨j + 1, by omega, hst, by go_num⟩
        case measure => simp [intOf]; omega
    · have hst : Hid (Parl.wordEnd s k 0 = j) := by rw [← hsk.out]; exact Parl.wordEnd_stop (by omega)
      go_wp2
      go_ret
      exact ⟨ret_int (by rw [hst.out]), rfl⟩
end Go.Proofs.YthfjnfcekeknlaaDoor
namespace Parl
open Go

theorem len_eq (s : ByteArray) : s.data.toList.length = s.size := by rw [← Lib.size_eq]

theorem get_eq {s : ByteArray} {i : Nat} (h : i < s.size) : s.data.toList[i]'(by rw [len_eq]; exact h) = s[i] := by
  simp; rfl

theorem two_eq {s : ByteArray} {i : Nat} (h : i + 1 < s.size) (a b : UInt8) : ((s.extract i (i + 2)).toList == [a, b]) = (bAt s i == a.toNat && bAt s (i + 1) == b.toNat) := by
  have hl := len_eq s
  rw [Lib.extract_toList, show i + 2 - i = 2 by omega, bAt_lt (by omega), bAt_lt h]
  rw [List.drop_eq_getElem_cons (by omega), List.drop_eq_getElem_cons (by omega)]
  simp only [List.take_succ_cons, List.take_zero]
  rw [get_eq (by omega), get_eq h, Bool.eq_iff_iff]
  simp [UInt8.toNat_inj]

theorem one_eq {s : ByteArray} {i : Nat} (h : i < s.size) (a : UInt8) : ((s.extract i (i + 1)).toList == [a]) = (bAt s i == a.toNat) := by
  have hl := len_eq s
  rw [Lib.extract_toList, show i + 1 - i = 1 by omega, bAt_lt h]
  rw [List.drop_eq_getElem_cons (by omega)]
  simp only [List.take_succ_cons, List.take_zero]
  rw [get_eq h, Bool.eq_iff_iff]
  simp [UInt8.toNat_inj]

/-- What stands behind a place, as a text of its own. -/
def from_ (s : ByteArray) (i : Nat) : ByteArray := s.extract i s.size

theorem size_from {s : ByteArray} {i : Nat} : (from_ s i).size = s.size - i := by simp [from_, ByteArray.size_extract]

theorem bAt_from {s : ByteArray} {i j : Nat} : bAt (from_ s i) j = bAt s (i + j) := by
  unfold bAt
  by_cases h : j < s.size - i
  · rw [dif_pos (by simpa [from_, ByteArray.size_extract] using h), dif_pos (by omega)]
    simp [from_, ByteArray.getElem_extract]
  · rw [dif_neg (by simpa [from_, ByteArray.size_extract] using h), dif_neg (by omega)]

theorem wordN_from {s : ByteArray} {k i n j : Nat} : wordN (from_ s i) k n j + i = wordN s k n (i + j) := by
  induction n generalizing j with
  | zero => simp [wordN]; omega
  | succ n ih =>
    rw [wordN, wordN, bAt_from, size_from]
    by_cases h : i + j < s.size ∧ inWord k (bAt s (i + j)) = true
    · rw [if_pos h, if_pos ⟨by omega, h.2⟩, ih]; rfl
    · rw [if_neg h, if_neg (by intro q; exact h ⟨by omega, q.2⟩)]; omega
theorem wordEnd_from {s : ByteArray} {k i : Nat} : wordEnd (from_ s i) k 0 + i = wordEnd s k i := by
  unfold wordEnd
  rw [size_from, wordN_from, Nat.sub_zero]; rfl
theorem signLen_from {s : ByteArray} {i : Nat} : signLen (from_ s i) 0 = signLen s i := by
  unfold signLen
  rw [bAt_from, bAt_from, size_from]
  have e1 : (0 + 1 < s.size - i) = (i + 1 < s.size) := by rw [eq_iff_iff]; omega
  have e2 : (0 < s.size - i) = (i < s.size) := by rw [eq_iff_iff]; omega
  simp only [e1, e2, Nat.add_zero, Nat.zero_add]
theorem kindAt_from {s : ByteArray} {i : Nat} : kindAt (from_ s i) 0 = kindAt s i := by
  unfold kindAt
  rw [bAt_from, size_from, signLen_from]
  have e1 : (s.size - i ≤ 0) = (s.size ≤ i) := by rw [eq_iff_iff]; omega
  simp only [e1, Nat.add_zero]
theorem endAt_from {s : ByteArray} {i : Nat} : endAt (from_ s i) 0 + i = endAt s i := by
  unfold endAt
  rw [kindAt_from, signLen_from]
  have := @wordEnd_from s (kindAt s i) i
  repeat' split
  all_goals omega

theorem extract_from {s : ByteArray} {i n : Nat} (h : i + n ≤ s.size) : (from_ s i).extract 0 n = s.extract i (i + n) := by
  unfold from_
  rw [ByteArray.extract_extract, Nat.add_zero, Nat.min_eq_left h]

theorem longSign_two {s : ByteArray} {i : Nat} (h : i + 1 < s.size) : longSign (bAt s i) (bAt s (i + 1)) = (((s.extract i (i + 2)).toList == [58, 45]) || ((s.extract i (i + 2)).toList == [58, 61]) || ((s.extract i (i + 2)).toList == [61, 61]) || ((s.extract i (i + 2)).toList == [92, 61]) || ((s.extract i (i + 2)).toList == [61, 60])) := by
  simp only [two_eq h]; rfl

/-- The signs of one byte, in the program's order. -/
def shorts : List Nat := [61, 60, 43, 45, 42, 40, 41, 44, 124, 46]
theorem shortSign_in (c : Nat) : shortSign c = true ↔ ∃ j, j < 10 ∧ shorts[j]? = some c := by
  constructor
  · intro h
    simp [shortSign] at h
    rcases h with (((((((((h | h) | h) | h) | h) | h) | h) | h) | h) | h) <;> subst h
    · exact ⟨0, by omega, rfl⟩
    · exact ⟨1, by omega, rfl⟩
    · exact ⟨2, by omega, rfl⟩
    · exact ⟨3, by omega, rfl⟩
    · exact ⟨4, by omega, rfl⟩
    · exact ⟨5, by omega, rfl⟩
    · exact ⟨6, by omega, rfl⟩
    · exact ⟨7, by omega, rfl⟩
    · exact ⟨8, by omega, rfl⟩
    · exact ⟨9, by omega, rfl⟩
  · rintro ⟨j, hj, h⟩
    have hm := List.mem_of_getElem? h
    simp [shorts] at hm
    rcases hm with h | h | h | h | h | h | h | h | h | h <;> subst h <;> rfl

end Parl
namespace Go.Proofs.YthfjnfcekeknlaaDoor
open Go.RowKit

/-- The table of the signs of two bytes lies where the program lays it. -/
structure Signs (w : World) : Prop where
  s0 : w.cell? ⟨0, 0, none⟩ = some (.string ⟨#[58, 45]⟩)
  s1 : w.cell? ⟨0, 1, none⟩ = some (.string ⟨#[58, 61]⟩)
  s2 : w.cell? ⟨0, 2, none⟩ = some (.string ⟨#[61, 61]⟩)
  s3 : w.cell? ⟨0, 3, none⟩ = some (.string ⟨#[92, 61]⟩)
  s4 : w.cell? ⟨0, 4, none⟩ = some (.string ⟨#[61, 60]⟩)

theorem signLen_two {r : ByteArray} (h : 2 ≤ r.size) (hl : Parl.longSign (Parl.bAt r 0) (Parl.bAt r 1) = true) : Parl.signLen r 0 = 2 := by
  unfold Parl.signLen; rw [if_pos ⟨by omega, hl⟩]
theorem signLen_one {r : ByteArray} (h : 0 < r.size) (hl : 2 ≤ r.size → Parl.longSign (Parl.bAt r 0) (Parl.bAt r 1) = false) (hs : Parl.shortSign (Parl.bAt r 0) = true) : Parl.signLen r 0 = 1 := by
  unfold Parl.signLen; rw [if_neg (by rintro ⟨a, b⟩; rw [hl (by omega)] at b; cases b), if_pos ⟨h, hs⟩]
theorem signLen_none {r : ByteArray} (hl : 2 ≤ r.size → Parl.longSign (Parl.bAt r 0) (Parl.bAt r 1) = false) (hs : 0 < r.size → Parl.shortSign (Parl.bAt r 0) = false) : Parl.signLen r 0 = 0 := by
  unfold Parl.signLen; rw [if_neg (by rintro ⟨a, b⟩; rw [hl (by omega)] at b; cases b), if_neg (by rintro ⟨a, b⟩; rw [hs a] at b; cases b)]

def shortB : ByteArray := ⟨#[61, 60, 43, 45, 42, 40, 41, 44, 124, 46]⟩
theorem shorts_at (k : Nat) (h : k < shortB.size) : Parl.shorts[k]? = some (shortB[k]'h).toNat := by
  have h' : k < 10 := h
  rcases (show k = 0 ∨ k = 1 ∨ k = 2 ∨ k = 3 ∨ k = 4 ∨ k = 5 ∨ k = 6 ∨ k = 7 ∨ k = 8 ∨ k = 9 by omega) with rfl | rfl | rfl | rfl | rfl | rfl | rfl | rfl | rfl | rfl <;> rfl
theorem short_hit {r : ByteArray} {k : Nat} (h0 : 0 < r.size) (hk : k < shortB.size) (h : (((r[0]'h0).toNat : Int) == ((shortB[k]'hk).toNat : Int)) = true) : Parl.shortSign (Parl.bAt r 0) = true := by
  rw [Parl.shortSign_in]
  refine ⟨k, hk, ?_⟩
  rw [shorts_at k hk, Parl.bAt_lt h0]
  have : ((r[0]'h0).toNat : Int) = ((shortB[k]'hk).toNat : Int) := by simpa using h
  rw [show (r[0]'h0).toNat = (shortB[k]'hk).toNat by omega]
theorem short_miss {r : ByteArray} {k : Nat} (h0 : 0 < r.size) (hk : k < shortB.size) (h : (((r[0]'h0).toNat : Int) == ((shortB[k]'hk).toNat : Int)) = false) (ho : ∀ j, j < k → Parl.shorts[j]? ≠ some (Parl.bAt r 0)) : ∀ j, j < k + 1 → Parl.shorts[j]? ≠ some (Parl.bAt r 0) := by
  intro j hj e
  by_cases hjk : j < k
  · exact ho j hjk e
  · obtain rfl : j = k := by omega
    rw [shorts_at j hk, Parl.bAt_lt h0] at e
    have e' := Option.some.inj e
    simp [e'] at h
theorem short_none {c k : Nat} (h : ¬ k < 10) (ho : ∀ j, j < k → Parl.shorts[j]? ≠ some c) : Parl.shortSign c = false := by
  cases hs : Parl.shortSign c with
  | false => rfl
  | true =>
    obtain ⟨j, hj, e⟩ := (Parl.shortSign_in c).1 hs
    exact absurd e (ho j (by omega))
theorem not_empty {r : ByteArray} (h : 0 < r.size) : r.toList.isEmpty = false := by
  rw [ByteArray.toList_eq]
  cases hx : r.data.toList with
  | nil => have := Parl.len_eq r; rw [hx] at this; simp at this; omega
  | cons => rfl

set_option maxHeartbeats 2000000 in
theorem signLength_any (r : ByteArray) (w : World) (hr : r.size ≤ maxLen) (h : Signs w) : Calls Tryd.prog 81 #[.string r] w fun e w' => e = .returned (.int .i64 ((Parl.signLen r 0 : Nat) : Int)) ∧ ∃ n, w' = w.drewN n := by
  obtain ⟨s0, s1, s2, s3, s4⟩ := h
  unfold maxLen at hr
  have i0 : ∀ w, (Instr.index 126 (.agg #[.string ⟨#[58, 45]⟩, .string ⟨#[58, 61]⟩, .string ⟨#[61, 61]⟩, .string ⟨#[92, 61]⟩, .string ⟨#[61, 60]⟩]) (.int .i64 0)).run Tryd.prog w = .ok (.string ⟨#[58, 45]⟩) w := fun _ => by kernel_rfl
  have i1 : ∀ w, (Instr.index 126 (.agg #[.string ⟨#[58, 45]⟩, .string ⟨#[58, 61]⟩, .string ⟨#[61, 61]⟩, .string ⟨#[92, 61]⟩, .string ⟨#[61, 60]⟩]) (.int .i64 1)).run Tryd.prog w = .ok (.string ⟨#[58, 61]⟩) w := fun _ => by kernel_rfl
  have i2 : ∀ w, (Instr.index 126 (.agg #[.string ⟨#[58, 45]⟩, .string ⟨#[58, 61]⟩, .string ⟨#[61, 61]⟩, .string ⟨#[92, 61]⟩, .string ⟨#[61, 60]⟩]) (.int .i64 2)).run Tryd.prog w = .ok (.string ⟨#[61, 61]⟩) w := fun _ => by kernel_rfl
  have i3 : ∀ w, (Instr.index 126 (.agg #[.string ⟨#[58, 45]⟩, .string ⟨#[58, 61]⟩, .string ⟨#[61, 61]⟩, .string ⟨#[92, 61]⟩, .string ⟨#[61, 60]⟩]) (.int .i64 3)).run Tryd.prog w = .ok (.string ⟨#[92, 61]⟩) w := fun _ => by kernel_rfl
  have i4 : ∀ w, (Instr.index 126 (.agg #[.string ⟨#[58, 45]⟩, .string ⟨#[58, 61]⟩, .string ⟨#[61, 61]⟩, .string ⟨#[92, 61]⟩, .string ⟨#[61, 60]⟩]) (.int .i64 4)).run Tryd.prog w = .ok (.string ⟨#[61, 60]⟩) w := fun _ => by kernel_rfl
  have LS : Hid (2 ≤ r.size → Parl.longSign (Parl.bAt r 0) (Parl.bAt r 1) = (((r.extract 0 2).toList == [58, 45]) || ((r.extract 0 2).toList == [58, 61]) || ((r.extract 0 2).toList == [61, 61]) || ((r.extract 0 2).toList == [92, 61]) || ((r.extract 0 2).toList == [61, 60]))) := fun h => Parl.longSign_two (i := 0) (by omega)
  by_cases h2 : 2 ≤ r.size
  · cases b0 : ((r.extract 0 2).toList == [58, 45])
    · cases b1 : ((r.extract 0 2).toList == [58, 61])
      · cases b2 : ((r.extract 0 2).toList == [61, 61])
        · cases b3 : ((r.extract 0 2).toList == [92, 61])
          · cases b4 : ((r.extract 0 2).toList == [61, 60])
            · have LN : Hid (Parl.longSign (Parl.bAt r 0) (Parl.bAt r 1) = false) := by rw [Hid, LS.out h2, b0, b1, b2, b3, b4]; rfl
              go_enter Tryd.func81, Tryd.ntmps81
              go_wp2
              refine wp_loop_rounds 6 ?_
              rw [rounds_succ]
              go_wp2
              rw [rounds_succ]
              go_wp2
              rw [rounds_succ]
              go_wp2
              rw [rounds_succ]
              go_wp2
              rw [rounds_succ]
              go_wp2
              rw [rounds_succ]
              go_wp2
              clear i0 i1 i2 i3 i4 b0 b1 b2 b3 b4
              go_loopw [5] (fun i wr => ∃ k n : Nat, k ≤ 10 ∧ i = .int .i64 k ∧ wr = w.drewN n ∧ Hid (∀ j, j < k → Parl.shorts[j]? ≠ some (Parl.bAt r 0))) (fun i _ => 10 - (intOf i).toNat)
              case atStart => exact ⟨0, 0, by omega, rfl, rfl, fun j h => absurd h (Nat.not_lt_zero _)⟩
              case round =>
                obtain ⟨k, n, hk, rfl, rfl, hno⟩ := hrel
                by_cases hlt : k < 10
                · by_cases h0 : 0 < r.size
                  · have hE := not_empty h0
                    have HM : Hid (∀ hk : k < shortB.size, (((r[0]'h0).toNat : Int) == ((shortB[k]'hk).toNat : Int)) = false → ∀ j, j < k + 1 → Parl.shorts[j]? ≠ some (Parl.bAt r 0)) := fun hk h => short_miss h0 hk h hno.out
                    go_wp2
                    go_big_region
                    go_wp2
                    · go_ret
                      exact ⟨ret_int (by rw [signLen_one h0 (fun _ => LN.out) (short_hit (k := k) h0 hlt (by assumption))]; rfl), n + 1, rfl⟩
                    · go_roundw
                      case rel => exact ⟨k + 1, n + 1, by omega, by go_num, rfl, HM.out hlt (by assumption)⟩
                      case measure => simp [intOf]; omega
                  · exact absurd (show 0 < r.size by omega) h0
                · have hS : Hid (Parl.shortSign (Parl.bAt r 0) = false) := short_none hlt hno.out
                  go_wp2
                  go_ret
                  exact ⟨ret_int (by rw [signLen_none (fun _ => LN.out) (fun _ => hS.out)]; rfl), n, rfl⟩
            · have LN : Hid (Parl.longSign (Parl.bAt r 0) (Parl.bAt r 1) = true) := by rw [Hid, LS.out h2, b0, b1, b2, b3, b4]; simp
              go_enter Tryd.func81, Tryd.ntmps81
              go_wp2
              refine wp_loop_rounds 6 ?_
              rw [rounds_succ]
              go_wp2
              rw [rounds_succ]
              go_wp2
              rw [rounds_succ]
              go_wp2
              rw [rounds_succ]
              go_wp2
              rw [rounds_succ]
              go_wp2
              go_ret
              exact ⟨ret_int (by rw [signLen_two h2 LN.out]; rfl), 0, rfl⟩
          · have LN : Hid (Parl.longSign (Parl.bAt r 0) (Parl.bAt r 1) = true) := by rw [Hid, LS.out h2, b0, b1, b2, b3]; simp
            go_enter Tryd.func81, Tryd.ntmps81
            go_wp2
            refine wp_loop_rounds 6 ?_
            rw [rounds_succ]
            go_wp2
            rw [rounds_succ]
            go_wp2
            rw [rounds_succ]
            go_wp2
            rw [rounds_succ]
            go_wp2
            go_ret
            exact ⟨ret_int (by rw [signLen_two h2 LN.out]; rfl), 0, rfl⟩
        · have LN : Hid (Parl.longSign (Parl.bAt r 0) (Parl.bAt r 1) = true) := by rw [Hid, LS.out h2, b0, b1, b2]; simp
          go_enter Tryd.func81, Tryd.ntmps81
          go_wp2
          refine wp_loop_rounds 6 ?_
          rw [rounds_succ]
          go_wp2
          rw [rounds_succ]
          go_wp2
          rw [rounds_succ]
          go_wp2
          go_ret
          exact ⟨ret_int (by rw [signLen_two h2 LN.out]; rfl), 0, rfl⟩
      · have LN : Hid (Parl.longSign (Parl.bAt r 0) (Parl.bAt r 1) = true) := by rw [Hid, LS.out h2, b0, b1]; simp
        go_enter Tryd.func81, Tryd.ntmps81
        go_wp2
        refine wp_loop_rounds 6 ?_
        rw [rounds_succ]
        go_wp2
        rw [rounds_succ]
        go_wp2
        go_ret
        exact ⟨ret_int (by rw [signLen_two h2 LN.out]; rfl), 0, rfl⟩
    · have LN : Hid (Parl.longSign (Parl.bAt r 0) (Parl.bAt r 1) = true) := by rw [Hid, LS.out h2, b0]; simp
      go_enter Tryd.func81, Tryd.ntmps81
      go_wp2
      refine wp_loop_rounds 6 ?_
      rw [rounds_succ]
      go_wp2
      go_ret
      exact ⟨ret_int (by rw [signLen_two h2 LN.out]; rfl), 0, rfl⟩
  · have LN : Hid (2 ≤ r.size → Parl.longSign (Parl.bAt r 0) (Parl.bAt r 1) = false) := fun h => absurd h h2
    go_enter Tryd.func81, Tryd.ntmps81
    go_wp2
    refine wp_loop_rounds 6 ?_
    rw [rounds_succ]
    go_wp2
    rw [rounds_succ]
    go_wp2
    rw [rounds_succ]
    go_wp2
    rw [rounds_succ]
    go_wp2
    rw [rounds_succ]
    go_wp2
    rw [rounds_succ]
    go_wp2
    clear i0 i1 i2 i3 i4 LS
    go_loopw [5] (fun i wr => ∃ k n : Nat, k ≤ 10 ∧ i = .int .i64 k ∧ wr = w.drewN n ∧ Hid (∀ j, j < k → Parl.shorts[j]? ≠ some (Parl.bAt r 0))) (fun i _ => 10 - (intOf i).toNat)
    case atStart => exact ⟨0, 0, by omega, rfl, rfl, fun j h => absurd h (Nat.not_lt_zero _)⟩
    case round =>
      obtain ⟨k, n, hk, rfl, rfl, hno⟩ := hrel
      by_cases hlt : k < 10
      · by_cases h0 : 0 < r.size
        · have hE := not_empty h0
          have HM : Hid (∀ hk : k < shortB.size, (((r[0]'h0).toNat : Int) == ((shortB[k]'hk).toNat : Int)) = false → ∀ j, j < k + 1 → Parl.shorts[j]? ≠ some (Parl.bAt r 0)) := fun hk h => short_miss h0 hk h hno.out
          go_wp2
          go_big_region
          go_wp2
          · go_ret
            exact ⟨ret_int (by rw [signLen_one h0 LN.out (short_hit (k := k) h0 hlt (by assumption))]; rfl), n + 1, rfl⟩
          · go_roundw
            case rel => exact ⟨k + 1, n + 1, by omega, by go_num, rfl, HM.out hlt (by assumption)⟩
            case measure => simp [intOf]; omega
        · have hE : r.toList.isEmpty = true := by rw [ByteArray.toList_eq]; have := Parl.len_eq r; cases hx : r.data.toList with
              | nil => rfl
              | cons a l => rw [hx] at this; simp at this; omega
          have HM : Hid (∀ j, j < k + 1 → Parl.shorts[j]? ≠ some (Parl.bAt r 0)) := fun j hj e => by
              have e0 : Parl.bAt r 0 = 0 := by unfold Parl.bAt; rw [dif_neg h0]
              rw [e0] at e
              have hm := List.mem_of_getElem? e
              simp [Parl.shorts] at hm
          go_wp2
          go_big_region
          go_wp2
          go_roundw
          case rel => exact ⟨k + 1, n + 1, by omega, by go_num, rfl, HM.out⟩
          case measure => simp [intOf]; omega
      · have hS : Hid (Parl.shortSign (Parl.bAt r 0) = false) := short_none hlt hno.out
        go_wp2
        go_ret
        exact ⟨ret_int (by rw [signLen_none LN.out (fun _ => hS.out)]; rfl), n, rfl⟩
end Go.Proofs.YthfjnfcekeknlaaDoor
namespace Go.Proofs.YthfjnfcekeknlaaDoor
open Go.RowKit

theorem Signs.below {B : Nat} {w w' : World} (h : Signs w) (hb : Below B w w') (h0 : 0 < B) : Signs w' :=
  ⟨(hb.cell (p := ⟨0, 0, none⟩) h0).trans h.s0, (hb.cell (p := ⟨0, 1, none⟩) h0).trans h.s1, (hb.cell (p := ⟨0, 2, none⟩) h0).trans h.s2, (hb.cell (p := ⟨0, 3, none⟩) h0).trans h.s3, (hb.cell (p := ⟨0, 4, none⟩) h0).trans h.s4⟩
theorem Signs.draws {w : World} (h : Signs w) (n : Nat) : Signs (w.drewN n) := ⟨h.s0, h.s1, h.s2, h.s3, h.s4⟩

theorem kindAt0 {r : ByteArray} (h : r.size = 0) : Parl.kindAt r 0 = 0 := by unfold Parl.kindAt; rw [if_pos (by omega)]
theorem kindAt2 {r : ByteArray} (h : 0 < r.size) (a : Parl.low (r[0].toNat) = true) : Parl.kindAt r 0 = 2 := by unfold Parl.kindAt; rw [if_neg (by omega), Parl.bAt_lt h, if_pos a]
theorem kindAt3 {r : ByteArray} (h : 0 < r.size) (a : Parl.low (r[0].toNat) = false) (b : Parl.upp (r[0].toNat) = true) : Parl.kindAt r 0 = 3 := by unfold Parl.kindAt; rw [if_neg (by omega), Parl.bAt_lt h, if_neg (by simp [a]), if_pos b]
theorem kindAt4 {r : ByteArray} (h : 0 < r.size) (a : Parl.low (r[0].toNat) = false) (b : Parl.upp (r[0].toNat) = false) (c : Parl.dig (r[0].toNat) = true) : Parl.kindAt r 0 = 4 := by unfold Parl.kindAt; rw [if_neg (by omega), Parl.bAt_lt h, if_neg (by simp [a]), if_neg (by simp [b]), if_pos c]
theorem kindAt5 {r : ByteArray} (h : 0 < r.size) (a : Parl.low (r[0].toNat) = false) (b : Parl.upp (r[0].toNat) = false) (c : Parl.dig (r[0].toNat) = false) (d : 0 < Parl.signLen r 0) : Parl.kindAt r 0 = 5 := by unfold Parl.kindAt; rw [if_neg (by omega), Parl.bAt_lt h, if_neg (by simp [a]), if_neg (by simp [b]), if_neg (by simp [c]), if_pos d]
theorem kindAt1 {r : ByteArray} (h : 0 < r.size) (a : Parl.low (r[0].toNat) = false) (b : Parl.upp (r[0].toNat) = false) (c : Parl.dig (r[0].toNat) = false) (d : ¬ 0 < Parl.signLen r 0) : Parl.kindAt r 0 = 1 := by unfold Parl.kindAt; rw [if_neg (by omega), Parl.bAt_lt h, if_neg (by simp [a]), if_neg (by simp [b]), if_neg (by simp [c]), if_neg d]
theorem is_empty {r : ByteArray} (h : r.size = 0) : r.toList.isEmpty = true := by
  rw [ByteArray.toList_eq]
  have := Parl.len_eq r
  cases hx : r.data.toList with
  | nil => rfl
  | cons a l => rw [hx] at this; simp at this; omega

set_option maxHeartbeats 1000000 in
theorem kindOf_any (r : ByteArray) (w : World) (hr : r.size ≤ maxLen) (h : Signs w) : Calls Tryd.prog 56 #[.string r] w fun e w' => e = .returned (.int .i64 ((Parl.kindAt r 0 : Nat) : Int)) ∧ ∃ n, w' = w.drewN n := by
  have hr' := hr
  unfold maxLen at hr'
  have H := h
  by_cases h0 : 0 < r.size
  · have hE := not_empty h0
    cases a : Parl.low (r[0].toNat)
    · cases b : Parl.upp (r[0].toNat)
      · cases c : Parl.dig (r[0].toNat)
        · by_cases d : 0 < Parl.signLen r 0
          · have K := hide (kindAt5 h0 a b c d)
            go_enter Tryd.func56, Tryd.ntmps56
            go_wp2_with (first | (go_at_call 78; refine (isSmall_any _ _).mono ?_; rintro e w' ⟨rfl, rfl⟩) | (go_at_call 80; refine (isDigit_any _ _).mono ?_; rintro e w' ⟨rfl, rfl⟩) | (go_at_call 79; refine (isCapital_any _ _).mono ?_; rintro e w' ⟨rfl, rfl⟩) | (go_at_call 81; refine (signLength_any _ _ hr H).mono ?_; rintro e w' ⟨rfl, n, rfl⟩))
            go_ret
            exact ⟨ret_int (by rw [unhide K]; rfl), n, rfl⟩
          · have K := hide (kindAt1 h0 a b c d)
            go_enter Tryd.func56, Tryd.ntmps56
            go_wp2_with (first | (go_at_call 78; refine (isSmall_any _ _).mono ?_; rintro e w' ⟨rfl, rfl⟩) | (go_at_call 80; refine (isDigit_any _ _).mono ?_; rintro e w' ⟨rfl, rfl⟩) | (go_at_call 79; refine (isCapital_any _ _).mono ?_; rintro e w' ⟨rfl, rfl⟩) | (go_at_call 81; refine (signLength_any _ _ hr H).mono ?_; rintro e w' ⟨rfl, n, rfl⟩))
            go_ret
            exact ⟨ret_int (by rw [unhide K]; rfl), n, rfl⟩
        · have K := hide (kindAt4 h0 a b c)
          go_enter Tryd.func56, Tryd.ntmps56
          go_wp2_with (first | (go_at_call 78; refine (isSmall_any _ _).mono ?_; rintro e w' ⟨rfl, rfl⟩) | (go_at_call 80; refine (isDigit_any _ _).mono ?_; rintro e w' ⟨rfl, rfl⟩) | (go_at_call 79; refine (isCapital_any _ _).mono ?_; rintro e w' ⟨rfl, rfl⟩))
          go_ret
          exact ⟨ret_int (by rw [unhide K]; rfl), 0, rfl⟩
      · have K := hide (kindAt3 h0 a b)
        go_enter Tryd.func56, Tryd.ntmps56
        go_wp2_with (first | (go_at_call 78; refine (isSmall_any _ _).mono ?_; rintro e w' ⟨rfl, rfl⟩) | (go_at_call 79; refine (isCapital_any _ _).mono ?_; rintro e w' ⟨rfl, rfl⟩))
        go_ret
        exact ⟨ret_int (by rw [unhide K]; rfl), 0, rfl⟩
    · have K := hide (kindAt2 h0 a)
      go_enter Tryd.func56, Tryd.ntmps56
      go_wp2_with (first | (go_at_call 78; refine (isSmall_any _ _).mono ?_; rintro e w' ⟨rfl, rfl⟩))
      go_ret
      exact ⟨ret_int (by rw [unhide K]; rfl), 0, rfl⟩
  · have hE := is_empty (r := r) (by omega)
    have K := hide (kindAt0 (r := r) (by omega))
    go_enter Tryd.func56, Tryd.ntmps56
    go_wp2
    go_ret
    exact ⟨ret_int (by rw [unhide K]; rfl), 0, rfl⟩

set_option maxHeartbeats 1000000 in
theorem lengthOf_any (r : ByteArray) (w : World) (hr : r.size ≤ maxLen) (h : Signs w) : Calls Tryd.prog 57 #[.int .i64 ((Parl.kindAt r 0 : Nat) : Int), .string r] w fun e w' => e = .returned (.int .i64 ((Parl.endAt r 0 : Nat) : Int)) ∧ ∃ n, w' = w.drewN n := by
  have hk := Parl.kindAt_le r 0
  have KE : Hid (Parl.endAt r 0 = if Parl.kindAt r 0 = 0 then 0 else if Parl.kindAt r 0 = 1 then 0 + 1 else if Parl.kindAt r 0 = 5 then 0 + Parl.signLen r 0 else Parl.wordEnd r (Parl.kindAt r 0) 0) := rfl
  generalize Parl.kindAt r 0 = k at *
  rcases (show k = 0 ∨ k = 1 ∨ k = 2 ∨ k = 3 ∨ k = 4 ∨ k = 5 by omega) with rfl | rfl | rfl | rfl | rfl | rfl
  · go_enter Tryd.func57, Tryd.ntmps57
    go_wp2_with fail
    go_ret
    exact ⟨ret_int (by rw [KE.out]; rfl), 0, rfl⟩
  · go_enter Tryd.func57, Tryd.ntmps57
    go_wp2_with fail
    go_ret
    exact ⟨ret_int (by rw [KE.out]; rfl), 0, rfl⟩
  · go_enter Tryd.func57, Tryd.ntmps57
    go_wp2_with (go_at_call 82; refine (wordLength_any 2 _ _ hr).mono ?_; rintro e w' ⟨rfl, rfl⟩)
    go_ret
    exact ⟨ret_int (by rw [KE.out]; rfl), 0, rfl⟩
  · go_enter Tryd.func57, Tryd.ntmps57
    go_wp2_with (go_at_call 82; refine (wordLength_any 3 _ _ hr).mono ?_; rintro e w' ⟨rfl, rfl⟩)
    go_ret
    exact ⟨ret_int (by rw [KE.out]; rfl), 0, rfl⟩
  · go_enter Tryd.func57, Tryd.ntmps57
    go_wp2_with (go_at_call 82; refine (wordLength_any 4 _ _ hr).mono ?_; rintro e w' ⟨rfl, rfl⟩)
    go_ret
    exact ⟨ret_int (by rw [KE.out]; rfl), 0, rfl⟩
  · go_enter Tryd.func57, Tryd.ntmps57
    go_wp2_with (go_at_call 81; refine (signLength_any _ _ hr h).mono ?_; rintro e w' ⟨rfl, n, rfl⟩)
    go_ret
    exact ⟨ret_int (by rw [KE.out]; simp), n, rfl⟩


set_option maxHeartbeats 1000000 in
theorem next_any (s : ByteArray) (p : Nat) (w : World) (hs : s.size ≤ maxLen) (hp : p ≤ s.size) (h : Signs w) (hz : 0 < w.heap.size) :
    Calls Tryd.prog 37 #[.string s, .int .i64 (p : Int)] w fun e w' => e = .returned (.agg #[.int .i64 ((Parl.next s p).kind : Int), .int .i64 ((Parl.next s p).pos : Int), .string (Parl.next s p).text]) ∧ Below w.heap.size w w' := by
  have hs' := hs
  unfold maxLen at hs'
  have hle := Parl.skip_le hp
  have hge := Parl.skip_ge s p
  by_cases he : Parl.skip s p < s.size
  · have hS : ∀ o, Signs (w.alloc o) := fun o => h.below ((Below.refl _ _).alloc (Nat.le_refl _) o) hz
    have hsz : (s.extract (Parl.skip s p) s.size).size ≤ maxLen := by rw [← Parl.from_, Parl.size_from]; omega
    have hN := hide (Parl.next_tok he)
    have hK := hide (@Parl.kindAt_from s (Parl.skip s p))
    have hE := hide (@Parl.endAt_from s (Parl.skip s p))
    have hEl := Parl.endAt_le he
    have hEg := Parl.endAt_gt he
    have hX : Hid (∀ n : Nat, Parl.skip s p + n ≤ s.size → (Parl.from_ s (Parl.skip s p)).extract 0 n = s.extract (Parl.skip s p) (Parl.skip s p + n)) := fun n h => Parl.extract_from h
    unfold Parl.from_ at hK hE hX
    go_enter Tryd.func37, Tryd.ntmps37
    go_wp2_with fail
    refine (skipBlanks_any s p _ hs hp).mono ?_
    rintro e w' ⟨rfl, rfl⟩
    go_wp2_with fail
    refine (kindOf_any (s.extract (Parl.skip s p) s.size) _ hsz (hS _)).mono ?_
    rintro e w' ⟨rfl, n, rfl⟩
    go_wp2_with fail
    refine (lengthOf_any (s.extract (Parl.skip s p) s.size) _ hsz ((hS _).draws _)).mono ?_
    rintro e w' ⟨rfl, m, rfl⟩
    have hb : Parl.endAt (s.extract (Parl.skip s p) s.size) 0 + Parl.skip s p = Parl.endAt s (Parl.skip s p) := unhide hE
    have hb2 : Parl.endAt (s.extract (Parl.skip s p) s.size) 0 ≤ (s.extract (Parl.skip s p) s.size).size := by rw [ByteArray.size_extract]; omega
    generalize hg : Parl.endAt (s.extract (Parl.skip s p) s.size) 0 = q at *
    have hg' := hide hg
    clear hg
    have hb' := hide hb
    clear hb
    go_wp2_with fail
    refine bodyPost_ret (v := .agg #[.int .i64 (Parl.kindAt (s.extract (Parl.skip s p) s.size) 0 : Int), .int .i64 (Parl.skip s p : Int), .string ((s.extract (Parl.skip s p) s.size).extract 0 q)]) (by simp [results, Tryd.results37, go_sem]) rfl ⟨?_, ?_⟩
    · rw [unhide hN, unhide hK, unhide hX q (by rw [ByteArray.size_extract] at hb2; omega), Nat.add_comm, unhide hb']
    · exact (((below_drewN ((Below.refl _ _).alloc (Nat.le_refl _) _) _).setCell (Nat.le_refl _) _).setCell (Nat.le_refl _) _).setCell (Nat.le_refl _) _
  · have hN := hide (Parl.next_end (s := s) (p := p) (by omega))
    go_enter Tryd.func37, Tryd.ntmps37
    go_wp2_with fail
    refine (skipBlanks_any s p _ hs hp).mono ?_
    rintro e w' ⟨rfl, rfl⟩
    go_wp2_with fail
    refine bodyPost_ret (v := .agg #[.int .i64 0, .int .i64 (s.size : Int), .string ByteArray.empty]) (by simp [results, Tryd.results37, go_sem]; rfl) rfl ⟨?_, ?_⟩
    · rw [unhide hN]; rfl
    · exact (Below.refl _ _).alloc (Nat.le_refl _) _
end Go.Proofs.YthfjnfcekeknlaaDoor
namespace Go.Proofs.YthfjnfcekeknlaaDoor
open Go.RowKit

/-- The type of a block's cells. -/
def tyAt (w : World) (k : Nat) : Option TypeId := match w.heap[k]? with
  | some (.cells _ t _) => some t
  | _ => none

/-- All blocks stay but those of X and rows of texts from b on. -/
structure KA (b : Nat) (X : List Nat) (w w' : World) : Prop where
  os : w'.os = w.os
  tape : w'.tape = w.tape
  output : w'.output = w.output
  size : w.heap.size ≤ w'.heap.size
  block : ∀ k, k < w.heap.size → k ∉ X → (k < b ∨ tyAt w k ≠ some 9) → w'.heap[k]? = w.heap[k]?

theorem KA.refl (b : Nat) (X : List Nat) (w : World) : KA b X w w := ⟨rfl, rfl, rfl, Nat.le_refl _, fun _ _ _ _ => rfl⟩
theorem KA.trans {b : Nat} {X : List Nat} {u v w : World} (h : KA b X u v) (k : KA b X v w) : KA b X u w :=
  ⟨k.os.trans h.os, k.tape.trans h.tape, k.output.trans h.output, Nat.le_trans h.size k.size, fun i hi hX ht => by
    have e := h.block i hi hX ht
    rw [k.block i (Nat.lt_of_lt_of_le hi h.size) hX (by unfold tyAt at ht ⊢; rw [e]; exact ht), e]⟩
theorem KA.of_below {b : Nat} {X : List Nat} {w w' : World} (h : Below w.heap.size w w') : KA b X w w' := ⟨h.os, h.tape, h.output, h.size, fun k hk _ _ => h.block k hk⟩
theorem KA.drewN {b : Nat} {X : List Nat} {u w : World} (h : KA b X u w) (n : Nat) : KA b X u (w.drewN n) := h.trans (KA.of_below (below_drewN (Below.refl _ _) n))
theorem KA.drew {b : Nat} {X : List Nat} {u w : World} (h : KA b X u w) : KA b X u w.drew := h.trans (KA.of_below (Below.refl _ _).drew)
theorem KA.alloc {b : Nat} {X : List Nat} {u w : World} (h : KA b X u w) (o : Obj) : KA b X u (w.alloc o) := h.trans (KA.of_below ((Below.refl _ _).alloc (Nat.le_refl _) o))
theorem KA.setIn {b : Nat} {X : List Nat} {u w : World} (h : KA b X u w) {p : Addr} (hp : p.block ∈ X) (v : Value) : KA b X u (w.setCell p v) :=
  h.trans ⟨rfl, rfl, rfl, by simp [World.setCell], fun k hk hX _ => Below.heap_setCell _ _ _ _ (fun e => hX (e ▸ hp))⟩
theorem KA.setNew {b : Nat} {X : List Nat} {u w : World} (h : KA b X u w) {p : Addr} (hp : u.heap.size ≤ p.block) (v : Value) : KA b X u (w.setCell p v) :=
  ⟨h.os, h.tape, h.output, by have := h.size; simp [World.setCell]; omega, fun k hk hX ht => (Below.heap_setCell _ _ _ _ (by omega)).trans (h.block k hk hX ht)⟩
theorem KA.mono {b : Nat} {X Y : List Nat} {u w : World} (h : KA b X u w) (hs : ∀ x ∈ X, x ∈ Y) : KA b Y u w :=
  ⟨h.os, h.tape, h.output, h.size, fun k hk hY ht => h.block k hk (fun e => hY (hs k e)) ht⟩
theorem KA.cell {b : Nat} {X : List Nat} {w w' : World} (h : KA b X w w') {p : Addr} (hp : p.block < w.heap.size) (hX : p.block ∉ X) (ht : p.block < b ∨ tyAt w p.block ≠ some 9) : w'.cell? p = w.cell? p := World.cell?_of_block (w := w) (h.block p.block hp hX ht)
theorem KA.frozen {b : Nat} {X : List Nat} {w w' : World} (h : KA b X w w') {p : Addr} (hp : p.block < w.heap.size) (hX : p.block ∉ X) (ht : p.block < b ∨ tyAt w p.block ≠ some 9) : w'.frozen? p = w.frozen? p := World.frozen?_of_block (w := w) (h.block p.block hp hX ht)
theorem KA.below {b : Nat} {X : List Nat} {w w' : World} (h : KA b X w w') {B : Nat} (hB : B ≤ w.heap.size) (hb : B ≤ b) (hX : ∀ x ∈ X, B ≤ x) : Below B w w' :=
  ⟨h.os, h.tape, h.output, h.size, fun k hk => h.block k (by omega) (fun e => by have := hX k e; omega) (Or.inl (by omega))⟩
theorem KA.grown {b : Nat} {X : List Nat} {u w w' : World} {row : Option Nat} (h : KA b X u w) (hg : w.grownBy w' row) (hr : ∀ k, row = some k → u.heap.size ≤ k ∨ k ∈ X ∨ (b ≤ k ∧ tyAt w k = some 9)) : KA b X u w' :=
  ⟨hg.os.trans h.os, hg.tape.trans h.tape, hg.output.trans h.output, Nat.le_trans h.size hg.size, fun k hk hX ht => by
    have e := h.block k hk hX ht
    rw [hg.block k (Nat.lt_of_lt_of_le hk h.size) (fun q => ?_), e]
    rcases hr k q.symm with a | a | ⟨a, c⟩
    · omega
    · exact hX a
    · rcases ht with t | t
      · omega
      · apply t; unfold tyAt at c ⊢; rw [← e]; exact c⟩

theorem Signs.ka {b : Nat} {X : List Nat} {w w' : World} (h : Signs w) (hk : KA b X w w') (h0 : 0 < w.heap.size) (hX : 0 ∉ X) (hb : 0 < b) : Signs w' :=
  ⟨(hk.cell (p := ⟨0, 0, none⟩) h0 hX (Or.inl hb)).trans h.s0, (hk.cell (p := ⟨0, 1, none⟩) h0 hX (Or.inl hb)).trans h.s1, (hk.cell (p := ⟨0, 2, none⟩) h0 hX (Or.inl hb)).trans h.s2, (hk.cell (p := ⟨0, 3, none⟩) h0 hX (Or.inl hb)).trans h.s3, (hk.cell (p := ⟨0, 4, none⟩) h0 hX (Or.inl hb)).trans h.s4⟩

/-- The reader's six cells. -/
structure Rd (w : World) (rb : Nat) (s : ByteArray) (t : Parl.Tok) (nv : Value) (e : Int) : Prop where
  c0 : w.cell? ⟨rb, 0, none⟩ = some (.string s)
  c1 : w.cell? ⟨rb, 1, none⟩ = some (.int .i64 (t.kind : Int))
  c2 : w.cell? ⟨rb, 2, none⟩ = some (.int .i64 (t.pos : Int))
  c3 : w.cell? ⟨rb, 3, none⟩ = some (.string t.text)
  c4 : w.cell? ⟨rb, 4, none⟩ = some nv
  c5 : w.cell? ⟨rb, 5, none⟩ = some (.int .i64 e)
  f1 : w.frozen? ⟨rb, 1, none⟩ = false
  f2 : w.frozen? ⟨rb, 2, none⟩ = false
  f3 : w.frozen? ⟨rb, 3, none⟩ = false
  f4 : w.frozen? ⟨rb, 4, none⟩ = false
  f5 : w.frozen? ⟨rb, 5, none⟩ = false

theorem Rd.below {B : Nat} {w w' : World} {rb : Nat} {s : ByteArray} {t : Parl.Tok} {nv : Value} {e : Int} (h : Rd w rb s t nv e) (hb : Below B w w') (hr : rb < B) : Rd w' rb s t nv e :=
  ⟨(hb.cell (p := ⟨rb, 0, none⟩) hr).trans h.c0, (hb.cell (p := ⟨rb, 1, none⟩) hr).trans h.c1, (hb.cell (p := ⟨rb, 2, none⟩) hr).trans h.c2, (hb.cell (p := ⟨rb, 3, none⟩) hr).trans h.c3, (hb.cell (p := ⟨rb, 4, none⟩) hr).trans h.c4, (hb.cell (p := ⟨rb, 5, none⟩) hr).trans h.c5,
   (hb.frozen (p := ⟨rb, 1, none⟩) hr).trans h.f1, (hb.frozen (p := ⟨rb, 2, none⟩) hr).trans h.f2, (hb.frozen (p := ⟨rb, 3, none⟩) hr).trans h.f3, (hb.frozen (p := ⟨rb, 4, none⟩) hr).trans h.f4, (hb.frozen (p := ⟨rb, 5, none⟩) hr).trans h.f5⟩

/-- What the reader stands at: the tokens l are left, ns are the clause's variables so far. -/
structure St (w : World) (rb : Nat) (s : ByteArray) (l : List Parl.Tok) (ns : List ByteArray) (nv : Value) (e : Int) : Prop where
  rd : Rd w rb s (Parl.hd l) nv e
  own : w.ownsRow (rb + 1) 9 1 nv ns.length (ns.map Value.string)
  chain : Parl.Chain s l
  isNext : ∃ p, Parl.hd l = Parl.next s p
  few : ns.length + l.length ≤ 1000
  short : s.size ≤ 240
  signs : Signs w
  pos : 0 < rb
  lt : rb < w.heap.size

theorem St.below {w w' : World} {rb : Nat} {s : ByteArray} {l : List Parl.Tok} {ns : List ByteArray} {nv : Value} {e : Int} (h : St w rb s l ns nv e) (hb : Below w.heap.size w w') : St w' rb s l ns nv e :=
  ⟨h.rd.below hb h.lt, ⟨h.own.1, h.own.2.imp id fun ⟨g, cap, cur, a, b, c, d⟩ => ⟨g, cap, cur, a, b, (hb.block g (by
      have := Array.getElem?_eq_some_iff.1 c; exact this.1)).trans c, d⟩⟩, h.chain, h.isNext, h.few, h.short, h.signs.below hb (by have := h.lt; omega), h.pos, by have := hb.size; have := h.lt; omega⟩

/-- A store into the reader's own block: what does not hang on its cells stays. -/
theorem own_setCell {w : World} {rb : Nat} {T : TypeId} {sz : Nat} {nv : Value} {n : Nat} {xs : List Value} (h : w.ownsRow (rb + 1) T sz nv n xs) (o : Nat) (v : Value) : (w.setCell ⟨rb, o, none⟩ v).ownsRow (rb + 1) T sz nv n xs :=
  ownsRow_setCell_below h (by show rb < rb + 1; omega) v

theorem Signs.setCell {w : World} (h : Signs w) {p : Addr} (hp : p.block ≠ 0) (v : Value) : Signs (w.setCell p v) := by
  have k : ∀ o, (w.setCell p v).cell? ⟨0, o, none⟩ = w.cell? ⟨0, o, none⟩ := fun o => World.cell?_of_block (Below.heap_setCell _ _ _ _ (fun e => hp e.symm))
  exact ⟨(k 0).trans h.s0, (k 1).trans h.s1, (k 2).trans h.s2, (k 3).trans h.s3, (k 4).trans h.s4⟩
end Go.Proofs.YthfjnfcekeknlaaDoor
namespace Go.Proofs.YthfjnfcekeknlaaDoor
open Go.RowKit
/-- What such calls leave as it was. -/
structure FrG (R R' : Nat → Prop) (w w' : World) : Prop where
  os : w'.os = w.os
  tape : w'.tape = w.tape
  output : w'.output = w.output
  size : w.heap.size ≤ w'.heap.size
  block : ∀ k, k < w.heap.size → ¬ R k → w'.heap[k]? = w.heap[k]?
  row : ∀ k, R' k → R k ∨ w.heap.size ≤ k
theorem FrG.of_below {R : Nat → Prop} {w w' : World} (h : Below w.heap.size w w') : FrG R R w w' := ⟨h.os, h.tape, h.output, h.size, fun k hk _ => h.block k hk, fun _ q => Or.inl q⟩
theorem FrG.trans {R R1 R2 : Nat → Prop} {u v w : World} (h : FrG R R1 u v) (k : FrG R1 R2 v w) : FrG R R2 u w :=
  ⟨k.os.trans h.os, k.tape.trans h.tape, k.output.trans h.output, Nat.le_trans h.size k.size, fun i hi h1 => (k.block i (Nat.lt_of_lt_of_le hi h.size) (fun q => by
    rcases h.row i q with e | e
    · exact h1 e
    · omega)).trans (h.block i hi h1), fun i q => by
    rcases k.row i q with e | e
    · exact h.row i e
    · exact Or.inr (Nat.le_trans h.size e)⟩
theorem FrG.not {R R' : Nat → Prop} {w w' : World} (h : FrG R R' w w') {k : Nat} (hk : k < w.heap.size) (hr : ¬ R k) : ¬ R' k := fun q => by
  rcases h.row k q with e | e
  · exact hr e
  · omega
theorem own_keepG {w w' : World} {b0 : Nat} {T : TypeId} {sz : Nat} {v : Value} {n : Nat} {xs : List Value} (h : w.ownsRow b0 T sz v n xs) (hk : ∀ g, v.ownBlock = some g → w'.heap[g]? = w.heap[g]?) : w'.ownsRow b0 T sz v n xs :=
  ⟨h.1, h.2.imp id fun ⟨g, cap, cur, a, b, c, d⟩ => ⟨g, cap, cur, a, b, (hk g (by rw [a]; rfl)).trans c, d⟩⟩
theorem own_free {o : Option Addr} {n cap : Nat} {k : Nat} (h : ∀ q, o = some q → k ≠ q.block) : some k ≠ (Value.slice o n cap).ownBlock := by
  cases o with
  | none => simp [Value.ownBlock]
  | some q => have := h q rfl; simpa [Value.ownBlock] using this
theorem FrG.cell {R R' : Nat → Prop} {w w' : World} (h : FrG R R' w w') {p : Addr} (hp : p.block < w.heap.size) (hr : ¬ R p.block) : w'.cell? p = w.cell? p := World.cell?_of_block (w := w) (h.block p.block hp hr)
theorem FrG.down {R R' : Nat → Prop} {w w' : World} (h : FrG R R' w w') {b : Nat} (hb : b ≤ w.heap.size) (hr : ∀ k, R k → b ≤ k) : Below b w w' :=
  ⟨h.os, h.tape, h.output, h.size, fun k hk => h.block k (by omega) (fun q => by have := hr k q; omega)⟩
end Go.Proofs.YthfjnfcekeknlaaDoor
namespace Parl
open Go

/-- The tokens ts have been cut off; the rest begins at i. -/
def Pre (s : ByteArray) (ts : List Tok) (i : Nat) : Prop := ∀ r, Chain s (next s i :: r) → Chain s (ts ++ next s i :: r) ∧ hd (ts ++ next s i :: r) = next s 0

theorem Pre.start (s : ByteArray) : Pre s [] 0 := fun _ h => ⟨h, rfl⟩
theorem next_blank {s : ByteArray} {i : Nat} (h : i < s.size) (hb : blank (bAt s i) = true) : next s i = next s (i + 1) := by
  unfold next; rw [skip_step h hb]
theorem Pre.blank {s : ByteArray} {ts : List Tok} {i : Nat} (p : Pre s ts i) (h : i < s.size) (hb : blank (bAt s i) = true) : Pre s ts (i + 1) := by
  intro r hr; rw [← next_blank h hb] at hr ⊢; exact p r hr
theorem next_here {s : ByteArray} {i : Nat} (h : i < s.size) (hb : blank (bAt s i) = false) : next s i = ⟨kindAt s i, i, s.extract i (endAt s i)⟩ := by
  have e : skip s i = i := skip_stop (by rw [hb]; simp)
  have := @next_tok s i (by rw [e]; exact h)
  rw [e] at this; exact this
theorem Pre.tok {s : ByteArray} {ts : List Tok} {i : Nat} (p : Pre s ts i) (h : i < s.size) (hb : Parl.blank (bAt s i) = false) : Pre s (ts ++ [⟨kindAt s i, i, s.extract i (endAt s i)⟩]) (endAt s i) := by
  intro r hr
  have e : skip s i = i := skip_stop (by rw [hb]; simp)
  have hn := next_here h hb
  have hbh := @next_behind s i (by rw [e]; exact h)
  rw [e] at hbh
  have := p (next s (endAt s i) :: r) ⟨by rw [Ne, next_kind, e]; omega, by rw [hbh], hr⟩
  rw [hn] at this
  simpa using this
theorem Pre.done {s : ByteArray} {ts : List Tok} (p : Pre s ts s.size) : Chain s (ts ++ [⟨0, s.size, ByteArray.empty⟩]) ∧ hd (ts ++ [⟨0, s.size, ByteArray.empty⟩]) = next s 0 := by
  have e : next s s.size = ⟨0, s.size, ByteArray.empty⟩ := next_end (skip_ge s s.size)
  have := p [] (by rw [e]; rfl)
  rw [e] at this; exact this
theorem kind_name {s : ByteArray} {i : Nat} (h : i < s.size) (a : low (bAt s i) = true) : kindAt s i = 2 ∧ endAt s i = wordEnd s 2 i := by
  have e : kindAt s i = 2 := by unfold kindAt; rw [if_neg (by omega), if_pos a]
  exact ⟨e, by unfold endAt; rw [e]; rfl⟩
theorem kind_var {s : ByteArray} {i : Nat} (h : i < s.size) (a : low (bAt s i) = false) (b : upp (bAt s i) = true) : kindAt s i = 3 ∧ endAt s i = wordEnd s 3 i := by
  have e : kindAt s i = 3 := by unfold kindAt; rw [if_neg (by omega), if_neg (by simp [a]), if_pos b]
  exact ⟨e, by unfold endAt; rw [e]; rfl⟩
theorem kind_num {s : ByteArray} {i : Nat} (h : i < s.size) (a : low (bAt s i) = false) (b : upp (bAt s i) = false) (c : dig (bAt s i) = true) : kindAt s i = 4 ∧ endAt s i = wordEnd s 4 i := by
  have e : kindAt s i = 4 := by unfold kindAt; rw [if_neg (by omega), if_neg (by simp [a]), if_neg (by simp [b]), if_pos c]
  exact ⟨e, by unfold endAt; rw [e]; rfl⟩
theorem kind_sign {s : ByteArray} {i : Nat} (h : i < s.size) (a : low (bAt s i) = false) (b : upp (bAt s i) = false) (c : dig (bAt s i) = false) (d : 0 < signLen s i) : kindAt s i = 5 ∧ endAt s i = i + signLen s i := by
  have e : kindAt s i = 5 := by unfold kindAt; rw [if_neg (by omega), if_neg (by simp [a]), if_neg (by simp [b]), if_neg (by simp [c]), if_pos d]
  exact ⟨e, by unfold endAt; rw [e]; rfl⟩
end Parl
namespace Parl
open Go

/-- What stands from a place on. -/
def At (s : ByteArray) (p : Nat) (x : List UInt8) : Prop := p ≤ s.size ∧ s.data.toList.drop p = x
theorem At.start (s : ByteArray) : At s 0 s.data.toList := ⟨Nat.zero_le _, rfl⟩
theorem At.head {s : ByteArray} {p : Nat} {c : UInt8} {x : List UInt8} (h : At s p (c :: x)) : p < s.size ∧ bAt s p = c.toNat ∧ At s (p + 1) x := by
  have hl := len_eq s
  have hp : p < s.size := by
    have := congrArg List.length h.2
    rw [List.length_drop] at this
    simp at this
    have := h.1
    omega
  have h2 := h.2
  rw [List.drop_eq_getElem_cons (by omega)] at h2
  injection h2 with h3 h4
  exact ⟨hp, by rw [bAt_lt hp, ← h3, get_eq hp], by omega, h4⟩
theorem At.nil {s : ByteArray} {p : Nat} (h : At s p []) : p = s.size := by
  have hl := len_eq s
  have := congrArg List.length h.2
  rw [List.length_drop] at this
  simp at this
  have := h.1
  omega
theorem At.more {s : ByteArray} : ∀ {x y : List UInt8} {p : Nat}, At s p (x ++ y) → At s (p + x.length) y
  | [], _, _, h => h
  | c :: x, y, p, h => by
    have := (At.head (c := c) (x := x ++ y) h).2.2.more
    rw [List.length_cons]
    rwa [show p + (x.length + 1) = p + 1 + x.length by omega]
theorem At.text {s : ByteArray} {p : Nat} {x y : List UInt8} (h : At s p (x ++ y)) : s.extract p (p + x.length) = ⟨x.toArray⟩ := by
  have e : (s.extract p (p + x.length)).toList = x := by
    rw [Lib.extract_toList, h.2, show p + x.length - p = x.length by omega]
    simp
  rw [ByteArray.toList_eq] at e
  exact ByteArray.ext (Array.ext' (by simpa using e))
/-- The tokens from a place on. -/
def Tk (s : ByteArray) (p : Nat) (l : List Tok) : Prop := Chain s l ∧ hd l = next s p
theorem Tk.blank {s : ByteArray} {p : Nat} {l : List Tok} {c : UInt8} {x : List UInt8} (h : Tk s p l) (ha : At s p (c :: x)) (hb : Parl.blank c.toNat = true) : Tk s (p + 1) l ∧ At s (p + 1) x := by
  obtain ⟨h1, h2, h3⟩ := ha.head
  exact ⟨⟨h.1, h.2.trans (next_blank h1 (by rw [h2]; exact hb))⟩, h3⟩
theorem Tk.tok {s : ByteArray} {p : Nat} {l : List Tok} {c : UInt8} {x : List UInt8} (h : Tk s p l) (ha : At s p (c :: x)) (hb : Parl.blank c.toNat = false) : l = ⟨kindAt s p, p, s.extract p (endAt s p)⟩ :: l.tail ∧ Tk s (endAt s p) l.tail := by
  obtain ⟨h1, h2, h3⟩ := ha.head
  have hn := next_here h1 (by rw [h2]; exact hb)
  have hk : (hd l).kind ≠ 0 := by
    rw [h.2, hn]
    show kindAt s p ≠ 0
    rw [Ne, kindAt_zero]
    omega
  have hbh : (hd l).pos + (hd l).text.size = endAt s p := by
    have e : skip s p = p := skip_stop (by rw [h2, hb]; simp)
    rw [h.2]
    have := @next_behind s p (by rw [e]; exact h1)
    rw [e] at this
    exact this
  obtain ⟨t1, t2, t3⟩ := h.1.tail hk
  rw [hbh] at t2
  refine ⟨?_, t1, t2⟩
  rw [h.2, hn] at t3
  exact t3
theorem Tk.done {s : ByteArray} {p : Nat} {l : List Tok} (h : Tk s p l) (ha : At s p []) : (hd l).kind = 0 := by
  rw [h.2, next_kind]
  have := skip_ge s p
  have := ha.nil
  omega
theorem word_end {s : ByteArray} {k : Nat} : ∀ {wd rest : List UInt8} {p : Nat}, At s p (wd ++ rest) → (∀ c ∈ wd, inWord k c.toNat = true) → (∀ c r, rest = c :: r → inWord k c.toNat = false) → wordEnd s k p = p + wd.length
  | [], rest, p, h, _, hr => by
    refine wordEnd_stop ?_
    cases rest with
    | nil => have := h.nil; omega
    | cons c r =>
      obtain ⟨h1, h2, h3⟩ := At.head (c := c) (x := r) h
      rw [h2, hr c r rfl]
      simp
  | c :: wd, rest, p, h, hw, hr => by
    obtain ⟨h1, h2, h3⟩ := At.head (c := c) (x := wd ++ rest) h
    rw [wordEnd_step h1 (by rw [h2]; exact hw c (by simp)), word_end h3 (fun d hd => hw d (by simp [hd])) hr, List.length_cons]
    omega
theorem inWord_3 {k c : Nat} (h : inWord 3 c = false) (hk : k = 2 ∨ k = 3 ∨ k = 4) : inWord k c = false := by
  unfold inWord at h ⊢
  rcases hk with rfl | rfl | rfl
  · simp at h ⊢
    exact h.1
  · exact h
  · simp at h ⊢
    exact h.1.2
/-- A text that is a name, a variable or a number. -/
def wordy (k : Nat) (x : List UInt8) : Prop := ∃ c r, x = c :: r ∧ (k = 2 ∧ low c.toNat = true ∨ k = 3 ∧ upp c.toNat = true ∨ k = 4 ∧ dig c.toNat = true) ∧ ∀ d ∈ x, inWord k d.toNat = true
theorem low_dis {c : Nat} (h : upp c = true) : low c = false := by unfold upp at h; unfold low; simp at h ⊢; omega
theorem dig_dis {c : Nat} (h : dig c = true) : low c = false ∧ upp c = false := by unfold dig at h; unfold low upp; simp at h ⊢; omega
theorem blank_dis {c : Nat} (h : low c = true ∨ upp c = true ∨ dig c = true) : blank c = false := by unfold low upp dig at h; unfold blank; simp at h ⊢; omega
theorem Tk.word {s : ByteArray} {k p : Nat} {l : List Tok} {x rest : List UInt8} (h : Tk s p l) (hx : wordy k x) (ha : At s p (x ++ rest)) (hr : ∀ c r, rest = c :: r → inWord 3 c.toNat = false) : l = ⟨k, p, ⟨x.toArray⟩⟩ :: l.tail ∧ Tk s (p + x.length) l.tail ∧ At s (p + x.length) rest := by
  obtain ⟨c, r, rfl, hc, hw⟩ := hx
  have hk : k = 2 ∨ k = 3 ∨ k = 4 := by omega
  obtain ⟨h1, h2, h3⟩ := At.head (c := c) (x := r ++ rest) ha
  have hb : Parl.blank c.toNat = false := by
    rcases hc with ⟨_, q⟩ | ⟨_, q⟩ | ⟨_, q⟩
    · exact blank_dis (Or.inl q)
    · exact blank_dis (Or.inr (Or.inl q))
    · exact blank_dis (Or.inr (Or.inr q))
  have hend := word_end (k := k) ha hw (fun c r q => inWord_3 (hr c r q) hk)
  have hke : kindAt s p = k ∧ endAt s p = p + (c :: r).length := by
    rw [← hend]
    rcases hc with ⟨rfl, q⟩ | ⟨rfl, q⟩ | ⟨rfl, q⟩
    · exact kind_name h1 (by rw [h2]; exact q)
    · exact kind_var h1 (by rw [h2]; exact low_dis q) (by rw [h2]; exact q)
    · exact kind_num h1 (by rw [h2]; exact (dig_dis q).1) (by rw [h2]; exact (dig_dis q).2) (by rw [h2]; exact q)
  obtain ⟨t1, t2⟩ := h.tok ha hb
  rw [hke.1, hke.2, ha.text] at t1
  rw [hke.2] at t2
  exact ⟨t1, t2, ha.more⟩
def noWord (c : Nat) : Bool := !low c && !upp c && !dig c && !blank c
theorem Tk.sign1 {s : ByteArray} {p : Nat} {l : List Tok} {a : UInt8} {rest : List UInt8} (h : Tk s p l) (ha : At s p (a :: rest)) (hn : noWord a.toNat = true) (hs : shortSign a.toNat = true) (hl : ∀ c r, rest = c :: r → longSign a.toNat c.toNat = false) : l = ⟨5, p, ⟨#[a]⟩⟩ :: l.tail ∧ Tk s (p + 1) l.tail ∧ At s (p + 1) rest := by
  obtain ⟨h1, h2, h3⟩ := ha.head
  unfold noWord at hn
  simp only [Bool.and_eq_true, Bool.not_eq_true'] at hn
  obtain ⟨⟨⟨n1, n2⟩, n3⟩, n4⟩ := hn
  have hs : signLen s p = 1 := by
    unfold signLen
    rw [if_neg, if_pos ⟨h1, by rw [h2]; exact hs⟩]
    rintro ⟨q1, q2⟩
    cases rest with
    | nil => have := h3.nil; omega
    | cons c r =>
      obtain ⟨k1, k2, k3⟩ := h3.head
      rw [h2, k2, hl c r rfl] at q2
      cases q2
  have hke := kind_sign h1 (by rw [h2]; exact n1) (by rw [h2]; exact n2) (by rw [h2]; exact n3) (by omega)
  rw [hs] at hke
  obtain ⟨t1, t2⟩ := h.tok ha n4
  rw [hke.1, hke.2, show s.extract p (p + 1) = _ from At.text (x := [a]) (y := rest) ha] at t1
  rw [hke.2] at t2
  exact ⟨t1, t2, h3⟩
/-- What the token begins with. -/
theorem Tk.first {s : ByteArray} {p : Nat} {l : List Tok} {c : UInt8} {x : List UInt8} (h : Tk s p l) (ha : At s p (c :: x)) (hb : Parl.blank c.toNat = false) : ∃ r, (hd l).text.toList = c :: r := by
  obtain ⟨h1, h2, h3⟩ := ha.head
  obtain ⟨t1, _⟩ := h.tok ha hb
  rw [t1]
  show ∃ r, (s.extract p (endAt s p)).toList = c :: r
  have := endAt_gt h1
  rw [Lib.extract_toList, ha.2]
  cases hq : endAt s p - p with
  | zero => omega
  | succ n => exact ⟨_, rfl⟩
end Parl
namespace Parl
open Go

/-- How variables and numbers are written. -/
structure Sty where
  v : ByteArray → ByteArray
  n : ByteArray → ByteArray
def arS : List (List UInt8) → List UInt8
  | [] => []
  | x :: xs => 40 :: x ++ xs.flatMap (fun y => 44 :: y) ++ [41]
/-- A term, written so. -/
def prT (σ : Sty) : Nat → Tm → List UInt8
  | 0, _ => []
  | f + 1, t => if t.kind = 3 then (σ.v t.text).toList else if t.kind = 4 then (σ.n t.text).toList else t.text.toList ++ arS (t.args.map (prT σ f))
/-- The term that is read then. -/
def mpT (σ : Sty) : Nat → Tm → Tm
  | 0, t => t
  | f + 1, t => if t.kind = 3 then ⟨3, σ.v t.text, []⟩ else if t.kind = 4 then ⟨4, σ.n t.text, []⟩ else ⟨2, t.text, t.args.map (mpT σ f)⟩
def okT (σ : Sty) : Nat → Tm → Prop
  | 0, _ => False
  | f + 1, t => (t.kind = 3 ∧ wordy 3 (σ.v t.text).toList) ∨ (t.kind = 4 ∧ wordy 4 (σ.n t.text).toList ∧ (σ.n t.text).size ≤ 6) ∨ (t.kind = 2 ∧ wordy 2 t.text.toList ∧ t.args.length ≤ 3 ∧ ∀ a ∈ t.args, okT σ f a)
def stops : List UInt8 := [44, 41, 61, 60, 92, 124, 46, 58]
def okRest (rest : List UInt8) : Prop := ∃ c r, (rest = c :: r ∨ rest = 32 :: c :: r) ∧ c ∈ stops
theorem ba_back (b : ByteArray) : (⟨b.toList.toArray⟩ : ByteArray) = b := by
  rw [ByteArray.toList_eq]
theorem ba_list (x : List UInt8) : (⟨x.toArray⟩ : ByteArray).toList = x := by
  rw [ByteArray.toList_eq]
theorem stops_is {c : UInt8} (h : c ∈ stops) : Parl.blank c.toNat = false ∧ inWord 3 c.toNat = false ∧ c ≠ 40 := by
  simp only [stops, List.mem_cons, List.not_mem_nil, or_false] at h
  rcases h with rfl | rfl | rfl | rfl | rfl | rfl | rfl | rfl <;> decide
theorem okRest.word {rest : List UInt8} (h : okRest rest) : ∀ c r, rest = c :: r → inWord 3 c.toNat = false := by
  obtain ⟨c, r, h1 | h1, h2⟩ := h
  · intro d q hq
    rw [h1] at hq
    injection hq with e _
    subst e
    exact (stops_is h2).2.1
  · intro d q hq
    rw [h1] at hq
    injection hq with e _
    subst e
    decide
theorem Tk.rest {s : ByteArray} {p : Nat} {l : List Tok} {rest : List UInt8} (h : Tk s p l) (ha : At s p rest) (hr : okRest rest) : ∃ c r, c ∈ stops ∧ (hd l).text.toList = c :: r := by
  obtain ⟨c, r, h1 | h1, h2⟩ := hr
  · subst h1
    obtain ⟨q, hq⟩ := h.first ha (stops_is h2).1
    exact ⟨c, q, h2, hq⟩
  · subst h1
    obtain ⟨k1, k2⟩ := h.blank ha (by decide)
    obtain ⟨q, hq⟩ := k1.first k2 (stops_is h2).1
    exact ⟨c, q, h2, hq⟩
theorem sees_first {l : List Tok} {c d : UInt8} {r g : List UInt8} (h : (hd l).text.toList = c :: r) (hd : c ≠ d) : sees l (d :: g) = false := by
  unfold sees
  rw [h]
  simp [hd]
theorem sees_cons (p : Nat) (x g : List UInt8) (m : List Tok) : sees (⟨5, p, ⟨x.toArray⟩⟩ :: m) g = (x == g) := by
  show ((5 == 5) && (⟨x.toArray⟩ : ByteArray).toList == g) = _
  rw [ba_list]
  rfl
theorem long_no {a : Nat} (h : a ≠ 58 ∧ a ≠ 61 ∧ a ≠ 92) (c : Nat) : longSign a c = false := by
  unfold longSign
  simp [h.1, h.2.1, h.2.2]
/-- A sign of one byte that begins no longer one. -/
theorem Tk.one {s : ByteArray} {p : Nat} {l : List Tok} {rest : List UInt8} (a : UInt8) (h : Tk s p l) (ha : At s p (a :: rest)) (hq : (noWord a.toNat && shortSign a.toNat && a != 58 && a != 61 && a != 92) = true) : l = ⟨5, p, ⟨#[a]⟩⟩ :: l.tail ∧ Tk s (p + 1) l.tail ∧ At s (p + 1) rest := by
  simp only [Bool.and_eq_true, bne_iff_ne, ne_eq] at hq
  obtain ⟨⟨⟨⟨h1, h2⟩, h3⟩, h4⟩, h5⟩ := hq
  refine h.sign1 ha h1 h2 (fun c r _ => long_no ⟨fun e => h3 ?_, fun e => h4 ?_, fun e => h5 ?_⟩ _)
  · exact UInt8.toNat_inj.1 e
  · exact UInt8.toNat_inj.1 e
  · exact UInt8.toNat_inj.1 e
def ParT (σ : Sty) (f : Nat) (t : Tm) : Prop := ∀ (s : ByteArray) (p : Nat) (l : List Tok) (rest : List UInt8), Tk s p l → At s p (prT σ f t ++ rest) → okRest rest → ∃ l', term f l = .inr (mpT σ f t, l') ∧ Tk s (p + (prT σ f t).length) l' ∧ At s (p + (prT σ f t).length) rest
theorem par_args {σ : Sty} {f : Nat} : ∀ (ts : List Tm) (t : Tm) (k : Nat), ts.length ≤ k → ParT σ f t → (∀ u ∈ ts, ParT σ f u) → ∀ (s : ByteArray) (p : Nat) (l : List Tok) (rest : List UInt8), Tk s p l → At s p (prT σ f t ++ (ts.map (prT σ f)).flatMap (fun y => 44 :: y) ++ 41 :: rest) → ∃ l', argsOf (term f) k l = .inr (mpT σ f t :: ts.map (mpT σ f), l') ∧ Tk s (p + (prT σ f t ++ (ts.map (prT σ f)).flatMap (fun y => 44 :: y)).length + 1) l' ∧ At s (p + (prT σ f t ++ (ts.map (prT σ f)).flatMap (fun y => 44 :: y)).length + 1) rest
  | [], t, k, _, ht, _, s, p, l, rest, hl, ha => by
    simp only [List.map_nil, List.flatMap_nil, List.append_nil] at ha ⊢
    obtain ⟨l1, e1, k1, a1⟩ := ht s p l _ hl ha ⟨41, rest, Or.inl rfl, by decide⟩
    obtain ⟨e2, k2, a2⟩ := k1.one 41 a1 (by decide)
    refine ⟨l1.tail, ?_, k2, a2⟩
    rw [argsOf, e1]
    dsimp only
    rw [e2]
    rw [show sees (⟨5, p + (prT σ f t).length, ⟨#[41]⟩⟩ :: l1.tail) [44] = false from sees_cons _ [41] [44] _, show sees (⟨5, p + (prT σ f t).length, ⟨#[41]⟩⟩ :: l1.tail) [41] = true from sees_cons _ [41] [41] _]
    rfl
  | u :: ts, t, k, hk, ht, hu, s, p, l, rest, hl, ha => by
    cases k with
    | zero => simp at hk
    | succ k =>
      simp only [List.map_cons, List.flatMap_cons, List.append_assoc, List.cons_append] at ha
      obtain ⟨l1, e1, k1, a1⟩ := ht s p l _ hl ha ⟨44, _, Or.inl rfl, by decide⟩
      obtain ⟨e2, k2, a2⟩ := k1.one 44 a1 (by decide)
      obtain ⟨l3, e3, k3, a3⟩ := par_args ts u k (by simpa using hk) (hu u (by simp)) (fun x hx => hu x (by simp [hx])) s _ _ rest k2 (by simpa using a2)
      have hz : p + (prT σ f t).length + 1 + (prT σ f u ++ (ts.map (prT σ f)).flatMap (fun y => 44 :: y)).length + 1 = p + (prT σ f t ++ ((u :: ts).map (prT σ f)).flatMap (fun y => 44 :: y)).length + 1 := by
        simp; omega
      rw [hz] at k3 a3
      refine ⟨l3, ?_, k3, a3⟩
      rw [argsOf, e1]
      dsimp only
      rw [e2]
      rw [if_pos (show sees (⟨5, p + (prT σ f t).length, ⟨#[44]⟩⟩ :: l1.tail) [44] = true from sees_cons _ [44] [44] _)]
      show (match argsOf (term f) k l1.tail with | .inl e => _ | .inr (ts, l2) => _) = _
      rw [e3]
      rfl
theorem par_term (σ : Sty) : ∀ (f : Nat) (t : Tm), okT σ f t → ParT σ f t
  | 0, _, h => h.elim
  | f + 1, t, h => by
    intro s p l rest hl ha hr
    rcases h with ⟨hk, hw⟩ | ⟨hk, hw, h6⟩ | ⟨hk, hw, h3, hargs⟩
    · have e0 : prT σ (f + 1) t = (σ.v t.text).toList := by unfold prT; rw [if_pos hk]
      have e1 : mpT σ (f + 1) t = ⟨3, σ.v t.text, []⟩ := by unfold mpT; rw [if_pos hk]
      rw [e0] at ha ⊢
      obtain ⟨k1, k2, k3⟩ := hl.word hw ha hr.word
      rw [ba_back] at k1
      refine ⟨l.tail, ?_, k2, k3⟩
      rw [e1, k1]
      rfl
    · have e0 : prT σ (f + 1) t = (σ.n t.text).toList := by unfold prT; rw [if_neg (by omega), if_pos hk]
      have e1 : mpT σ (f + 1) t = ⟨4, σ.n t.text, []⟩ := by unfold mpT; rw [if_neg (by omega), if_pos hk]
      rw [e0] at ha ⊢
      obtain ⟨k1, k2, k3⟩ := hl.word hw ha hr.word
      rw [ba_back] at k1
      refine ⟨l.tail, ?_, k2, k3⟩
      rw [e1, k1]
      unfold term
      rw [if_pos (show begins (hd (⟨4, p, σ.n t.text⟩ :: l.tail)) = true from rfl), if_neg (show ¬ ((hd (⟨4, p, σ.n t.text⟩ :: l.tail)).kind = 4 ∧ 6 < (hd (⟨4, p, σ.n t.text⟩ :: l.tail)).text.size) from fun q => by have := q.2; change 6 < (σ.n t.text).size at this; omega)]
      rfl
    · have e0 : prT σ (f + 1) t = t.text.toList ++ arS (t.args.map (prT σ f)) := by unfold prT; rw [if_neg (by omega), if_neg (by omega)]
      have e1 : mpT σ (f + 1) t = ⟨2, t.text, t.args.map (mpT σ f)⟩ := by unfold mpT; rw [if_neg (by omega), if_neg (by omega)]
      rw [e0] at ha ⊢
      cases hA : t.args with
      | nil =>
        rw [hA] at ha e1
        simp only [List.map_nil, arS, List.append_nil] at ha e1 ⊢
        obtain ⟨k1, k2, k3⟩ := hl.word hw ha hr.word
        rw [ba_back] at k1
        obtain ⟨c, r, hc, hq⟩ := k2.rest k3 hr
        refine ⟨l.tail, ?_, k2, k3⟩
        have hs : sees l.tail [40] = false := sees_first hq (stops_is hc).2.2
        rw [e1, k1]
        unfold term
        rw [if_pos (show begins (hd (⟨2, p, t.text⟩ :: l.tail)) = true from rfl), if_neg (show ¬ ((hd (⟨2, p, t.text⟩ :: l.tail)).kind = 4 ∧ 6 < (hd (⟨2, p, t.text⟩ :: l.tail)).text.size) from fun q => by have := q.1; change 2 = 4 at this; omega), if_pos (show (hd (⟨2, p, t.text⟩ :: l.tail)).kind = 2 from rfl), if_neg (show ¬ sees (List.tail (⟨2, p, t.text⟩ :: l.tail)) [40] = true from by rw [List.tail_cons, hs]; simp)]
        rfl
      | cons u ts =>
        rw [hA] at ha e1 h3
        have hu := par_term σ f u (hargs u (by rw [hA]; simp))
        have hts := fun x (hx : x ∈ ts) => par_term σ f x (hargs x (by rw [hA]; simp [hx]))
        simp only [List.map_cons, arS, List.append_assoc, List.cons_append, List.nil_append] at ha
        obtain ⟨k1, k2, k3⟩ := hl.word hw ha (fun c r q => by injection q with q _; subst q; decide)
        rw [ba_back] at k1
        obtain ⟨j1, j2, j3⟩ := k2.one 40 k3 (by decide)
        obtain ⟨l3, e3, m3, a3⟩ := par_args ts u 2 (by simpa using h3) hu hts s _ _ rest j2 (by simpa using j3)
        have hz : p + t.text.toList.length + 1 + (prT σ f u ++ (ts.map (prT σ f)).flatMap (fun y => 44 :: y)).length + 1 = p + (t.text.toList ++ arS ((u :: ts).map (prT σ f))).length := by
          simp [arS]; omega
        rw [hz] at m3 a3
        refine ⟨l3, ?_, m3, a3⟩
        rw [e1, k1]
        unfold term
        rw [if_pos (show begins (hd (⟨2, p, t.text⟩ :: l.tail)) = true from rfl), if_neg (show ¬ ((hd (⟨2, p, t.text⟩ :: l.tail)).kind = 4 ∧ 6 < (hd (⟨2, p, t.text⟩ :: l.tail)).text.size) from fun q => by have := q.1; change 2 = 4 at this; omega), if_pos (show (hd (⟨2, p, t.text⟩ :: l.tail)).kind = 2 from rfl), if_pos (show sees (List.tail (⟨2, p, t.text⟩ :: l.tail)) [40] = true from by rw [List.tail_cons, j1]; exact sees_cons _ [40] [40] _)]
        show (match argsOf (term f) 2 l.tail.tail with | .inl e => _ | .inr (ts, l2) => _) = _
        rw [e3]
        rfl
end Parl
namespace Parl

/-- Behind a term in brackets: k more at most. -/
def contArgs (p : List Tok → Res Tm) (k : Nat) (l1 : List Tok) : Res (List Tm) :=
  if sees l1 [44] = true then (match k with
    | 0 => bad 3 l1
    | k + 1 => argsOf p k l1.tail)
  else if sees l1 [41] = true then .inr ([], l1.tail) else bad 2 l1
def preT (ts : List Tm) (r : Res (List Tm)) : Res (List Tm) := match r with
  | .inl e => .inl e
  | .inr (us, l2) => .inr (ts ++ us, l2)

theorem args_cont (p : List Tok → Res Tm) (k : Nat) (l : List Tok) : argsOf p k l = match p l with
    | .inl e => .inl e
    | .inr (t, l1) => preT [t] (contArgs p k l1) := by
  unfold argsOf contArgs
  rcases p l with e | ⟨t, l1⟩
  · rfl
  · dsimp only
    by_cases hc : sees l1 [44] = true
    · rw [if_pos hc, if_pos hc]
      cases k with
      | zero => rfl
      | succ k =>
        dsimp only
        rcases argsOf p k l1.tail with e | ⟨us, l2⟩ <;> rfl
    · rw [if_neg hc, if_neg hc]
      by_cases hb : sees l1 [41] = true
      · rw [if_pos hb, if_pos hb]; rfl
      · rw [if_neg hb, if_neg hb]; rfl
theorem argsOf_err {p : List Tok → Res Tm} (hp : ∀ l e, p l = .inl e → e.1 = 2 ∨ e.1 = 3) : ∀ k l e, argsOf p k l = .inl e → e.1 = 2 ∨ e.1 = 3 := by
  intro k
  induction k with
  | zero =>
    intro l e h
    rw [args_cont] at h
    rcases hr : p l with x | ⟨t, l1⟩
    · rw [hr] at h; injection h with h; subst h; exact hp _ _ hr
    · rw [hr] at h
      dsimp only at h
      unfold contArgs at h
      by_cases hc : sees l1 [44] = true
      · rw [if_pos hc] at h; simp only [preT, bad, Sum.inl.injEq] at h; subst h; exact Or.inr rfl
      · rw [if_neg hc] at h
        by_cases hb : sees l1 [41] = true
        · rw [if_pos hb] at h; cases h
        · rw [if_neg hb] at h; simp only [preT, bad, Sum.inl.injEq] at h; subst h; exact Or.inl rfl
  | succ k ih =>
    intro l e h
    rw [args_cont] at h
    rcases hr : p l with x | ⟨t, l1⟩
    · rw [hr] at h; injection h with h; subst h; exact hp _ _ hr
    · rw [hr] at h
      dsimp only at h
      unfold contArgs at h
      by_cases hc : sees l1 [44] = true
      · rw [if_pos hc] at h
        dsimp only at h
        rcases hq : argsOf p k l1.tail with x | ⟨us, l2⟩
        · rw [hq] at h; simp only [preT, Sum.inl.injEq] at h; subst h; exact ih _ _ hq
        · rw [hq] at h; cases h
      · rw [if_neg hc] at h
        by_cases hb : sees l1 [41] = true
        · rw [if_pos hb] at h; cases h
        · rw [if_neg hb] at h; simp only [preT, bad, Sum.inl.injEq] at h; subst h; exact Or.inl rfl

theorem term_err : ∀ f l e, term f l = .inl e → e.1 = 2 ∨ e.1 = 3 := by
  intro f
  induction f with
  | zero =>
    intro l e h
    rw [term] at h
    by_cases hb : begins (hd l) = true
    · rw [if_pos hb] at h; injection h with h; subst h; exact Or.inr rfl
    · rw [if_neg hb] at h; injection h with h; subst h; exact Or.inl rfl
  | succ f ih =>
    intro l e h
    rw [term] at h
    by_cases hb : begins (hd l) = true
    · rw [if_pos hb] at h
      by_cases hl : (hd l).kind = 4 ∧ 6 < (hd l).text.size
      · rw [if_pos hl] at h; injection h with h; subst h; exact Or.inr rfl
      · rw [if_neg hl] at h
        by_cases hk : (hd l).kind = 2
        · rw [if_pos hk] at h
          by_cases hs : sees l.tail [40] = true
          · rw [if_pos hs] at h
            rcases hq : argsOf (term f) 2 l.tail.tail with x | ⟨us, l2⟩
            · rw [hq] at h; injection h with h; subst h; exact argsOf_err ih _ _ _ hq
            · rw [hq] at h; cases h
          · rw [if_neg hs] at h; cases h
        · rw [if_neg hk] at h; cases h
    · rw [if_neg hb] at h; injection h with h; subst h; exact Or.inl rfl
end Parl
namespace Parl

/-- The look behind it. -/
def neither {α : Type} (r : Res (α × Bool × Bool)) : Res (α × Bool × Bool) := match r with
  | .inl e => .inl e
  | .inr ((x, t, g), l1) => if t = false ∧ g = false then bad 2 l1 else .inr ((x, t, g), l1)

def preI (ys : List Itm) (r : Res (List Itm × Bool × Bool)) : Res (List Itm × Bool × Bool) := match r with
  | .inl e => .inl e
  | .inr ((xs, t, g), l2) => .inr ((ys ++ xs, t, g), l2)
end Parl
namespace Parl

theorem Chain.toks {s : ByteArray} {l : List Tok} (h : Chain s l) (hh : ∃ p, hd l = next s p) : ∀ t ∈ l, ∃ p, t = next s p := by
  induction l with
  | nil => intro t ht; cases ht
  | cons a r ih =>
    intro t ht
    rcases List.mem_cons.1 ht with rfl | ht
    · exact hh
    · cases r with
      | nil => cases ht
      | cons b r => exact ih h.2.2 ⟨_, h.2.1⟩ t ht
theorem Chain.kinds {s : ByteArray} {l : List Tok} (h : Chain s l) (hh : ∃ p, hd l = next s p) (hs : s.size ≤ 240) : ∀ t ∈ l, t.kind ≤ 5 ∧ t.text.size ≤ 240 := by
  intro t ht
  obtain ⟨p, rfl⟩ := h.toks hh t ht
  have := next_fits (s := s) (p := p)
  exact ⟨next_kind_le, by omega⟩
theorem Chain.pos {s : ByteArray} {l : List Tok} (h : Chain s l) : 0 < l.length := by
  cases l with
  | nil => exact h.elim
  | cons a r => simp

end Parl
namespace Parl
open Go

def sp (b : Bool) : List UInt8 := if b = true then [32] else []
def nl (b : Bool) : List UInt8 := if b = true then [10] else []
theorem Tk.sp {s : ByteArray} {p : Nat} {l : List Tok} {rest : List UInt8} (b : Bool) (h : Tk s p l) (ha : At s p (Parl.sp b ++ rest)) : Tk s (p + (Parl.sp b).length) l ∧ At s (p + (Parl.sp b).length) rest := by
  cases b
  · exact ⟨h, ha⟩
  · exact h.blank (c := 32) ha (by decide)
theorem Tk.nl {s : ByteArray} {p : Nat} {l : List Tok} {rest : List UInt8} (b : Bool) (h : Tk s p l) (ha : At s p (Parl.nl b ++ rest)) : Tk s (p + (Parl.nl b).length) l ∧ At s (p + (Parl.nl b).length) rest := by
  cases b
  · exact ⟨h, ha⟩
  · exact h.blank (c := 10) ha (by decide)
def ends : List UInt8 := [44, 46, 124]
def okEnd (rest : List UInt8) : Prop := ∃ c r, (rest = c :: r ∨ rest = 32 :: c :: r) ∧ c ∈ ends
theorem ends_stops {c : UInt8} (h : c ∈ ends) : c ∈ stops := by
  simp only [ends, List.mem_cons, List.not_mem_nil, or_false] at h
  rcases h with rfl | rfl | rfl <;> decide
theorem okEnd.rest {rest : List UInt8} (h : okEnd rest) : okRest rest := by
  obtain ⟨c, r, h1, h2⟩ := h
  exact ⟨c, r, h1, ends_stops h2⟩
theorem Tk.ends {s : ByteArray} {p : Nat} {l : List Tok} {rest : List UInt8} (h : Tk s p l) (ha : At s p rest) (hr : okEnd rest) : testSign l = false ∧ sees l [61] = false ∧ sees l [58, 61] = false := by
  have hq : ∃ c r, c ∈ Parl.ends ∧ (hd l).text.toList = c :: r := by
    obtain ⟨c, r, h1 | h1, h2⟩ := hr
    · subst h1
      obtain ⟨q, hq⟩ := h.first ha (stops_is (ends_stops h2)).1
      exact ⟨c, q, h2, hq⟩
    · subst h1
      obtain ⟨k1, k2⟩ := h.blank ha (by decide)
      obtain ⟨q, hq⟩ := k1.first k2 (stops_is (ends_stops h2)).1
      exact ⟨c, q, h2, hq⟩
  obtain ⟨c, r, hc, hq⟩ := hq
  have hne : c ≠ 60 ∧ c ≠ 61 ∧ c ≠ 92 ∧ c ≠ 58 := by
    simp only [Parl.ends, List.mem_cons, List.not_mem_nil, or_false] at hc
    rcases hc with rfl | rfl | rfl <;> decide
  unfold testSign
  rw [sees_first hq hne.1, sees_first hq hne.2.1, sees_first hq hne.2.1, sees_first hq hne.2.2.1, sees_first hq hne.2.2.2, sees_first hq hne.2.1]
  exact ⟨rfl, rfl, rfl⟩
end Parl
namespace Parl
/-- The value of digits, as it is reckoned. -/
def numL (l : List UInt8) : Nat := l.foldl (fun v b => v * 10 + (b.toNat + 208) % 256) 0
def numOf (x : ByteArray) : Nat := numL x.toList
theorem numL_snoc (l : List UInt8) (b : UInt8) : numL (l ++ [b]) = numL l * 10 + (b.toNat + 208) % 256 := by simp [numL]
theorem numF_le (l : List UInt8) : ∀ v m : Nat, 9 * v + 255 ≤ 255 * m → 9 * l.foldl (fun v b => v * 10 + (b.toNat + 208) % 256) v + 255 ≤ 255 * (m * 10 ^ l.length) := by
  induction l with
  | nil => intro v m h; simpa using h
  | cons b r ih =>
    intro v m h
    have := ih (v * 10 + (b.toNat + 208) % 256) (m * 10) (by omega)
    rw [List.foldl_cons, List.length_cons, Nat.pow_succ, Nat.mul_comm (10 ^ r.length) 10, ← Nat.mul_assoc m 10]
    exact this
theorem numL_le (l : List UInt8) (h : l.length ≤ 6) : numL l ≤ 28333333 := by
  have := numF_le l 0 1 (by omega)
  have h6 : 10 ^ l.length ≤ 10 ^ 6 := Nat.pow_le_pow_right (by omega) h
  unfold numL
  generalize 10 ^ l.length = q at *
  omega
end Parl
namespace Go.Proofs.YthfjnfcekeknlaaDoor
/-- Two lists, one by one. -/
def All2 {α β : Type} (R : α → β → Prop) : List α → List β → Prop
  | [], [] => True
  | a :: xs, b :: ys => R a b ∧ All2 R xs ys
  | _, _ => False
theorem All2.imp {α β : Type} {R S : α → β → Prop} (h : ∀ a b, R a b → S a b) : ∀ {xs : List α} {ys : List β}, All2 R xs ys → All2 S xs ys
  | [], [], _ => trivial
  | _ :: _, _ :: _, q => ⟨h _ _ q.1, All2.imp h q.2⟩
theorem All2.length {α β : Type} {R : α → β → Prop} : ∀ {xs : List α} {ys : List β}, All2 R xs ys → xs.length = ys.length
  | [], [], _ => rfl
  | _ :: _, _ :: _, q => by simp [All2.length q.2]
theorem All2.snoc {α β : Type} {R : α → β → Prop} {a : α} {b : β} (h : R a b) : ∀ {xs : List α} {ys : List β}, All2 R xs ys → All2 R (xs ++ [a]) (ys ++ [b])
  | [], [], _ => ⟨h, trivial⟩
  | _ :: _, _ :: _, q => ⟨q.1, All2.snoc h q.2⟩
open Go
theorem num_next {g : ByteArray} {k : Nat} (h : k < g.size) : Parl.numL (g.toList.take (k + 1)) = Parl.numL (g.toList.take k) * 10 + (g[k].toNat + 208) % 256 := by
  rw [← Parl.numL_snoc]
  congr 1
  obtain ⟨d⟩ := g
  rw [ByteArray.toList_mk]
  have h' : k < d.toList.length := by rw [Array.length_toList]; exact h
  rw [List.take_add_one, List.getElem?_eq_getElem h']
  rfl
theorem num_all (g : ByteArray) : Parl.numL (g.toList.take g.size) = Parl.numOf g := by
  obtain ⟨d⟩ := g
  unfold Parl.numOf
  rw [ByteArray.toList_mk]
  congr 1
  exact List.take_of_length_le (by simp [ByteArray.size])
end Go.Proofs.YthfjnfcekeknlaaDoor
namespace Parl
/-- A name joins the list, if it is new. -/
def addN (ns : List (List UInt8)) (x : List UInt8) : List (List UInt8) := if x ∈ ns then ns else ns ++ [x]
def argS : List (List UInt8) → List UInt8
  | [] => []
  | x :: xs => 40 :: x ++ xs.flatMap (fun y => 44 :: y) ++ [41]
/-- A term as it is written; N: the clause's variables. -/
def strF : Nat → List (List UInt8) → Tm → List UInt8
  | 0, _, _ => []
  | f + 1, N, t => if t.kind = 3 then 86 :: Go.Lib.decDigits (N.idxOf t.text.toList) else if t.kind = 4 then Go.Lib.decDigits (numOf t.text) else t.text.toList ++ argS (t.args.map (strF f N))
/-- The variables that have been met behind it. -/
def namesF : Nat → List (List UInt8) → Tm → List (List UInt8)
  | 0, ns, _ => ns
  | f + 1, ns, t => if t.kind = 3 then addN ns t.text.toList else if t.kind = 4 then ns else t.args.foldl (namesF f) ns
/-- Within the bounds. -/
def ok3 : Nat → Tm → Prop
  | 0, _ => False
  | f + 1, t => t.text.size ≤ 240 ∧ t.args.length ≤ 3 ∧ (t.kind = 4 → t.text.size ≤ 6) ∧ ∀ a ∈ t.args, ok3 f a

theorem addN_ext (ns : List (List UInt8)) (x : List UInt8) : ∃ M, addN ns x = ns ++ M ∧ M.length ≤ 1 := by
  unfold addN
  by_cases h : x ∈ ns
  · rw [if_pos h]; exact ⟨[], by simp, by simp⟩
  · rw [if_neg h]; exact ⟨[x], rfl, by simp⟩
theorem addN_idx (ns M : List (List UInt8)) (x : List UInt8) : (addN ns x ++ M).idxOf x = ns.idxOf x := by
  unfold addN
  by_cases h : x ∈ ns
  · rw [if_pos h, List.idxOf_append, if_pos h]
  · rw [if_neg h, List.append_assoc, List.idxOf_append, if_neg h]
    simp [List.idxOf_eq_length h]
theorem fold_ext {F : List (List UInt8) → Tm → List (List UInt8)} {c : Nat} : ∀ (ts : List Tm), (∀ t ∈ ts, ∀ ns, ∃ M, F ns t = ns ++ M ∧ M.length ≤ c) → ∀ ns, ∃ M, ts.foldl F ns = ns ++ M ∧ M.length ≤ ts.length * c
  | [], _, ns => ⟨[], by simp, by simp⟩
  | t :: ts, h, ns => by
    obtain ⟨M, hM, hl⟩ := h t (by simp) ns
    obtain ⟨M2, hM2, hl2⟩ := fold_ext ts (fun u hu => h u (by simp [hu])) (F ns t)
    refine ⟨M ++ M2, by rw [List.foldl_cons, hM2, hM, List.append_assoc], ?_⟩
    rw [List.length_append, List.length_cons, Nat.add_mul]
    omega
theorem namesF_ext : ∀ (f : Nat) (t : Tm), ok3 f t → ∀ ns, ∃ M, namesF f ns t = ns ++ M ∧ M.length ≤ 3 ^ f
  | 0, _, h, _ => h.elim
  | f + 1, t, h, ns => by
    obtain ⟨h1, h2, h3, h4⟩ := h
    unfold namesF
    by_cases hk : t.kind = 3
    · rw [if_pos hk]
      obtain ⟨M, hM, hl⟩ := addN_ext ns t.text.toList
      exact ⟨M, hM, Nat.le_trans hl (Nat.one_le_pow _ _ (by omega))⟩
    · rw [if_neg hk]
      by_cases hk4 : t.kind = 4
      · rw [if_pos hk4]
        exact ⟨[], by simp, Nat.zero_le _⟩
      rw [if_neg hk4]
      obtain ⟨M, hM, hl⟩ := fold_ext (c := 3 ^ f) t.args (fun u hu => namesF_ext f u (h4 u hu)) ns
      refine ⟨M, hM, Nat.le_trans hl ?_⟩
      rw [Nat.pow_succ, Nat.mul_comm]
      exact Nat.mul_le_mul_left _ h2
def argP : List (List UInt8) → List UInt8
  | [] => []
  | x :: xs => 40 :: x ++ xs.flatMap (fun y => 44 :: y)
theorem argP_len {c : Nat} : ∀ (l : List (List UInt8)), (∀ x ∈ l, x.length ≤ c) → (argP l).length ≤ l.length * (c + 1)
  | [], _ => by simp [argP]
  | x :: xs, h => by
    have h1 := h x (by simp)
    have : ∀ (ys : List (List UInt8)), (∀ y ∈ ys, y.length ≤ c) → (ys.flatMap (fun y => 44 :: y)).length ≤ ys.length * (c + 1) := by
      intro ys
      induction ys with
      | nil => intro _; simp
      | cons y ys ih =>
        intro h
        have a := h y (by simp)
        have b := ih (fun z hz => h z (by simp [hz]))
        rw [List.flatMap_cons, List.length_append, List.length_cons, List.length_cons, Nat.add_mul]
        omega
    have h2 := this xs (fun y hy => h y (by simp [hy]))
    simp only [argP, List.cons_append, List.length_cons, List.length_append, Nat.add_mul]
    omega
theorem bytes_len (b : ByteArray) : b.toList.length = b.size := by
  obtain ⟨d⟩ := b
  rw [Go.ByteArray.toList_mk]
  simp [ByteArray.size]
end Parl
namespace Parl
def strI (N : List (List UInt8)) (x : Itm) : List UInt8 :=
  strF 8 N x.left ++ (match x.right with
    | none => []
    | some r => x.sign ++ strF 8 N r) ++ (match x.last with
    | none => []
    | some z => x.op ++ strF 8 N z)
def nameO (ns : List (List UInt8)) : Option Tm → List (List UInt8)
  | none => ns
  | some t => namesF 8 ns t
def namesI (ns : List (List UInt8)) (x : Itm) : List (List UInt8) := nameO (nameO (namesF 8 ns x.left) x.right) x.last
def okI (x : Itm) : Prop := ok3 8 x.left ∧ (∀ r, x.right = some r → ok3 8 r) ∧ (∀ z, x.last = some z → ok3 8 z)
theorem nameO_ext {ns : List (List UInt8)} {t : Option Tm} (h : ∀ r, t = some r → ok3 8 r) : ∃ M, nameO ns t = ns ++ M ∧ M.length ≤ 3 ^ 8 := by
  cases t with
  | none => exact ⟨[], by simp [nameO], by simp⟩
  | some r => exact namesF_ext 8 r (h r rfl) ns
theorem namesI_ext (x : Itm) (h : okI x) (ns : List (List UInt8)) : ∃ M, namesI ns x = ns ++ M ∧ M.length ≤ 20000 := by
  obtain ⟨M1, h1, l1⟩ := namesF_ext 8 x.left h.1 ns
  obtain ⟨M2, h2, l2⟩ := nameO_ext (ns := namesF 8 ns x.left) (t := x.right) h.2.1
  obtain ⟨M3, h3, l3⟩ := nameO_ext (ns := nameO (namesF 8 ns x.left) x.right) (t := x.last) h.2.2
  refine ⟨M1 ++ (M2 ++ M3), by unfold namesI; rw [h3, h2, h1]; simp, ?_⟩
  simp at l1 l2 l3 ⊢
  omega
end Parl
namespace Parl
def joinC : List (List UInt8) → List UInt8
  | [] => []
  | x :: xs => x ++ xs.flatMap (fun y => 44 :: 32 :: y)
def namesL (ns : List (List UInt8)) (xs : List Itm) : List (List UInt8) := xs.foldl namesI ns
def strL (N : List (List UInt8)) (xs : List Itm) : List UInt8 := joinC (xs.map (strI N))
theorem foldA_ext {α : Type} {F : List (List UInt8) → α → List (List UInt8)} {c : Nat} (xs : List α) : (∀ t ∈ xs, ∀ ns, ∃ M, F ns t = ns ++ M ∧ M.length ≤ c) → ∀ ns, ∃ M, xs.foldl F ns = ns ++ M ∧ M.length ≤ xs.length * c := by
  induction xs with
  | nil => exact fun _ ns => ⟨[], by simp, by simp⟩
  | cons t ts ih =>
    intro h ns
    obtain ⟨M, hM, hl⟩ := h t (by simp) ns
    obtain ⟨M2, hM2, hl2⟩ := ih (fun u hu => h u (by simp [hu])) (F ns t)
    refine ⟨M ++ M2, by rw [List.foldl_cons, hM2, hM, List.append_assoc], ?_⟩
    rw [List.length_append, List.length_cons, Nat.add_mul]
    omega
theorem foldI_ext (xs : List Itm) (h : ∀ x ∈ xs, okI x) (ns : List (List UInt8)) : ∃ M, xs.foldl namesI ns = ns ++ M ∧ M.length ≤ xs.length * 20000 :=
  foldA_ext (F := namesI) (c := 20000) xs (fun t ht => namesI_ext t (h t ht)) ns
end Parl
namespace Parl
def NH (c : Cls) : List (List UInt8) := namesF 8 [] c.head
def NT (c : Cls) : List (List UInt8) := namesL (NH c) c.tests
def NG (c : Cls) : List (List UInt8) := namesL (NT c) c.goals
def midC (c : Cls) : List UInt8 := if c.goals.length = 0 then [] else [32, 58, 45, 32]
def guardC (N : List (List UInt8)) (c : Cls) : List UInt8 := if c.tests.length = 0 then [] else strL N c.tests ++ [32, 124, 32]
/-- A clause as it is written. -/
def strC (c : Cls) : List UInt8 := strF 8 (NG c) c.head ++ midC c ++ guardC (NG c) c ++ strL (NG c) c.goals ++ [46, 10]
def strP (cs : List Cls) : List UInt8 := cs.flatMap strC
def okC (c : Cls) : Prop := ok3 8 c.head ∧ (∀ x ∈ c.tests, okI x) ∧ (∀ x ∈ c.goals, okI x)
end Parl
namespace Parl
end Parl
namespace Go.Proofs.YthfjnfcekeknlaaDoor
open Go
theorem ba_app (l m : List UInt8) : (⟨l.toArray⟩ : ByteArray) ++ ⟨m.toArray⟩ = ⟨(l ++ m).toArray⟩ := by
  show (⟨l.toArray⟩ : ByteArray).append ⟨m.toArray⟩ = _
  simp [ByteArray.append]
theorem ba_self (b : ByteArray) : (⟨b.toList.toArray⟩ : ByteArray) = b := by
  obtain ⟨d⟩ := b
  rw [ByteArray.toList_mk]
theorem All2.at {α β : Type} {R : α → β → Prop} : ∀ {xs : List α} {ys : List β}, All2 R xs ys → ∀ (i : Nat) (h : i < xs.length) (h' : i < ys.length), R xs[i] ys[i]
  | _ :: _, _ :: _, q, 0, _, _ => q.1
  | _ :: _, _ :: _, q, i + 1, h, h' => All2.at q.2 i (by simpa using h) (by simpa using h')
theorem ba_lit (c : UInt8) : (⟨#[c]⟩ : ByteArray) = ⟨[c].toArray⟩ := rfl
theorem ba_list {b : ByteArray} {l : List UInt8} (h : b.toList = l) : b = ⟨l.toArray⟩ := by rw [← h, ba_self]
end Go.Proofs.YthfjnfcekeknlaaDoor
namespace Parl
/-- What a match has found so far: what the pattern's variables stand for, who is waited for, whether there was a No. -/
structure Lk where
  st : List (List UInt8 × Tm)
  wt : List (List UInt8)
  no : Bool
def Lk.wait (l : Lk) (x : List UInt8) : Lk := ⟨l.st, addN l.wt x, l.no⟩
def Lk.bad (l : Lk) : Lk := ⟨l.st, l.wt, true⟩
def Lk.none : Lk := ⟨[], [], false⟩
/-- The same number, or the same name with as many arguments. -/
def alike (a b : Tm) : Bool := a.kind == b.kind && ((if a.kind = 4 then numOf a.text == numOf b.text else a.text.toList == b.text.toList) && a.args.length == b.args.length)
/-- Two lists of terms, one by one. -/
def two (g : Tm → Tm → Lk → Lk) : List Tm → List Tm → Lk → Lk
  | a :: ps, b :: qs, l => two g ps qs (g a b l)
  | _, _, l => l
def cmpF : Nat → Tm → Tm → Lk → Lk
  | 0, _, _, l => l
  | f + 1, a, b, l =>
    if a.kind = 3 then
      (if b.kind = 3 then (if a.text.toList = b.text.toList then l else (l.wait a.text.toList).wait b.text.toList) else l.wait a.text.toList)
    else if b.kind = 3 then l.wait b.text.toList
    else if alike a b = true then two (cmpF f) a.args b.args l else l.bad
def Lk.meet (l : Lk) (x : List UInt8) (t : Tm) : Lk := match l.st.find? (fun q => q.1 == x) with
  | some q => cmpF 8 q.2 t l
  | Option.none => ⟨l.st ++ [(x, t)], l.wt, l.no⟩
def matF : Nat → Tm → Tm → Lk → Lk
  | 0, _, _, l => l
  | f + 1, p, t, l =>
    if p.kind = 3 then l.meet p.text.toList t
    else if t.kind = 3 then l.wait t.text.toList
    else if alike p t = true then two (matF f) p.args t.args l else l.bad
def Lk.says (l : Lk) : Nat := if l.no = true then 2 else if l.wt = [] then 1 else 3
def Lk.waits (l : Lk) (t : Tm) : List (List UInt8) := (namesF 8 [] t).filter fun x => decide (x ∈ l.wt)
/-- A text as one term. -/
def whole (l : List Tok) : Res Tm := match term 8 l with
  | .inl e => .inl e
  | .inr (t, l1) => if (hd l1).kind = 0 then .inr (t, l1) else bad 2 l1
def erT (r : Res Tm) : Nat := match r with
  | .inl e => e.1
  | .inr _ => 0
/-- The error of two texts as terms. -/
def bothE (a b : ByteArray) (la lb : List Tok) : Nat := if 64 < a.size ∨ 64 < b.size then 1 else match whole la with
  | .inl (e, _) => e
  | .inr _ => erT (whole lb)
/-- Match's answer. -/
def mtE (a b : ByteArray) (la lb : List Tok) : Nat := bothE a b la lb
def mtL (a b : ByteArray) (la lb : List Tok) : Option (Lk × Tm) := if 64 < a.size ∨ 64 < b.size then Option.none else match whole la, whole lb with
  | .inr (p, _), .inr (t, _) => some (matF 8 p t Lk.none, t)
  | _, _ => Option.none
def mtN (a b : ByteArray) (la lb : List Tok) : Nat := match mtL a b la lb with
  | some (l, _) => l.says
  | Option.none => 0
def mtW (a b : ByteArray) (la lb : List Tok) : List (List UInt8) := match mtL a b la lb with
  | some (l, t) => if l.says = 3 then l.waits t else []
  | Option.none => []
/-- The kinds that terms have; a name alone has arguments. -/
def wfK : Nat → Tm → Prop
  | 0, _ => False
  | f + 1, t => (t.kind = 2 ∨ t.kind = 3 ∨ t.kind = 4) ∧ (t.kind ≠ 2 → t.args = []) ∧ t.args.length ≤ 3 ∧ ∀ a ∈ t.args, wfK f a
theorem args_all {Q : Tm → Prop} {p : List Tok → Res Tm} (hp : ∀ l t l1, p l = .inr (t, l1) → Q t) : ∀ (k : Nat) (l : List Tok) (ts : List Tm) (l2 : List Tok), argsOf p k l = .inr (ts, l2) → (∀ t ∈ ts, Q t) ∧ ts.length ≤ k + 1 := by
  intro k
  induction k with
  | zero =>
    intro l ts l2 h
    unfold argsOf at h
    rcases hq : p l with e | ⟨t, l1⟩
    · rw [hq] at h; cases h
    · rw [hq] at h
      dsimp only at h
      by_cases h1 : sees l1 [44] = true
      · rw [if_pos h1] at h; cases h
      · rw [if_neg h1] at h
        by_cases h2 : sees l1 [41] = true
        · rw [if_pos h2] at h
          cases h
          refine ⟨fun x hx => ?_, by simp⟩
          obtain rfl : x = t := by simpa using hx
          exact hp _ _ _ hq
        · rw [if_neg h2] at h; cases h
  | succ k ih =>
    intro l ts l2 h
    rw [argsOf] at h
    rcases hq : p l with e | ⟨t, l1⟩
    · rw [hq] at h; cases h
    · rw [hq] at h
      dsimp only at h
      by_cases h1 : sees l1 [44] = true
      · rw [if_pos h1] at h
        rcases hr : argsOf p k l1.tail with e | ⟨us, l3⟩
        · rw [hr] at h; cases h
        · rw [hr] at h
          cases h
          obtain ⟨i1, i2⟩ := ih _ _ _ hr
          refine ⟨fun x hx => ?_, by simpa using i2⟩
          rcases List.mem_cons.1 hx with rfl | hx
          · exact hp _ _ _ hq
          · exact i1 x hx
      · rw [if_neg h1] at h
        by_cases h2 : sees l1 [41] = true
        · rw [if_pos h2] at h
          cases h
          refine ⟨fun x hx => ?_, by simp⟩
          obtain rfl : x = t := by simpa using hx
          exact hp _ _ _ hq
        · rw [if_neg h2] at h; cases h
theorem wfK_term : ∀ (f : Nat) (l : List Tok) (t : Tm) (l1 : List Tok), term f l = .inr (t, l1) → wfK f t := by
  intro f
  induction f with
  | zero => intro l t l1 h; rw [term] at h; split at h <;> cases h
  | succ f ih =>
    intro l t l1 h
    rw [term] at h
    by_cases hb : begins (hd l) = true
    · rw [if_pos hb] at h
      by_cases hc : (hd l).kind = 4 ∧ 6 < (hd l).text.size
      · rw [if_pos hc] at h; cases h
      · rw [if_neg hc] at h
        by_cases h2 : (hd l).kind = 2
        · rw [if_pos h2] at h
          by_cases hs : sees l.tail [40] = true
          · rw [if_pos hs] at h
            rcases hq : argsOf (term f) 2 l.tail.tail with x | ⟨us, l2⟩
            · rw [hq] at h; cases h
            · rw [hq] at h; cases h
              obtain ⟨i1, i2⟩ := args_all ih _ _ _ _ hq
              exact ⟨Or.inl rfl, fun q => absurd rfl q, i2, i1⟩
          · rw [if_neg hs] at h; cases h
            exact ⟨Or.inl rfl, fun q => absurd rfl q, by simp, fun a ha => by cases ha⟩
        · rw [if_neg h2] at h; cases h
          refine ⟨?_, fun _ => rfl, by simp, fun a ha => by cases ha⟩
          unfold begins at hb
          simp at hb
          rcases hb with (h3 | h3) | h3
          · exact Or.inl h3
          · exact Or.inr (Or.inl h3)
          · exact Or.inr (Or.inr h3)
    · rw [if_neg hb] at h; cases h
theorem whole_is {l : List Tok} {t : Tm} {l1 : List Tok} (h : whole l = .inr (t, l1)) : term 8 l = .inr (t, l1) ∧ (hd l1).kind = 0 := by
  unfold whole at h
  rcases hq : term 8 l with e | ⟨u, l2⟩
  · rw [hq] at h; cases h
  · rw [hq] at h
    dsimp only at h
    by_cases hk : (hd l2).kind = 0
    · rw [if_pos hk] at h; cases h; exact ⟨rfl, hk⟩
    · rw [if_neg hk] at h; cases h
end Parl
namespace Parl
theorem addN_len (l : List (List UInt8)) (x : List UInt8) : (addN l x).length ≤ l.length + 1 := by
  unfold addN; split <;> simp
theorem two_len {g : Tm → Tm → Lk → Lk} {c : Nat} : ∀ (ps qs : List Tm) (l : Lk), (∀ a ∈ ps, ∀ b l, (g a b l).wt.length ≤ l.wt.length + c) → (two g ps qs l).wt.length ≤ l.wt.length + ps.length * c
  | [], _, l, _ => by simp [two]
  | a :: ps, [], l, _ => by simp only [two]; omega
  | a :: ps, b :: qs, l, h => by
    have h1 := h a (by simp) b l
    have h2 := two_len (g := g) ps qs (g a b l) (fun u hu => h u (by simp [hu]))
    simp only [two, List.length_cons, Nat.add_mul]
    omega
theorem two_step {g : Tm → Tm → Lk → Lk} : ∀ (ps qs : List Tm) (j : Nat) (h : j < ps.length) (h' : j < qs.length) (l : Lk), two g (ps.take (j + 1)) (qs.take (j + 1)) l = g ps[j] qs[j] (two g (ps.take j) (qs.take j) l)
  | [], _, _, h, _, _ => by simp at h
  | _ :: _, [], _, _, h, _ => by simp at h
  | a :: ps, b :: qs, 0, _, _, l => by simp [two]
  | a :: ps, b :: qs, j + 1, h, h', l => by
    have := two_step (g := g) ps qs j (by simpa using h) (by simpa using h') (g a b l)
    simpa [two] using this
theorem cmpF_len : ∀ (f : Nat) (a b : Tm) (l : Lk), wfK f a → (cmpF f a b l).wt.length ≤ l.wt.length + 2 * 3 ^ f
  | 0, _, _, _, h => h.elim
  | f + 1, a, b, l, ⟨_, _, h3, h4⟩ => by
    have hp : 1 ≤ 3 ^ f := Nat.one_le_pow _ _ (by omega)
    have hq : 3 ^ (f + 1) = 3 * 3 ^ f := by rw [Nat.pow_succ, Nat.mul_comm]
    unfold cmpF
    have w1 := fun (l : Lk) x => (show (l.wait x).wt.length ≤ l.wt.length + 1 from addN_len _ _)
    by_cases ha : a.kind = 3
    · rw [if_pos ha]
      by_cases hb : b.kind = 3
      · rw [if_pos hb]
        by_cases he : a.text.toList = b.text.toList
        · rw [if_pos he]; omega
        · rw [if_neg he]
          have q1 := w1 l a.text.toList
          have q2 := w1 (l.wait a.text.toList) b.text.toList
          omega
      · rw [if_neg hb]
        have q1 := w1 l a.text.toList
        omega
    · rw [if_neg ha]
      by_cases hb : b.kind = 3
      · rw [if_pos hb]
        have q1 := w1 l b.text.toList
        omega
      · rw [if_neg hb]
        by_cases hk : alike a b = true
        · rw [if_pos hk]
          have := two_len (g := cmpF f) (c := 2 * 3 ^ f) a.args b.args l (fun u hu v m => cmpF_len f u v m (h4 u hu))
          have h5 := Nat.mul_le_mul_right (2 * 3 ^ f) h3
          omega
        · rw [if_neg hk]
          show l.wt.length ≤ _
          omega
theorem cmpF_st : ∀ (f : Nat) (a b : Tm) (l : Lk), (cmpF f a b l).st = l.st
  | 0, _, _, _ => rfl
  | f + 1, a, b, l => by
    unfold cmpF
    have : ∀ (ps qs : List Tm) (l : Lk), (two (cmpF f) ps qs l).st = l.st := by
      intro ps
      induction ps with
      | nil => intro qs l; simp [two]
      | cons a ps ih =>
        intro qs l
        cases qs with
        | nil => simp [two]
        | cons b qs => rw [two, ih, cmpF_st f]
    split
    · split
      · split <;> rfl
      · rfl
    · split
      · rfl
      · split
        · exact this _ _ _
        · rfl
theorem alike_args {a b : Tm} (h : alike a b = true) : a.args.length = b.args.length := by
  unfold alike at h
  simp only [Bool.and_eq_true, beq_iff_eq] at h
  exact h.2.2
end Parl
namespace Parl
theorem two_lenR {g : Tm → Tm → Lk → Lk} {c : Nat} : ∀ (ps qs : List Tm) (l : Lk), (∀ b ∈ qs, ∀ a l, (g a b l).wt.length ≤ l.wt.length + c) → (two g ps qs l).wt.length ≤ l.wt.length + qs.length * c
  | [], _, l, _ => by simp [two]
  | a :: ps, [], l, _ => by simp [two]
  | a :: ps, b :: qs, l, h => by
    have h1 := h b (by simp) a l
    have h2 := two_lenR (g := g) ps qs (g a b l) (fun u hu => h u (by simp [hu]))
    simp only [two, List.length_cons, Nat.add_mul]
    omega
theorem two_stR {g : Tm → Tm → Lk → Lk} {c : Nat} : ∀ (ps qs : List Tm) (l : Lk), (∀ b ∈ qs, ∀ a l, (g a b l).st.length ≤ l.st.length + c) → (two g ps qs l).st.length ≤ l.st.length + qs.length * c
  | [], _, l, _ => by simp [two]
  | a :: ps, [], l, _ => by simp [two]
  | a :: ps, b :: qs, l, h => by
    have h1 := h b (by simp) a l
    have h2 := two_stR (g := g) ps qs (g a b l) (fun u hu => h u (by simp [hu]))
    simp only [two, List.length_cons, Nat.add_mul]
    omega
theorem cmpF_lenR : ∀ (f : Nat) (a b : Tm) (l : Lk), wfK f b → (cmpF f a b l).wt.length ≤ l.wt.length + 2 * 3 ^ f
  | 0, _, _, _, h => h.elim
  | f + 1, a, b, l, ⟨_, _, h3, h4⟩ => by
    have hp : 1 ≤ 3 ^ f := Nat.one_le_pow _ _ (by omega)
    have hq : 3 ^ (f + 1) = 3 * 3 ^ f := by rw [Nat.pow_succ, Nat.mul_comm]
    unfold cmpF
    have w1 := fun (l : Lk) x => (show (l.wait x).wt.length ≤ l.wt.length + 1 from addN_len _ _)
    by_cases ha : a.kind = 3
    · rw [if_pos ha]
      by_cases hb : b.kind = 3
      · rw [if_pos hb]
        by_cases he : a.text.toList = b.text.toList
        · rw [if_pos he]; omega
        · rw [if_neg he]
          have q1 := w1 l a.text.toList
          have q2 := w1 (l.wait a.text.toList) b.text.toList
          omega
      · rw [if_neg hb]
        have q1 := w1 l a.text.toList
        omega
    · rw [if_neg ha]
      by_cases hb : b.kind = 3
      · rw [if_pos hb]
        have q1 := w1 l b.text.toList
        omega
      · rw [if_neg hb]
        by_cases hk : alike a b = true
        · rw [if_pos hk]
          have := two_lenR (g := cmpF f) (c := 2 * 3 ^ f) a.args b.args l (fun u hu v m => cmpF_lenR f v u m (h4 u hu))
          have h5 := Nat.mul_le_mul_right (2 * 3 ^ f) h3
          omega
        · rw [if_neg hk]
          show l.wt.length ≤ _
          omega
theorem wfK.up : ∀ {f : Nat} {t : Tm}, wfK f t → wfK (f + 1) t
  | _ + 1, _, ⟨h1, h2, h3, h4⟩ => ⟨h1, h2, h3, fun a ha => (h4 a ha).up⟩
theorem wfK.le {f k : Nat} {t : Tm} (h : wfK f t) (hk : f ≤ k) : wfK k t := by
  induction hk with
  | refl => exact h
  | step _ ih => exact ih.up
theorem meet_len (l : Lk) (x : List UInt8) (t : Tm) (h : wfK 8 t) : (l.meet x t).wt.length ≤ l.wt.length + 13122 ∧ (l.meet x t).st.length ≤ l.st.length + 1 := by
  unfold Lk.meet
  split
  · rename_i q _
    have := cmpF_lenR 8 q.2 t l h
    rw [cmpF_st]
    exact ⟨by simpa using this, by omega⟩
  · exact ⟨by simp, by simp⟩
theorem matF_len : ∀ (f : Nat) (p t : Tm) (l : Lk), wfK f t → f ≤ 8 → (matF f p t l).wt.length ≤ l.wt.length + 13122 * 3 ^ f ∧ (matF f p t l).st.length ≤ l.st.length + 3 ^ f
  | 0, _, _, _, h, _ => h.elim
  | f + 1, p, t, l, hw, hf => by
    have hp : 1 ≤ 3 ^ f := Nat.one_le_pow _ _ (by omega)
    have hq : 3 ^ (f + 1) = 3 * 3 ^ f := by rw [Nat.pow_succ, Nat.mul_comm]
    have w1 := fun (l : Lk) x => (show (l.wait x).wt.length ≤ l.wt.length + 1 from addN_len _ _)
    unfold matF
    by_cases ha : p.kind = 3
    · rw [if_pos ha]
      have := meet_len l p.text.toList t (hw.le hf)
      omega
    · rw [if_neg ha]
      by_cases hb : t.kind = 3
      · rw [if_pos hb]
        have q1 := w1 l t.text.toList
        refine ⟨by omega, ?_⟩
        show l.st.length ≤ _
        omega
      · rw [if_neg hb]
        by_cases hk : alike p t = true
        · rw [if_pos hk]
          have q1 := two_lenR (g := matF f) (c := 13122 * 3 ^ f) p.args t.args l (fun u hu v m => (matF_len f v u m (hw.2.2.2 u hu) (by omega)).1)
          have q2 := two_stR (g := matF f) (c := 3 ^ f) p.args t.args l (fun u hu v m => (matF_len f v u m (hw.2.2.2 u hu) (by omega)).2)
          have h5 := Nat.mul_le_mul_right (13122 * 3 ^ f) hw.2.2.1
          have h6 := Nat.mul_le_mul_right (3 ^ f) hw.2.2.1
          omega
        · rw [if_neg hk]
          refine ⟨?_, ?_⟩
          · show l.wt.length ≤ _
            omega
          · show l.st.length ≤ _
            omega
end Parl
namespace Parl
theorem namesK_len : ∀ (f : Nat) (t : Tm) (ns : List (List UInt8)), wfK f t → (namesF f ns t).length ≤ ns.length + 3 ^ f
  | 0, _, _, h => h.elim
  | f + 1, t, ns, ⟨_, _, h3, h4⟩ => by
    have hp : 1 ≤ 3 ^ f := Nat.one_le_pow _ _ (by omega)
    have hq : 3 ^ (f + 1) = 3 * 3 ^ f := by rw [Nat.pow_succ, Nat.mul_comm]
    unfold namesF
    split
    · have := addN_len ns t.text.toList; omega
    · split
      · omega
      · have : ∀ (ts : List Tm) (ns : List (List UInt8)), (∀ u ∈ ts, wfK f u) → (ts.foldl (namesF f) ns).length ≤ ns.length + ts.length * 3 ^ f := by
          intro ts
          induction ts with
          | nil => intro ns _; simp
          | cons u ts ih =>
            intro ns h
            have q1 := namesK_len f u ns (h u (by simp))
            have q2 := ih (namesF f ns u) (fun v hv => h v (by simp [hv]))
            rw [List.foldl_cons, List.length_cons, Nat.add_mul]
            omega
        have q := this t.args ns h4
        have h5 := Nat.mul_le_mul_right (3 ^ f) h3
        omega
end Parl
namespace Parl
theorem bothE_a {a b : ByteArray} {la lb : List Tok} {er ps : Nat} (h : ¬ (64 < a.size ∨ 64 < b.size)) (hq : whole la = .inl (er, ps)) : bothE a b la lb = er := by
  unfold bothE; rw [if_neg h, hq]
theorem bothE_b {a b : ByteArray} {la lb : List Tok} {p : Tm} {l1 : List Tok} (h : ¬ (64 < a.size ∨ 64 < b.size)) (hq : whole la = .inr (p, l1)) : bothE a b la lb = erT (whole lb) := by
  unfold bothE; rw [if_neg h, hq]
end Parl
namespace Parl
theorem addN_nodup {l : List (List UInt8)} {x : List UInt8} (h : l.Nodup) : (addN l x).Nodup := by
  unfold addN
  split
  · exact h
  · rename_i q
    rw [List.nodup_append]
    refine ⟨h, by simp, ?_⟩
    intro a ha b hb e
    obtain rfl : b = x := by simpa using hb
    subst e
    exact q ha
end Parl
namespace Parl
end Parl
namespace Parl
theorem namesV_ext : ∀ (f : Nat) (t : Tm) (ns : List (List UInt8)), ∃ K, namesF f ns t = ns ++ K
  | 0, _, ns => ⟨[], by simp [namesF]⟩
  | f + 1, t, ns => by
    unfold namesF
    split
    · obtain ⟨M, hM, _⟩ := addN_ext ns t.text.toList
      exact ⟨M, hM⟩
    · split
      · exact ⟨[], by simp⟩
      · have : ∀ (ts : List Tm) (ns : List (List UInt8)), ∃ K, ts.foldl (namesF f) ns = ns ++ K := by
          intro ts
          induction ts with
          | nil => exact fun ns => ⟨[], by simp⟩
          | cons u ts ih =>
            intro ns
            obtain ⟨K, hK⟩ := namesV_ext f u ns
            obtain ⟨K2, hK2⟩ := ih (namesF f ns u)
            exact ⟨K ++ K2, by rw [List.foldl_cons, hK2, hK, List.append_assoc]⟩
        exact this t.args ns
theorem namesW_ext (f : Nat) (ts : List Tm) (ns : List (List UInt8)) : ∃ K, ts.foldl (namesF f) ns = ns ++ K := by
  induction ts generalizing ns with
  | nil => exact ⟨[], by simp⟩
  | cons u ts ih =>
    obtain ⟨K, hK⟩ := namesV_ext f u ns
    obtain ⟨K2, hK2⟩ := ih (namesF f ns u)
    exact ⟨K ++ K2, by rw [List.foldl_cons, hK2, hK, List.append_assoc]⟩
theorem namesF_nodup : ∀ (f : Nat) (t : Tm) (ns : List (List UInt8)), ns.Nodup → (namesF f ns t).Nodup
  | 0, t, ns, h => by
    unfold namesF
    exact h
  | f + 1, t, ns, h => by
    have fold : ∀ (ts : List Tm) (ns : List (List UInt8)), ns.Nodup → (ts.foldl (namesF f) ns).Nodup := by
      intro ts
      induction ts with
      | nil => intro ns h; exact h
      | cons u ts ih => intro ns h; exact ih _ (namesF_nodup f u ns h)
    unfold namesF
    split
    · exact addN_nodup h
    · split
      · exact h
      · exact fold _ _ h
end Parl
namespace Parl
open Go

theorem numL_dec (n : Nat) : numL (Lib.decDigits n) = n := by
  induction n using Nat.strongRecOn with
  | ind n ih =>
    have one : ∀ d, d < 10 → ((UInt8.ofNat (48 + d)).toNat + 208) % 256 = d := fun d h => by
      have e : (UInt8.ofNat (48 + d)).toNat = 48 + d := by rw [UInt8.toNat_ofNat']; omega
      rw [e]
      omega
    by_cases h : n < 10
    · rw [Lib.decDigits, dif_pos h]
      show numL ([] ++ [UInt8.ofNat (48 + n)]) = n
      rw [numL_snoc, one n h]
      simp [numL]
    · rw [Lib.decDigits, dif_neg h, numL_snoc, ih (n / 10) (by omega), one (n % 10) (by omega)]
      omega
theorem arS_is (l : List (List UInt8)) : arS l = argS l := by cases l <;> rfl
end Parl
namespace Parl
open Go

def gVars : List ByteArray := [⟨#[88]⟩, ⟨#[89]⟩, ⟨#[90]⟩, ⟨#[87]⟩]
def gNums : List ByteArray := [⟨#[48]⟩, ⟨#[49]⟩, ⟨#[55]⟩]
def gNames : List ByteArray := [⟨#[97]⟩, ⟨#[98]⟩, ⟨#[110]⟩]
def gLeaf (t : Tm) : Prop := t.args = [] ∧ ((t.kind = 3 ∧ t.text ∈ gVars) ∨ (t.kind = 4 ∧ t.text ∈ gNums) ∨ (t.kind = 2 ∧ t.text ∈ gNames))
def gT : Nat → Tm → Prop
  | 0, t => gLeaf t
  | d + 1, t => gLeaf t ∨ (t.kind = 2 ∧ t.text = ⟨#[102]⟩ ∧ ∃ a, t.args = [a] ∧ gT d a) ∨ (t.kind = 2 ∧ t.text = ⟨#[103]⟩ ∧ ∃ a b, t.args = [a, b] ∧ gT d a ∧ gT d b)
/-- A way of writing in which no variable and no number is longer than a. -/
structure okS (σ : Sty) (a : Nat) : Prop where
  one : 1 ≤ a
  v : ∀ x ∈ gVars, wordy 3 (σ.v x).toList ∧ (σ.v x).toList.length ≤ a
  n : ∀ x ∈ gNums, wordy 4 (σ.n x).toList ∧ (σ.n x).size ≤ 6 ∧ (σ.n x).toList.length ≤ a
def lenG (a : Nat) : Nat → Nat
  | 0 => a
  | d + 1 => 4 + 2 * lenG a d
theorem lenG_ge (a : Nat) : ∀ d, a ≤ lenG a d
  | 0 => Nat.le_refl _
  | d + 1 => by have := lenG_ge a d; simp only [lenG]; omega
theorem lit_wordy (b : ByteArray) (k : Nat) (c : UInt8) (r : List UInt8) (hb : b.data.toList = c :: r) (hc : k = 2 ∧ low c.toNat = true ∨ k = 3 ∧ upp c.toNat = true ∨ k = 4 ∧ dig c.toNat = true) (hr : ∀ d ∈ c :: r, inWord k d.toNat = true) : wordy k b.toList := by
  rw [ByteArray.toList_eq]
  exact ⟨c, r, hb, hc, by rw [hb]; exact hr⟩
theorem names_wordy {x : ByteArray} (h : x ∈ gNames) : wordy 2 x.toList ∧ x.toList.length = 1 := by
  simp only [gNames, List.mem_cons, List.not_mem_nil, or_false] at h
  rcases h with rfl | rfl | rfl <;> exact ⟨lit_wordy _ 2 _ [] rfl (Or.inl ⟨rfl, by decide⟩) (by decide), by rw [ByteArray.toList_eq]; rfl⟩
theorem fg_wordy {x : ByteArray} (h : x = ⟨#[102]⟩ ∨ x = ⟨#[103]⟩) : wordy 2 x.toList ∧ x.toList.length = 1 := by
  rcases h with rfl | rfl <;> exact ⟨lit_wordy _ 2 _ [] rfl (Or.inl ⟨rfl, by decide⟩) (by decide), by rw [ByteArray.toList_eq]; rfl⟩
theorem prT_two {σ : Sty} {f : Nat} {t : Tm} (h : t.kind = 2) : prT σ (f + 1) t = t.text.toList ++ arS (t.args.map (prT σ f)) := by unfold prT; rw [if_neg (by omega), if_neg (by omega)]
theorem gLeaf_ok {σ : Sty} {a : Nat} (hS : okS σ a) {t : Tm} (h : gLeaf t) (f : Nat) : okT σ (f + 1) t ∧ (prT σ (f + 1) t).length ≤ a := by
  obtain ⟨hA, ⟨hk, hx⟩ | ⟨hk, hx⟩ | ⟨hk, hx⟩⟩ := h
  · refine ⟨Or.inl ⟨hk, (hS.v _ hx).1⟩, ?_⟩
    unfold prT; rw [if_pos hk]; exact (hS.v _ hx).2
  · refine ⟨Or.inr (Or.inl ⟨hk, (hS.n _ hx).1, (hS.n _ hx).2.1⟩), ?_⟩
    unfold prT; rw [if_neg (by omega), if_pos hk]; exact (hS.n _ hx).2.2
  · obtain ⟨h1, h2⟩ := names_wordy hx
    refine ⟨Or.inr (Or.inr ⟨hk, h1, by simp [hA], by simp [hA]⟩), ?_⟩
    rw [prT_two hk, hA]
    simp only [List.map_nil, arS, List.append_nil, h2]
    exact hS.one
theorem gT_ok {σ : Sty} {a : Nat} (hS : okS σ a) : ∀ (d : Nat) (t : Tm) (f : Nat), gT d t → d < f → okT σ f t ∧ (prT σ f t).length ≤ lenG a d
  | 0, t, f + 1, h, _ => gLeaf_ok hS h f
  | d + 1, t, f + 1, h, hf => by
    rcases h with h | ⟨hk, hx, u, hA, hu⟩ | ⟨hk, hx, u, v, hA, hu, hv⟩
    · obtain ⟨h1, h2⟩ := gLeaf_ok hS h f
      exact ⟨h1, Nat.le_trans h2 (lenG_ge a (d + 1))⟩
    · obtain ⟨h1, h2⟩ := gT_ok hS d u f hu (by omega)
      obtain ⟨w1, w2⟩ := fg_wordy (Or.inl hx)
      refine ⟨Or.inr (Or.inr ⟨hk, w1, by simp [hA], fun z hz => by rw [hA] at hz; obtain rfl := List.mem_singleton.1 hz; exact h1⟩), ?_⟩
      rw [prT_two hk, hA]
      simp only [List.map_cons, List.map_nil, arS, List.flatMap_nil, List.length_append, w2, lenG, List.length_cons, List.length_nil, List.append_nil]
      omega
    · obtain ⟨h1, h2⟩ := gT_ok hS d u f hu (by omega)
      obtain ⟨h3, h4⟩ := gT_ok hS d v f hv (by omega)
      obtain ⟨w1, w2⟩ := fg_wordy (Or.inr hx)
      refine ⟨Or.inr (Or.inr ⟨hk, w1, by simp [hA], fun z hz => by
        rw [hA] at hz
        simp only [List.mem_cons, List.not_mem_nil, or_false] at hz
        rcases hz with rfl | rfl
        · exact h1
        · exact h3⟩), ?_⟩
      rw [prT_two hk, hA]
      simp only [List.map_cons, List.map_nil, arS, List.flatMap_cons, List.flatMap_nil, List.length_append, w2, lenG, List.length_cons, List.length_nil, List.append_nil]
      omega
end Parl
namespace Parl
open Go

def idS : Sty := ⟨id, id⟩
theorem idS_ok : okS idS 1 := by
  refine ⟨Nat.le_refl _, fun x h => ?_, fun x h => ?_⟩
  · simp only [gVars, List.mem_cons, List.not_mem_nil, or_false] at h
    rcases h with rfl | rfl | rfl | rfl <;> exact ⟨lit_wordy _ 3 _ [] rfl (Or.inr (Or.inl ⟨rfl, by decide⟩)) (by decide), by simp only [idS, id, ByteArray.toList_eq]; decide⟩
  · simp only [gNums, List.mem_cons, List.not_mem_nil, or_false] at h
    rcases h with rfl | rfl | rfl <;> exact ⟨lit_wordy _ 4 _ [] rfl (Or.inr (Or.inr ⟨rfl, by decide⟩)) (by decide), by decide, by simp only [idS, id, ByteArray.toList_eq]; decide⟩
theorem dec_word (n : Nat) : ∀ d ∈ Lib.decDigits n, dig d.toNat = true := by
  induction n using Nat.strongRecOn with
  | ind n ih =>
    have one : ∀ d, d < 10 → dig (UInt8.ofNat (48 + d)).toNat = true := fun d h => by
      have e : (UInt8.ofNat (48 + d)).toNat = 48 + d := by rw [UInt8.toNat_ofNat']; omega
      rw [e]
      unfold dig
      simp
      omega
    by_cases h : n < 10
    · rw [Lib.decDigits, dif_pos h]
      intro d hd
      rw [List.mem_singleton.1 hd]
      exact one n h
    · rw [Lib.decDigits, dif_neg h]
      intro d hd
      rcases List.mem_append.1 hd with q | q
      · exact ih (n / 10) (by omega) d q
      · rw [List.mem_singleton.1 q]
        exact one (n % 10) (by omega)
theorem dig_in {k c : Nat} (h : dig c = true) (hk : k = 3 ∨ k = 4) : inWord k c = true := by
  unfold inWord
  rcases hk with rfl | rfl <;> simp [h]
end Parl
namespace Parl
open Go

theorem prT_up {σ : Sty} : ∀ (f : Nat) (t : Tm), okT σ f t → prT σ (f + 1) t = prT σ f t
  | 0, _, h => h.elim
  | f + 1, t, h => by
    rcases h with ⟨hk, _⟩ | ⟨hk, _⟩ | ⟨hk, _, _, ha⟩
    · unfold prT; rw [if_pos hk, if_pos hk]
    · unfold prT; rw [if_neg (by omega), if_pos hk, if_neg (by omega), if_pos hk]
    · rw [prT_two hk, prT_two hk, List.map_congr_left fun a h => prT_up f a (ha a h)]
/-- A term's text, as it was made. -/
def tx (t : Tm) : List UInt8 := prT idS 8 t
theorem tx_leaf {t : Tm} (h : gLeaf t) : tx t = t.text.toList := by
  obtain ⟨hA, ⟨hk, _⟩ | ⟨hk, _⟩ | ⟨hk, _⟩⟩ := h
  · unfold tx prT; rw [if_pos hk]; rfl
  · unfold tx prT; rw [if_neg (by omega), if_pos hk]; rfl
  · unfold tx; rw [prT_two hk, hA]; simp [arS]
theorem tx_in {d : Nat} {t : Tm} (h : gT d t) (hd : d < 7) : prT idS 7 t = tx t := (prT_up 7 t (gT_ok idS_ok d t 7 h hd).1).symm
theorem tx_one {d : Nat} {a : Tm} (x : ByteArray) (h : gT d a) (hd : d < 7) : tx ⟨2, x, [a]⟩ = x.toList ++ 40 :: tx a ++ [41] := by
  show prT idS (7 + 1) _ = _
  rw [prT_two rfl]
  simp only [List.map_cons, List.map_nil, arS, List.flatMap_nil, List.append_nil, tx_in h hd]
  simp
theorem tx_two {d e : Nat} {a b : Tm} (x : ByteArray) (h : gT d a) (hd : d < 7) (h' : gT e b) (he : e < 7) : tx ⟨2, x, [a, b]⟩ = x.toList ++ 40 :: tx a ++ 44 :: tx b ++ [41] := by
  show prT idS (7 + 1) _ = _
  rw [prT_two rfl]
  simp only [List.map_cons, List.map_nil, arS, List.flatMap_cons, List.flatMap_nil, List.append_nil, tx_in h hd, tx_in h' he]
  simp
def leafs : List Tm := [⟨3, ⟨#[88]⟩, []⟩, ⟨3, ⟨#[89]⟩, []⟩, ⟨3, ⟨#[90]⟩, []⟩, ⟨3, ⟨#[87]⟩, []⟩, ⟨4, ⟨#[48]⟩, []⟩, ⟨4, ⟨#[49]⟩, []⟩, ⟨4, ⟨#[55]⟩, []⟩, ⟨2, ⟨#[97]⟩, []⟩, ⟨2, ⟨#[98]⟩, []⟩, ⟨2, ⟨#[110]⟩, []⟩]
theorem leafs_ok : ∀ t ∈ leafs, gLeaf t := by
  intro t h
  simp only [leafs, List.mem_cons, List.not_mem_nil, or_false] at h
  rcases h with rfl | rfl | rfl | rfl | rfl | rfl | rfl | rfl | rfl | rfl
  all_goals refine ⟨rfl, ?_⟩
  all_goals simp [gVars, gNums, gNames]
theorem tx_len {d : Nat} {t : Tm} (h : gT d t) (hd : d < 8) : (tx t).length ≤ lenG 1 d := (gT_ok idS_ok d t 8 h hd).2
end Parl
namespace Go.Proofs.YthfjnfcekeknlaaDoor
open Go.RowKit

theorem blk_set {w : World} {b : Nat} {cs : Array Value} {T : TypeId} (h : w.heap[b]? = some (.cells cs T (0, 0))) (i : Nat) (v : Value) : (w.setCell ⟨b, i, none⟩ v).heap[b]? = some (.cells (cs.setIfInBounds i v) T (0, 0)) := by
  simp [World.setCell, Array.getElem?_modify, h]
theorem blk_other {w : World} {b : Nat} {x : Obj} (h : w.heap[b]? = some x) {b' : Nat} (hne : b ≠ b') (i : Nat) (v : Value) : (w.setCell ⟨b', i, none⟩ v).heap[b]? = some x := (Below.heap_setCell _ _ _ _ hne).trans h
end Go.Proofs.YthfjnfcekeknlaaDoor
namespace Go.Proofs.YthfjnfcekeknlaaDoor
open Go.RowKit

theorem refuse_any (w : World) (rb : Nat) (s : ByteArray) (l : List Parl.Tok) (ns : List ByteArray) (nv : Value) (e0 : Int) (c : Int) (h : St w rb s l ns nv e0) :
    Calls Tryd.prog 68 #[.pointer (some ⟨rb, 0, none⟩), .int .i64 c] w fun e w' => e = .returned (.tuple #[]) ∧ St w' rb s l ns nv c ∧ KA rb [rb] w w' := by
  obtain ⟨⟨c0, c1, c2, c3, c4, c5, f1, f2, f3, f4, f5⟩, own, chain, isn, few, short, signs, pos, lt⟩ := h
  go_enter Tryd.func68, Tryd.ntmps68
  go_wp2
  go_end0
  refine ⟨rfl, ⟨⟨?_, ?_, ?_, ?_, ?_, ?_, ?_, ?_, ?_, ?_, ?_⟩, own_setCell own _ _, chain, isn, few, short, signs.setCell (by show rb ≠ 0; omega) _, pos, by simpa using lt⟩, (KA.refl _ _ _).setIn (by simp) _⟩
  all_goals first | go_cell | (simp [go_sem, *]; done)

theorem sees_any (w : World) (rb : Nat) (s : ByteArray) (l : List Parl.Tok) (ns : List ByteArray) (nv : Value) (e0 : Int) (g : ByteArray) (h : St w rb s l ns nv e0) :
    Calls Tryd.prog 59 #[.pointer (some ⟨rb, 0, none⟩), .string g] w fun e w' => e = .returned (.bool (Parl.sees l g.toList)) ∧ w' = w := by
  obtain ⟨⟨c0, c1, c2, c3, c4, c5, f1, f2, f3, f4, f5⟩, own, chain, isn, few, short, signs, pos, lt⟩ := h
  clear own chain isn few signs
  by_cases hk : (Parl.hd l).kind = 5
  · have hk' : (((Parl.hd l).kind : Int) == 5) = true := by simp; omega
    have HS := hide (show Parl.sees l g.toList = ((Parl.hd l).text.toList == g.toList) by simp [Parl.sees, hk])
    clear hk
    go_enter Tryd.func59, Tryd.ntmps59
    go_wp2
    go_ret
    exact ⟨ret_bool (by rw [unhide HS]), rfl⟩
  · have hk' : (((Parl.hd l).kind : Int) == 5) = false := by simp; omega
    have HS := hide (show Parl.sees l g.toList = false by simp [Parl.sees, hk])
    clear hk
    go_enter Tryd.func59, Tryd.ntmps59
    go_wp2
    go_ret
    exact ⟨ret_bool (by rw [unhide HS]), rfl⟩

theorem take_end {w w1 : World} {rb : Nat} {s : ByteArray} {l : List Parl.Tok} {ns : List ByteArray} {nv : Value} {e0 : Int} (h : St w rb s l ns nv e0) (h0 : (Parl.hd l).kind ≠ 0) (hb : Below w.heap.size w w1) :
    St (((w1.setCell ⟨rb, 1, none⟩ (.int .i64 ((Parl.next s ((Parl.hd l).pos + (Parl.hd l).text.size)).kind : Int))).setCell ⟨rb, 2, none⟩ (.int .i64 ((Parl.next s ((Parl.hd l).pos + (Parl.hd l).text.size)).pos : Int))).setCell ⟨rb, 3, none⟩ (.string (Parl.next s ((Parl.hd l).pos + (Parl.hd l).text.size)).text)) rb s l.tail ns nv e0 ∧
    KA rb [rb] w (((w1.setCell ⟨rb, 1, none⟩ (.int .i64 ((Parl.next s ((Parl.hd l).pos + (Parl.hd l).text.size)).kind : Int))).setCell ⟨rb, 2, none⟩ (.int .i64 ((Parl.next s ((Parl.hd l).pos + (Parl.hd l).text.size)).pos : Int))).setCell ⟨rb, 3, none⟩ (.string (Parl.next s ((Parl.hd l).pos + (Parl.hd l).text.size)).text)) := by
  have hk := h.chain.tail h0
  have h1 := h.below hb
  have few := h.few
  have hl : l.length = l.tail.length + 1 := by
    rcases l with _ | ⟨a, r⟩
    · exact absurd h.chain (by simp [Parl.Chain])
    · rfl
  obtain ⟨⟨d0, d1, d2, d3, d4, d5, g1, g2, g3, g4, g5⟩, own, chain, isn, few1, short, signs, pos, lt⟩ := h1
  have z : rb ≠ 0 := by omega
  refine ⟨⟨?_, own_setCell (own_setCell (own_setCell own _ _) _ _) _ _, hk.1, ⟨_, hk.2.1⟩, by omega, short, ((signs.setCell (by exact z) _).setCell (by exact z) _).setCell (by exact z) _, pos, by simpa using lt⟩, (((KA.of_below hb).setIn (by simp) _).setIn (by simp) _).setIn (by simp) _⟩
  rw [hk.2.1]
  generalize Parl.next s ((Parl.hd l).pos + (Parl.hd l).text.size) = t
  exact ⟨by go_cell, by go_cell, by go_cell, by go_cell, by go_cell, by go_cell, by go_cell, by go_cell, by go_cell, by go_cell, by go_cell⟩

end Go.Proofs.YthfjnfcekeknlaaDoor
