import Derived.Lib.Strings
import Derived.Test.YthfjnfcekeknlaaGreatDoorRows
import Derived.WalkKit
import Derived.WalkLawsBesides
import Derived.WalkSpells
import Derived.Deep.QuietTactic
import Derived.BigQuiet
import Derived.Deep.RegionWith
import Derived.Test.YthfjnfcekeknlaaGreatDoorCards
import Derived.Test.YthfjnfcekeknlaaGreatDoorTie
import Derived.ProofKit
import Derived.OpenShut
import Derived.Carry
import Derived.Deep.DeepHandedRow
import Derived.Deep.Slices
import Derived.Lib.LaidTab
import Derived.Lib.SmallJoins
import Derived.Laws.Strings
import Derived.Lib.ItoaNum
/- The plain mathematics: tokens and the reader of the document, over lists. Nothing of the program. -/
namespace Parl

/-- The byte at a place; nought beyond the end. -/
def bAt (s : ByteArray) (i : Nat) : Nat := if h : i < s.size then (s[i]'h).toNat else 0

def low (c : Nat) : Bool := decide (97 ≤ c) && decide (c ≤ 122)
def upp (c : Nat) : Bool := decide (65 ≤ c) && decide (c ≤ 90)
def dig (c : Nat) : Bool := decide (48 ≤ c) && decide (c ≤ 57)
def blank (c : Nat) : Bool := c == 32 || c == 10

/-- The first place from i on, n places at most, that holds no blank. -/
def skipN (s : ByteArray) : Nat → Nat → Nat
  | 0, i => i
  | n + 1, i => if i < s.size ∧ blank (bAt s i) = true then skipN s n (i + 1) else i
def skip (s : ByteArray) (i : Nat) : Nat := skipN s (s.size - i) i

/-- Kinds of tokens: 0 the end, 1 no token, 2 a name, 3 a variable, 4 a number, 5 a sign. -/
def inWord (k : Nat) (c : Nat) : Bool :=
  if k = 2 then low c || dig c else if k = 3 then low c || dig c || upp c else dig c

def wordN (s : ByteArray) (k : Nat) : Nat → Nat → Nat
  | 0, i => i
  | n + 1, i => if i < s.size ∧ inWord k (bAt s i) = true then wordN s k n (i + 1) else i
def wordEnd (s : ByteArray) (k i : Nat) : Nat := wordN s k (s.size - i) i

/-- Two bytes that make a sign. -/
def longSign (a b : Nat) : Bool :=
  (a == 58 && b == 45) || (a == 58 && b == 61) || (a == 61 && b == 61) || (a == 92 && b == 61) || (a == 61 && b == 60)
def shortSign (a : Nat) : Bool :=
  a == 61 || a == 60 || a == 43 || a == 45 || a == 42 || a == 40 || a == 41 || a == 44 || a == 124 || a == 46
def signLen (s : ByteArray) (i : Nat) : Nat :=
  if i + 1 < s.size ∧ longSign (bAt s i) (bAt s (i + 1)) = true then 2
  else if i < s.size ∧ shortSign (bAt s i) = true then 1 else 0

def kindAt (s : ByteArray) (i : Nat) : Nat :=
  if s.size ≤ i then 0
  else if low (bAt s i) = true then 2
  else if upp (bAt s i) = true then 3
  else if dig (bAt s i) = true then 4
  else if 0 < signLen s i then 5 else 1

def endAt (s : ByteArray) (i : Nat) : Nat :=
  if kindAt s i = 0 then i
  else if kindAt s i = 1 then i + 1
  else if kindAt s i = 5 then i + signLen s i
  else wordEnd s (kindAt s i) i

structure Tok where
  kind : Nat
  pos : Nat
  text : ByteArray

def next (s : ByteArray) (p : Nat) : Tok :=
  let i := skip s p
  if s.size ≤ i then ⟨0, s.size, ByteArray.empty⟩ else ⟨kindAt s i, i, s.extract i (endAt s i)⟩

/-- Tokens in a row: each is the next one behind the one ahead of it; the end is the last. -/
def Chain (s : ByteArray) : List Tok → Prop
  | [] => False
  | [t] => t.kind = 0
  | t :: u :: r => t.kind ≠ 0 ∧ u = next s (t.pos + t.text.size) ∧ Chain s (u :: r)

/-! ### The reader -/

/-- What is wrong (the error's number, the place), or a value and what is left. -/
abbrev Res (α : Type) := Sum (Nat × Nat) (α × List Tok)

def hd (l : List Tok) : Tok := l.headD ⟨0, 0, ByteArray.empty⟩
def sees (l : List Tok) (g : List UInt8) : Bool := (hd l).kind == 5 && (hd l).text.toList == g
def bad {α : Type} (e : Nat) (l : List Tok) : Res α := .inl (e, (hd l).pos)

structure Tm where
  kind : Nat
  text : ByteArray
  args : List Tm

/-- The items of a list in brackets, k more of them at most behind this one. -/
def argsOf (p : List Tok → Res Tm) : Nat → List Tok → Res (List Tm)
  | k, l =>
    match p l with
    | .inl e => .inl e
    | .inr (t, l1) =>
      if sees l1 [44] = true then
        match k with
        | 0 => bad 3 l1
        | k + 1 =>
          match argsOf p k l1.tail with
          | .inl e => .inl e
          | .inr (ts, l2) => .inr (t :: ts, l2)
      else if sees l1 [41] = true then .inr ([t], l1.tail) else bad 2 l1

def begins (t : Tok) : Bool := t.kind == 2 || t.kind == 3 || t.kind == 4

/-- A term that has f depths left. -/
def term : Nat → List Tok → Res Tm
  | 0, l => if begins (hd l) = true then bad 3 l else bad 2 l
  | f + 1, l =>
    if begins (hd l) = true then
      if (hd l).kind = 4 ∧ 6 < (hd l).text.size then bad 3 l
      else if (hd l).kind = 2 then
        if sees l.tail [40] = true then
          match argsOf (term f) 2 l.tail.tail with
          | .inl e => .inl e
          | .inr (ts, l2) => .inr (⟨2, (hd l).text, ts⟩, l2)
        else .inr (⟨2, (hd l).text, []⟩, l.tail)
      else .inr (⟨(hd l).kind, (hd l).text, []⟩, l.tail)
    else bad 2 l

structure Itm where
  left : Tm
  sign : List UInt8
  right : Option Tm
  op : List UInt8
  last : Option Tm

def testSign (l : List Tok) : Bool := sees l [60] || sees l [61, 60] || sees l [61, 61] || sees l [92, 61]
def operSign (l : List Tok) : Bool := sees l [43] || sees l [45] || sees l [42]
def isInt (t : Tm) : Bool := t.kind == 2 && t.text.toList == [105, 110, 116] && t.args.length == 1

def operand (l : List Tok) : Res Tm := if (hd l).kind = 2 then bad 2 l else term 8 l

/-- What stands behind a sign of a relation. -/
def sides (left : Tm) (fits : Bool) (l : List Tok) : Res Itm :=
  if fits = true then
    match term 8 l.tail with
    | .inl e => .inl e
    | .inr (r, l2) => .inr (⟨left, (hd l).text.toList, some r, [], none⟩, l2)
  else bad 2 l

def assignment (left : Tm) (fits : Bool) (l : List Tok) : Res Itm :=
  if fits = true then
    match operand l.tail with
    | .inl e => .inl e
    | .inr (r, l2) =>
      if operSign l2 = true then
        match operand l2.tail with
        | .inl e => .inl e
        | .inr (z, l3) => .inr (⟨left, (hd l).text.toList, some r, (hd l2).text.toList, some z⟩, l3)
      else .inr (⟨left, (hd l).text.toList, some r, [], none⟩, l2)
  else bad 2 l

/-- An item, where tests (goals) may stand; with what the list may be behind it. -/
def item (tests goals : Bool) (l : List Tok) : Res (Itm × Bool × Bool) :=
  match term 8 l with
  | .inl e => .inl e
  | .inr (t, l1) =>
    if testSign l1 = true then
      match sides t tests l1 with
      | .inl e => .inl e
      | .inr (x, l2) => .inr ((x, tests, false), l2)
    else if sees l1 [61] = true then
      match sides t goals l1 with
      | .inl e => .inl e
      | .inr (x, l2) => .inr ((x, false, goals), l2)
    else if t.kind = 3 ∧ sees l1 [58, 61] = true then
      match assignment t goals l1 with
      | .inl e => .inl e
      | .inr (x, l2) => .inr ((x, false, goals), l2)
    else if t.kind = 2 ∧ ((tests && isInt t) || goals) = true then
      .inr ((⟨t, [], none, [], none⟩, tests && isInt t, goals), l1)
    else bad 2 l1

/-- A list of items, k more of them at most behind this one. -/
def items : Nat → Bool → Bool → List Tok → Res (List Itm × Bool × Bool)
  | k, tests, goals, l =>
    match item tests goals l with
    | .inl e => .inl e
    | .inr ((x, t1, g1), l1) =>
      if sees l1 [44] = true then
        match k with
        | 0 => bad 3 l1
        | k + 1 =>
          match items k t1 g1 l1.tail with
          | .inl e => .inl e
          | .inr ((xs, t2, g2), l2) => .inr ((x :: xs, t2, g2), l2)
      else .inr (([x], t1, g1), l1)

structure Cls where
  head : Tm
  tests : List Itm
  goals : List Itm

/-- What stands behind the neck. -/
def body (l : List Tok) : Res (List Itm × List Itm) :=
  match items 5 true true l with
  | .inl e => .inl e
  | .inr ((xs, t, g), l1) =>
    if t = true ∧ sees l1 [124] = true then
      match items 5 false true l1.tail with
      | .inl e => .inl e
      | .inr ((ys, _, g2), l2) => if g2 = true then .inr ((xs, ys), l2) else bad 2 l2
    else if g = true then .inr (([], xs), l1) else bad 2 l1

def stop {α : Type} (x : α) (l : List Tok) : Res α := if sees l [46] = true then .inr (x, l.tail) else bad 2 l

/-- A clause, if one more may stand. -/
def clause (more : Bool) (l : List Tok) : Res Cls :=
  if (hd l).kind = 2 then
    if more = true then
      match term 8 l with
      | .inl e => .inl e
      | .inr (h, l1) =>
        if sees l1 [58, 45] = true then
          match body l1.tail with
          | .inl e => .inl e
          | .inr ((ts, gs), l2) => stop ⟨h, ts, gs⟩ l2
        else stop ⟨h, [], []⟩ l1
    else bad 3 l
  else bad 2 l

/-- A program, of k clauses at most. -/
def prog : Nat → List Tok → Res (List Cls)
  | k, l =>
    if (hd l).kind = 0 then .inr ([], l)
    else match k with
      | 0 => match clause false l with
        | .inl e => .inl e
        | .inr (c, l1) => .inr ([c], l1)
      | k + 1 =>
        match clause true l with
        | .inl e => .inl e
        | .inr (c, l1) =>
          match prog k l1 with
          | .inl e => .inl e
          | .inr (cs, l2) => .inr (c :: cs, l2)

end Parl
namespace Parl

theorem bAt_lt {s : ByteArray} {i : Nat} (h : i < s.size) : bAt s i = (s[i]'h).toNat := by simp [bAt, h]
theorem bAt_bd (s : ByteArray) (i : Nat) : bAt s i < 256 := by
  unfold bAt; split
  · exact UInt8.toNat_lt _
  · omega

theorem skip_step {s : ByteArray} {i : Nat} (h : i < s.size) (hb : blank (bAt s i) = true) : skip s i = skip s (i + 1) := by
  unfold skip
  rw [show s.size - i = (s.size - (i + 1)) + 1 by omega, skipN, if_pos ⟨h, hb⟩]

theorem skip_stop {s : ByteArray} {i : Nat} (h : ¬ (i < s.size ∧ blank (bAt s i) = true)) : skip s i = i := by
  unfold skip
  cases hn : s.size - i with
  | zero => rfl
  | succ n => rw [skipN, if_neg h]

theorem skipN_ge (s : ByteArray) (n i : Nat) : i ≤ skipN s n i := by
  induction n generalizing i with
  | zero => exact Nat.le_refl _
  | succ n ih => rw [skipN]; split
                 · have := ih (i + 1); omega
                 · omega
theorem skip_ge (s : ByteArray) (i : Nat) : i ≤ skip s i := skipN_ge _ _ _

theorem skipN_le (s : ByteArray) (n i : Nat) (h : i ≤ s.size) : skipN s n i ≤ s.size := by
  induction n generalizing i with
  | zero => exact h
  | succ n ih => rw [skipN]; split
                 · exact ih _ (by omega)
                 · exact h
theorem skip_le {s : ByteArray} {i : Nat} (h : i ≤ s.size) : skip s i ≤ s.size := skipN_le _ _ _ h

theorem skipN_stands (s : ByteArray) (n i : Nat) (h : s.size - i ≤ n) : ¬ (skipN s n i < s.size ∧ blank (bAt s (skipN s n i)) = true) := by
  induction n generalizing i with
  | zero => rw [skipN]; omega
  | succ n ih => rw [skipN]; split
                 · exact ih _ (by omega)
                 · assumption
theorem skip_skip (s : ByteArray) (i : Nat) : skip s (skip s i) = skip s i := skip_stop (skipN_stands s _ i (Nat.le_refl _))

theorem wordEnd_step {s : ByteArray} {k i : Nat} (h : i < s.size) (hb : inWord k (bAt s i) = true) : wordEnd s k i = wordEnd s k (i + 1) := by
  unfold wordEnd
  rw [show s.size - i = (s.size - (i + 1)) + 1 by omega, wordN, if_pos ⟨h, hb⟩]

theorem wordEnd_stop {s : ByteArray} {k i : Nat} (h : ¬ (i < s.size ∧ inWord k (bAt s i) = true)) : wordEnd s k i = i := by
  unfold wordEnd
  cases hn : s.size - i with
  | zero => rfl
  | succ n => rw [wordN, if_neg h]

theorem wordN_ge (s : ByteArray) (k n i : Nat) : i ≤ wordN s k n i := by
  induction n generalizing i with
  | zero => exact Nat.le_refl _
  | succ n ih => rw [wordN]; split
                 · have := ih (i + 1); omega
                 · omega
theorem wordEnd_ge (s : ByteArray) (k i : Nat) : i ≤ wordEnd s k i := wordN_ge _ _ _ _
theorem wordN_le (s : ByteArray) (k n i : Nat) (h : i ≤ s.size) : wordN s k n i ≤ s.size := by
  induction n generalizing i with
  | zero => exact h
  | succ n ih => rw [wordN]; split
                 · exact ih _ (by omega)
                 · exact h
theorem wordEnd_le {s : ByteArray} {k i : Nat} (h : i ≤ s.size) : wordEnd s k i ≤ s.size := wordN_le _ _ _ _ h

theorem signLen_le (s : ByteArray) (i : Nat) : signLen s i ≤ 2 := by unfold signLen; split <;> (try split) <;> omega
theorem signLen_fits {s : ByteArray} {i : Nat} (h : i ≤ s.size) : i + signLen s i ≤ s.size := by unfold signLen; split <;> (try split) <;> omega

theorem kindAt_le (s : ByteArray) (i : Nat) : kindAt s i ≤ 5 := by
  unfold kindAt
  repeat' split
  all_goals omega
theorem kindAt_zero {s : ByteArray} {i : Nat} : kindAt s i = 0 ↔ s.size ≤ i := by
  unfold kindAt; repeat' split
  all_goals simp_all

theorem endAt_gt {s : ByteArray} {i : Nat} (h : i < s.size) : i < endAt s i := by
  unfold endAt
  have h0 : kindAt s i ≠ 0 := by rw [Ne, kindAt_zero]; omega
  rw [if_neg h0]
  by_cases h1 : kindAt s i = 1
  · rw [if_pos h1]; omega
  · rw [if_neg h1]
    by_cases h5 : kindAt s i = 5
    · rw [if_pos h5]
      unfold kindAt at h5
      rw [if_neg (by omega)] at h5
      by_cases hp : 0 < signLen s i
      · omega
      · repeat' split at h5
        all_goals omega
    · rw [if_neg h5]
      have hw : inWord (kindAt s i) (bAt s i) = true := by
        unfold kindAt at h0 h1 h5 ⊢
        rw [if_neg (by omega)] at h0 h1 h5 ⊢
        by_cases a : low (bAt s i) = true
        · simp [a, inWord]
        · rw [if_neg a] at h0 h1 h5 ⊢
          by_cases b : upp (bAt s i) = true
          · simp [b, inWord]
          · rw [if_neg b] at h0 h1 h5 ⊢
            by_cases c : dig (bAt s i) = true
            · simp [c, inWord]
            · rw [if_neg c] at h0 h1 h5
              by_cases d : 0 < signLen s i
              · rw [if_pos d] at h5; exact absurd rfl h5
              · rw [if_neg d] at h1; exact absurd rfl h1
      rw [wordEnd_step h hw]
      have := wordEnd_ge s (kindAt s i) (i + 1)
      omega

theorem endAt_le {s : ByteArray} {i : Nat} (h : i < s.size) : endAt s i ≤ s.size := by
  unfold endAt
  repeat' split
  · omega
  · omega
  · exact signLen_fits (by omega)
  · exact wordEnd_le (by omega)

theorem next_end {s : ByteArray} {p : Nat} (h : s.size ≤ skip s p) : next s p = ⟨0, s.size, ByteArray.empty⟩ := by simp [next, h]
theorem next_tok {s : ByteArray} {p : Nat} (h : skip s p < s.size) : next s p = ⟨kindAt s (skip s p), skip s p, s.extract (skip s p) (endAt s (skip s p))⟩ := by
  simp [next, show ¬ s.size ≤ skip s p by omega]

theorem next_text_size {s : ByteArray} {p : Nat} (h : skip s p < s.size) : (next s p).text.size = endAt s (skip s p) - skip s p := by
  rw [next_tok h]; simp [ByteArray.size_extract]
  have := endAt_le h; omega

theorem next_behind {s : ByteArray} {p : Nat} (h : skip s p < s.size) : (next s p).pos + (next s p).text.size = endAt s (skip s p) := by
  rw [next_text_size h, next_tok h]; have := endAt_gt h; simp; omega

theorem next_kind {s : ByteArray} {p : Nat} : (next s p).kind = 0 ↔ s.size ≤ skip s p := by
  by_cases h : s.size ≤ skip s p
  · simp [next_end h, h]
  · rw [next_tok (by omega)]; simp [kindAt_zero]

theorem next_fits {s : ByteArray} {p : Nat} : (next s p).pos + (next s p).text.size ≤ s.size := by
  by_cases h : skip s p < s.size
  · rw [next_behind h]; exact endAt_le h
  · rw [next_end (by omega)]; simp

theorem next_kind_le {s : ByteArray} {p : Nat} : (next s p).kind ≤ 5 := by
  by_cases h : skip s p < s.size
  · rw [next_tok h]; exact kindAt_le _ _
  · rw [next_end (by omega)]; simp

theorem chain_is (s : ByteArray) (n p : Nat) (h : s.size - p ≤ n) : ∃ l, Chain s (next s p :: l) := by
  induction n generalizing p with
  | zero => exact ⟨[], by rw [Chain, next_kind]; have := skip_ge s p; omega⟩
  | succ n ih =>
    by_cases hk : s.size ≤ skip s p
    · exact ⟨[], by rw [Chain, next_kind]; exact hk⟩
    · have hk' : skip s p < s.size := by omega
      have hb := next_behind hk'
      have hg := endAt_gt hk'
      have hs := skip_ge s p
      obtain ⟨l, hl⟩ := ih ((next s p).pos + (next s p).text.size) (by omega)
      exact ⟨next s ((next s p).pos + (next s p).text.size) :: l, fun e => hk (next_kind.1 e), rfl, hl⟩

theorem Chain.one {s : ByteArray} {l l' : List Tok} (h : Chain s l) (h' : Chain s l') (e : hd l = hd l') : l = l' := by
  induction l generalizing l' with
  | nil => exact absurd h (by simp [Chain])
  | cons t r ih =>
    cases l' with
    | nil => exact absurd h' (by simp [Chain])
    | cons t' r' =>
      have e' : t = t' := e
      subst e'
      cases r with
      | nil =>
        cases r' with
        | nil => rfl
        | cons u' q' => exact absurd h (by rw [Chain] at h ⊢; exact h'.1)
      | cons u q =>
        cases r' with
        | nil => exact absurd h' (by rw [Chain] at h' ⊢; exact h.1)
        | cons u' q' =>
          rw [Chain] at h h'
          rw [ih h.2.2 h'.2.2 (h.2.1.trans h'.2.1.symm)]

theorem Chain.kind0 {s : ByteArray} {l : List Tok} (h : Chain s l) (h0 : (hd l).kind = 0) : l = [hd l] := by
  match l, h with
  | [t], _ => rfl
  | t :: u :: r, h => exact absurd h0 h.1

theorem Chain.tail {s : ByteArray} {l : List Tok} (h : Chain s l) (h0 : (hd l).kind ≠ 0) : Chain s l.tail ∧ hd l.tail = next s ((hd l).pos + (hd l).text.size) ∧ l = hd l :: l.tail := by
  match l, h with
  | [t], h => exact absurd h h0
  | t :: u :: r, h => exact ⟨h.2.2, h.2.1, rfl⟩

theorem sees_kind {l : List Tok} {g : List UInt8} (h : sees l g = true) : (hd l).kind = 5 := by
  simp [sees] at h; exact h.1

end Parl
namespace Parl
open Go

theorem len_eq (s : ByteArray) : s.data.toList.length = s.size := by rw [← Lib.size_eq]

theorem get_eq {s : ByteArray} {i : Nat} (h : i < s.size) : s.data.toList[i]'(by rw [len_eq]; exact h) = s[i] := by
  simp; rfl

theorem two_eq {s : ByteArray} {i : Nat} (h : i + 1 < s.size) (a b : UInt8) : ((s.extract i (i + 2)).toList == [a, b]) = (bAt s i == a.toNat && bAt s (i + 1) == b.toNat) := by
  have hl := len_eq s
  rw [Lib.extract_toList, show i + 2 - i = 2 by omega, bAt_lt (by omega), bAt_lt h]
  rw [List.drop_eq_getElem_cons (by omega), List.drop_eq_getElem_cons (by omega)]
  simp only [List.take_succ_cons, List.take_zero]
  rw [get_eq (by omega), get_eq h, Bool.eq_iff_iff]
  simp [UInt8.toNat_inj]

theorem one_eq {s : ByteArray} {i : Nat} (h : i < s.size) (a : UInt8) : ((s.extract i (i + 1)).toList == [a]) = (bAt s i == a.toNat) := by
  have hl := len_eq s
  rw [Lib.extract_toList, show i + 1 - i = 1 by omega, bAt_lt h]
  rw [List.drop_eq_getElem_cons (by omega)]
  simp only [List.take_succ_cons, List.take_zero]
  rw [get_eq h, Bool.eq_iff_iff]
  simp [UInt8.toNat_inj]

/-- What stands behind a place, as a text of its own. -/
def from_ (s : ByteArray) (i : Nat) : ByteArray := s.extract i s.size

theorem size_from {s : ByteArray} {i : Nat} : (from_ s i).size = s.size - i := by simp [from_, ByteArray.size_extract]

theorem bAt_from {s : ByteArray} {i j : Nat} : bAt (from_ s i) j = bAt s (i + j) := by
  unfold bAt
  by_cases h : j < s.size - i
  · rw [dif_pos (by simpa [from_, ByteArray.size_extract] using h), dif_pos (by omega)]
    simp [from_, ByteArray.getElem_extract]
  · rw [dif_neg (by simpa [from_, ByteArray.size_extract] using h), dif_neg (by omega)]

theorem wordN_from {s : ByteArray} {k i n j : Nat} : wordN (from_ s i) k n j + i = wordN s k n (i + j) := by
  induction n generalizing j with
  | zero => simp [wordN]; omega
  | succ n ih =>
    rw [wordN, wordN, bAt_from, size_from]
    by_cases h : i + j < s.size ∧ inWord k (bAt s (i + j)) = true
    · rw [if_pos h, if_pos ⟨by omega, h.2⟩, ih]; rfl
    · rw [if_neg h, if_neg (by intro q; exact h ⟨by omega, q.2⟩)]; omega
theorem wordEnd_from {s : ByteArray} {k i : Nat} : wordEnd (from_ s i) k 0 + i = wordEnd s k i := by
  unfold wordEnd
  rw [size_from, wordN_from, Nat.sub_zero]; rfl
theorem signLen_from {s : ByteArray} {i : Nat} : signLen (from_ s i) 0 = signLen s i := by
  unfold signLen
  rw [bAt_from, bAt_from, size_from]
  have e1 : (0 + 1 < s.size - i) = (i + 1 < s.size) := by rw [eq_iff_iff]; omega
  have e2 : (0 < s.size - i) = (i < s.size) := by rw [eq_iff_iff]; omega
  simp only [e1, e2, Nat.add_zero, Nat.zero_add]
theorem kindAt_from {s : ByteArray} {i : Nat} : kindAt (from_ s i) 0 = kindAt s i := by
  unfold kindAt
  rw [bAt_from, size_from, signLen_from]
  have e1 : (s.size - i ≤ 0) = (s.size ≤ i) := by rw [eq_iff_iff]; omega
  simp only [e1, Nat.add_zero]
theorem endAt_from {s : ByteArray} {i : Nat} : endAt (from_ s i) 0 + i = endAt s i := by
  unfold endAt
  rw [kindAt_from, signLen_from]
  have := @wordEnd_from s (kindAt s i) i
  repeat' split
  all_goals omega

theorem extract_from {s : ByteArray} {i n : Nat} (h : i + n ≤ s.size) : (from_ s i).extract 0 n = s.extract i (i + n) := by
  unfold from_
  rw [ByteArray.extract_extract, Nat.add_zero, Nat.min_eq_left h]

theorem longSign_two {s : ByteArray} {i : Nat} (h : i + 1 < s.size) : longSign (bAt s i) (bAt s (i + 1)) = (((s.extract i (i + 2)).toList == [58, 45]) || ((s.extract i (i + 2)).toList == [58, 61]) || ((s.extract i (i + 2)).toList == [61, 61]) || ((s.extract i (i + 2)).toList == [92, 61]) || ((s.extract i (i + 2)).toList == [61, 60])) := by
  simp only [two_eq h]; rfl

/-- The signs of one byte, in the program's order. -/
def shorts : List Nat := [61, 60, 43, 45, 42, 40, 41, 44, 124, 46]
theorem shortSign_in (c : Nat) : shortSign c = true ↔ ∃ j, j < 10 ∧ shorts[j]? = some c := by
  constructor
  · intro h
    simp [shortSign] at h
    rcases h with (((((((((h | h) | h) | h) | h) | h) | h) | h) | h) | h) <;> subst h
    · exact ⟨0, by omega, rfl⟩
    · exact ⟨1, by omega, rfl⟩
    · exact ⟨2, by omega, rfl⟩
    · exact ⟨3, by omega, rfl⟩
    · exact ⟨4, by omega, rfl⟩
    · exact ⟨5, by omega, rfl⟩
    · exact ⟨6, by omega, rfl⟩
    · exact ⟨7, by omega, rfl⟩
    · exact ⟨8, by omega, rfl⟩
    · exact ⟨9, by omega, rfl⟩
  · rintro ⟨j, hj, h⟩
    have hm := List.mem_of_getElem? h
    simp [shorts] at hm
    rcases hm with h | h | h | h | h | h | h | h | h | h <;> subst h <;> rfl

end Parl
namespace Parl
open Go

/-- Whether a text has another one at a place. -/
def startsAt (s : ByteArray) (i : Nat) (g : ByteArray) : Bool := decide (i + g.size ≤ s.size) && ((s.extract i (i + g.size)).toList == g.toList)

def sgs : List ByteArray := [⟨#[58, 45]⟩, ⟨#[58, 61]⟩, ⟨#[61, 61]⟩, ⟨#[92, 61]⟩, ⟨#[61, 60]⟩, ⟨#[61]⟩, ⟨#[60]⟩, ⟨#[43]⟩, ⟨#[45]⟩, ⟨#[42]⟩, ⟨#[40]⟩, ⟨#[41]⟩, ⟨#[44]⟩, ⟨#[124]⟩, ⟨#[46]⟩]
def sgAt (k : Nat) : ByteArray := sgs.getD k ByteArray.empty

theorem starts_two (s : ByteArray) (i : Nat) (a b : UInt8) : startsAt s i ⟨#[a, b]⟩ = (decide (i + 1 < s.size) && (bAt s i == a.toNat && bAt s (i + 1) == b.toNat)) := by
  unfold startsAt
  have e : (⟨#[a, b]⟩ : ByteArray).size = 2 := rfl
  have e2 : (⟨#[a, b]⟩ : ByteArray).toList = [a, b] := by rw [ByteArray.toList_eq]
  rw [e, e2]
  by_cases h : i + 1 < s.size
  · rw [two_eq h]; simp [h, show i + 2 ≤ s.size by omega]
  · simp [h, show ¬ i + 2 ≤ s.size by omega]
theorem starts_one (s : ByteArray) (i : Nat) (a : UInt8) : startsAt s i ⟨#[a]⟩ = (decide (i < s.size) && (bAt s i == a.toNat)) := by
  unfold startsAt
  have e : (⟨#[a]⟩ : ByteArray).size = 1 := rfl
  have e2 : (⟨#[a]⟩ : ByteArray).toList = [a] := by rw [ByteArray.toList_eq]
  rw [e, e2]
  by_cases h : i < s.size
  · rw [one_eq h]; simp [h, show i + 1 ≤ s.size by omega]
  · simp [h, show ¬ i + 1 ≤ s.size by omega]

theorem sg_long (s : ByteArray) (i : Nat) (h : i + 1 < s.size) : longSign (bAt s i) (bAt s (i + 1)) = true ↔ ∃ j, j < 5 ∧ startsAt s i (sgAt j) = true := by
  constructor
  · intro q
    simp [longSign] at q
    rcases q with (((q | q) | q) | q) | q
    · exact ⟨0, by omega, by rw [sgAt, sgs]; simp only [List.getD_cons_zero]; rw [starts_two]; simp [h, q]⟩
    · exact ⟨1, by omega, by rw [sgAt, sgs]; simp only [List.getD_cons_zero, List.getD_cons_succ]; rw [starts_two]; simp [h, q]⟩
    · exact ⟨2, by omega, by rw [sgAt, sgs]; simp only [List.getD_cons_zero, List.getD_cons_succ]; rw [starts_two]; simp [h, q]⟩
    · exact ⟨3, by omega, by rw [sgAt, sgs]; simp only [List.getD_cons_zero, List.getD_cons_succ]; rw [starts_two]; simp [h, q]⟩
    · exact ⟨4, by omega, by rw [sgAt, sgs]; simp only [List.getD_cons_zero, List.getD_cons_succ]; rw [starts_two]; simp [h, q]⟩
  · rintro ⟨j, hj, q⟩
    rcases (show j = 0 ∨ j = 1 ∨ j = 2 ∨ j = 3 ∨ j = 4 by omega) with rfl | rfl | rfl | rfl | rfl
    all_goals
      simp only [sgAt, sgs, List.getD_cons_zero, List.getD_cons_succ, starts_two] at q
      simp [longSign]
      simp at q
      omega

theorem sg_short (s : ByteArray) (i : Nat) (h : i < s.size) : shortSign (bAt s i) = true ↔ ∃ j, 5 ≤ j ∧ j < 15 ∧ startsAt s i (sgAt j) = true := by
  constructor
  · intro q
    simp [shortSign] at q
    rcases q with (((((((((q | q) | q) | q) | q) | q) | q) | q) | q) | q)
    · exact ⟨5, by omega, by omega, by rw [sgAt, sgs]; simp only [List.getD_cons_zero, List.getD_cons_succ]; rw [starts_one]; simp [h, q]⟩
    · exact ⟨6, by omega, by omega, by rw [sgAt, sgs]; simp only [List.getD_cons_zero, List.getD_cons_succ]; rw [starts_one]; simp [h, q]⟩
    · exact ⟨7, by omega, by omega, by rw [sgAt, sgs]; simp only [List.getD_cons_zero, List.getD_cons_succ]; rw [starts_one]; simp [h, q]⟩
    · exact ⟨8, by omega, by omega, by rw [sgAt, sgs]; simp only [List.getD_cons_zero, List.getD_cons_succ]; rw [starts_one]; simp [h, q]⟩
    · exact ⟨9, by omega, by omega, by rw [sgAt, sgs]; simp only [List.getD_cons_zero, List.getD_cons_succ]; rw [starts_one]; simp [h, q]⟩
    · exact ⟨10, by omega, by omega, by rw [sgAt, sgs]; simp only [List.getD_cons_zero, List.getD_cons_succ]; rw [starts_one]; simp [h, q]⟩
    · exact ⟨11, by omega, by omega, by rw [sgAt, sgs]; simp only [List.getD_cons_zero, List.getD_cons_succ]; rw [starts_one]; simp [h, q]⟩
    · exact ⟨12, by omega, by omega, by rw [sgAt, sgs]; simp only [List.getD_cons_zero, List.getD_cons_succ]; rw [starts_one]; simp [h, q]⟩
    · exact ⟨13, by omega, by omega, by rw [sgAt, sgs]; simp only [List.getD_cons_zero, List.getD_cons_succ]; rw [starts_one]; simp [h, q]⟩
    · exact ⟨14, by omega, by omega, by rw [sgAt, sgs]; simp only [List.getD_cons_zero, List.getD_cons_succ]; rw [starts_one]; simp [h, q]⟩
  · rintro ⟨j, hj, hj', q⟩
    rcases (show j = 5 ∨ j = 6 ∨ j = 7 ∨ j = 8 ∨ j = 9 ∨ j = 10 ∨ j = 11 ∨ j = 12 ∨ j = 13 ∨ j = 14 by omega) with rfl | rfl | rfl | rfl | rfl | rfl | rfl | rfl | rfl | rfl
    all_goals
      simp only [sgAt, sgs, List.getD_cons_zero, List.getD_cons_succ, starts_one] at q
      simp [shortSign]
      simp at q
      omega

theorem starts_fits {s : ByteArray} {i : Nat} {g : ByteArray} (h : startsAt s i g = true) : i + g.size ≤ s.size := by
  simp [startsAt] at h; exact h.1

theorem sg_size (j : Nat) (h : j < 15) : (sgAt j).size = if j < 5 then 2 else 1 := by
  rcases (show j = 0 ∨ j = 1 ∨ j = 2 ∨ j = 3 ∨ j = 4 ∨ j = 5 ∨ j = 6 ∨ j = 7 ∨ j = 8 ∨ j = 9 ∨ j = 10 ∨ j = 11 ∨ j = 12 ∨ j = 13 ∨ j = 14 by omega) with rfl | rfl | rfl | rfl | rfl | rfl | rfl | rfl | rfl | rfl | rfl | rfl | rfl | rfl | rfl <;> rfl

theorem sg_hit {s : ByteArray} {i k : Nat} (hk : k < 15) (ho : ∀ j, j < k → startsAt s i (sgAt j) = false) (h : startsAt s i (sgAt k) = true) : (sgAt k).size = signLen s i := by
  have hf := starts_fits h
  have hz := sg_size k hk
  rw [hz]
  by_cases h5 : k < 5
  · rw [if_pos h5] at hz ⊢
    have hl := (sg_long s i (by omega)).2 ⟨k, h5, h⟩
    unfold signLen; rw [if_pos ⟨by omega, hl⟩]
  · rw [if_neg h5] at hz ⊢
    have hs := (sg_short s i (by omega)).2 ⟨k, by omega, hk, h⟩
    unfold signLen
    rw [if_neg, if_pos ⟨by omega, hs⟩]
    rintro ⟨a, b⟩
    obtain ⟨j, hj, q⟩ := (sg_long s i a).1 b
    rw [ho j (by omega)] at q; cases q

theorem sg_none {s : ByteArray} {i k : Nat} (hk : ¬ k < 15) (ho : ∀ j, j < k → startsAt s i (sgAt j) = false) : signLen s i = 0 := by
  unfold signLen
  rw [if_neg, if_neg]
  · rintro ⟨a, b⟩
    obtain ⟨j, hj, hj', q⟩ := (sg_short s i a).1 b
    rw [ho j (by omega)] at q; cases q
  · rintro ⟨a, b⟩
    obtain ⟨j, hj, q⟩ := (sg_long s i a).1 b
    rw [ho j (by omega)] at q; cases q

/-- The tokens ts have been cut off; the rest begins at i. -/
def Pre (s : ByteArray) (ts : List Tok) (i : Nat) : Prop := ∀ r, Chain s (next s i :: r) → Chain s (ts ++ next s i :: r) ∧ hd (ts ++ next s i :: r) = next s 0

theorem Pre.start (s : ByteArray) : Pre s [] 0 := fun _ h => ⟨h, rfl⟩
theorem next_blank {s : ByteArray} {i : Nat} (h : i < s.size) (hb : blank (bAt s i) = true) : next s i = next s (i + 1) := by
  unfold next; rw [skip_step h hb]
theorem Pre.blank {s : ByteArray} {ts : List Tok} {i : Nat} (p : Pre s ts i) (h : i < s.size) (hb : blank (bAt s i) = true) : Pre s ts (i + 1) := by
  intro r hr; rw [← next_blank h hb] at hr ⊢; exact p r hr
theorem next_here {s : ByteArray} {i : Nat} (h : i < s.size) (hb : blank (bAt s i) = false) : next s i = ⟨kindAt s i, i, s.extract i (endAt s i)⟩ := by
  have e : skip s i = i := skip_stop (by rw [hb]; simp)
  have := @next_tok s i (by rw [e]; exact h)
  rw [e] at this; exact this
theorem Pre.tok {s : ByteArray} {ts : List Tok} {i : Nat} (p : Pre s ts i) (h : i < s.size) (hb : Parl.blank (bAt s i) = false) : Pre s (ts ++ [⟨kindAt s i, i, s.extract i (endAt s i)⟩]) (endAt s i) := by
  intro r hr
  have e : skip s i = i := skip_stop (by rw [hb]; simp)
  have hn := next_here h hb
  have hbh := @next_behind s i (by rw [e]; exact h)
  rw [e] at hbh
  have := p (next s (endAt s i) :: r) ⟨by rw [Ne, next_kind, e]; omega, by rw [hbh], hr⟩
  rw [hn] at this
  simpa using this
theorem Pre.done {s : ByteArray} {ts : List Tok} (p : Pre s ts s.size) : Chain s (ts ++ [⟨0, s.size, ByteArray.empty⟩]) ∧ hd (ts ++ [⟨0, s.size, ByteArray.empty⟩]) = next s 0 := by
  have e : next s s.size = ⟨0, s.size, ByteArray.empty⟩ := next_end (skip_ge s s.size)
  have := p [] (by rw [e]; rfl)
  rw [e] at this; exact this
theorem kind_name {s : ByteArray} {i : Nat} (h : i < s.size) (a : low (bAt s i) = true) : kindAt s i = 2 ∧ endAt s i = wordEnd s 2 i := by
  have e : kindAt s i = 2 := by unfold kindAt; rw [if_neg (by omega), if_pos a]
  exact ⟨e, by unfold endAt; rw [e]; rfl⟩
theorem kind_var {s : ByteArray} {i : Nat} (h : i < s.size) (a : low (bAt s i) = false) (b : upp (bAt s i) = true) : kindAt s i = 3 ∧ endAt s i = wordEnd s 3 i := by
  have e : kindAt s i = 3 := by unfold kindAt; rw [if_neg (by omega), if_neg (by simp [a]), if_pos b]
  exact ⟨e, by unfold endAt; rw [e]; rfl⟩
theorem kind_num {s : ByteArray} {i : Nat} (h : i < s.size) (a : low (bAt s i) = false) (b : upp (bAt s i) = false) (c : dig (bAt s i) = true) : kindAt s i = 4 ∧ endAt s i = wordEnd s 4 i := by
  have e : kindAt s i = 4 := by unfold kindAt; rw [if_neg (by omega), if_neg (by simp [a]), if_neg (by simp [b]), if_pos c]
  exact ⟨e, by unfold endAt; rw [e]; rfl⟩
theorem kind_sign {s : ByteArray} {i : Nat} (h : i < s.size) (a : low (bAt s i) = false) (b : upp (bAt s i) = false) (c : dig (bAt s i) = false) (d : 0 < signLen s i) : kindAt s i = 5 ∧ endAt s i = i + signLen s i := by
  have e : kindAt s i = 5 := by unfold kindAt; rw [if_neg (by omega), if_neg (by simp [a]), if_neg (by simp [b]), if_neg (by simp [c]), if_pos d]
  exact ⟨e, by unfold endAt; rw [e]; rfl⟩
theorem kind_none {s : ByteArray} {i : Nat} (h : i < s.size) (a : low (bAt s i) = false) (b : upp (bAt s i) = false) (c : dig (bAt s i) = false) (d : ¬ 0 < signLen s i) : kindAt s i = 1 ∧ endAt s i = i + 1 := by
  have e : kindAt s i = 1 := by unfold kindAt; rw [if_neg (by omega), if_neg (by simp [a]), if_neg (by simp [b]), if_neg (by simp [c]), if_neg d]
  exact ⟨e, by unfold endAt; rw [e]; rfl⟩
theorem not_blank {c : Nat} (h : blank c = false) : ((c : Int) == 32) = false ∧ ((c : Int) == 10) = false := by
  simp [blank] at h; simp; omega
end Parl
namespace Parl
theorem Chain.len {s : ByteArray} : ∀ (n p : Nat) (l : List Tok), Chain s l → hd l = next s p → s.size - p ≤ n → l.length ≤ n + 1 := by
  intro n
  induction n with
  | zero =>
    intro p l h hh hn
    match l, h with
    | [t], _ => simp
    | t :: u :: r, h =>
      have ht : t = next s p := hh
      have h0 : t.kind ≠ 0 := h.1
      rw [ht, Ne, next_kind] at h0
      have := skip_ge s p
      omega
  | succ n ih =>
    intro p l h hh hn
    match l, h with
    | [t], _ => simp
    | t :: u :: r, h =>
      have ht : t = next s p := hh
      have h0 : t.kind ≠ 0 := h.1
      have hu : u = next s (t.pos + t.text.size) := h.2.1
      rw [ht, Ne, next_kind] at h0
      have h1 := skip_ge s p
      have h2 := endAt_gt (s := s) (i := skip s p) (by omega)
      have h3 : t.pos + t.text.size = endAt s (skip s p) := by rw [ht]; exact next_behind (by omega)
      have := ih (t.pos + t.text.size) (u :: r) h.2.2 hu (by omega)
      simp only [List.length_cons] at this ⊢
      omega
/-- Every text has its tokens. -/
theorem toks_of (s : ByteArray) : ∃ L, Chain s L ∧ hd L = next s 0 ∧ (s.size ≤ 240 → L.length ≤ 1000) := by
  obtain ⟨l, hl⟩ := chain_is s s.size 0 (by omega)
  exact ⟨_, hl, rfl, fun hs => by have := hl.len s.size 0 _ rfl (by omega); omega⟩
end Parl
namespace Go.Proofs.YthfjnfcekeknlaaGreatDoor
open Go.RowKit

theorem hide {p : Prop} (h : p) : Hid p := h
theorem unhide {p : Prop} (h : Hid p) : p := h
theorem ret_bool {a b : Bool} (h : a = b) : Ending.returned (.bool a) = .returned (.bool b) := by rw [h]
theorem ret_int {k : IntKind} {a b : Int} (h : a = b) : Ending.returned (.int k a) = .returned (.int k b) := by rw [h]

theorem isBlank_any (c : Nat) (w : World) : Calls Tryz.prog 123 #[.int .u8 (c : Int)] w fun e w' => e = .returned (.bool (Parl.blank c)) ∧ w' = w := by
  by_cases h1 : c = 32
  · subst h1
    go_enter Tryz.func123, Tryz.ntmps123
    go_wp2
    go_ret
    exact ⟨rfl, rfl⟩
  · have e1 : ((c : Int) == 32) = false := by simp; omega
    by_cases h2 : c = 10
    · subst h2
      go_enter Tryz.func123, Tryz.ntmps123
      go_wp2
      go_ret
      exact ⟨rfl, rfl⟩
    · have e2 : ((c : Int) == 10) = false := by simp; omega
      go_enter Tryz.func123, Tryz.ntmps123
      go_wp2
      go_ret
      exact ⟨by simp [Parl.blank, h1, h2], rfl⟩

theorem isSmall_any (c : Nat) (w : World) : Calls Tryz.prog 124 #[.int .u8 (c : Int)] w fun e w' => e = .returned (.bool (Parl.low c)) ∧ w' = w := by
  by_cases h1 : 97 ≤ c
  all_goals
    go_enter Tryz.func124, Tryz.ntmps124
    go_wp2
    go_ret
    exact ⟨ret_bool (by rw [Bool.eq_iff_iff]; simp [Parl.low]; omega), rfl⟩

theorem isCapital_any (c : Nat) (w : World) : Calls Tryz.prog 125 #[.int .u8 (c : Int)] w fun e w' => e = .returned (.bool (Parl.upp c)) ∧ w' = w := by
  by_cases h1 : 65 ≤ c
  all_goals
    go_enter Tryz.func125, Tryz.ntmps125
    go_wp2
    go_ret
    exact ⟨ret_bool (by rw [Bool.eq_iff_iff]; simp [Parl.upp]; omega), rfl⟩

theorem isDigit_any (c : Nat) (w : World) : Calls Tryz.prog 126 #[.int .u8 (c : Int)] w fun e w' => e = .returned (.bool (Parl.dig c)) ∧ w' = w := by
  by_cases h1 : 48 ≤ c
  all_goals
    go_enter Tryz.func126, Tryz.ntmps126
    go_wp2
    go_ret
    exact ⟨ret_bool (by rw [Bool.eq_iff_iff]; simp [Parl.dig]; omega), rfl⟩

theorem goesOn_any (k c : Nat) (w : World) : Calls Tryz.prog 175 #[.int .i64 (k : Int), .int .u8 (c : Int)] w fun e w' => e = .returned (.bool (Parl.inWord k c)) ∧ w' = w := by
  by_cases h2 : k = 2
  · subst h2
    cases hl : Parl.low c
    all_goals
      go_enter Tryz.func175, Tryz.ntmps175
      go_wp2_with (first | (go_at_call 124; refine (isSmall_any _ _).mono ?_; rintro e w' ⟨rfl, rfl⟩) | (go_at_call 126; refine (isDigit_any _ _).mono ?_; rintro e w' ⟨rfl, rfl⟩))
      go_ret
      exact ⟨ret_bool (by simp [Parl.inWord, hl]), rfl⟩
  · have e2 : ((k : Int) == 2) = false := by simp; omega
    by_cases h3 : k = 3
    · subst h3
      cases hl : Parl.low c <;> cases hd : Parl.dig c
      all_goals
        go_enter Tryz.func175, Tryz.ntmps175
        go_wp2_with (first | (go_at_call 124; refine (isSmall_any _ _).mono ?_; rintro e w' ⟨rfl, rfl⟩) | (go_at_call 126; refine (isDigit_any _ _).mono ?_; rintro e w' ⟨rfl, rfl⟩) | (go_at_call 125; refine (isCapital_any _ _).mono ?_; rintro e w' ⟨rfl, rfl⟩))
        go_ret
        exact ⟨ret_bool (by simp [Parl.inWord, hl, hd]), rfl⟩
    · have e3 : ((k : Int) == 3) = false := by simp; omega
      go_enter Tryz.func175, Tryz.ntmps175
      go_wp2_with (first | (go_at_call 126; refine (isDigit_any _ _).mono ?_; rintro e w' ⟨rfl, rfl⟩))
      go_ret
      exact ⟨ret_bool (by simp [Parl.inWord, h2, h3]), rfl⟩

theorem skipBlanks_any (s : ByteArray) (p : Nat) (w : World) (hs : s.size ≤ maxLen) (hp : p ≤ s.size) :
    Calls Tryz.prog 71 #[.string s, .int .i64 (p : Int)] w fun e w' => e = .returned (.int .i64 ((Parl.skip s p : Nat) : Int)) ∧ w' = w := by
  unfold maxLen at hs
  go_enter Tryz.func71, Tryz.ntmps71
  go_wp2
  go_loop [5] (fun i => ∃ k : Nat, k ≤ s.size ∧ Hid (Parl.skip s k = Parl.skip s p) ∧ i = .int .i64 k) (fun i => s.size - (intOf i).toNat)
  case atStart => exact ⟨p, hp, rfl, rfl⟩
  case round =>
    obtain ⟨k, hk, hsk, rfl⟩ := hrel
    by_cases hlt : k < s.size
    · cases hb : Parl.blank (s[k].toNat)
      · have hst : Hid (Parl.skip s p = k) := by rw [← hsk.out]; exact Parl.skip_stop (by rw [Parl.bAt_lt hlt, hb]; simp)
        go_wp2_with (go_at_call 123; refine (isBlank_any _ _).mono ?_; rintro e w' ⟨rfl, rfl⟩)
        go_ret
        exact ⟨ret_int (by rw [hst.out]), rfl⟩
      · have hst : Hid (Parl.skip s (k + 1) = Parl.skip s p) := by rw [← hsk.out]; exact (Parl.skip_step hlt (by rw [Parl.bAt_lt hlt, hb])).symm
        go_wp2_with (go_at_call 123; refine (isBlank_any _ _).mono ?_; rintro e w' ⟨rfl, rfl⟩)
        go_round
        case rel => exact ⟨k + 1, by omega, hst, by go_num⟩
        case measure => simp [intOf]; omega
    · have hst : Hid (Parl.skip s p = k) := by rw [← hsk.out]; exact Parl.skip_stop (by omega)
      go_wp2
      go_ret
      exact ⟨ret_int (by rw [hst.out]), rfl⟩

theorem wordLength_any (k : Nat) (s : ByteArray) (w : World) (hs : s.size ≤ maxLen) :
    Calls Tryz.prog 128 #[.int .i64 (k : Int), .string s] w fun e w' => e = .returned (.int .i64 ((Parl.wordEnd s k 0 : Nat) : Int)) ∧ w' = w := by
  unfold maxLen at hs
  go_enter Tryz.func128, Tryz.ntmps128
  go_wp2
  go_loop [5] (fun i => ∃ j : Nat, j ≤ s.size ∧ Hid (Parl.wordEnd s k j = Parl.wordEnd s k 0) ∧ i = .int .i64 j) (fun i => s.size - (intOf i).toNat)
  case atStart => exact ⟨0, by omega, rfl, rfl⟩
  case round =>
    obtain ⟨j, hj, hsk, rfl⟩ := hrel
    by_cases hlt : j < s.size
    · cases hb : Parl.inWord k (s[j].toNat)
      · have hst : Hid (Parl.wordEnd s k 0 = j) := by rw [← hsk.out]; exact Parl.wordEnd_stop (by rw [Parl.bAt_lt hlt, hb]; simp)
        go_wp2_with (go_at_call 175; refine (goesOn_any _ _ _).mono ?_; rintro e w' ⟨rfl, rfl⟩)
        go_ret
        exact ⟨ret_int (by rw [hst.out]), rfl⟩
      · have hst : Hid (Parl.wordEnd s k (j + 1) = Parl.wordEnd s k 0) := by rw [← hsk.out]; exact (Parl.wordEnd_step hlt (by rw [Parl.bAt_lt hlt, hb])).symm
        go_wp2_with (go_at_call 175; refine (goesOn_any _ _ _).mono ?_; rintro e w' ⟨rfl, rfl⟩)
        go_round
        case rel => exact ⟨j + 1, by omega, hst, by go_num⟩
        case measure => simp [intOf]; omega
    · have hst : Hid (Parl.wordEnd s k 0 = j) := by rw [← hsk.out]; exact Parl.wordEnd_stop (by omega)
      go_wp2
      go_ret
      exact ⟨ret_int (by rw [hst.out]), rfl⟩
end Go.Proofs.YthfjnfcekeknlaaGreatDoor
namespace Go.Proofs.YthfjnfcekeknlaaGreatDoor
open Go.RowKit

/-- The table of the signs of two bytes lies where the program lays it. -/
structure Signs (w : World) : Prop where
  s0 : w.cell? ⟨0, 0, none⟩ = some (.string ⟨#[58, 45]⟩)
  s1 : w.cell? ⟨0, 1, none⟩ = some (.string ⟨#[58, 61]⟩)
  s2 : w.cell? ⟨0, 2, none⟩ = some (.string ⟨#[61, 61]⟩)
  s3 : w.cell? ⟨0, 3, none⟩ = some (.string ⟨#[92, 61]⟩)
  s4 : w.cell? ⟨0, 4, none⟩ = some (.string ⟨#[61, 60]⟩)

theorem signLen_two {r : ByteArray} (h : 2 ≤ r.size) (hl : Parl.longSign (Parl.bAt r 0) (Parl.bAt r 1) = true) : Parl.signLen r 0 = 2 := by
  unfold Parl.signLen; rw [if_pos ⟨by omega, hl⟩]
theorem signLen_one {r : ByteArray} (h : 0 < r.size) (hl : 2 ≤ r.size → Parl.longSign (Parl.bAt r 0) (Parl.bAt r 1) = false) (hs : Parl.shortSign (Parl.bAt r 0) = true) : Parl.signLen r 0 = 1 := by
  unfold Parl.signLen; rw [if_neg (by rintro ⟨a, b⟩; rw [hl (by omega)] at b; cases b), if_pos ⟨h, hs⟩]
theorem signLen_none {r : ByteArray} (hl : 2 ≤ r.size → Parl.longSign (Parl.bAt r 0) (Parl.bAt r 1) = false) (hs : 0 < r.size → Parl.shortSign (Parl.bAt r 0) = false) : Parl.signLen r 0 = 0 := by
  unfold Parl.signLen; rw [if_neg (by rintro ⟨a, b⟩; rw [hl (by omega)] at b; cases b), if_neg (by rintro ⟨a, b⟩; rw [hs a] at b; cases b)]

def shortB : ByteArray := ⟨#[61, 60, 43, 45, 42, 40, 41, 44, 124, 46]⟩
theorem shorts_at (k : Nat) (h : k < shortB.size) : Parl.shorts[k]? = some (shortB[k]'h).toNat := by
  have h' : k < 10 := h
  rcases (show k = 0 ∨ k = 1 ∨ k = 2 ∨ k = 3 ∨ k = 4 ∨ k = 5 ∨ k = 6 ∨ k = 7 ∨ k = 8 ∨ k = 9 by omega) with rfl | rfl | rfl | rfl | rfl | rfl | rfl | rfl | rfl | rfl <;> rfl
theorem short_hit {r : ByteArray} {k : Nat} (h0 : 0 < r.size) (hk : k < shortB.size) (h : (((r[0]'h0).toNat : Int) == ((shortB[k]'hk).toNat : Int)) = true) : Parl.shortSign (Parl.bAt r 0) = true := by
  rw [Parl.shortSign_in]
  refine ⟨k, hk, ?_⟩
  rw [shorts_at k hk, Parl.bAt_lt h0]
  have : ((r[0]'h0).toNat : Int) = ((shortB[k]'hk).toNat : Int) := by simpa using h
  rw [show (r[0]'h0).toNat = (shortB[k]'hk).toNat by omega]
theorem short_miss {r : ByteArray} {k : Nat} (h0 : 0 < r.size) (hk : k < shortB.size) (h : (((r[0]'h0).toNat : Int) == ((shortB[k]'hk).toNat : Int)) = false) (ho : ∀ j, j < k → Parl.shorts[j]? ≠ some (Parl.bAt r 0)) : ∀ j, j < k + 1 → Parl.shorts[j]? ≠ some (Parl.bAt r 0) := by
  intro j hj e
  by_cases hjk : j < k
  · exact ho j hjk e
  · obtain rfl : j = k := by omega
    rw [shorts_at j hk, Parl.bAt_lt h0] at e
    have e' := Option.some.inj e
    simp [e'] at h
theorem short_none {c k : Nat} (h : ¬ k < 10) (ho : ∀ j, j < k → Parl.shorts[j]? ≠ some c) : Parl.shortSign c = false := by
  cases hs : Parl.shortSign c with
  | false => rfl
  | true =>
    obtain ⟨j, hj, e⟩ := (Parl.shortSign_in c).1 hs
    exact absurd e (ho j (by omega))
theorem not_empty {r : ByteArray} (h : 0 < r.size) : r.toList.isEmpty = false := by
  rw [ByteArray.toList_eq]
  cases hx : r.data.toList with
  | nil => have := Parl.len_eq r; rw [hx] at this; simp at this; omega
  | cons => rfl

set_option maxHeartbeats 2000000 in
theorem signLength_any (r : ByteArray) (w : World) (hr : r.size ≤ maxLen) (h : Signs w) : Calls Tryz.prog 127 #[.string r] w fun e w' => e = .returned (.int .i64 ((Parl.signLen r 0 : Nat) : Int)) ∧ ∃ n, w' = w.drewN n := by
  obtain ⟨s0, s1, s2, s3, s4⟩ := h
  unfold maxLen at hr
  have i0 : ∀ w, (Instr.index 238 (.agg #[.string ⟨#[58, 45]⟩, .string ⟨#[58, 61]⟩, .string ⟨#[61, 61]⟩, .string ⟨#[92, 61]⟩, .string ⟨#[61, 60]⟩]) (.int .i64 0)).run Tryz.prog w = .ok (.string ⟨#[58, 45]⟩) w := fun _ => by kernel_rfl
  have i1 : ∀ w, (Instr.index 238 (.agg #[.string ⟨#[58, 45]⟩, .string ⟨#[58, 61]⟩, .string ⟨#[61, 61]⟩, .string ⟨#[92, 61]⟩, .string ⟨#[61, 60]⟩]) (.int .i64 1)).run Tryz.prog w = .ok (.string ⟨#[58, 61]⟩) w := fun _ => by kernel_rfl
  have i2 : ∀ w, (Instr.index 238 (.agg #[.string ⟨#[58, 45]⟩, .string ⟨#[58, 61]⟩, .string ⟨#[61, 61]⟩, .string ⟨#[92, 61]⟩, .string ⟨#[61, 60]⟩]) (.int .i64 2)).run Tryz.prog w = .ok (.string ⟨#[61, 61]⟩) w := fun _ => by kernel_rfl
  have i3 : ∀ w, (Instr.index 238 (.agg #[.string ⟨#[58, 45]⟩, .string ⟨#[58, 61]⟩, .string ⟨#[61, 61]⟩, .string ⟨#[92, 61]⟩, .string ⟨#[61, 60]⟩]) (.int .i64 3)).run Tryz.prog w = .ok (.string ⟨#[92, 61]⟩) w := fun _ => by kernel_rfl
  have i4 : ∀ w, (Instr.index 238 (.agg #[.string ⟨#[58, 45]⟩, .string ⟨#[58, 61]⟩, .string ⟨#[61, 61]⟩, .string ⟨#[92, 61]⟩, .string ⟨#[61, 60]⟩]) (.int .i64 4)).run Tryz.prog w = .ok (.string ⟨#[61, 60]⟩) w := fun _ => by kernel_rfl
  have LS : Hid (2 ≤ r.size → Parl.longSign (Parl.bAt r 0) (Parl.bAt r 1) = (((r.extract 0 2).toList == [58, 45]) || ((r.extract 0 2).toList == [58, 61]) || ((r.extract 0 2).toList == [61, 61]) || ((r.extract 0 2).toList == [92, 61]) || ((r.extract 0 2).toList == [61, 60]))) := fun h => Parl.longSign_two (i := 0) (by omega)
  by_cases h2 : 2 ≤ r.size
  · cases b0 : ((r.extract 0 2).toList == [58, 45])
    · cases b1 : ((r.extract 0 2).toList == [58, 61])
      · cases b2 : ((r.extract 0 2).toList == [61, 61])
        · cases b3 : ((r.extract 0 2).toList == [92, 61])
          · cases b4 : ((r.extract 0 2).toList == [61, 60])
            · have LN : Hid (Parl.longSign (Parl.bAt r 0) (Parl.bAt r 1) = false) := by rw [Hid, LS.out h2, b0, b1, b2, b3, b4]; rfl
              go_enter Tryz.func127, Tryz.ntmps127
              go_wp2
              refine wp_loop_rounds 6 ?_
              rw [rounds_succ]
              go_wp2
              rw [rounds_succ]
              go_wp2
              rw [rounds_succ]
              go_wp2
              rw [rounds_succ]
              go_wp2
              rw [rounds_succ]
              go_wp2
              rw [rounds_succ]
              go_wp2
              clear i0 i1 i2 i3 i4 b0 b1 b2 b3 b4
              go_loopw [5] (fun i wr => ∃ k n : Nat, k ≤ 10 ∧ i = .int .i64 k ∧ wr = w.drewN n ∧ Hid (∀ j, j < k → Parl.shorts[j]? ≠ some (Parl.bAt r 0))) (fun i _ => 10 - (intOf i).toNat)
              case atStart => exact ⟨0, 0, by omega, rfl, rfl, fun j h => absurd h (Nat.not_lt_zero _)⟩
              case round =>
                obtain ⟨k, n, hk, rfl, rfl, hno⟩ := hrel
                by_cases hlt : k < 10
                · by_cases h0 : 0 < r.size
                  · have hE := not_empty h0
                    have HM : Hid (∀ hk : k < shortB.size, (((r[0]'h0).toNat : Int) == ((shortB[k]'hk).toNat : Int)) = false → ∀ j, j < k + 1 → Parl.shorts[j]? ≠ some (Parl.bAt r 0)) := fun hk h => short_miss h0 hk h hno.out
                    go_wp2
                    go_big_region
                    go_wp2
                    · go_ret
                      exact ⟨ret_int (by rw [signLen_one h0 (fun _ => LN.out) (short_hit (k := k) h0 hlt (by assumption))]; rfl), n + 1, rfl⟩
                    · go_roundw
                      case rel => exact ⟨k + 1, n + 1, by omega, by go_num, rfl, HM.out hlt (by assumption)⟩
                      case measure => simp [intOf]; omega
                  · exact absurd (show 0 < r.size by omega) h0
                · have hS : Hid (Parl.shortSign (Parl.bAt r 0) = false) := short_none hlt hno.out
                  go_wp2
                  go_ret
                  exact ⟨ret_int (by rw [signLen_none (fun _ => LN.out) (fun _ => hS.out)]; rfl), n, rfl⟩
            · have LN : Hid (Parl.longSign (Parl.bAt r 0) (Parl.bAt r 1) = true) := by rw [Hid, LS.out h2, b0, b1, b2, b3, b4]; simp
              go_enter Tryz.func127, Tryz.ntmps127
              go_wp2
              refine wp_loop_rounds 6 ?_
              rw [rounds_succ]
              go_wp2
              rw [rounds_succ]
              go_wp2
              rw [rounds_succ]
              go_wp2
              rw [rounds_succ]
              go_wp2
              rw [rounds_succ]
              go_wp2
              go_ret
              exact ⟨ret_int (by rw [signLen_two h2 LN.out]; rfl), 0, rfl⟩
          · have LN : Hid (Parl.longSign (Parl.bAt r 0) (Parl.bAt r 1) = true) := by rw [Hid, LS.out h2, b0, b1, b2, b3]; simp
            go_enter Tryz.func127, Tryz.ntmps127
            go_wp2
            refine wp_loop_rounds 6 ?_
            rw [rounds_succ]
            go_wp2
            rw [rounds_succ]
            go_wp2
            rw [rounds_succ]
            go_wp2
            rw [rounds_succ]
            go_wp2
            go_ret
            exact ⟨ret_int (by rw [signLen_two h2 LN.out]; rfl), 0, rfl⟩
        · have LN : Hid (Parl.longSign (Parl.bAt r 0) (Parl.bAt r 1) = true) := by rw [Hid, LS.out h2, b0, b1, b2]; simp
          go_enter Tryz.func127, Tryz.ntmps127
          go_wp2
          refine wp_loop_rounds 6 ?_
          rw [rounds_succ]
          go_wp2
          rw [rounds_succ]
          go_wp2
          rw [rounds_succ]
          go_wp2
          go_ret
          exact ⟨ret_int (by rw [signLen_two h2 LN.out]; rfl), 0, rfl⟩
      · have LN : Hid (Parl.longSign (Parl.bAt r 0) (Parl.bAt r 1) = true) := by rw [Hid, LS.out h2, b0, b1]; simp
        go_enter Tryz.func127, Tryz.ntmps127
        go_wp2
        refine wp_loop_rounds 6 ?_
        rw [rounds_succ]
        go_wp2
        rw [rounds_succ]
        go_wp2
        go_ret
        exact ⟨ret_int (by rw [signLen_two h2 LN.out]; rfl), 0, rfl⟩
    · have LN : Hid (Parl.longSign (Parl.bAt r 0) (Parl.bAt r 1) = true) := by rw [Hid, LS.out h2, b0]; simp
      go_enter Tryz.func127, Tryz.ntmps127
      go_wp2
      refine wp_loop_rounds 6 ?_
      rw [rounds_succ]
      go_wp2
      go_ret
      exact ⟨ret_int (by rw [signLen_two h2 LN.out]; rfl), 0, rfl⟩
  · have LN : Hid (2 ≤ r.size → Parl.longSign (Parl.bAt r 0) (Parl.bAt r 1) = false) := fun h => absurd h h2
    go_enter Tryz.func127, Tryz.ntmps127
    go_wp2
    refine wp_loop_rounds 6 ?_
    rw [rounds_succ]
    go_wp2
    rw [rounds_succ]
    go_wp2
    rw [rounds_succ]
    go_wp2
    rw [rounds_succ]
    go_wp2
    rw [rounds_succ]
    go_wp2
    rw [rounds_succ]
    go_wp2
    clear i0 i1 i2 i3 i4 LS
    go_loopw [5] (fun i wr => ∃ k n : Nat, k ≤ 10 ∧ i = .int .i64 k ∧ wr = w.drewN n ∧ Hid (∀ j, j < k → Parl.shorts[j]? ≠ some (Parl.bAt r 0))) (fun i _ => 10 - (intOf i).toNat)
    case atStart => exact ⟨0, 0, by omega, rfl, rfl, fun j h => absurd h (Nat.not_lt_zero _)⟩
    case round =>
      obtain ⟨k, n, hk, rfl, rfl, hno⟩ := hrel
      by_cases hlt : k < 10
      · by_cases h0 : 0 < r.size
        · have hE := not_empty h0
          have HM : Hid (∀ hk : k < shortB.size, (((r[0]'h0).toNat : Int) == ((shortB[k]'hk).toNat : Int)) = false → ∀ j, j < k + 1 → Parl.shorts[j]? ≠ some (Parl.bAt r 0)) := fun hk h => short_miss h0 hk h hno.out
          go_wp2
          go_big_region
          go_wp2
          · go_ret
            exact ⟨ret_int (by rw [signLen_one h0 LN.out (short_hit (k := k) h0 hlt (by assumption))]; rfl), n + 1, rfl⟩
          · go_roundw
            case rel => exact ⟨k + 1, n + 1, by omega, by go_num, rfl, HM.out hlt (by assumption)⟩
            case measure => simp [intOf]; omega
        · have hE : r.toList.isEmpty = true := by rw [ByteArray.toList_eq]; have := Parl.len_eq r; cases hx : r.data.toList with
              | nil => rfl
              | cons a l => rw [hx] at this; simp at this; omega
          have HM : Hid (∀ j, j < k + 1 → Parl.shorts[j]? ≠ some (Parl.bAt r 0)) := fun j hj e => by
              have e0 : Parl.bAt r 0 = 0 := by unfold Parl.bAt; rw [dif_neg h0]
              rw [e0] at e
              have hm := List.mem_of_getElem? e
              simp [Parl.shorts] at hm
          go_wp2
          go_big_region
          go_wp2
          go_roundw
          case rel => exact ⟨k + 1, n + 1, by omega, by go_num, rfl, HM.out⟩
          case measure => simp [intOf]; omega
      · have hS : Hid (Parl.shortSign (Parl.bAt r 0) = false) := short_none hlt hno.out
        go_wp2
        go_ret
        exact ⟨ret_int (by rw [signLen_none LN.out (fun _ => hS.out)]; rfl), n, rfl⟩
end Go.Proofs.YthfjnfcekeknlaaGreatDoor
namespace Go.Proofs.YthfjnfcekeknlaaGreatDoor
open Go.RowKit

theorem Signs.below {B : Nat} {w w' : World} (h : Signs w) (hb : Below B w w') (h0 : 0 < B) : Signs w' :=
  ⟨(hb.cell (p := ⟨0, 0, none⟩) h0).trans h.s0, (hb.cell (p := ⟨0, 1, none⟩) h0).trans h.s1, (hb.cell (p := ⟨0, 2, none⟩) h0).trans h.s2, (hb.cell (p := ⟨0, 3, none⟩) h0).trans h.s3, (hb.cell (p := ⟨0, 4, none⟩) h0).trans h.s4⟩
theorem Signs.draws {w : World} (h : Signs w) (n : Nat) : Signs (w.drewN n) := ⟨h.s0, h.s1, h.s2, h.s3, h.s4⟩

theorem kindAt0 {r : ByteArray} (h : r.size = 0) : Parl.kindAt r 0 = 0 := by unfold Parl.kindAt; rw [if_pos (by omega)]
theorem kindAt2 {r : ByteArray} (h : 0 < r.size) (a : Parl.low (r[0].toNat) = true) : Parl.kindAt r 0 = 2 := by unfold Parl.kindAt; rw [if_neg (by omega), Parl.bAt_lt h, if_pos a]
theorem kindAt3 {r : ByteArray} (h : 0 < r.size) (a : Parl.low (r[0].toNat) = false) (b : Parl.upp (r[0].toNat) = true) : Parl.kindAt r 0 = 3 := by unfold Parl.kindAt; rw [if_neg (by omega), Parl.bAt_lt h, if_neg (by simp [a]), if_pos b]
theorem kindAt4 {r : ByteArray} (h : 0 < r.size) (a : Parl.low (r[0].toNat) = false) (b : Parl.upp (r[0].toNat) = false) (c : Parl.dig (r[0].toNat) = true) : Parl.kindAt r 0 = 4 := by unfold Parl.kindAt; rw [if_neg (by omega), Parl.bAt_lt h, if_neg (by simp [a]), if_neg (by simp [b]), if_pos c]
theorem kindAt5 {r : ByteArray} (h : 0 < r.size) (a : Parl.low (r[0].toNat) = false) (b : Parl.upp (r[0].toNat) = false) (c : Parl.dig (r[0].toNat) = false) (d : 0 < Parl.signLen r 0) : Parl.kindAt r 0 = 5 := by unfold Parl.kindAt; rw [if_neg (by omega), Parl.bAt_lt h, if_neg (by simp [a]), if_neg (by simp [b]), if_neg (by simp [c]), if_pos d]
theorem kindAt1 {r : ByteArray} (h : 0 < r.size) (a : Parl.low (r[0].toNat) = false) (b : Parl.upp (r[0].toNat) = false) (c : Parl.dig (r[0].toNat) = false) (d : ¬ 0 < Parl.signLen r 0) : Parl.kindAt r 0 = 1 := by unfold Parl.kindAt; rw [if_neg (by omega), Parl.bAt_lt h, if_neg (by simp [a]), if_neg (by simp [b]), if_neg (by simp [c]), if_neg d]
theorem is_empty {r : ByteArray} (h : r.size = 0) : r.toList.isEmpty = true := by
  rw [ByteArray.toList_eq]
  have := Parl.len_eq r
  cases hx : r.data.toList with
  | nil => rfl
  | cons a l => rw [hx] at this; simp at this; omega

set_option maxHeartbeats 1000000 in
theorem kindOf_any (r : ByteArray) (w : World) (hr : r.size ≤ maxLen) (h : Signs w) : Calls Tryz.prog 72 #[.string r] w fun e w' => e = .returned (.int .i64 ((Parl.kindAt r 0 : Nat) : Int)) ∧ ∃ n, w' = w.drewN n := by
  have hr' := hr
  unfold maxLen at hr'
  have H := h
  by_cases h0 : 0 < r.size
  · have hE := not_empty h0
    cases a : Parl.low (r[0].toNat)
    · cases b : Parl.upp (r[0].toNat)
      · cases c : Parl.dig (r[0].toNat)
        · by_cases d : 0 < Parl.signLen r 0
          · have K := hide (kindAt5 h0 a b c d)
            go_enter Tryz.func72, Tryz.ntmps72
            go_wp2_with (first | (go_at_call 124; refine (isSmall_any _ _).mono ?_; rintro e w' ⟨rfl, rfl⟩) | (go_at_call 126; refine (isDigit_any _ _).mono ?_; rintro e w' ⟨rfl, rfl⟩) | (go_at_call 125; refine (isCapital_any _ _).mono ?_; rintro e w' ⟨rfl, rfl⟩) | (go_at_call 127; refine (signLength_any _ _ hr H).mono ?_; rintro e w' ⟨rfl, n, rfl⟩))
            go_ret
            exact ⟨ret_int (by rw [unhide K]; rfl), n, rfl⟩
          · have K := hide (kindAt1 h0 a b c d)
            go_enter Tryz.func72, Tryz.ntmps72
            go_wp2_with (first | (go_at_call 124; refine (isSmall_any _ _).mono ?_; rintro e w' ⟨rfl, rfl⟩) | (go_at_call 126; refine (isDigit_any _ _).mono ?_; rintro e w' ⟨rfl, rfl⟩) | (go_at_call 125; refine (isCapital_any _ _).mono ?_; rintro e w' ⟨rfl, rfl⟩) | (go_at_call 127; refine (signLength_any _ _ hr H).mono ?_; rintro e w' ⟨rfl, n, rfl⟩))
            go_ret
            exact ⟨ret_int (by rw [unhide K]; rfl), n, rfl⟩
        · have K := hide (kindAt4 h0 a b c)
          go_enter Tryz.func72, Tryz.ntmps72
          go_wp2_with (first | (go_at_call 124; refine (isSmall_any _ _).mono ?_; rintro e w' ⟨rfl, rfl⟩) | (go_at_call 126; refine (isDigit_any _ _).mono ?_; rintro e w' ⟨rfl, rfl⟩) | (go_at_call 125; refine (isCapital_any _ _).mono ?_; rintro e w' ⟨rfl, rfl⟩))
          go_ret
          exact ⟨ret_int (by rw [unhide K]; rfl), 0, rfl⟩
      · have K := hide (kindAt3 h0 a b)
        go_enter Tryz.func72, Tryz.ntmps72
        go_wp2_with (first | (go_at_call 124; refine (isSmall_any _ _).mono ?_; rintro e w' ⟨rfl, rfl⟩) | (go_at_call 125; refine (isCapital_any _ _).mono ?_; rintro e w' ⟨rfl, rfl⟩))
        go_ret
        exact ⟨ret_int (by rw [unhide K]; rfl), 0, rfl⟩
    · have K := hide (kindAt2 h0 a)
      go_enter Tryz.func72, Tryz.ntmps72
      go_wp2_with (first | (go_at_call 124; refine (isSmall_any _ _).mono ?_; rintro e w' ⟨rfl, rfl⟩))
      go_ret
      exact ⟨ret_int (by rw [unhide K]; rfl), 0, rfl⟩
  · have hE := is_empty (r := r) (by omega)
    have K := hide (kindAt0 (r := r) (by omega))
    go_enter Tryz.func72, Tryz.ntmps72
    go_wp2
    go_ret
    exact ⟨ret_int (by rw [unhide K]; rfl), 0, rfl⟩

set_option maxHeartbeats 1000000 in
theorem lengthOf_any (r : ByteArray) (w : World) (hr : r.size ≤ maxLen) (h : Signs w) : Calls Tryz.prog 73 #[.int .i64 ((Parl.kindAt r 0 : Nat) : Int), .string r] w fun e w' => e = .returned (.int .i64 ((Parl.endAt r 0 : Nat) : Int)) ∧ ∃ n, w' = w.drewN n := by
  have hk := Parl.kindAt_le r 0
  have KE : Hid (Parl.endAt r 0 = if Parl.kindAt r 0 = 0 then 0 else if Parl.kindAt r 0 = 1 then 0 + 1 else if Parl.kindAt r 0 = 5 then 0 + Parl.signLen r 0 else Parl.wordEnd r (Parl.kindAt r 0) 0) := rfl
  generalize Parl.kindAt r 0 = k at *
  rcases (show k = 0 ∨ k = 1 ∨ k = 2 ∨ k = 3 ∨ k = 4 ∨ k = 5 by omega) with rfl | rfl | rfl | rfl | rfl | rfl
  · go_enter Tryz.func73, Tryz.ntmps73
    go_wp2_with fail
    go_ret
    exact ⟨ret_int (by rw [KE.out]; rfl), 0, rfl⟩
  · go_enter Tryz.func73, Tryz.ntmps73
    go_wp2_with fail
    go_ret
    exact ⟨ret_int (by rw [KE.out]; rfl), 0, rfl⟩
  · go_enter Tryz.func73, Tryz.ntmps73
    go_wp2_with (go_at_call 128; refine (wordLength_any 2 _ _ hr).mono ?_; rintro e w' ⟨rfl, rfl⟩)
    go_ret
    exact ⟨ret_int (by rw [KE.out]; rfl), 0, rfl⟩
  · go_enter Tryz.func73, Tryz.ntmps73
    go_wp2_with (go_at_call 128; refine (wordLength_any 3 _ _ hr).mono ?_; rintro e w' ⟨rfl, rfl⟩)
    go_ret
    exact ⟨ret_int (by rw [KE.out]; rfl), 0, rfl⟩
  · go_enter Tryz.func73, Tryz.ntmps73
    go_wp2_with (go_at_call 128; refine (wordLength_any 4 _ _ hr).mono ?_; rintro e w' ⟨rfl, rfl⟩)
    go_ret
    exact ⟨ret_int (by rw [KE.out]; rfl), 0, rfl⟩
  · go_enter Tryz.func73, Tryz.ntmps73
    go_wp2_with (go_at_call 127; refine (signLength_any _ _ hr h).mono ?_; rintro e w' ⟨rfl, n, rfl⟩)
    go_ret
    exact ⟨ret_int (by rw [KE.out]; simp), n, rfl⟩


set_option maxHeartbeats 1000000 in
theorem next_any (s : ByteArray) (p : Nat) (w : World) (hs : s.size ≤ maxLen) (hp : p ≤ s.size) (h : Signs w) (hz : 0 < w.heap.size) :
    Calls Tryz.prog 38 #[.string s, .int .i64 (p : Int)] w fun e w' => e = .returned (.agg #[.int .i64 ((Parl.next s p).kind : Int), .int .i64 ((Parl.next s p).pos : Int), .string (Parl.next s p).text]) ∧ Below w.heap.size w w' := by
  have hs' := hs
  unfold maxLen at hs'
  have hle := Parl.skip_le hp
  have hge := Parl.skip_ge s p
  by_cases he : Parl.skip s p < s.size
  · have hS : ∀ o, Signs (w.alloc o) := fun o => h.below ((Below.refl _ _).alloc (Nat.le_refl _) o) hz
    have hsz : (s.extract (Parl.skip s p) s.size).size ≤ maxLen := by rw [← Parl.from_, Parl.size_from]; omega
    have hN := hide (Parl.next_tok he)
    have hK := hide (@Parl.kindAt_from s (Parl.skip s p))
    have hE := hide (@Parl.endAt_from s (Parl.skip s p))
    have hEl := Parl.endAt_le he
    have hEg := Parl.endAt_gt he
    have hX : Hid (∀ n : Nat, Parl.skip s p + n ≤ s.size → (Parl.from_ s (Parl.skip s p)).extract 0 n = s.extract (Parl.skip s p) (Parl.skip s p + n)) := fun n h => Parl.extract_from h
    unfold Parl.from_ at hK hE hX
    go_enter Tryz.func38, Tryz.ntmps38
    go_wp2_with fail
    refine (skipBlanks_any s p _ hs hp).mono ?_
    rintro e w' ⟨rfl, rfl⟩
    go_wp2_with fail
    refine (kindOf_any (s.extract (Parl.skip s p) s.size) _ hsz (hS _)).mono ?_
    rintro e w' ⟨rfl, n, rfl⟩
    go_wp2_with fail
    refine (lengthOf_any (s.extract (Parl.skip s p) s.size) _ hsz ((hS _).draws _)).mono ?_
    rintro e w' ⟨rfl, m, rfl⟩
    have hb : Parl.endAt (s.extract (Parl.skip s p) s.size) 0 + Parl.skip s p = Parl.endAt s (Parl.skip s p) := unhide hE
    have hb2 : Parl.endAt (s.extract (Parl.skip s p) s.size) 0 ≤ (s.extract (Parl.skip s p) s.size).size := by rw [ByteArray.size_extract]; omega
    generalize hg : Parl.endAt (s.extract (Parl.skip s p) s.size) 0 = q at *
    have hg' := hide hg
    clear hg
    have hb' := hide hb
    clear hb
    go_wp2_with fail
    refine bodyPost_ret (v := .agg #[.int .i64 (Parl.kindAt (s.extract (Parl.skip s p) s.size) 0 : Int), .int .i64 (Parl.skip s p : Int), .string ((s.extract (Parl.skip s p) s.size).extract 0 q)]) (by simp [results, Tryz.results38, go_sem]) rfl ⟨?_, ?_⟩
    · rw [unhide hN, unhide hK, unhide hX q (by rw [ByteArray.size_extract] at hb2; omega), Nat.add_comm, unhide hb']
    · exact (((below_drewN ((Below.refl _ _).alloc (Nat.le_refl _) _) _).setCell (Nat.le_refl _) _).setCell (Nat.le_refl _) _).setCell (Nat.le_refl _) _
  · have hN := hide (Parl.next_end (s := s) (p := p) (by omega))
    go_enter Tryz.func38, Tryz.ntmps38
    go_wp2_with fail
    refine (skipBlanks_any s p _ hs hp).mono ?_
    rintro e w' ⟨rfl, rfl⟩
    go_wp2_with fail
    refine bodyPost_ret (v := .agg #[.int .i64 0, .int .i64 (s.size : Int), .string ByteArray.empty]) (by simp [results, Tryz.results38, go_sem]; rfl) rfl ⟨?_, ?_⟩
    · rw [unhide hN]; rfl
    · exact (Below.refl _ _).alloc (Nat.le_refl _) _
end Go.Proofs.YthfjnfcekeknlaaGreatDoor
namespace Go.Proofs.YthfjnfcekeknlaaGreatDoor
open Go.RowKit

/-- The type of a block's cells. -/
def tyAt (w : World) (k : Nat) : Option TypeId := match w.heap[k]? with
  | some (.cells _ t _) => some t
  | _ => none

/-- All blocks stay but those of X and rows of texts from b on. -/
structure KA (b : Nat) (X : List Nat) (w w' : World) : Prop where
  os : w'.os = w.os
  tape : w'.tape = w.tape
  output : w'.output = w.output
  size : w.heap.size ≤ w'.heap.size
  block : ∀ k, k < w.heap.size → k ∉ X → (k < b ∨ tyAt w k ≠ some 9) → w'.heap[k]? = w.heap[k]?

theorem KA.refl (b : Nat) (X : List Nat) (w : World) : KA b X w w := ⟨rfl, rfl, rfl, Nat.le_refl _, fun _ _ _ _ => rfl⟩
theorem KA.trans {b : Nat} {X : List Nat} {u v w : World} (h : KA b X u v) (k : KA b X v w) : KA b X u w :=
  ⟨k.os.trans h.os, k.tape.trans h.tape, k.output.trans h.output, Nat.le_trans h.size k.size, fun i hi hX ht => by
    have e := h.block i hi hX ht
    rw [k.block i (Nat.lt_of_lt_of_le hi h.size) hX (by unfold tyAt at ht ⊢; rw [e]; exact ht), e]⟩
theorem KA.of_below {b : Nat} {X : List Nat} {w w' : World} (h : Below w.heap.size w w') : KA b X w w' := ⟨h.os, h.tape, h.output, h.size, fun k hk _ _ => h.block k hk⟩
theorem KA.drewN {b : Nat} {X : List Nat} {u w : World} (h : KA b X u w) (n : Nat) : KA b X u (w.drewN n) := h.trans (KA.of_below (below_drewN (Below.refl _ _) n))
theorem KA.drew {b : Nat} {X : List Nat} {u w : World} (h : KA b X u w) : KA b X u w.drew := h.trans (KA.of_below (Below.refl _ _).drew)
theorem KA.alloc {b : Nat} {X : List Nat} {u w : World} (h : KA b X u w) (o : Obj) : KA b X u (w.alloc o) := h.trans (KA.of_below ((Below.refl _ _).alloc (Nat.le_refl _) o))
theorem KA.setIn {b : Nat} {X : List Nat} {u w : World} (h : KA b X u w) {p : Addr} (hp : p.block ∈ X) (v : Value) : KA b X u (w.setCell p v) :=
  h.trans ⟨rfl, rfl, rfl, by simp [World.setCell], fun k hk hX _ => Below.heap_setCell _ _ _ _ (fun e => hX (e ▸ hp))⟩
theorem KA.setNew {b : Nat} {X : List Nat} {u w : World} (h : KA b X u w) {p : Addr} (hp : u.heap.size ≤ p.block) (v : Value) : KA b X u (w.setCell p v) :=
  ⟨h.os, h.tape, h.output, by have := h.size; simp [World.setCell]; omega, fun k hk hX ht => (Below.heap_setCell _ _ _ _ (by omega)).trans (h.block k hk hX ht)⟩
theorem KA.mono {b : Nat} {X Y : List Nat} {u w : World} (h : KA b X u w) (hs : ∀ x ∈ X, x ∈ Y) : KA b Y u w :=
  ⟨h.os, h.tape, h.output, h.size, fun k hk hY ht => h.block k hk (fun e => hY (hs k e)) ht⟩
/-- What is new in the first world may be let go. -/
theorem KA.forget {b : Nat} {X Y : List Nat} {u w : World} (h : KA b Y u w) (hs : ∀ x ∈ Y, x ∈ X ∨ u.heap.size ≤ x) : KA b X u w :=
  ⟨h.os, h.tape, h.output, h.size, fun k hk hX ht => h.block k hk (fun e => (hs k e).elim hX (fun q => by omega)) ht⟩
theorem KA.cell {b : Nat} {X : List Nat} {w w' : World} (h : KA b X w w') {p : Addr} (hp : p.block < w.heap.size) (hX : p.block ∉ X) (ht : p.block < b ∨ tyAt w p.block ≠ some 9) : w'.cell? p = w.cell? p := World.cell?_of_block (w := w) (h.block p.block hp hX ht)
theorem KA.frozen {b : Nat} {X : List Nat} {w w' : World} (h : KA b X w w') {p : Addr} (hp : p.block < w.heap.size) (hX : p.block ∉ X) (ht : p.block < b ∨ tyAt w p.block ≠ some 9) : w'.frozen? p = w.frozen? p := World.frozen?_of_block (w := w) (h.block p.block hp hX ht)
theorem KA.below {b : Nat} {X : List Nat} {w w' : World} (h : KA b X w w') {B : Nat} (hB : B ≤ w.heap.size) (hb : B ≤ b) (hX : ∀ x ∈ X, B ≤ x) : Below B w w' :=
  ⟨h.os, h.tape, h.output, h.size, fun k hk => h.block k (by omega) (fun e => by have := hX k e; omega) (Or.inl (by omega))⟩
theorem KA.grown {b : Nat} {X : List Nat} {u w w' : World} {row : Option Nat} (h : KA b X u w) (hg : w.grownBy w' row) (hr : ∀ k, row = some k → u.heap.size ≤ k ∨ k ∈ X ∨ (b ≤ k ∧ tyAt w k = some 9)) : KA b X u w' :=
  ⟨hg.os.trans h.os, hg.tape.trans h.tape, hg.output.trans h.output, Nat.le_trans h.size hg.size, fun k hk hX ht => by
    have e := h.block k hk hX ht
    rw [hg.block k (Nat.lt_of_lt_of_le hk h.size) (fun q => ?_), e]
    rcases hr k q.symm with a | a | ⟨a, c⟩
    · omega
    · exact hX a
    · rcases ht with t | t
      · omega
      · apply t; unfold tyAt at c ⊢; rw [← e]; exact c⟩

theorem Signs.ka {b : Nat} {X : List Nat} {w w' : World} (h : Signs w) (hk : KA b X w w') (h0 : 0 < w.heap.size) (hX : 0 ∉ X) (hb : 0 < b) : Signs w' :=
  ⟨(hk.cell (p := ⟨0, 0, none⟩) h0 hX (Or.inl hb)).trans h.s0, (hk.cell (p := ⟨0, 1, none⟩) h0 hX (Or.inl hb)).trans h.s1, (hk.cell (p := ⟨0, 2, none⟩) h0 hX (Or.inl hb)).trans h.s2, (hk.cell (p := ⟨0, 3, none⟩) h0 hX (Or.inl hb)).trans h.s3, (hk.cell (p := ⟨0, 4, none⟩) h0 hX (Or.inl hb)).trans h.s4⟩

/-- The reader's six cells. -/
structure Rd (w : World) (rb : Nat) (s : ByteArray) (t : Parl.Tok) (nv : Value) (e : Int) : Prop where
  c0 : w.cell? ⟨rb, 0, none⟩ = some (.string s)
  c1 : w.cell? ⟨rb, 1, none⟩ = some (.int .i64 (t.kind : Int))
  c2 : w.cell? ⟨rb, 2, none⟩ = some (.int .i64 (t.pos : Int))
  c3 : w.cell? ⟨rb, 3, none⟩ = some (.string t.text)
  c4 : w.cell? ⟨rb, 4, none⟩ = some nv
  c5 : w.cell? ⟨rb, 5, none⟩ = some (.int .i64 e)
  f1 : w.frozen? ⟨rb, 1, none⟩ = false
  f2 : w.frozen? ⟨rb, 2, none⟩ = false
  f3 : w.frozen? ⟨rb, 3, none⟩ = false
  f4 : w.frozen? ⟨rb, 4, none⟩ = false
  f5 : w.frozen? ⟨rb, 5, none⟩ = false

theorem Rd.below {B : Nat} {w w' : World} {rb : Nat} {s : ByteArray} {t : Parl.Tok} {nv : Value} {e : Int} (h : Rd w rb s t nv e) (hb : Below B w w') (hr : rb < B) : Rd w' rb s t nv e :=
  ⟨(hb.cell (p := ⟨rb, 0, none⟩) hr).trans h.c0, (hb.cell (p := ⟨rb, 1, none⟩) hr).trans h.c1, (hb.cell (p := ⟨rb, 2, none⟩) hr).trans h.c2, (hb.cell (p := ⟨rb, 3, none⟩) hr).trans h.c3, (hb.cell (p := ⟨rb, 4, none⟩) hr).trans h.c4, (hb.cell (p := ⟨rb, 5, none⟩) hr).trans h.c5,
   (hb.frozen (p := ⟨rb, 1, none⟩) hr).trans h.f1, (hb.frozen (p := ⟨rb, 2, none⟩) hr).trans h.f2, (hb.frozen (p := ⟨rb, 3, none⟩) hr).trans h.f3, (hb.frozen (p := ⟨rb, 4, none⟩) hr).trans h.f4, (hb.frozen (p := ⟨rb, 5, none⟩) hr).trans h.f5⟩

/-- What the reader stands at: the tokens l are left, ns are the clause's variables so far. -/
structure St (w : World) (rb : Nat) (s : ByteArray) (l : List Parl.Tok) (ns : List ByteArray) (nv : Value) (e : Int) : Prop where
  rd : Rd w rb s (Parl.hd l) nv e
  own : w.ownsRow (rb + 1) 9 1 nv ns.length (ns.map Value.string)
  chain : Parl.Chain s l
  isNext : ∃ p, Parl.hd l = Parl.next s p
  few : ns.length + l.length ≤ 1000
  short : s.size ≤ 240
  signs : Signs w
  pos : 0 < rb
  lt : rb < w.heap.size

theorem St.below {w w' : World} {rb : Nat} {s : ByteArray} {l : List Parl.Tok} {ns : List ByteArray} {nv : Value} {e : Int} (h : St w rb s l ns nv e) (hb : Below w.heap.size w w') : St w' rb s l ns nv e :=
  ⟨h.rd.below hb h.lt, ⟨h.own.1, h.own.2.imp id fun ⟨g, cap, cur, a, b, c, d⟩ => ⟨g, cap, cur, a, b, (hb.block g (by
      have := Array.getElem?_eq_some_iff.1 c; exact this.1)).trans c, d⟩⟩, h.chain, h.isNext, h.few, h.short, h.signs.below hb (by have := h.lt; omega), h.pos, by have := hb.size; have := h.lt; omega⟩

/-- A store into the reader's own block: what does not hang on its cells stays. -/
theorem own_setCell {w : World} {rb : Nat} {T : TypeId} {sz : Nat} {nv : Value} {n : Nat} {xs : List Value} (h : w.ownsRow (rb + 1) T sz nv n xs) (o : Nat) (v : Value) : (w.setCell ⟨rb, o, none⟩ v).ownsRow (rb + 1) T sz nv n xs :=
  ownsRow_setCell_below h (by show rb < rb + 1; omega) v

theorem Signs.setCell {w : World} (h : Signs w) {p : Addr} (hp : p.block ≠ 0) (v : Value) : Signs (w.setCell p v) := by
  have k : ∀ o, (w.setCell p v).cell? ⟨0, o, none⟩ = w.cell? ⟨0, o, none⟩ := fun o => World.cell?_of_block (Below.heap_setCell _ _ _ _ (fun e => hp e.symm))
  exact ⟨(k 0).trans h.s0, (k 1).trans h.s1, (k 2).trans h.s2, (k 3).trans h.s3, (k 4).trans h.s4⟩
end Go.Proofs.YthfjnfcekeknlaaGreatDoor
namespace Go.Proofs.YthfjnfcekeknlaaGreatDoor
open Go.RowKit
/-- The steps of a script lie there. -/
def Ops (w : World) (b off len : Nat) : Prop := ∀ i, i < len → ∃ (k : Int) (x y : ByteArray) (o : Option Addr) (n c : Nat),
  w.cell? ⟨b, off + i * 4, none⟩ = some (.int .i64 k) ∧ w.cell? ⟨b, off + i * 4 + 1, none⟩ = some (.string x) ∧ w.cell? ⟨b, off + i * 4 + 2, none⟩ = some (.string y) ∧ w.cell? ⟨b, off + i * 4 + 3, none⟩ = some (.slice o n c)
set_option maxHeartbeats 1000000 in
theorem upTo_nil (w : World) (k : Int) (a : Option Addr) (cap : Nat) :
    Calls Tryz.prog 12 #[.slice a 0 cap, .int .i64 k, .int .i64 k] w fun e w' => e = .returned (.int .i64 (-1)) ∧ w' = w := by
  go_enter Tryz.func12, Tryz.ntmps12
  go_wp2_with fail
  refine wp_loop_rounds 1 ?_
  rw [rounds_succ]
  go_wp2_with fail
  go_ret
  exact ⟨rfl, rfl⟩
/-- What a call finds that writes no number: the table of signs. -/
structure EnvM (w : World) : Prop where
  sg : Signs w
  pos : 0 < w.heap.size
theorem EnvM.below {w w' : World} (h : EnvM w) (hb : Below w.heap.size w w') : EnvM w' := ⟨h.sg.below hb h.pos, Nat.lt_of_lt_of_le h.pos hb.size⟩
theorem EnvM.alloc {w : World} (h : EnvM w) (o : Obj) : EnvM (w.alloc o) := h.below ((Below.refl _ _).alloc (Nat.le_refl _) o)
/-- A step of the kind K is as the document says. -/
def PlaysM (K : Int) : Prop := ∀ (w : World) (a b : ByteArray) (o : Option Addr) (n c : Nat), EnvM w →
  Calls Tryz.prog 25 #[.agg #[.int .i64 K, .string a, .string b, .slice o n c]] w fun e w' => e = .returned (.bool true) ∧ Below w.heap.size w w'

set_option maxHeartbeats 4000000 in
set_option maxRecDepth 100000 in
theorem upTo_kindM (K : Int) (PL : PlaysM K) (w : World) (b off len cap : Nat) (hops : Ops w b off len) (hb : b < w.heap.size) (hlen : len ≤ maxLen) (he : EnvM w) :
    Calls Tryz.prog 12 #[.slice (some ⟨b, off, none⟩) len cap, .int .i64 K, .int .i64 K] w fun e w' => e = .returned (.int .i64 (-1)) ∧ Below w.heap.size w w' := by
  have HOPS := hide hops
  have HE := hide he
  have HPL := hide PL
  clear hops he PL
  unfold maxLen at hlen
  go_enter Tryz.func12, Tryz.ntmps12
  go_wp2_with fail
  go_loopw [7] (fun i wr => ∃ k : Nat, k ≤ len ∧ i = .int .i64 k ∧ Below w.heap.size w wr) (fun i _ => len - (intOf i).toNat)
  case atStart => exact ⟨0, by omega, rfl, Below.refl _ _⟩
  case round =>
    obtain ⟨k, hk, rfl, hB⟩ := hrel
    have HB := hide hB
    have hz := hB.size
    by_cases hlt : k < len
    · obtain ⟨q, x, y, o, n, c, e0, e1, e2, e3⟩ := unhide HOPS k hlt
      have d0 := (hB.cell (p := ⟨b, off + k * 4, none⟩) hb).trans e0
      have d1 := (hB.cell (p := ⟨b, off + k * 4 + 1, none⟩) hb).trans e1
      have d2 := (hB.cell (p := ⟨b, off + k * 4 + 2, none⟩) hb).trans e2
      have d3 := (hB.cell (p := ⟨b, off + k * 4 + 3, none⟩) hb).trans e3
      clear e0 e1 e2 e3
      have HEW := hide ((unhide HE).below hB)
      clear hB
      by_cases hq : q = K
      · subst hq
        have g1 : decide (q ≤ q) = true := by simp
        go_wp2_with fail
        refine (unhide HPL _ x y o n c ((unhide HEW).alloc _)).mono ?_
        rintro e w2 ⟨rfl, hb2⟩
        have HB2 := hide hb2
        clear hb2 d0 d1 d2 d3 g1
        go_wp2_with fail
        go_roundw
        case rel => exact ⟨k + 1, by omega, by go_num, ((unhide HB).alloc hz _).trans ((unhide HB2).mono (by simp; omega))⟩
        case measure => simp [intOf]; omega
      · by_cases hq1 : K ≤ q
        · have g1 : decide (K ≤ q) = true := by simpa using hq1
          have g2 : decide (q ≤ K) = false := by simp; omega
          clear hq hq1
          go_wp2_with fail
          go_roundw
          case rel => exact ⟨k + 1, by omega, by go_num, (unhide HB).alloc hz _⟩
          case measure => simp [intOf]; omega
        · have g1 : decide (K ≤ q) = false := by simpa using hq1
          clear hq hq1
          go_wp2_with fail
          go_roundw
          case rel => exact ⟨k + 1, by omega, by go_num, (unhide HB).alloc hz _⟩
          case measure => simp [intOf]; omega
    · have hkl : k = len := by omega
      subst hkl
      clear hB
      go_wp2_with fail
      go_ret
      exact ⟨rfl, unhide HB⟩

end Go.Proofs.YthfjnfcekeknlaaGreatDoor
namespace Go.Proofs.YthfjnfcekeknlaaGreatDoor
open Go.ChangeShapes Go.WideShapes Go.ChangeAt Go.RowKit

theorem lawOwn : ownKnob Tryz.prog.godebug = Option.none := by kernel_rfl
theorem lawLaid : laidOutB Tryz.prog = true := by kernel_rfl
theorem gSigns : Tryz.prog.globalNamed "parley/scan.longSigns" = some 0 := by kernel_rfl
theorem gSignsType : (Tryz.prog.globals[0]?).map (·.type) = some 238 := by kernel_rfl
theorem cellsSigns : Tryz.prog.cellsOf 238 = 5 := by kernel_rfl
theorem cellsStr : Tryz.prog.cellsOf 9 = 1 := by kernel_rfl
theorem cellsInt : Tryz.prog.cellsOf 3 = 1 := by kernel_rfl
theorem cellsPicks : Tryz.prog.cellsOf 26 = 1 := by kernel_rfl
theorem cellsOp : Tryz.prog.cellsOf 48 = 4 := by kernel_rfl

/-- An array of texts that reads so holds them, cell for cell. -/
theorem cells_of_strs {H : Type} {enc : TypeId × Value → H} {P : Program} {w : World} {base : Nat} {sp : Nat → Bool} {held : Bool} {fuel : Nat} {t e : TypeId} {n : Nat} {cs : List Value} {zs : List (List UInt8)} {p : List MemPlace}
    (ht : P.underlying t = some (.array n e)) (he : P.underlying e = some .string) (hce : P.cellsOf e = 1) (hct : P.cellsOf t = n)
    (h : DataW.trod enc P w base sp held fuel t cs = some (.agg (zs.map fun z => .lit (.string z)), p)) : cs = zs.map fun z => Value.string ⟨z.toArray⟩ := by
  cases fuel with
  | zero => simp [DataW.trod] at h
  | succ fuel =>
    simp only [DataW.trod, ht, hce, hct, Nat.mul_one] at h
    split at h
    · rename_i hl
      obtain ⟨xs, hm, hx⟩ := Option.map_eq_some_iff.1 h
      have hxs : xs.map (·.1) = zs.map fun z => (DataW.lit (.string z) : DataW H) := by
        have := congrArg Prod.fst hx
        simpa using this
      have hxl : xs.length = n := by simpa using Lib.mapM_length hm
      have hzl : zs.length = n := by
        have := congrArg List.length hxs
        simp at this
        omega
      apply List.ext_getElem?
      intro i
      by_cases hi : i < n
      · obtain ⟨b, hb, hf⟩ := Lib.mapM_at hm i i (by simp [hi])
        obtain ⟨z, hc, rfl, _⟩ := DataW.trod_string he hf
        have h1 : cs[i]? = some (.string z) := by
          have := congrArg (·[0]?) hc
          simpa [List.getElem?_take, List.getElem?_drop] using this
        have h2 : (xs.map (·.1))[i]? = some (DataW.lit (.string z.data.toList) : DataW H) := by simp [hb]
        rw [hxs] at h2
        simp only [List.getElem?_map, Option.map_eq_some_iff, DataW.lit.injEq, Lit.string.injEq] at h2
        obtain ⟨z', hz', hzz⟩ := h2
        rw [h1, List.getElem?_map, hz', hzz]
        rfl
      · rw [List.getElem?_eq_none (by omega), List.getElem?_eq_none (by simp; omega)]
    · cases h

set_option maxRecDepth 100000 in
/-- What the row's list gives: the signs of two letters. -/
theorem signs_of {W : World} (h : laidMetH Tryz.prog Rows.checksRow.laid W) : Signs W ∧ 0 < W.heap.size := by
  have h' : laidMet Tryz.prog Rows.checksRow.laid W := h
  obtain ⟨ps, ⟨_, _, _, _, _, _, _, _, _, _, ⟨_, _, _, _, _, _, _, _, _, _, ⟨_, _, _, _, _, _, _, _, _, _, ⟨g, t, cs, fuel, p, q, hg, ht, hvar, hd, _, _⟩, _⟩, _⟩, _⟩, _⟩ := h'
  obtain rfl := Option.some.inj (gSigns.symm.trans hg)
  obtain rfl := Option.some.inj (gSignsType.symm.trans ht)
  have e := cells_of_strs (zs := [[58, 45], [58, 61], [61, 61], [92, 61], [61, 60]]) Tryz.underlying238 Tryz.underlying9 cellsStr cellsSigns hd
  have c := World.var?_cell gSigns hvar
  obtain rfl : cs = #[.string ⟨#[58, 45]⟩, .string ⟨#[58, 61]⟩, .string ⟨#[61, 61]⟩, .string ⟨#[92, 61]⟩, .string ⟨#[61, 60]⟩] := by
    apply Array.toList_inj.1
    rw [e]; rfl
  refine ⟨⟨c 0, c 1, c 2, c 3, c 4⟩, ?_⟩
  rcases Nat.eq_zero_or_pos W.heap.size with hz | hz
  · have := c 0
    simp [World.cell?, Array.size_eq_zero_iff.1 hz] at this
  · exact hz

set_option maxRecDepth 100000 in
/-- A step's four cells. -/
theorem op_cells {H : Type} {enc : TypeId × Value → H} {W : World} {base : Nat} {sp : Nat → Bool} {held : Bool} {n : Nat} {cs : List Value} {y : DataW H × List MemPlace} (h : DataW.trod enc Tryz.prog W base sp held n 48 cs = some y) :
    ∃ (k : Int) (a b : ByteArray) (o : Option Addr) (m c : Nat), cs = [.int .i64 k, .string a, .string b, .slice o m c] := by
  obtain ⟨y0, y1, y2, y3, n', _, hl, g0, g1, g2, g3⟩ := Joins.trod_struct4 Tryz.underlying48 h
  rw [cellsOp] at hl
  match cs, hl with
  | [v0, v1, v2, v3], _ =>
    simp only [cellsInt, cellsStr, cellsPicks, List.drop_zero, List.drop_succ_cons, List.take_succ_cons, List.take_zero] at g0 g1 g2 g3
    obtain ⟨k, hk, _⟩ := DataW.trod_int Tryz.underlying3 g0
    obtain ⟨a, ha, _⟩ := DataW.trod_string Tryz.underlying9 g1
    obtain ⟨b, hb, _⟩ := DataW.trod_string Tryz.underlying9 g2
    have h3 : ∃ o m c, v3 = .slice o m c := by
      rcases Deep.open_slice Tryz.underlying26 g3 with ⟨hc, _⟩ | ⟨a', len, cap, _, _, _, _, hc, _⟩
      · exact ⟨_, _, _, by simpa using hc⟩
      · exact ⟨_, _, _, by simpa using hc⟩
    obtain ⟨o, m, c, rfl⟩ := h3
    simp only [List.cons.injEq, and_true] at hk ha hb
    subst hk ha hb
    exact ⟨k, a, b, o, m, c, rfl⟩

/-- A script as it comes in. -/
theorem script_of {H : Type} {enc : TypeId × Value → H} {W : World} {fuel : Nat} {a0 : Option Addr} {len cap : Nat} {x : DataW H × List MemPlace}
    (h : DataW.trod enc Tryz.prog W 0 (fun _ => true) true fuel 22 [.slice a0 len cap] = some x) (hlt : ∀ q ∈ x.2, q.block < W.heap.size) :
    len = 0 ∨ ∃ b off, a0 = some ⟨b, off, Option.none⟩ ∧ b < W.heap.size ∧ len ≤ maxLen ∧ Ops W b off len := by
  rcases Deep.open_slice Tryz.underlying22 h with ⟨hcs, _⟩ | ⟨a, len', cap', m, n, D, Pl, hcs, _, hl, hm, hmm, hx, hel⟩
  · simp at hcs
    exact Or.inl hcs.2.1
  · simp at hcs
    obtain ⟨rfl, rfl, rfl⟩ := hcs
    rcases Nat.eq_zero_or_pos len with h0 | h0
    · exact Or.inl h0
    · right
      simp only [if_true] at hmm
      subst hmm
      rw [cellsOp] at hel hx
      have ce : ∀ i, i < len → ∃ (k : Int) (s1 s2 : ByteArray) (o : Option Addr) (n' c : Nat), W.cell? (a.add (i * 4 + 0)) = some (.int .i64 k) ∧ W.cell? (a.add (i * 4 + 1)) = some (.string s1) ∧ W.cell? (a.add (i * 4 + 2)) = some (.string s2) ∧ W.cell? (a.add (i * 4 + 3)) = some (.slice o n' c) := by
        intro i hi
        obtain ⟨cs', h1, h2⟩ := hel i (by omega)
        obtain ⟨k, s1, s2, o, n', c, rfl⟩ := op_cells h2
        obtain ⟨_, _, hc⟩ := World.cells?_some h1
        have e0 := hc 0 (by omega)
        have e1 := hc 1 (by omega)
        have e2 := hc 2 (by omega)
        have e3 := hc 3 (by omega)
        rw [Deep.add_add] at e0 e1 e2 e3
        exact ⟨k, s1, s2, o, n', c, e0, e1, e2, e3⟩
      obtain ⟨b, off, spot⟩ := a
      have hspot : spot = Option.none := by
        obtain ⟨_, _, _, _, _, _, e0, _⟩ := ce 0 h0
        simpa [Addr.add] using World.cell?_spot e0
      subst hspot
      have hb : b < W.heap.size := by
        refine hlt (.cell b off) ?_
        rw [hx]
        exact List.mem_append_left _ (MemPlace.mem_row.2 ⟨0, by omega, by simp⟩)
      refine ⟨b, off, rfl, hb, by omega, fun i hi => ?_⟩
      obtain ⟨k, s1, s2, o, n', c, e0, e1, e2, e3⟩ := ce i hi
      rw [add_plain] at e0 e1 e2 e3
      exact ⟨k, s1, s2, o, n', c, e0, e1, e2, e3⟩

/-- What a variable's block holds. -/
def putIn (cs : Array Value) : Obj → Obj
  | .cells _ t frozen => .cells cs t frozen
  | o => o
/-- A world for the witness: the settled one, the four tables holding what their initialisers lay. -/
noncomputable def laidWorld (os : Os) : World :=
  { World.holding Tryz.prog os ⟨#[], #[], []⟩ with heap := ((((World.holding Tryz.prog os ⟨#[], #[], []⟩).heap.modify 0 (putIn #[.string ⟨#[58, 45]⟩, .string ⟨#[58, 61]⟩, .string ⟨#[61, 61]⟩, .string ⟨#[92, 61]⟩, .string ⟨#[61, 60]⟩])).modify 1 (putIn #[.int .u64 1, .int .u64 10, .int .u64 100, .int .u64 1000, .int .u64 10000, .int .u64 100000, .int .u64 1000000, .int .u64 10000000, .int .u64 100000000, .int .u64 1000000000, .int .u64 10000000000, .int .u64 100000000000, .int .u64 1000000000000, .int .u64 10000000000000, .int .u64 100000000000000, .int .u64 1000000000000000, .int .u64 10000000000000000, .int .u64 100000000000000000, .int .u64 1000000000000000000, .int .u64 10000000000000000000])).modify 2 (putIn #[.int .u8 0, .int .u8 1, .int .u8 28, .int .u8 2, .int .u8 29, .int .u8 14, .int .u8 24, .int .u8 3, .int .u8 30, .int .u8 22, .int .u8 20, .int .u8 15, .int .u8 25, .int .u8 17, .int .u8 4, .int .u8 8, .int .u8 31, .int .u8 27, .int .u8 13, .int .u8 23, .int .u8 21, .int .u8 19, .int .u8 16, .int .u8 7, .int .u8 26, .int .u8 12, .int .u8 18, .int .u8 6, .int .u8 11, .int .u8 5, .int .u8 10, .int .u8 9])).modify 3 (putIn #[.int .u8 0, .int .u8 1, .int .u8 56, .int .u8 2, .int .u8 57, .int .u8 49, .int .u8 28, .int .u8 3, .int .u8 61, .int .u8 58, .int .u8 42, .int .u8 50, .int .u8 38, .int .u8 29, .int .u8 17, .int .u8 4, .int .u8 62, .int .u8 47, .int .u8 59, .int .u8 36, .int .u8 45, .int .u8 43, .int .u8 51, .int .u8 22, .int .u8 53, .int .u8 39, .int .u8 33, .int .u8 30, .int .u8 24, .int .u8 18, .int .u8 12, .int .u8 5, .int .u8 63, .int .u8 55, .int .u8 48, .int .u8 27, .int .u8 60, .int .u8 41, .int .u8 37, .int .u8 16, .int .u8 46, .int .u8 35, .int .u8 44, .int .u8 21, .int .u8 52, .int .u8 32, .int .u8 23, .int .u8 11, .int .u8 54, .int .u8 26, .int .u8 40, .int .u8 15, .int .u8 34, .int .u8 20, .int .u8 31, .int .u8 10, .int .u8 25, .int .u8 14, .int .u8 19, .int .u8 9, .int .u8 13, .int .u8 8, .int .u8 7, .int .u8 6]) }
theorem laid_met (os : Os) : laidMet Tryz.prog Rows.checksRow.laid ((laidWorld os).forCall (fun _ _ => 0) ⟨#[], #[.slice Option.none 0 0], []⟩).memory :=
  laidMet_of_run' 8 (by kernel_rfl) (by kernel_rfl)

end Go.Proofs.YthfjnfcekeknlaaGreatDoor
namespace Parl

/-- Behind a term in brackets: k more at most. -/
def contArgs (p : List Tok → Res Tm) (k : Nat) (l1 : List Tok) : Res (List Tm) :=
  if sees l1 [44] = true then (match k with
    | 0 => bad 3 l1
    | k + 1 => argsOf p k l1.tail)
  else if sees l1 [41] = true then .inr ([], l1.tail) else bad 2 l1
def preT (ts : List Tm) (r : Res (List Tm)) : Res (List Tm) := match r with
  | .inl e => .inl e
  | .inr (us, l2) => .inr (ts ++ us, l2)

theorem args_cont (p : List Tok → Res Tm) (k : Nat) (l : List Tok) : argsOf p k l = match p l with
    | .inl e => .inl e
    | .inr (t, l1) => preT [t] (contArgs p k l1) := by
  unfold argsOf contArgs
  rcases p l with e | ⟨t, l1⟩
  · rfl
  · dsimp only
    by_cases hc : sees l1 [44] = true
    · rw [if_pos hc, if_pos hc]
      cases k with
      | zero => rfl
      | succ k =>
        dsimp only
        rcases argsOf p k l1.tail with e | ⟨us, l2⟩ <;> rfl
    · rw [if_neg hc, if_neg hc]
      by_cases hb : sees l1 [41] = true
      · rw [if_pos hb, if_pos hb]; rfl
      · rw [if_neg hb, if_neg hb]; rfl
theorem preT_nil (r : Res (List Tm)) : preT [] r = r := by rcases r with e | ⟨us, l2⟩ <;> rfl
theorem preT_preT (a b : List Tm) (r : Res (List Tm)) : preT a (preT b r) = preT (a ++ b) r := by rcases r with e | ⟨us, l2⟩ <;> simp [preT]

theorem argsOf_err {p : List Tok → Res Tm} (hp : ∀ l e, p l = .inl e → e.1 = 2 ∨ e.1 = 3) : ∀ k l e, argsOf p k l = .inl e → e.1 = 2 ∨ e.1 = 3 := by
  intro k
  induction k with
  | zero =>
    intro l e h
    rw [args_cont] at h
    rcases hr : p l with x | ⟨t, l1⟩
    · rw [hr] at h; injection h with h; subst h; exact hp _ _ hr
    · rw [hr] at h
      dsimp only at h
      unfold contArgs at h
      by_cases hc : sees l1 [44] = true
      · rw [if_pos hc] at h; simp only [preT, bad, Sum.inl.injEq] at h; subst h; exact Or.inr rfl
      · rw [if_neg hc] at h
        by_cases hb : sees l1 [41] = true
        · rw [if_pos hb] at h; cases h
        · rw [if_neg hb] at h; simp only [preT, bad, Sum.inl.injEq] at h; subst h; exact Or.inl rfl
  | succ k ih =>
    intro l e h
    rw [args_cont] at h
    rcases hr : p l with x | ⟨t, l1⟩
    · rw [hr] at h; injection h with h; subst h; exact hp _ _ hr
    · rw [hr] at h
      dsimp only at h
      unfold contArgs at h
      by_cases hc : sees l1 [44] = true
      · rw [if_pos hc] at h
        dsimp only at h
        rcases hq : argsOf p k l1.tail with x | ⟨us, l2⟩
        · rw [hq] at h; simp only [preT, Sum.inl.injEq] at h; subst h; exact ih _ _ hq
        · rw [hq] at h; cases h
      · rw [if_neg hc] at h
        by_cases hb : sees l1 [41] = true
        · rw [if_pos hb] at h; cases h
        · rw [if_neg hb] at h; simp only [preT, bad, Sum.inl.injEq] at h; subst h; exact Or.inl rfl

theorem term_err : ∀ f l e, term f l = .inl e → e.1 = 2 ∨ e.1 = 3 := by
  intro f
  induction f with
  | zero =>
    intro l e h
    rw [term] at h
    by_cases hb : begins (hd l) = true
    · rw [if_pos hb] at h; injection h with h; subst h; exact Or.inr rfl
    · rw [if_neg hb] at h; injection h with h; subst h; exact Or.inl rfl
  | succ f ih =>
    intro l e h
    rw [term] at h
    by_cases hb : begins (hd l) = true
    · rw [if_pos hb] at h
      by_cases hl : (hd l).kind = 4 ∧ 6 < (hd l).text.size
      · rw [if_pos hl] at h; injection h with h; subst h; exact Or.inr rfl
      · rw [if_neg hl] at h
        by_cases hk : (hd l).kind = 2
        · rw [if_pos hk] at h
          by_cases hs : sees l.tail [40] = true
          · rw [if_pos hs] at h
            rcases hq : argsOf (term f) 2 l.tail.tail with x | ⟨us, l2⟩
            · rw [hq] at h; injection h with h; subst h; exact argsOf_err ih _ _ _ hq
            · rw [hq] at h; cases h
          · rw [if_neg hs] at h; cases h
        · rw [if_neg hk] at h; cases h
    · rw [if_neg hb] at h; injection h with h; subst h; exact Or.inl rfl
end Parl
namespace Parl

/-- An item as the document's reader has it: that it can be neither a test nor a goal is not looked at here. -/
def item0 (tests goals : Bool) (l : List Tok) : Res (Itm × Bool × Bool) :=
  match term 8 l with
  | .inl e => .inl e
  | .inr (t, l1) =>
    if testSign l1 = true then
      match sides t tests l1 with
      | .inl e => .inl e
      | .inr (x, l2) => .inr ((x, tests, false), l2)
    else if sees l1 [61] = true then
      match sides t goals l1 with
      | .inl e => .inl e
      | .inr (x, l2) => .inr ((x, false, goals), l2)
    else if t.kind = 3 ∧ sees l1 [58, 61] = true then
      match assignment t goals l1 with
      | .inl e => .inl e
      | .inr (x, l2) => .inr ((x, false, goals), l2)
    else if t.kind = 2 then
      .inr ((⟨t, [], none, [], none⟩, tests && isInt t, goals), l1)
    else bad 2 l1

/-- The look behind it. -/
def neither {α : Type} (r : Res (α × Bool × Bool)) : Res (α × Bool × Bool) := match r with
  | .inl e => .inl e
  | .inr ((x, t, g), l1) => if t = false ∧ g = false then bad 2 l1 else .inr ((x, t, g), l1)

theorem sides_fits {t : Tm} {f : Bool} {l : List Tok} {x : Itm} {l2 : List Tok} (h : sides t f l = .inr (x, l2)) : f = true := by
  unfold sides at h; cases f
  · simp [bad] at h
  · rfl
theorem assignment_fits {t : Tm} {f : Bool} {l : List Tok} {x : Itm} {l2 : List Tok} (h : assignment t f l = .inr (x, l2)) : f = true := by
  unfold assignment at h; cases f
  · simp [bad] at h
  · rfl

theorem item_item0 (tests goals : Bool) (l : List Tok) : item tests goals l = neither (item0 tests goals l) := by
  unfold item item0
  rcases term 8 l with e | ⟨t, l1⟩
  · rfl
  · dsimp only
    by_cases h1 : testSign l1 = true
    · rw [if_pos h1, if_pos h1]
      rcases hs : sides t tests l1 with e | ⟨x, l2⟩
      · rfl
      · simp [neither, sides_fits hs]
    · rw [if_neg h1, if_neg h1]
      by_cases h2 : sees l1 [61] = true
      · rw [if_pos h2, if_pos h2]
        rcases hs : sides t goals l1 with e | ⟨x, l2⟩
        · rfl
        · simp [neither, sides_fits hs]
      · rw [if_neg h2, if_neg h2]
        by_cases h3 : t.kind = 3 ∧ sees l1 [58, 61] = true
        · rw [if_pos h3, if_pos h3]
          rcases hs : assignment t goals l1 with e | ⟨x, l2⟩
          · rfl
          · simp [neither, assignment_fits hs]
        · rw [if_neg h3, if_neg h3]
          by_cases h4 : t.kind = 2
          · rw [if_pos h4]
            by_cases h5 : ((tests && isInt t) || goals) = true
            · rw [if_pos ⟨h4, h5⟩]
              unfold neither; dsimp only
              rw [if_neg]; rintro ⟨a, b⟩; rw [a, b] at h5; simp at h5
            · rw [if_neg (fun q => h5 q.2)]
              unfold neither; dsimp only
              simp only [Bool.or_eq_true, not_or, Bool.not_eq_true] at h5
              rw [if_pos h5]
          · rw [if_neg h4, if_neg (fun q => h4 q.1)]; rfl

theorem sees_text {l : List Tok} {g : List UInt8} (h : sees l g = true) : (hd l).text.toList = g := by simp [sees] at h; exact h.2
/-- One sign stands there: no other does. -/
theorem sees_one {l : List Tok} {g k : List UInt8} (h : sees l g = true) (hne : g ≠ k) : sees l k = false := by
  have := sees_text h
  unfold sees
  rw [this]
  simp [hne]
def wayed {α : Type} (t g : Bool) (r : Res α) : Res (α × Bool × Bool) := match r with
  | .inl e => .inl e
  | .inr (x, l2) => .inr ((x, t, g), l2)
theorem item0_err {tests goals : Bool} {l : List Tok} {e : Nat × Nat} (hT : term 8 l = .inl e) : item0 tests goals l = .inl e := by unfold item0; rw [hT]
theorem item0_set {tests goals : Bool} {l l1 : List Tok} {t : Tm} (hT : term 8 l = .inr (t, l1)) (hk : t.kind = 3) (hm : sees l1 [58, 61] = true) : item0 tests goals l = wayed false goals (assignment t goals l1) := by
  unfold item0; rw [hT]; dsimp only
  have n1 : sees l1 [60] = false := sees_one hm (by simp)
  have n2 : sees l1 [61, 60] = false := sees_one hm (by simp)
  have n3 : sees l1 [61, 61] = false := sees_one hm (by simp)
  have n4 : sees l1 [92, 61] = false := sees_one hm (by simp)
  have n5 : sees l1 [61] = false := sees_one hm (by simp)
  rw [if_neg (by simp [testSign, n1, n2, n3, n4]), if_neg (by simp [n5]), if_pos ⟨hk, hm⟩]
  rcases assignment t goals l1 with e | ⟨x, l2⟩ <;> rfl
theorem item0_goal {tests goals : Bool} {l l1 : List Tok} {t : Tm} (hT : term 8 l = .inr (t, l1)) (hm : sees l1 [61] = true) : item0 tests goals l = wayed false goals (sides t goals l1) := by
  unfold item0; rw [hT]; dsimp only
  have n1 : sees l1 [60] = false := sees_one hm (by simp)
  have n2 : sees l1 [61, 60] = false := sees_one hm (by simp)
  have n3 : sees l1 [61, 61] = false := sees_one hm (by simp)
  have n4 : sees l1 [92, 61] = false := sees_one hm (by simp)
  rw [if_neg (by simp [testSign, n1, n2, n3, n4]), if_pos hm]
  rcases sides t goals l1 with e | ⟨x, l2⟩ <;> rfl
theorem item0_test {tests goals : Bool} {l l1 : List Tok} {t : Tm} (hT : term 8 l = .inr (t, l1)) (hm : testSign l1 = true) : item0 tests goals l = wayed tests false (sides t tests l1) := by
  unfold item0; rw [hT]; dsimp only
  rw [if_pos hm]
  rcases sides t tests l1 with e | ⟨x, l2⟩ <;> rfl
theorem item0_plain {tests goals : Bool} {l l1 : List Tok} {t : Tm} (hT : term 8 l = .inr (t, l1)) (hm : testSign l1 = false) (hg : sees l1 [61] = false) (hs : ¬ (t.kind = 3 ∧ sees l1 [58, 61] = true)) : item0 tests goals l = if t.kind = 2 then .inr ((⟨t, [], none, [], none⟩, tests && isInt t, goals), l1) else bad 2 l1 := by
  unfold item0; rw [hT]; dsimp only
  rw [if_neg (by simp [hm]), if_neg (by simp [hg]), if_neg hs]

def preI (ys : List Itm) (r : Res (List Itm × Bool × Bool)) : Res (List Itm × Bool × Bool) := match r with
  | .inl e => .inl e
  | .inr ((xs, t, g), l2) => .inr ((ys ++ xs, t, g), l2)
theorem preI_nil (r : Res (List Itm × Bool × Bool)) : preI [] r = r := by rcases r with e | ⟨⟨us, t, g⟩, l2⟩ <;> rfl
theorem preI_preI (a b : List Itm) (r : Res (List Itm × Bool × Bool)) : preI a (preI b r) = preI (a ++ b) r := by rcases r with e | ⟨⟨us, t, g⟩, l2⟩ <;> simp [preI]
theorem items_err {k : Nat} {t g : Bool} {l : List Tok} {e : Nat × Nat} (h : item0 t g l = .inl e) : items k t g l = .inl e := by
  unfold items; rw [item_item0, h]; rfl
theorem items_neither {k : Nat} {t g : Bool} {l l1 : List Tok} {x : Itm} (h : item0 t g l = .inr ((x, false, false), l1)) : items k t g l = bad 2 l1 := by
  unfold items; rw [item_item0, h]; rfl
theorem items_end {k : Nat} {t g t1 g1 : Bool} {l l1 : List Tok} {x : Itm} (h : item0 t g l = .inr ((x, t1, g1), l1)) (hn : ¬ (t1 = false ∧ g1 = false)) (hc : sees l1 [44] = false) : items k t g l = .inr (([x], t1, g1), l1) := by
  unfold items; rw [item_item0, h]
  rw [show neither (Sum.inr ((x, t1, g1), l1)) = .inr ((x, t1, g1), l1) from if_neg hn]
  simp [hc]
theorem items_full {t g t1 g1 : Bool} {l l1 : List Tok} {x : Itm} (h : item0 t g l = .inr ((x, t1, g1), l1)) (hn : ¬ (t1 = false ∧ g1 = false)) (hc : sees l1 [44] = true) : items 0 t g l = bad 3 l1 := by
  unfold items; rw [item_item0, h]
  rw [show neither (Sum.inr ((x, t1, g1), l1)) = .inr ((x, t1, g1), l1) from if_neg hn]
  simp [hc]
theorem items_more {k : Nat} {t g t1 g1 : Bool} {l l1 : List Tok} {x : Itm} (h : item0 t g l = .inr ((x, t1, g1), l1)) (hn : ¬ (t1 = false ∧ g1 = false)) (hc : sees l1 [44] = true) : items (k + 1) t g l = preI [x] (items k t1 g1 l1.tail) := by
  rw [items, item_item0, h]
  rw [show neither (Sum.inr ((x, t1, g1), l1)) = .inr ((x, t1, g1), l1) from if_neg hn]
  simp only [hc, if_true]
  rcases items k t1 g1 l1.tail with e | ⟨⟨us, t, g⟩, l2⟩ <;> rfl
end Parl
namespace Parl

theorem stop_yes {α : Type} {x : α} {l : List Tok} (h : sees l [46] = true) : stop x l = .inr (x, l.tail) := by unfold stop; rw [if_pos h]
theorem stop_no {α : Type} {x : α} {l : List Tok} (h : sees l [46] = false) : stop x l = bad 2 l := by unfold stop; rw [if_neg (by simp [h])]
theorem clause_kind {m : Bool} {l : List Tok} (h : (hd l).kind ≠ 2) : clause m l = bad 2 l := by unfold clause; rw [if_neg h]
theorem clause_full {l : List Tok} (h : (hd l).kind = 2) : clause false l = bad 3 l := by unfold clause; rw [if_pos h, if_neg (by simp)]
theorem clause_err {l : List Tok} {e : Nat × Nat} (h : (hd l).kind = 2) (hT : term 8 l = .inl e) : clause true l = .inl e := by unfold clause; rw [if_pos h, if_pos rfl, hT]
theorem clause_fact {l l1 : List Tok} {t : Tm} (h : (hd l).kind = 2) (hT : term 8 l = .inr (t, l1)) (hn : sees l1 [58, 45] = false) : clause true l = stop ⟨t, [], []⟩ l1 := by
  unfold clause; rw [if_pos h, if_pos rfl, hT]; dsimp only; rw [if_neg (by simp [hn])]
theorem clause_berr {l l1 : List Tok} {t : Tm} {e : Nat × Nat} (h : (hd l).kind = 2) (hT : term 8 l = .inr (t, l1)) (hn : sees l1 [58, 45] = true) (hb : body l1.tail = .inl e) : clause true l = .inl e := by
  unfold clause; rw [if_pos h, if_pos rfl, hT]; dsimp only; rw [if_pos hn, hb]
theorem clause_body {l l1 l2 : List Tok} {t : Tm} {ts gs : List Itm} (h : (hd l).kind = 2) (hT : term 8 l = .inr (t, l1)) (hn : sees l1 [58, 45] = true) (hb : body l1.tail = .inr ((ts, gs), l2)) : clause true l = stop ⟨t, ts, gs⟩ l2 := by
  unfold clause; rw [if_pos h, if_pos rfl, hT]; dsimp only; rw [if_pos hn, hb]
theorem body_err {l : List Tok} {e : Nat × Nat} (h : items 5 true true l = .inl e) : body l = .inl e := by unfold body; rw [h]
theorem body_bar_err {l l1 : List Tok} {xs : List Itm} {g : Bool} {e : Nat × Nat} (h : items 5 true true l = .inr ((xs, true, g), l1)) (hb : sees l1 [124] = true) (h2 : items 5 false true l1.tail = .inl e) : body l = .inl e := by
  unfold body; rw [h]; dsimp only; rw [if_pos ⟨rfl, hb⟩, h2]
theorem body_bar {l l1 l2 : List Tok} {xs ys : List Itm} {g t2 : Bool} (h : items 5 true true l = .inr ((xs, true, g), l1)) (hb : sees l1 [124] = true) (h2 : items 5 false true l1.tail = .inr ((ys, t2, true), l2)) : body l = .inr ((xs, ys), l2) := by
  unfold body; rw [h]; dsimp only; rw [if_pos ⟨rfl, hb⟩, h2]; rfl
theorem body_bar_no {l l1 l2 : List Tok} {xs ys : List Itm} {g t2 : Bool} (h : items 5 true true l = .inr ((xs, true, g), l1)) (hb : sees l1 [124] = true) (h2 : items 5 false true l1.tail = .inr ((ys, t2, false), l2)) : body l = bad 2 l2 := by
  unfold body; rw [h]; dsimp only; rw [if_pos ⟨rfl, hb⟩, h2]; rfl
theorem body_plain {l l1 : List Tok} {xs : List Itm} {t : Bool} (h : items 5 true true l = .inr ((xs, t, true), l1)) (hb : ¬ (t = true ∧ sees l1 [124] = true)) : body l = .inr (([], xs), l1) := by
  unfold body; rw [h]; dsimp only; rw [if_neg hb, if_pos rfl]
theorem body_plain_no {l l1 : List Tok} {xs : List Itm} {t : Bool} (h : items 5 true true l = .inr ((xs, t, false), l1)) (hb : ¬ (t = true ∧ sees l1 [124] = true)) : body l = bad 2 l1 := by
  unfold body; rw [h]; dsimp only; rw [if_neg hb, if_neg (by simp)]
end Parl
namespace Parl

def preC (ys : List Cls) (r : Res (List Cls)) : Res (List Cls) := match r with
  | .inl e => .inl e
  | .inr (xs, l2) => .inr (ys ++ xs, l2)
theorem preC_nil (r : Res (List Cls)) : preC [] r = r := by rcases r with e | ⟨us, l2⟩ <;> rfl
theorem preC_preC (a b : List Cls) (r : Res (List Cls)) : preC a (preC b r) = preC (a ++ b) r := by rcases r with e | ⟨us, l2⟩ <;> simp [preC]
theorem prog_end {k : Nat} {l : List Tok} (h : (hd l).kind = 0) : prog k l = .inr ([], l) := by unfold prog; rw [if_pos h]
theorem clause_false (l : List Tok) : ∃ e, clause false l = .inl e := by
  unfold clause
  by_cases h : (hd l).kind = 2
  · rw [if_pos h, if_neg (by simp)]; exact ⟨_, rfl⟩
  · rw [if_neg h]; exact ⟨_, rfl⟩
theorem prog_err {n : Nat} {l : List Tok} {e : Nat × Nat} (hn : n ≤ 12) (h : (hd l).kind ≠ 0) (hc : clause (decide (n < 12)) l = .inl e) : prog (12 - n) l = .inl e := by
  by_cases h12 : n < 12
  · rw [show 12 - n = (12 - (n + 1)) + 1 by omega, prog, if_neg h]
    rw [decide_eq_true h12] at hc
    rw [hc]
  · rw [show 12 - n = 0 by omega, prog, if_neg h]
    rw [decide_eq_false h12] at hc
    rw [hc]
theorem prog_more {n : Nat} {l l1 : List Tok} {c : Cls} (h : (hd l).kind ≠ 0) (hc : clause (decide (n < 12)) l = .inr (c, l1)) : n < 12 ∧ prog (12 - n) l = preC [c] (prog (12 - (n + 1)) l1) := by
  by_cases h12 : n < 12
  · refine ⟨h12, ?_⟩
    rw [show 12 - n = (12 - (n + 1)) + 1 by omega, prog, if_neg h]
    rw [decide_eq_true h12] at hc
    rw [hc]
    dsimp only
    rcases prog (12 - (n + 1)) l1 with e | ⟨us, l2⟩ <;> rfl
  · rw [decide_eq_false h12] at hc
    obtain ⟨e, he⟩ := clause_false l
    rw [he] at hc; cases hc

theorem Chain.toks {s : ByteArray} {l : List Tok} (h : Chain s l) (hh : ∃ p, hd l = next s p) : ∀ t ∈ l, ∃ p, t = next s p := by
  induction l with
  | nil => intro t ht; cases ht
  | cons a r ih =>
    intro t ht
    rcases List.mem_cons.1 ht with rfl | ht
    · exact hh
    · cases r with
      | nil => cases ht
      | cons b r => exact ih h.2.2 ⟨_, h.2.1⟩ t ht
theorem Chain.kinds {s : ByteArray} {l : List Tok} (h : Chain s l) (hh : ∃ p, hd l = next s p) (hs : s.size ≤ 240) : ∀ t ∈ l, t.kind ≤ 5 ∧ t.text.size ≤ 240 := by
  intro t ht
  obtain ⟨p, rfl⟩ := h.toks hh t ht
  have := next_fits (s := s) (p := p)
  exact ⟨next_kind_le, by omega⟩
theorem Chain.pos {s : ByteArray} {l : List Tok} (h : Chain s l) : 0 < l.length := by
  cases l with
  | nil => exact h.elim
  | cons a r => simp

/-- What Check answers. -/
def errOf (r : Res (List Cls)) : Nat := match r with
  | .inl e => e.1
  | .inr _ => 0
def posOf (r : Res (List Cls)) : Nat := match r with
  | .inl e => e.2
  | .inr _ => 0
end Parl
namespace Parl
/-- The value of digits, as it is reckoned. -/
def numL (l : List UInt8) : Nat := l.foldl (fun v b => v * 10 + (b.toNat + 208) % 256) 0
def numOf (x : ByteArray) : Nat := numL x.toList
theorem numL_snoc (l : List UInt8) (b : UInt8) : numL (l ++ [b]) = numL l * 10 + (b.toNat + 208) % 256 := by simp [numL]
theorem numF_le (l : List UInt8) : ∀ v m : Nat, 9 * v + 255 ≤ 255 * m → 9 * l.foldl (fun v b => v * 10 + (b.toNat + 208) % 256) v + 255 ≤ 255 * (m * 10 ^ l.length) := by
  induction l with
  | nil => intro v m h; simpa using h
  | cons b r ih =>
    intro v m h
    have := ih (v * 10 + (b.toNat + 208) % 256) (m * 10) (by omega)
    rw [List.foldl_cons, List.length_cons, Nat.pow_succ, Nat.mul_comm (10 ^ r.length) 10, ← Nat.mul_assoc m 10]
    exact this
theorem numL_le (l : List UInt8) (h : l.length ≤ 6) : numL l ≤ 28333333 := by
  have := numF_le l 0 1 (by omega)
  have h6 : 10 ^ l.length ≤ 10 ^ 6 := Nat.pow_le_pow_right (by omega) h
  unfold numL
  generalize 10 ^ l.length = q at *
  omega
end Parl
namespace Go.Proofs.YthfjnfcekeknlaaGreatDoor
/-- Two lists, one by one. -/
def All2 {α β : Type} (R : α → β → Prop) : List α → List β → Prop
  | [], [] => True
  | a :: xs, b :: ys => R a b ∧ All2 R xs ys
  | _, _ => False
theorem All2.imp {α β : Type} {R S : α → β → Prop} (h : ∀ a b, R a b → S a b) : ∀ {xs : List α} {ys : List β}, All2 R xs ys → All2 S xs ys
  | [], [], _ => trivial
  | _ :: _, _ :: _, q => ⟨h _ _ q.1, All2.imp h q.2⟩
theorem All2.length {α β : Type} {R : α → β → Prop} : ∀ {xs : List α} {ys : List β}, All2 R xs ys → xs.length = ys.length
  | [], [], _ => rfl
  | _ :: _, _ :: _, q => by simp [All2.length q.2]
theorem All2.snoc {α β : Type} {R : α → β → Prop} {a : α} {b : β} (h : R a b) : ∀ {xs : List α} {ys : List β}, All2 R xs ys → All2 R (xs ++ [a]) (ys ++ [b])
  | [], [], _ => ⟨h, trivial⟩
  | _ :: _, _ :: _, q => ⟨q.1, All2.snoc h q.2⟩
open Go
theorem num_next {g : ByteArray} {k : Nat} (h : k < g.size) : Parl.numL (g.toList.take (k + 1)) = Parl.numL (g.toList.take k) * 10 + (g[k].toNat + 208) % 256 := by
  rw [← Parl.numL_snoc]
  congr 1
  obtain ⟨d⟩ := g
  rw [ByteArray.toList_mk]
  have h' : k < d.toList.length := by rw [Array.length_toList]; exact h
  rw [List.take_add_one, List.getElem?_eq_getElem h']
  rfl
theorem num_all (g : ByteArray) : Parl.numL (g.toList.take g.size) = Parl.numOf g := by
  obtain ⟨d⟩ := g
  unfold Parl.numOf
  rw [ByteArray.toList_mk]
  congr 1
  exact List.take_of_length_le (by simp [ByteArray.size])
end Go.Proofs.YthfjnfcekeknlaaGreatDoor
namespace Parl
/-- So deep at most. -/
def wfD : Nat → Tm → Prop
  | 0, _ => False
  | f + 1, t => ∀ a ∈ t.args, wfD f a
theorem wfD_args {f : Nat} {p : List Tok → Res Tm} (hp : ∀ l t l1, p l = .inr (t, l1) → wfD f t) : ∀ (k : Nat) (l : List Tok) (ts : List Tm) (l2 : List Tok), argsOf p k l = .inr (ts, l2) → ∀ t ∈ ts, wfD f t := by
  intro k
  induction k with
  | zero =>
    intro l ts l2 h
    unfold argsOf at h
    rcases hq : p l with e | ⟨t, l1⟩
    · rw [hq] at h; cases h
    · rw [hq] at h
      dsimp only at h
      by_cases h1 : sees l1 [44] = true
      · rw [if_pos h1] at h; cases h
      · rw [if_neg h1] at h
        by_cases h2 : sees l1 [41] = true
        · rw [if_pos h2] at h
          cases h
          intro x hx
          obtain rfl : x = t := by simpa using hx
          exact hp _ _ _ hq
        · rw [if_neg h2] at h; cases h
  | succ k ih =>
    intro l ts l2 h
    rw [argsOf] at h
    rcases hq : p l with e | ⟨t, l1⟩
    · rw [hq] at h; cases h
    · rw [hq] at h
      dsimp only at h
      by_cases h1 : sees l1 [44] = true
      · rw [if_pos h1] at h
        rcases hr : argsOf p k l1.tail with e | ⟨us, l3⟩
        · rw [hr] at h; cases h
        · rw [hr] at h
          cases h
          intro x hx
          rcases List.mem_cons.1 hx with rfl | hx
          · exact hp _ _ _ hq
          · exact ih _ _ _ hr x hx
      · rw [if_neg h1] at h
        by_cases h2 : sees l1 [41] = true
        · rw [if_pos h2] at h
          cases h
          intro x hx
          obtain rfl : x = t := by simpa using hx
          exact hp _ _ _ hq
        · rw [if_neg h2] at h; cases h
theorem wfD_term : ∀ (f : Nat) (l : List Tok) (t : Tm) (l1 : List Tok), term f l = .inr (t, l1) → wfD f t := by
  intro f
  induction f with
  | zero => intro l t l1 h; rw [term] at h; split at h <;> cases h
  | succ f ih =>
    intro l t l1 h
    rw [term] at h
    by_cases hb : begins (hd l) = true
    · rw [if_pos hb] at h
      by_cases hc : (hd l).kind = 4 ∧ 6 < (hd l).text.size
      · rw [if_pos hc] at h; cases h
      · rw [if_neg hc] at h
        by_cases h2 : (hd l).kind = 2
        · rw [if_pos h2] at h
          by_cases hs : sees l.tail [40] = true
          · rw [if_pos hs] at h
            rcases hq : argsOf (term f) 2 l.tail.tail with x | ⟨us, l2⟩
            · rw [hq] at h; cases h
            · rw [hq] at h; cases h
              exact wfD_args ih _ _ _ _ hq
          · rw [if_neg hs] at h; cases h
            intro a ha; cases ha
        · rw [if_neg h2] at h; cases h
          intro a ha; cases ha
    · rw [if_neg hb] at h; cases h
def wfI (x : Itm) : Prop := (wfD 8 x.left ∧ (∀ r, x.right = some r → wfD 8 r) ∧ (∀ z, x.last = some z → wfD 8 z)) ∧ (x.sign = [] ↔ x.right = none) ∧ (x.op = [] ↔ x.last = none) ∧ x.sign.length ≤ 2 ∧ x.op.length ≤ 2 ∧ (x.right = none → x.last = none)
theorem sees_len {l : List Tok} {g : List UInt8} (h : sees l g = true) (h0 : g ≠ []) (h2 : g.length ≤ 2) : (hd l).text.toList ≠ [] ∧ (hd l).text.toList.length ≤ 2 := by
  rw [sees_text h]; exact ⟨h0, h2⟩
theorem test_len {l : List Tok} (h : testSign l = true) : (hd l).text.toList ≠ [] ∧ (hd l).text.toList.length ≤ 2 := by
  simp only [testSign, Bool.or_eq_true] at h
  rcases h with ((h | h) | h) | h <;> exact sees_len h (by simp) (by simp)
theorem oper_len {l : List Tok} (h : operSign l = true) : (hd l).text.toList ≠ [] ∧ (hd l).text.toList.length ≤ 2 := by
  simp only [operSign, Bool.or_eq_true] at h
  rcases h with (h | h) | h <;> exact sees_len h (by simp) (by simp)
theorem wf_operand {l : List Tok} {t : Tm} {l1 : List Tok} (h : operand l = .inr (t, l1)) : wfD 8 t := by
  unfold operand at h
  by_cases hk : (hd l).kind = 2
  · rw [if_pos hk] at h; cases h
  · rw [if_neg hk] at h; exact wfD_term _ _ _ _ h
theorem wf_sides {t : Tm} {f : Bool} {l : List Tok} {x : Itm} {l2 : List Tok} (ht : wfD 8 t) (hs : (hd l).text.toList ≠ [] ∧ (hd l).text.toList.length ≤ 2) (h : sides t f l = .inr (x, l2)) : wfI x := by
  unfold sides at h
  cases f
  · cases h
  · rw [if_pos rfl] at h
    rcases hr : term 8 l.tail with e | ⟨r, l3⟩
    · rw [hr] at h; cases h
    · rw [hr] at h; cases h
      exact ⟨⟨ht, (fun r' q => by cases q; exact wfD_term _ _ _ _ hr), (fun z q => by cases q)⟩, ⟨by simp [hs.1], by simp⟩, by simp, hs.2, by simp, by simp⟩
theorem wf_assign {t : Tm} {f : Bool} {l : List Tok} {x : Itm} {l2 : List Tok} (ht : wfD 8 t) (hs : (hd l).text.toList ≠ [] ∧ (hd l).text.toList.length ≤ 2) (h : assignment t f l = .inr (x, l2)) : wfI x := by
  unfold assignment at h
  cases f
  · cases h
  · rw [if_pos rfl] at h
    rcases hr : operand l.tail with e | ⟨r, l3⟩
    · rw [hr] at h; cases h
    · rw [hr] at h
      dsimp only at h
      by_cases ho : operSign l3 = true
      · rw [if_pos ho] at h
        rcases h2 : operand l3.tail with e | ⟨z, l4⟩
        · rw [h2] at h; cases h
        · rw [h2] at h; cases h
          exact ⟨⟨ht, (fun r' q => by cases q; exact wf_operand hr), (fun z' q => by cases q; exact wf_operand h2)⟩, ⟨by simp [hs.1], by simp⟩, ⟨by simp [(oper_len ho).1], by simp⟩, hs.2, (oper_len ho).2, by simp⟩
      · rw [if_neg ho] at h; cases h
        exact ⟨⟨ht, (fun r' q => by cases q; exact wf_operand hr), (fun z q => by cases q)⟩, ⟨by simp [hs.1], by simp⟩, by simp, hs.2, by simp, by simp⟩
theorem wf_item {tests goals : Bool} {l : List Tok} {x : Itm} {t1 g1 : Bool} {l2 : List Tok} (h : item tests goals l = .inr ((x, t1, g1), l2)) : wfI x := by
  unfold item at h
  rcases ht : term 8 l with e | ⟨t, l1⟩
  · rw [ht] at h; cases h
  · rw [ht] at h
    have hw := wfD_term _ _ _ _ ht
    dsimp only at h
    by_cases h1 : testSign l1 = true
    · rw [if_pos h1] at h
      rcases hs : sides t tests l1 with e | ⟨y, l3⟩
      · rw [hs] at h; cases h
      · rw [hs] at h; cases h; exact wf_sides hw (test_len h1) hs
    · rw [if_neg h1] at h
      by_cases h2 : sees l1 [61] = true
      · rw [if_pos h2] at h
        rcases hs : sides t goals l1 with e | ⟨y, l3⟩
        · rw [hs] at h; cases h
        · rw [hs] at h; cases h; exact wf_sides hw (sees_len h2 (by simp) (by simp)) hs
      · rw [if_neg h2] at h
        by_cases h3 : t.kind = 3 ∧ sees l1 [58, 61] = true
        · rw [if_pos h3] at h
          rcases hs : assignment t goals l1 with e | ⟨y, l3⟩
          · rw [hs] at h; cases h
          · rw [hs] at h; cases h; exact wf_assign hw (sees_len h3.2 (by simp) (by simp)) hs
        · rw [if_neg h3] at h
          by_cases h4 : t.kind = 2 ∧ ((tests && isInt t) || goals) = true
          · rw [if_pos h4] at h; cases h
            exact ⟨⟨hw, (fun r q => by cases q), (fun z q => by cases q)⟩, by simp, by simp, by simp, by simp, by simp⟩
          · rw [if_neg h4] at h; cases h
theorem wf_items : ∀ (k : Nat) (tests goals : Bool) (l : List Tok) (xs : List Itm) (t1 g1 : Bool) (l2 : List Tok), items k tests goals l = .inr ((xs, t1, g1), l2) → (∀ x ∈ xs, wfI x) ∧ xs.length ≤ k + 1 := by
  intro k
  induction k with
  | zero =>
    intro tests goals l xs t1 g1 l2 h
    unfold items at h
    rcases hi : item tests goals l with e | ⟨⟨x, t2, g2⟩, l1⟩
    · rw [hi] at h; cases h
    · rw [hi] at h
      dsimp only at h
      by_cases h1 : sees l1 [44] = true
      · rw [if_pos h1] at h; cases h
      · rw [if_neg h1] at h; cases h
        exact ⟨fun y hy => by obtain rfl : y = x := by simpa using hy
                              exact wf_item hi, by simp⟩
  | succ k ih =>
    intro tests goals l xs t1 g1 l2 h
    rw [items] at h
    rcases hi : item tests goals l with e | ⟨⟨x, t2, g2⟩, l1⟩
    · rw [hi] at h; cases h
    · rw [hi] at h
      dsimp only at h
      by_cases h1 : sees l1 [44] = true
      · rw [if_pos h1] at h
        rcases hr : items k t2 g2 l1.tail with e | ⟨⟨ys, t3, g3⟩, l3⟩
        · rw [hr] at h; cases h
        · rw [hr] at h; cases h
          obtain ⟨q1, q2⟩ := ih _ _ _ _ _ _ _ hr
          refine ⟨fun y hy => ?_, by simp; omega⟩
          rcases List.mem_cons.1 hy with rfl | hy
          · exact wf_item hi
          · exact q1 y hy
      · rw [if_neg h1] at h; cases h
        exact ⟨fun y hy => by obtain rfl : y = x := by simpa using hy
                              exact wf_item hi, by simp⟩
def wfC (c : Cls) : Prop := wfD 8 c.head ∧ (∀ x ∈ c.tests, wfI x) ∧ c.tests.length ≤ 6 ∧ (∀ x ∈ c.goals, wfI x) ∧ c.goals.length ≤ 6
theorem wf_body {l : List Tok} {xs ys : List Itm} {l2 : List Tok} (h : body l = .inr ((xs, ys), l2)) : (∀ x ∈ xs, wfI x) ∧ xs.length ≤ 6 ∧ (∀ x ∈ ys, wfI x) ∧ ys.length ≤ 6 := by
  unfold body at h
  rcases hi : items 5 true true l with e | ⟨⟨zs, t, g⟩, l1⟩
  · rw [hi] at h; cases h
  · rw [hi] at h
    obtain ⟨q1, q2⟩ := wf_items _ _ _ _ _ _ _ _ hi
    dsimp only at h
    by_cases h1 : t = true ∧ sees l1 [124] = true
    · rw [if_pos h1] at h
      rcases hj : items 5 false true l1.tail with e | ⟨⟨us, t2, g2⟩, l3⟩
      · rw [hj] at h; cases h
      · rw [hj] at h
        obtain ⟨q3, q4⟩ := wf_items _ _ _ _ _ _ _ _ hj
        dsimp only at h
        by_cases h2 : g2 = true
        · rw [if_pos h2] at h; cases h
          exact ⟨q1, q2, q3, q4⟩
        · rw [if_neg h2] at h; cases h
    · rw [if_neg h1] at h
      by_cases h2 : g = true
      · rw [if_pos h2] at h; cases h
        exact ⟨(fun x hx => by cases hx), by simp, q1, q2⟩
      · rw [if_neg h2] at h; cases h
theorem wf_clause {m : Bool} {l : List Tok} {c : Cls} {l2 : List Tok} (h : clause m l = .inr (c, l2)) : wfC c := by
  have hst : ∀ (x y : Cls) (l1 : List Tok), stop x l1 = .inr (y, l2) → y = x := by
    intro x y l1 q
    unfold stop at q
    by_cases hs : sees l1 [46] = true
    · rw [if_pos hs] at q; cases q; rfl
    · rw [if_neg hs] at q; cases q
  unfold clause at h
  by_cases h0 : (hd l).kind = 2
  · rw [if_pos h0] at h
    by_cases hm : m = true
    · rw [if_pos hm] at h
      rcases ht : term 8 l with e | ⟨t, l1⟩
      · rw [ht] at h; cases h
      · rw [ht] at h
        have hw := wfD_term _ _ _ _ ht
        dsimp only at h
        by_cases hn : sees l1 [58, 45] = true
        · rw [if_pos hn] at h
          rcases hb : body l1.tail with e | ⟨⟨xs, ys⟩, l3⟩
          · rw [hb] at h; cases h
          · rw [hb] at h
            obtain ⟨q1, q2, q3, q4⟩ := wf_body hb
            obtain rfl := hst _ _ _ h
            exact ⟨hw, q1, q2, q3, q4⟩
        · rw [if_neg hn] at h
          obtain rfl := hst _ _ _ h
          exact ⟨hw, (fun x hx => by cases hx), by simp, (fun x hx => by cases hx), by simp⟩
    · rw [if_neg hm] at h; cases h
  · rw [if_neg h0] at h; cases h
theorem wf_prog : ∀ (k : Nat) (l : List Tok) (cs : List Cls) (l2 : List Tok), prog k l = .inr (cs, l2) → (∀ c ∈ cs, wfC c) ∧ cs.length ≤ k + 1 := by
  intro k
  induction k with
  | zero =>
    intro l cs l2 h
    unfold prog at h
    by_cases h0 : (hd l).kind = 0
    · rw [if_pos h0] at h; cases h; exact ⟨(fun c hc => by cases hc), by simp⟩
    · rw [if_neg h0] at h
      obtain ⟨e, he⟩ := clause_false l
      rw [he] at h; cases h
  | succ k ih =>
    intro l cs l2 h
    rw [prog] at h
    by_cases h0 : (hd l).kind = 0
    · rw [if_pos h0] at h; cases h; exact ⟨(fun c hc => by cases hc), by simp⟩
    · rw [if_neg h0] at h
      rcases hc : clause true l with e | ⟨c, l1⟩
      · rw [hc] at h; cases h
      · rw [hc] at h
        dsimp only at h
        rcases hp : prog k l1 with e | ⟨ds, l3⟩
        · rw [hp] at h; cases h
        · rw [hp] at h; cases h
          obtain ⟨q1, q2⟩ := ih _ _ _ hp
          refine ⟨fun y hy => ?_, by simp; omega⟩
          rcases List.mem_cons.1 hy with rfl | hy
          · exact wf_clause hc
          · exact q1 y hy
end Parl
namespace Parl
/-- A name joins the list, if it is new. -/
def addN (ns : List (List UInt8)) (x : List UInt8) : List (List UInt8) := if x ∈ ns then ns else ns ++ [x]
def argS : List (List UInt8) → List UInt8
  | [] => []
  | x :: xs => 40 :: x ++ xs.flatMap (fun y => 44 :: y) ++ [41]
/-- A term as it is written; N: the clause's variables. -/
def strF : Nat → List (List UInt8) → Tm → List UInt8
  | 0, _, _ => []
  | f + 1, N, t => if t.kind = 3 then 86 :: Go.Lib.decDigits (N.idxOf t.text.toList) else if t.kind = 4 then Go.Lib.decDigits (numOf t.text) else t.text.toList ++ argS (t.args.map (strF f N))
/-- The variables that have been met behind it. -/
def namesF : Nat → List (List UInt8) → Tm → List (List UInt8)
  | 0, ns, _ => ns
  | f + 1, ns, t => if t.kind = 3 then addN ns t.text.toList else if t.kind = 4 then ns else t.args.foldl (namesF f) ns
/-- Within the bounds. -/
def ok3 : Nat → Tm → Prop
  | 0, _ => False
  | f + 1, t => t.text.size ≤ 240 ∧ t.args.length ≤ 3 ∧ (t.kind = 4 → t.text.size ≤ 6) ∧ ∀ a ∈ t.args, ok3 f a

theorem addN_ext (ns : List (List UInt8)) (x : List UInt8) : ∃ M, addN ns x = ns ++ M ∧ M.length ≤ 1 := by
  unfold addN
  by_cases h : x ∈ ns
  · rw [if_pos h]; exact ⟨[], by simp, by simp⟩
  · rw [if_neg h]; exact ⟨[x], rfl, by simp⟩
theorem addN_idx (ns M : List (List UInt8)) (x : List UInt8) : (addN ns x ++ M).idxOf x = ns.idxOf x := by
  unfold addN
  by_cases h : x ∈ ns
  · rw [if_pos h, List.idxOf_append, if_pos h]
  · rw [if_neg h, List.append_assoc, List.idxOf_append, if_neg h]
    simp [List.idxOf_eq_length h]
theorem fold_ext {F : List (List UInt8) → Tm → List (List UInt8)} {c : Nat} : ∀ (ts : List Tm), (∀ t ∈ ts, ∀ ns, ∃ M, F ns t = ns ++ M ∧ M.length ≤ c) → ∀ ns, ∃ M, ts.foldl F ns = ns ++ M ∧ M.length ≤ ts.length * c
  | [], _, ns => ⟨[], by simp, by simp⟩
  | t :: ts, h, ns => by
    obtain ⟨M, hM, hl⟩ := h t (by simp) ns
    obtain ⟨M2, hM2, hl2⟩ := fold_ext ts (fun u hu => h u (by simp [hu])) (F ns t)
    refine ⟨M ++ M2, by rw [List.foldl_cons, hM2, hM, List.append_assoc], ?_⟩
    rw [List.length_append, List.length_cons, Nat.add_mul]
    omega
theorem namesF_ext : ∀ (f : Nat) (t : Tm), ok3 f t → ∀ ns, ∃ M, namesF f ns t = ns ++ M ∧ M.length ≤ 3 ^ f
  | 0, _, h, _ => h.elim
  | f + 1, t, h, ns => by
    obtain ⟨h1, h2, h3, h4⟩ := h
    unfold namesF
    by_cases hk : t.kind = 3
    · rw [if_pos hk]
      obtain ⟨M, hM, hl⟩ := addN_ext ns t.text.toList
      exact ⟨M, hM, Nat.le_trans hl (Nat.one_le_pow _ _ (by omega))⟩
    · rw [if_neg hk]
      by_cases hk4 : t.kind = 4
      · rw [if_pos hk4]
        exact ⟨[], by simp, Nat.zero_le _⟩
      rw [if_neg hk4]
      obtain ⟨M, hM, hl⟩ := fold_ext (c := 3 ^ f) t.args (fun u hu => namesF_ext f u (h4 u hu)) ns
      refine ⟨M, hM, Nat.le_trans hl ?_⟩
      rw [Nat.pow_succ, Nat.mul_comm]
      exact Nat.mul_le_mul_left _ h2
theorem fold_str {F : List (List UInt8) → Tm → List (List UInt8)} {S : List (List UInt8) → Tm → List UInt8} {c : Nat} : ∀ (ts : List Tm), (∀ t ∈ ts, ∀ ns, ∃ M, F ns t = ns ++ M ∧ M.length ≤ c) → (∀ t ∈ ts, ∀ ns M, S (F ns t ++ M) t = S (F ns t) t) → ∀ ns M, ts.map (S (ts.foldl F ns ++ M)) = ts.map (S (ts.foldl F ns))
  | [], _, _, _, _ => rfl
  | t :: ts, h, hs, ns, M => by
    rw [List.foldl_cons, List.map_cons, List.map_cons]
    obtain ⟨M2, hM2, _⟩ := fold_ext ts (fun u hu => h u (by simp [hu])) (F ns t)
    rw [fold_str ts (fun u hu => h u (by simp [hu])) (fun u hu => hs u (by simp [hu]))]
    congr 1
    rw [hM2, List.append_assoc, hs t (by simp), hs t (by simp)]
theorem strF_ext : ∀ (f : Nat) (t : Tm), ok3 f t → ∀ ns M, strF f (namesF f ns t ++ M) t = strF f (namesF f ns t) t
  | 0, _, h, _, _ => h.elim
  | f + 1, t, h, ns, M => by
    obtain ⟨h1, h2, h3, h4⟩ := h
    unfold strF namesF
    by_cases hk : t.kind = 3
    · simp only [if_pos hk]
      rw [addN_idx]
      have := addN_idx ns [] t.text.toList
      rw [List.append_nil] at this
      rw [this]
    · simp only [if_neg hk]
      by_cases hk4 : t.kind = 4
      · simp only [if_pos hk4]
      · simp only [if_neg hk4]
        rw [fold_str (c := 3 ^ f) t.args (fun u hu => namesF_ext f u (h4 u hu)) (fun u hu => strF_ext f u (h4 u hu))]
def lenS : Nat → Nat
  | 0 => 0
  | f + 1 => 260 + 3 * (lenS f + 2)
def argP : List (List UInt8) → List UInt8
  | [] => []
  | x :: xs => 40 :: x ++ xs.flatMap (fun y => 44 :: y)
theorem argP_first (x : List UInt8) : argP [x] = 40 :: x := by simp [argP]
theorem argP_more (l : List (List UInt8)) (x : List UInt8) (h : l ≠ []) : argP (l ++ [x]) = argP l ++ 44 :: x := by
  cases l with
  | nil => exact absurd rfl h
  | cons y ys => simp [argP]
theorem argS_end (l : List (List UInt8)) (h : l ≠ []) : argS l = argP l ++ [41] := by
  cases l with
  | nil => exact absurd rfl h
  | cons y ys => simp [argS, argP]
theorem argP_len {c : Nat} : ∀ (l : List (List UInt8)), (∀ x ∈ l, x.length ≤ c) → (argP l).length ≤ l.length * (c + 1)
  | [], _ => by simp [argP]
  | x :: xs, h => by
    have h1 := h x (by simp)
    have : ∀ (ys : List (List UInt8)), (∀ y ∈ ys, y.length ≤ c) → (ys.flatMap (fun y => 44 :: y)).length ≤ ys.length * (c + 1) := by
      intro ys
      induction ys with
      | nil => intro _; simp
      | cons y ys ih =>
        intro h
        have a := h y (by simp)
        have b := ih (fun z hz => h z (by simp [hz]))
        rw [List.flatMap_cons, List.length_append, List.length_cons, List.length_cons, Nat.add_mul]
        omega
    have h2 := this xs (fun y hy => h y (by simp [hy]))
    simp only [argP, List.cons_append, List.length_cons, List.length_append, Nat.add_mul]
    omega
theorem bytes_len (b : ByteArray) : b.toList.length = b.size := by
  obtain ⟨d⟩ := b
  rw [Go.ByteArray.toList_mk]
  simp [ByteArray.size]
theorem strF_len : ∀ (f : Nat) (t : Tm) (N : List (List UInt8)), ok3 f t → N.length ≤ 100000000 → (∀ n, n < 1000000000 → (Go.Lib.decDigits n).length ≤ 9) → (strF f N t).length ≤ lenS f
  | 0, _, _, h, _, _ => h.elim
  | f + 1, t, N, h, hN, hd => by
    obtain ⟨h1, h2, h3, h4⟩ := h
    unfold strF lenS
    by_cases hk : t.kind = 3
    · rw [if_pos hk]
      have := hd (N.idxOf t.text.toList) (by have := List.idxOf_le_length (l := N) (a := t.text.toList); omega)
      simp
      omega
    · rw [if_neg hk]
      by_cases hk4 : t.kind = 4
      · rw [if_pos hk4]
        have hl : t.text.toList.length ≤ 6 := by rw [bytes_len]; exact h3 hk4
        have := hd (numOf t.text) (by have := numL_le t.text.toList hl; unfold numOf; omega)
        omega
      · rw [if_neg hk4]
        have hl : t.text.toList.length ≤ 240 := by rw [bytes_len]; exact h1
        by_cases ha : t.args = []
        · rw [ha]; simp [argS]; omega
        · rw [argS_end _ (by simpa using ha)]
          have := argP_len (c := lenS f) (t.args.map (strF f N)) (fun x hx => by
            obtain ⟨u, hu, rfl⟩ := List.mem_map.1 hx
            exact strF_len f u N (h4 u hu) hN hd)
          rw [List.length_map] at this
          have h5 := Nat.mul_le_mul_right (lenS f + 1) h2
          simp only [List.length_append, List.length_singleton]
          omega
end Parl
namespace Parl
def strI (N : List (List UInt8)) (x : Itm) : List UInt8 :=
  strF 8 N x.left ++ (match x.right with
    | none => []
    | some r => x.sign ++ strF 8 N r) ++ (match x.last with
    | none => []
    | some z => x.op ++ strF 8 N z)
def nameO (ns : List (List UInt8)) : Option Tm → List (List UInt8)
  | none => ns
  | some t => namesF 8 ns t
def namesI (ns : List (List UInt8)) (x : Itm) : List (List UInt8) := nameO (nameO (namesF 8 ns x.left) x.right) x.last
def okI (x : Itm) : Prop := ok3 8 x.left ∧ (∀ r, x.right = some r → ok3 8 r) ∧ (∀ z, x.last = some z → ok3 8 z)
theorem nameO_ext {ns : List (List UInt8)} {t : Option Tm} (h : ∀ r, t = some r → ok3 8 r) : ∃ M, nameO ns t = ns ++ M ∧ M.length ≤ 3 ^ 8 := by
  cases t with
  | none => exact ⟨[], by simp [nameO], by simp⟩
  | some r => exact namesF_ext 8 r (h r rfl) ns
theorem namesI_ext (x : Itm) (h : okI x) (ns : List (List UInt8)) : ∃ M, namesI ns x = ns ++ M ∧ M.length ≤ 20000 := by
  obtain ⟨M1, h1, l1⟩ := namesF_ext 8 x.left h.1 ns
  obtain ⟨M2, h2, l2⟩ := nameO_ext (ns := namesF 8 ns x.left) (t := x.right) h.2.1
  obtain ⟨M3, h3, l3⟩ := nameO_ext (ns := nameO (namesF 8 ns x.left) x.right) (t := x.last) h.2.2
  refine ⟨M1 ++ (M2 ++ M3), by unfold namesI; rw [h3, h2, h1]; simp, ?_⟩
  simp at l1 l2 l3 ⊢
  omega
theorem strI_ext (x : Itm) (h : okI x) (ns M : List (List UInt8)) : strI (namesI ns x ++ M) x = strI (namesI ns x) x := by
  obtain ⟨M2, h2, _⟩ := nameO_ext (ns := namesF 8 ns x.left) (t := x.right) h.2.1
  obtain ⟨M3, h3, _⟩ := nameO_ext (ns := nameO (namesF 8 ns x.left) x.right) (t := x.last) h.2.2
  have e1 : ∀ K, strF 8 (namesI ns x ++ K) x.left = strF 8 (namesF 8 ns x.left) x.left := fun K => by
    unfold namesI; rw [h3, h2, List.append_assoc, List.append_assoc, strF_ext 8 _ h.1]
  have e2 : ∀ r, x.right = some r → ∀ K, strF 8 (namesI ns x ++ K) r = strF 8 (nameO (namesF 8 ns x.left) x.right) r := fun r q K => by
    unfold namesI; rw [h3, List.append_assoc, q]; exact strF_ext 8 r (h.2.1 r q) _ _
  have e3 : ∀ z, x.last = some z → ∀ K, strF 8 (namesI ns x ++ K) z = strF 8 (namesI ns x) z := fun z q K => by
    unfold namesI; rw [q]; exact strF_ext 8 z (h.2.2 z q) _ _
  have f1 := e1 []
  rw [List.append_nil] at f1
  unfold strI
  rw [e1, f1]
  congr 1
  · congr 1
    cases hr : x.right with
    | none => rfl
    | some r =>
      have f2 := e2 r hr []
      rw [List.append_nil] at f2
      simp only
      rw [e2 r hr, f2]
  · cases hz : x.last with
    | none => rfl
    | some z =>
      simp only
      rw [e3 z hz]
end Parl
namespace Parl
def joinC : List (List UInt8) → List UInt8
  | [] => []
  | x :: xs => x ++ xs.flatMap (fun y => 44 :: 32 :: y)
theorem joinC_more (l : List (List UInt8)) (x : List UInt8) (h : l ≠ []) : joinC (l ++ [x]) = joinC l ++ 44 :: 32 :: x := by
  cases l with
  | nil => exact absurd rfl h
  | cons y ys => simp [joinC]
theorem joinC_len {c : Nat} : ∀ (l : List (List UInt8)), (∀ x ∈ l, x.length ≤ c) → (joinC l).length ≤ l.length * (c + 2)
  | [], _ => by simp [joinC]
  | x :: xs, h => by
    have h1 := h x (by simp)
    have : ∀ (ys : List (List UInt8)), (∀ y ∈ ys, y.length ≤ c) → (ys.flatMap (fun y => 44 :: 32 :: y)).length ≤ ys.length * (c + 2) := by
      intro ys
      induction ys with
      | nil => intro _; simp
      | cons y ys ih =>
        intro h
        have a := h y (by simp)
        have b := ih (fun z hz => h z (by simp [hz]))
        rw [List.flatMap_cons, List.length_append, List.length_cons, List.length_cons, List.length_cons, Nat.add_mul]
        omega
    have h2 := this xs (fun y hy => h y (by simp [hy]))
    simp only [joinC, List.length_cons, List.length_append, Nat.add_mul]
    omega
def namesL (ns : List (List UInt8)) (xs : List Itm) : List (List UInt8) := xs.foldl namesI ns
def strL (N : List (List UInt8)) (xs : List Itm) : List UInt8 := joinC (xs.map (strI N))
theorem foldA_ext {α : Type} {F : List (List UInt8) → α → List (List UInt8)} {c : Nat} (xs : List α) : (∀ t ∈ xs, ∀ ns, ∃ M, F ns t = ns ++ M ∧ M.length ≤ c) → ∀ ns, ∃ M, xs.foldl F ns = ns ++ M ∧ M.length ≤ xs.length * c := by
  induction xs with
  | nil => exact fun _ ns => ⟨[], by simp, by simp⟩
  | cons t ts ih =>
    intro h ns
    obtain ⟨M, hM, hl⟩ := h t (by simp) ns
    obtain ⟨M2, hM2, hl2⟩ := ih (fun u hu => h u (by simp [hu])) (F ns t)
    refine ⟨M ++ M2, by rw [List.foldl_cons, hM2, hM, List.append_assoc], ?_⟩
    rw [List.length_append, List.length_cons, Nat.add_mul]
    omega
theorem foldA_str {α : Type} {F : List (List UInt8) → α → List (List UInt8)} {S : List (List UInt8) → α → List UInt8} {c : Nat} (xs : List α) : (∀ t ∈ xs, ∀ ns, ∃ M, F ns t = ns ++ M ∧ M.length ≤ c) → (∀ t ∈ xs, ∀ ns M, S (F ns t ++ M) t = S (F ns t) t) → ∀ ns M, xs.map (S (xs.foldl F ns ++ M)) = xs.map (S (xs.foldl F ns)) := by
  induction xs with
  | nil => exact fun _ _ _ _ => rfl
  | cons t ts ih =>
    intro h hs ns M
    rw [List.foldl_cons, List.map_cons, List.map_cons]
    obtain ⟨M2, hM2, _⟩ := foldA_ext ts (fun u hu => h u (by simp [hu])) (F ns t)
    rw [ih (fun u hu => h u (by simp [hu])) (fun u hu => hs u (by simp [hu]))]
    congr 1
    rw [hM2, List.append_assoc, hs t (by simp), hs t (by simp)]
theorem foldI_ext (xs : List Itm) (h : ∀ x ∈ xs, okI x) (ns : List (List UInt8)) : ∃ M, xs.foldl namesI ns = ns ++ M ∧ M.length ≤ xs.length * 20000 :=
  foldA_ext (F := namesI) (c := 20000) xs (fun t ht => namesI_ext t (h t ht)) ns
theorem foldI_str (xs : List Itm) (h : ∀ x ∈ xs, okI x) (ns M : List (List UInt8)) : xs.map (strI (xs.foldl namesI ns ++ M)) = xs.map (strI (xs.foldl namesI ns)) :=
  foldA_str (F := namesI) (S := strI) (c := 20000) xs (fun t ht => namesI_ext t (h t ht)) (fun t ht => strI_ext t (h t ht)) ns M
theorem ll_step {j : Nat} {ts : List Itm} {ns N1 N2 : List (List UInt8)} (hj : j < ts.length) (ho : ∀ u ∈ ts, okI u) (h1 : N1 = (ts.take j).foldl namesI ns) (h2 : N2 = namesI N1 ts[j]) :
    N2 = (ts.take (j + 1)).foldl namesI ns ∧ (ts.take (j + 1)).map (strI N2) = (ts.take j).map (strI N1) ++ [strI N2 ts[j]] := by
  have ht : ts.take (j + 1) = ts.take j ++ [ts[j]] := by rw [List.take_add_one, List.getElem?_eq_getElem hj]; rfl
  obtain ⟨M, hM, _⟩ := namesI_ext ts[j] (ho _ (List.getElem_mem hj)) N1
  refine ⟨by rw [ht, List.foldl_append, ← h1, h2]; rfl, ?_⟩
  have hq := foldI_str (ts.take j) (fun u hu => ho u (List.mem_of_mem_take hu)) ns M
  rw [← h1, ← hM, ← h2] at hq
  rw [ht, List.map_append, hq]
  rfl
theorem strI_len (x : Itm) (N : List (List UInt8)) (h : okI x) (hs : x.sign.length ≤ 2) (hp : x.op.length ≤ 2) (hc : ∀ t, ok3 8 t → (strF 8 N t).length ≤ 1000000) : (strI N x).length ≤ 3000004 := by
  obtain ⟨g1, g2, g3⟩ := h
  have h1 := hc x.left g1
  have h2 : ∀ r, x.right = some r → (strF 8 N r).length ≤ 1000000 := fun r q => hc r (g2 r q)
  have h3 : ∀ r, x.last = some r → (strF 8 N r).length ≤ 1000000 := fun r q => hc r (g3 r q)
  clear hc g1 g2 g3
  unfold strI
  generalize strF 8 N = F at *
  cases hr : x.right with
  | none => cases hz : x.last with
    | none => simp only [List.length_append, List.length_nil]; omega
    | some z => have := h3 z hz; simp only [List.length_append, List.length_nil]; omega
  | some r =>
    have a := h2 r hr
    cases hz : x.last with
    | none => simp only [List.length_append, List.length_nil]; omega
    | some z => have := h3 z hz; simp only [List.length_append]; omega
end Parl
namespace Parl
def NH (c : Cls) : List (List UInt8) := namesF 8 [] c.head
def NT (c : Cls) : List (List UInt8) := namesL (NH c) c.tests
def NG (c : Cls) : List (List UInt8) := namesL (NT c) c.goals
def midC (c : Cls) : List UInt8 := if c.goals.length = 0 then [] else [32, 58, 45, 32]
def guardC (N : List (List UInt8)) (c : Cls) : List UInt8 := if c.tests.length = 0 then [] else strL N c.tests ++ [32, 124, 32]
/-- A clause as it is written. -/
def strC (c : Cls) : List UInt8 := strF 8 (NG c) c.head ++ midC c ++ guardC (NG c) c ++ strL (NG c) c.goals ++ [46, 10]
def strP (cs : List Cls) : List UInt8 := cs.flatMap strC
def okC (c : Cls) : Prop := ok3 8 c.head ∧ (∀ x ∈ c.tests, okI x) ∧ (∀ x ∈ c.goals, okI x)
theorem strL_ext (xs : List Itm) (h : ∀ x ∈ xs, okI x) (ns M : List (List UInt8)) : strL (namesL ns xs ++ M) xs = strL (namesL ns xs) xs := by
  unfold strL namesL; rw [foldI_str xs h]
theorem strC_parts (c : Cls) (h : okC c) : strF 8 (NG c) c.head = strF 8 (NH c) c.head ∧ strL (NG c) c.tests = strL (NT c) c.tests := by
  obtain ⟨h1, h2, h3⟩ := h
  obtain ⟨M, hM, _⟩ := foldI_ext c.tests h2 (NH c)
  obtain ⟨K, hK, _⟩ := foldI_ext c.goals h3 (NT c)
  have e1 : NT c = NH c ++ M := hM
  have e2 : NG c = NT c ++ K := hK
  constructor
  · rw [e2, e1, List.append_assoc]
    exact strF_ext 8 _ h1 _ _
  · rw [e2]
    exact strL_ext _ h2 _ _
theorem strP_more {cs : List Cls} {j : Nat} (hj : j < cs.length) : strP (cs.take (j + 1)) = strP (cs.take j) ++ strC cs[j] := by
  have ht : cs.take (j + 1) = cs.take j ++ [cs[j]] := by rw [List.take_add_one, List.getElem?_eq_getElem hj]; rfl
  unfold strP
  rw [ht, List.flatMap_append]
  simp
theorem strL_len (xs : List Itm) (N : List (List UInt8)) (h : ∀ x ∈ xs, okI x) (hw : ∀ x ∈ xs, wfI x) (h6 : xs.length ≤ 6) (hc : ∀ t, ok3 8 t → (strF 8 N t).length ≤ 1000000) : (strL N xs).length ≤ 30000000 := by
  have h3 := joinC_len (c := 3000004) (xs.map (strI N)) (fun x hx => by
    obtain ⟨u, hu, rfl⟩ := List.mem_map.1 hx
    exact strI_len _ _ (h u hu) (hw u hu).2.2.2.1 (hw u hu).2.2.2.2.1 hc)
  have h4 : (xs.map (strI N)).length ≤ 6 := by simpa using h6
  have h5 := Nat.mul_le_mul_right (3000004 + 2) h4
  unfold strL
  omega
theorem namesL_len (xs : List Itm) (h : ∀ x ∈ xs, okI x) (h6 : xs.length ≤ 6) (ns : List (List UInt8)) : (namesL ns xs).length ≤ ns.length + 120000 := by
  obtain ⟨M, hM, hl⟩ := foldI_ext xs h ns
  have h5 := Nat.mul_le_mul_right 20000 h6
  unfold namesL
  rw [hM, List.length_append]
  omega
theorem strC_len (c : Cls) (h : okC c) (hw : wfC c) (hc : ∀ N : List (List UInt8), N.length ≤ 1000000 → ∀ t, ok3 8 t → (strF 8 N t).length ≤ 1000000) : (strC c).length ≤ 70000000 := by
  have n1 : (NH c).length ≤ 6561 := by
    obtain ⟨M, hM, hl⟩ := namesF_ext 8 c.head h.1 []
    unfold NH
    rw [hM]
    simpa using hl
  have n2 : (NT c).length ≤ (NH c).length + 120000 := namesL_len _ h.2.1 hw.2.2.1 _
  have n3 : (NG c).length ≤ (NT c).length + 120000 := namesL_len _ h.2.2 hw.2.2.2.2 _
  have l0 := hc (NG c) (by omega)
  have l1 := l0 c.head h.1
  have l2 := strL_len c.tests (NG c) h.2.1 hw.2.1 hw.2.2.1 l0
  have l3 := strL_len c.goals (NG c) h.2.2 hw.2.2.2.1 hw.2.2.2.2 l0
  have l4 : (midC c).length ≤ 4 := by unfold midC; split <;> simp
  have l5 : (guardC (NG c) c).length ≤ 30000003 := by
    unfold guardC
    split
    · simp
    · rw [List.length_append]; simp only [List.length_cons, List.length_nil]; omega
  unfold strC
  simp only [List.length_append, List.length_cons, List.length_nil]
  omega
theorem strP_len (cs : List Cls) (h : ∀ c ∈ cs, (strC c).length ≤ 70000000) : (strP cs).length ≤ cs.length * 70000000 := by
  unfold strP
  induction cs with
  | nil => simp
  | cons c cs ih =>
    have a := h c (by simp)
    have b := ih (fun d hd => h d (by simp [hd]))
    rw [List.flatMap_cons, List.length_append, List.length_cons, Nat.add_mul]
    omega
end Parl
namespace Parl
/-- What Check answers of a text whose tokens are l. -/
def ckE (s : ByteArray) (l : List Tok) : Nat := if 240 < s.size then 1 else errOf (prog 12 l)
def ckP (s : ByteArray) (l : List Tok) : Nat := if 240 < s.size then 0 else posOf (prog 12 l)
/-- What Show writes of a text whose tokens are l. -/
def shS (s : ByteArray) (l : List Tok) : List UInt8 := if 240 < s.size then [] else match prog 12 l with
  | .inl _ => []
  | .inr (cs, _) => strP cs
theorem strC_eq (c : Cls) (h : okC c) {N1 N2 N3 : List (List UInt8)} (h1 : N1 = NH c) (h2 : N2 = NT c) (h3 : N3 = NG c) :
    strC c = strF 8 N1 c.head ++ midC c ++ (if c.tests.length = 0 then [] else strL N2 c.tests ++ [32, 124, 32]) ++ strL N3 c.goals ++ [46, 10] := by
  subst h1 h2 h3
  obtain ⟨e1, e2⟩ := strC_parts c h
  unfold strC guardC
  rw [e1, e2]
theorem strI_00 {x : Itm} {ns : List (List UInt8)} (hr : x.right = none) (hz : x.last = none) : namesI ns x = namesF 8 ns x.left ∧ strI (namesI ns x) x = strF 8 (namesF 8 ns x.left) x.left := by
  unfold namesI strI; simp [hr, hz, nameO]
theorem strI_10 {x : Itm} {ns : List (List UInt8)} {r : Tm} (h : okI x) (hr : x.right = some r) (hz : x.last = none) : namesI ns x = namesF 8 (namesF 8 ns x.left) r ∧ strI (namesI ns x) x = strF 8 (namesF 8 ns x.left) x.left ++ (x.sign ++ strF 8 (namesF 8 (namesF 8 ns x.left) r) r) := by
  obtain ⟨M, hM, _⟩ := namesF_ext 8 r (h.2.1 r hr) (namesF 8 ns x.left)
  have e : namesI ns x = namesF 8 (namesF 8 ns x.left) r := by unfold namesI; simp [hr, hz, nameO]
  refine ⟨e, ?_⟩
  rw [e]
  unfold strI
  simp only [hr, hz, List.append_nil]
  congr 1
  rw [hM, strF_ext 8 _ h.1]
theorem strI_11 {x : Itm} {ns : List (List UInt8)} {r z : Tm} (h : okI x) (hr : x.right = some r) (hz : x.last = some z) : namesI ns x = namesF 8 (namesF 8 (namesF 8 ns x.left) r) z ∧ strI (namesI ns x) x = strF 8 (namesF 8 ns x.left) x.left ++ (x.sign ++ strF 8 (namesF 8 (namesF 8 ns x.left) r) r) ++ (x.op ++ strF 8 (namesF 8 (namesF 8 (namesF 8 ns x.left) r) z) z) := by
  obtain ⟨M, hM, _⟩ := namesF_ext 8 r (h.2.1 r hr) (namesF 8 ns x.left)
  obtain ⟨K, hK, _⟩ := namesF_ext 8 z (h.2.2 z hz) (namesF 8 (namesF 8 ns x.left) r)
  have e : namesI ns x = namesF 8 (namesF 8 (namesF 8 ns x.left) r) z := by unfold namesI; simp [hr, hz, nameO]
  refine ⟨e, ?_⟩
  rw [e]
  unfold strI
  simp only [hr, hz]
  congr 1
  rw [hK, strF_ext 8 _ (h.2.1 r hr)]
  congr 1
  rw [hM, List.append_assoc, strF_ext 8 _ h.1]
end Parl
namespace Go.Proofs.YthfjnfcekeknlaaGreatDoor
open Go
theorem dec_len : ∀ (k n : Nat), n < 10 ^ (k + 1) → (Lib.decDigits n).length ≤ k + 1
  | 0, n, h => by rw [Lib.decDigits, dif_pos (by omega)]; simp
  | k + 1, n, h => by
    rw [Lib.decDigits]
    by_cases h10 : n < 10
    · rw [dif_pos h10]; simp
    · rw [dif_neg h10]
      have := dec_len k (n / 10) (by rw [Nat.pow_succ] at h; omega)
      simp
      exact this
theorem dec9 : ∀ n, n < 1000000000 → (Lib.decDigits n).length ≤ 9 := fun n h => dec_len 8 n (by omega)
theorem ba_app (l m : List UInt8) : (⟨l.toArray⟩ : ByteArray) ++ ⟨m.toArray⟩ = ⟨(l ++ m).toArray⟩ := by
  show (⟨l.toArray⟩ : ByteArray).append ⟨m.toArray⟩ = _
  simp [ByteArray.append]
theorem ba_self (b : ByteArray) : (⟨b.toList.toArray⟩ : ByteArray) = b := by
  obtain ⟨d⟩ := b
  rw [ByteArray.toList_mk]
theorem lenS_le : ∀ f, f ≤ 8 → Parl.lenS f ≤ 1000000 := by decide
theorem All2.at {α β : Type} {R : α → β → Prop} : ∀ {xs : List α} {ys : List β}, All2 R xs ys → ∀ (i : Nat) (h : i < xs.length) (h' : i < ys.length), R xs[i] ys[i]
  | _ :: _, _ :: _, q, 0, _, _ => q.1
  | _ :: _, _ :: _, q, i + 1, h, h' => All2.at q.2 i (by simpa using h) (by simpa using h')
/-- One more argument. -/
theorem lt_step {f j : Nat} {ts : List Parl.Tm} {ns : List (List UInt8)} {N1 N2 : List (List UInt8)} (hj : j < ts.length) (ho : ∀ u ∈ ts, Parl.ok3 f u) (h1 : N1 = (ts.take j).foldl (Parl.namesF f) ns) (h2 : N2 = Parl.namesF f N1 ts[j]) :
    N2 = (ts.take (j + 1)).foldl (Parl.namesF f) ns ∧ (ts.take (j + 1)).map (Parl.strF f N2) = (ts.take j).map (Parl.strF f N1) ++ [Parl.strF f N2 ts[j]] := by
  have ht : ts.take (j + 1) = ts.take j ++ [ts[j]] := by rw [List.take_add_one, List.getElem?_eq_getElem hj]; rfl
  obtain ⟨M, hM, _⟩ := Parl.namesF_ext f ts[j] (ho _ (by simp)) N1
  refine ⟨by rw [ht, List.foldl_append, ← h1, h2]; rfl, ?_⟩
  rw [ht, List.map_append, h2, hM]
  congr 1
  rw [h1]
  exact Parl.fold_str (c := 3 ^ f) (ts.take j) (fun u hu => Parl.namesF_ext f u (ho u (List.mem_of_mem_take hu))) (fun u hu => Parl.strF_ext f u (ho u (List.mem_of_mem_take hu))) ns M
theorem lt_count {f j : Nat} {ts : List Parl.Tm} {ns : List (List UInt8)} (ho : ∀ u ∈ ts, Parl.ok3 f u) (_hj : j ≤ 3) : ((ts.take j).foldl (Parl.namesF f) ns).length ≤ ns.length + j * 3 ^ f := by
  obtain ⟨M, hM, hl⟩ := Parl.fold_ext (c := 3 ^ f) (ts.take j) (fun u hu => Parl.namesF_ext f u (ho u (List.mem_of_mem_take hu))) ns
  rw [hM, List.length_append]
  have := Nat.mul_le_mul_right (3 ^ f) (List.length_take_le j ts)
  omega
theorem ba_lit (c : UInt8) : (⟨#[c]⟩ : ByteArray) = ⟨[c].toArray⟩ := rfl
theorem lt_str0 (X A : List UInt8) (l : List (List UInt8)) (h : l = []) : (⟨(X ++ Parl.argP l).toArray⟩ : ByteArray) ++ ⟨#[40]⟩ ++ ⟨A.toArray⟩ = ⟨(X ++ Parl.argP (l ++ [A])).toArray⟩ := by
  subst h
  rw [ba_lit, ba_app, ba_app]
  simp [Parl.argP]
theorem lt_str1 (X A : List UInt8) (l : List (List UInt8)) (h : l ≠ []) : (⟨(X ++ Parl.argP l).toArray⟩ : ByteArray) ++ ⟨#[44]⟩ ++ ⟨A.toArray⟩ = ⟨(X ++ Parl.argP (l ++ [A])).toArray⟩ := by
  rw [ba_lit, ba_app, ba_app, Parl.argP_more _ _ h]
  simp
theorem lt_strE (X : List UInt8) (l : List (List UInt8)) (h : l ≠ []) : (⟨(X ++ Parl.argP l).toArray⟩ : ByteArray) ++ ⟨#[41]⟩ = ⟨(X ++ Parl.argS l).toArray⟩ := by
  rw [ba_lit, ba_app, Parl.argS_end _ h]
  simp
theorem ba_list {b : ByteArray} {l : List UInt8} (h : b.toList = l) : b = ⟨l.toArray⟩ := by rw [← h, ba_self]
theorem ll_str0 (A : List UInt8) (l : List (List UInt8)) (h : l = []) : (⟨(Parl.joinC l).toArray⟩ : ByteArray) ++ ⟨A.toArray⟩ = ⟨(Parl.joinC (l ++ [A])).toArray⟩ := by
  subst h
  rw [ba_app]
  simp [Parl.joinC]
theorem ll_str1 (A : List UInt8) (l : List (List UInt8)) (h : l ≠ []) : (⟨(Parl.joinC l).toArray⟩ : ByteArray) ++ ⟨#[44, 32]⟩ ++ ⟨A.toArray⟩ = ⟨(Parl.joinC (l ++ [A])).toArray⟩ := by
  rw [show (⟨#[44, 32]⟩ : ByteArray) = ⟨[44, 32].toArray⟩ from rfl, ba_app, ba_app, Parl.joinC_more _ _ h]
  simp
theorem All2.impM {α β : Type} {R S : α → β → Prop} : ∀ {xs : List α} {ys : List β}, (∀ a b, b ∈ ys → R a b → S a b) → All2 R xs ys → All2 S xs ys
  | [], [], _, _ => trivial
  | _ :: _, _ :: _, h, q => ⟨h _ _ (by simp) q.1, All2.impM (fun a b hb => h a b (by simp [hb])) q.2⟩
theorem str_all {N : List (List UInt8)} (h : N.length ≤ 1000000) (t : Parl.Tm) (ho : Parl.ok3 8 t) : (Parl.strF 8 N t).length ≤ 1000000 :=
  Nat.le_trans (Parl.strF_len 8 t _ ho (by omega) dec9) (lenS_le 8 (by omega))
theorem sc_00 (S A1 A3 : List UInt8) : (⟨S.toArray⟩ : ByteArray) ++ ⟨A1.toArray⟩ ++ ⟨A3.toArray⟩ ++ ⟨#[46, 10]⟩ = ⟨(S ++ (A1 ++ [] ++ [] ++ A3 ++ [46, 10])).toArray⟩ := by
  rw [show (⟨#[46, 10]⟩ : ByteArray) = ⟨[46, 10].toArray⟩ from rfl, ba_app, ba_app, ba_app]; simp
theorem sc_10 (S A1 A3 : List UInt8) : (⟨S.toArray⟩ : ByteArray) ++ ⟨A1.toArray⟩ ++ ⟨#[32, 58, 45, 32]⟩ ++ ⟨A3.toArray⟩ ++ ⟨#[46, 10]⟩ = ⟨(S ++ (A1 ++ [32, 58, 45, 32] ++ [] ++ A3 ++ [46, 10])).toArray⟩ := by
  rw [show (⟨#[46, 10]⟩ : ByteArray) = ⟨[46, 10].toArray⟩ from rfl, show (⟨#[32, 58, 45, 32]⟩ : ByteArray) = ⟨[32, 58, 45, 32].toArray⟩ from rfl, ba_app, ba_app, ba_app, ba_app]; simp
theorem sc_01 (S A1 A2 A3 : List UInt8) : (⟨S.toArray⟩ : ByteArray) ++ ⟨A1.toArray⟩ ++ ⟨A2.toArray⟩ ++ ⟨#[32, 124, 32]⟩ ++ ⟨A3.toArray⟩ ++ ⟨#[46, 10]⟩ = ⟨(S ++ (A1 ++ [] ++ (A2 ++ [32, 124, 32]) ++ A3 ++ [46, 10])).toArray⟩ := by
  rw [show (⟨#[46, 10]⟩ : ByteArray) = ⟨[46, 10].toArray⟩ from rfl, show (⟨#[32, 124, 32]⟩ : ByteArray) = ⟨[32, 124, 32].toArray⟩ from rfl, ba_app, ba_app, ba_app, ba_app, ba_app]; simp
theorem sc_11 (S A1 A2 A3 : List UInt8) : (⟨S.toArray⟩ : ByteArray) ++ ⟨A1.toArray⟩ ++ ⟨#[32, 58, 45, 32]⟩ ++ ⟨A2.toArray⟩ ++ ⟨#[32, 124, 32]⟩ ++ ⟨A3.toArray⟩ ++ ⟨#[46, 10]⟩ = ⟨(S ++ (A1 ++ [32, 58, 45, 32] ++ (A2 ++ [32, 124, 32]) ++ A3 ++ [46, 10])).toArray⟩ := by
  rw [show (⟨#[46, 10]⟩ : ByteArray) = ⟨[46, 10].toArray⟩ from rfl, show (⟨#[32, 124, 32]⟩ : ByteArray) = ⟨[32, 124, 32].toArray⟩ from rfl, show (⟨#[32, 58, 45, 32]⟩ : ByteArray) = ⟨[32, 58, 45, 32].toArray⟩ from rfl, ba_app, ba_app, ba_app, ba_app, ba_app, ba_app]; simp
end Go.Proofs.YthfjnfcekeknlaaGreatDoor
namespace Parl
/-- What a match has found so far: what the pattern's variables stand for, who is waited for, whether there was a No. -/
structure Lk where
  st : List (List UInt8 × Tm)
  wt : List (List UInt8)
  no : Bool
def Lk.wait (l : Lk) (x : List UInt8) : Lk := ⟨l.st, addN l.wt x, l.no⟩
def Lk.bad (l : Lk) : Lk := ⟨l.st, l.wt, true⟩
def Lk.none : Lk := ⟨[], [], false⟩
/-- The same number, or the same name with as many arguments. -/
def alike (a b : Tm) : Bool := a.kind == b.kind && ((if a.kind = 4 then numOf a.text == numOf b.text else a.text.toList == b.text.toList) && a.args.length == b.args.length)
/-- Two lists of terms, one by one. -/
def two (g : Tm → Tm → Lk → Lk) : List Tm → List Tm → Lk → Lk
  | a :: ps, b :: qs, l => two g ps qs (g a b l)
  | _, _, l => l
def cmpF : Nat → Tm → Tm → Lk → Lk
  | 0, _, _, l => l
  | f + 1, a, b, l =>
    if a.kind = 3 then
      (if b.kind = 3 then (if a.text.toList = b.text.toList then l else (l.wait a.text.toList).wait b.text.toList) else l.wait a.text.toList)
    else if b.kind = 3 then l.wait b.text.toList
    else if alike a b = true then two (cmpF f) a.args b.args l else l.bad
def Lk.meet (l : Lk) (x : List UInt8) (t : Tm) : Lk := match l.st.find? (fun q => q.1 == x) with
  | some q => cmpF 8 q.2 t l
  | Option.none => ⟨l.st ++ [(x, t)], l.wt, l.no⟩
def matF : Nat → Tm → Tm → Lk → Lk
  | 0, _, _, l => l
  | f + 1, p, t, l =>
    if p.kind = 3 then l.meet p.text.toList t
    else if t.kind = 3 then l.wait t.text.toList
    else if alike p t = true then two (matF f) p.args t.args l else l.bad
def Lk.says (l : Lk) : Nat := if l.no = true then 2 else if l.wt = [] then 1 else 3
def Lk.waits (l : Lk) (t : Tm) : List (List UInt8) := (namesF 8 [] t).filter fun x => decide (x ∈ l.wt)
/-- A text as one term. -/
def whole (l : List Tok) : Res Tm := match term 8 l with
  | .inl e => .inl e
  | .inr (t, l1) => if (hd l1).kind = 0 then .inr (t, l1) else bad 2 l1
def erT (r : Res Tm) : Nat := match r with
  | .inl e => e.1
  | .inr _ => 0
/-- The error of two texts as terms. -/
def bothE (a b : ByteArray) (la lb : List Tok) : Nat := if 64 < a.size ∨ 64 < b.size then 1 else match whole la with
  | .inl (e, _) => e
  | .inr _ => erT (whole lb)
/-- Match's answer. -/
def mtE (a b : ByteArray) (la lb : List Tok) : Nat := bothE a b la lb
def mtL (a b : ByteArray) (la lb : List Tok) : Option (Lk × Tm) := if 64 < a.size ∨ 64 < b.size then Option.none else match whole la, whole lb with
  | .inr (p, _), .inr (t, _) => some (matF 8 p t Lk.none, t)
  | _, _ => Option.none
def mtN (a b : ByteArray) (la lb : List Tok) : Nat := match mtL a b la lb with
  | some (l, _) => l.says
  | Option.none => 0
def mtW (a b : ByteArray) (la lb : List Tok) : List (List UInt8) := match mtL a b la lb with
  | some (l, t) => if l.says = 3 then l.waits t else []
  | Option.none => []
/-- The kinds that terms have; a name alone has arguments. -/
def wfK : Nat → Tm → Prop
  | 0, _ => False
  | f + 1, t => (t.kind = 2 ∨ t.kind = 3 ∨ t.kind = 4) ∧ (t.kind ≠ 2 → t.args = []) ∧ t.args.length ≤ 3 ∧ ∀ a ∈ t.args, wfK f a
theorem args_all {Q : Tm → Prop} {p : List Tok → Res Tm} (hp : ∀ l t l1, p l = .inr (t, l1) → Q t) : ∀ (k : Nat) (l : List Tok) (ts : List Tm) (l2 : List Tok), argsOf p k l = .inr (ts, l2) → (∀ t ∈ ts, Q t) ∧ ts.length ≤ k + 1 := by
  intro k
  induction k with
  | zero =>
    intro l ts l2 h
    unfold argsOf at h
    rcases hq : p l with e | ⟨t, l1⟩
    · rw [hq] at h; cases h
    · rw [hq] at h
      dsimp only at h
      by_cases h1 : sees l1 [44] = true
      · rw [if_pos h1] at h; cases h
      · rw [if_neg h1] at h
        by_cases h2 : sees l1 [41] = true
        · rw [if_pos h2] at h
          cases h
          refine ⟨fun x hx => ?_, by simp⟩
          obtain rfl : x = t := by simpa using hx
          exact hp _ _ _ hq
        · rw [if_neg h2] at h; cases h
  | succ k ih =>
    intro l ts l2 h
    rw [argsOf] at h
    rcases hq : p l with e | ⟨t, l1⟩
    · rw [hq] at h; cases h
    · rw [hq] at h
      dsimp only at h
      by_cases h1 : sees l1 [44] = true
      · rw [if_pos h1] at h
        rcases hr : argsOf p k l1.tail with e | ⟨us, l3⟩
        · rw [hr] at h; cases h
        · rw [hr] at h
          cases h
          obtain ⟨i1, i2⟩ := ih _ _ _ hr
          refine ⟨fun x hx => ?_, by simpa using i2⟩
          rcases List.mem_cons.1 hx with rfl | hx
          · exact hp _ _ _ hq
          · exact i1 x hx
      · rw [if_neg h1] at h
        by_cases h2 : sees l1 [41] = true
        · rw [if_pos h2] at h
          cases h
          refine ⟨fun x hx => ?_, by simp⟩
          obtain rfl : x = t := by simpa using hx
          exact hp _ _ _ hq
        · rw [if_neg h2] at h; cases h
theorem wfK_term : ∀ (f : Nat) (l : List Tok) (t : Tm) (l1 : List Tok), term f l = .inr (t, l1) → wfK f t := by
  intro f
  induction f with
  | zero => intro l t l1 h; rw [term] at h; split at h <;> cases h
  | succ f ih =>
    intro l t l1 h
    rw [term] at h
    by_cases hb : begins (hd l) = true
    · rw [if_pos hb] at h
      by_cases hc : (hd l).kind = 4 ∧ 6 < (hd l).text.size
      · rw [if_pos hc] at h; cases h
      · rw [if_neg hc] at h
        by_cases h2 : (hd l).kind = 2
        · rw [if_pos h2] at h
          by_cases hs : sees l.tail [40] = true
          · rw [if_pos hs] at h
            rcases hq : argsOf (term f) 2 l.tail.tail with x | ⟨us, l2⟩
            · rw [hq] at h; cases h
            · rw [hq] at h; cases h
              obtain ⟨i1, i2⟩ := args_all ih _ _ _ _ hq
              exact ⟨Or.inl rfl, fun q => absurd rfl q, i2, i1⟩
          · rw [if_neg hs] at h; cases h
            exact ⟨Or.inl rfl, fun q => absurd rfl q, by simp, fun a ha => by cases ha⟩
        · rw [if_neg h2] at h; cases h
          refine ⟨?_, fun _ => rfl, by simp, fun a ha => by cases ha⟩
          unfold begins at hb
          simp at hb
          rcases hb with (h3 | h3) | h3
          · exact Or.inl h3
          · exact Or.inr (Or.inl h3)
          · exact Or.inr (Or.inr h3)
    · rw [if_neg hb] at h; cases h
theorem whole_is {l : List Tok} {t : Tm} {l1 : List Tok} (h : whole l = .inr (t, l1)) : term 8 l = .inr (t, l1) ∧ (hd l1).kind = 0 := by
  unfold whole at h
  rcases hq : term 8 l with e | ⟨u, l2⟩
  · rw [hq] at h; cases h
  · rw [hq] at h
    dsimp only at h
    by_cases hk : (hd l2).kind = 0
    · rw [if_pos hk] at h; cases h; exact ⟨rfl, hk⟩
    · rw [if_neg hk] at h; cases h
end Parl
namespace Parl
theorem addN_len (l : List (List UInt8)) (x : List UInt8) : (addN l x).length ≤ l.length + 1 := by
  unfold addN; split <;> simp
theorem two_len {g : Tm → Tm → Lk → Lk} {c : Nat} : ∀ (ps qs : List Tm) (l : Lk), (∀ a ∈ ps, ∀ b l, (g a b l).wt.length ≤ l.wt.length + c) → (two g ps qs l).wt.length ≤ l.wt.length + ps.length * c
  | [], _, l, _ => by simp [two]
  | a :: ps, [], l, _ => by simp only [two]; omega
  | a :: ps, b :: qs, l, h => by
    have h1 := h a (by simp) b l
    have h2 := two_len (g := g) ps qs (g a b l) (fun u hu => h u (by simp [hu]))
    simp only [two, List.length_cons, Nat.add_mul]
    omega
theorem two_st {g : Tm → Tm → Lk → Lk} {c : Nat} : ∀ (ps qs : List Tm) (l : Lk), (∀ a ∈ ps, ∀ b l, (g a b l).st.length ≤ l.st.length + c) → (two g ps qs l).st.length ≤ l.st.length + ps.length * c
  | [], _, l, _ => by simp [two]
  | a :: ps, [], l, _ => by simp only [two]; omega
  | a :: ps, b :: qs, l, h => by
    have h1 := h a (by simp) b l
    have h2 := two_st (g := g) ps qs (g a b l) (fun u hu => h u (by simp [hu]))
    simp only [two, List.length_cons, Nat.add_mul]
    omega
theorem two_step {g : Tm → Tm → Lk → Lk} : ∀ (ps qs : List Tm) (j : Nat) (h : j < ps.length) (h' : j < qs.length) (l : Lk), two g (ps.take (j + 1)) (qs.take (j + 1)) l = g ps[j] qs[j] (two g (ps.take j) (qs.take j) l)
  | [], _, _, h, _, _ => by simp at h
  | _ :: _, [], _, _, h, _ => by simp at h
  | a :: ps, b :: qs, 0, _, _, l => by simp [two]
  | a :: ps, b :: qs, j + 1, h, h', l => by
    have := two_step (g := g) ps qs j (by simpa using h) (by simpa using h') (g a b l)
    simpa [two] using this
theorem cmpF_len : ∀ (f : Nat) (a b : Tm) (l : Lk), wfK f a → (cmpF f a b l).wt.length ≤ l.wt.length + 2 * 3 ^ f
  | 0, _, _, _, h => h.elim
  | f + 1, a, b, l, ⟨_, _, h3, h4⟩ => by
    have hp : 1 ≤ 3 ^ f := Nat.one_le_pow _ _ (by omega)
    have hq : 3 ^ (f + 1) = 3 * 3 ^ f := by rw [Nat.pow_succ, Nat.mul_comm]
    unfold cmpF
    have w1 := fun (l : Lk) x => (show (l.wait x).wt.length ≤ l.wt.length + 1 from addN_len _ _)
    by_cases ha : a.kind = 3
    · rw [if_pos ha]
      by_cases hb : b.kind = 3
      · rw [if_pos hb]
        by_cases he : a.text.toList = b.text.toList
        · rw [if_pos he]; omega
        · rw [if_neg he]
          have q1 := w1 l a.text.toList
          have q2 := w1 (l.wait a.text.toList) b.text.toList
          omega
      · rw [if_neg hb]
        have q1 := w1 l a.text.toList
        omega
    · rw [if_neg ha]
      by_cases hb : b.kind = 3
      · rw [if_pos hb]
        have q1 := w1 l b.text.toList
        omega
      · rw [if_neg hb]
        by_cases hk : alike a b = true
        · rw [if_pos hk]
          have := two_len (g := cmpF f) (c := 2 * 3 ^ f) a.args b.args l (fun u hu v m => cmpF_len f u v m (h4 u hu))
          have h5 := Nat.mul_le_mul_right (2 * 3 ^ f) h3
          omega
        · rw [if_neg hk]
          show l.wt.length ≤ _
          omega
theorem cmpF_st : ∀ (f : Nat) (a b : Tm) (l : Lk), (cmpF f a b l).st = l.st
  | 0, _, _, _ => rfl
  | f + 1, a, b, l => by
    unfold cmpF
    have : ∀ (ps qs : List Tm) (l : Lk), (two (cmpF f) ps qs l).st = l.st := by
      intro ps
      induction ps with
      | nil => intro qs l; simp [two]
      | cons a ps ih =>
        intro qs l
        cases qs with
        | nil => simp [two]
        | cons b qs => rw [two, ih, cmpF_st f]
    split
    · split
      · split <;> rfl
      · rfl
    · split
      · rfl
      · split
        · exact this _ _ _
        · rfl
theorem alike_args {a b : Tm} (h : alike a b = true) : a.args.length = b.args.length := by
  unfold alike at h
  simp only [Bool.and_eq_true, beq_iff_eq] at h
  exact h.2.2
end Parl
namespace Parl
theorem two_lenR {g : Tm → Tm → Lk → Lk} {c : Nat} : ∀ (ps qs : List Tm) (l : Lk), (∀ b ∈ qs, ∀ a l, (g a b l).wt.length ≤ l.wt.length + c) → (two g ps qs l).wt.length ≤ l.wt.length + qs.length * c
  | [], _, l, _ => by simp [two]
  | a :: ps, [], l, _ => by simp [two]
  | a :: ps, b :: qs, l, h => by
    have h1 := h b (by simp) a l
    have h2 := two_lenR (g := g) ps qs (g a b l) (fun u hu => h u (by simp [hu]))
    simp only [two, List.length_cons, Nat.add_mul]
    omega
theorem two_stR {g : Tm → Tm → Lk → Lk} {c : Nat} : ∀ (ps qs : List Tm) (l : Lk), (∀ b ∈ qs, ∀ a l, (g a b l).st.length ≤ l.st.length + c) → (two g ps qs l).st.length ≤ l.st.length + qs.length * c
  | [], _, l, _ => by simp [two]
  | a :: ps, [], l, _ => by simp [two]
  | a :: ps, b :: qs, l, h => by
    have h1 := h b (by simp) a l
    have h2 := two_stR (g := g) ps qs (g a b l) (fun u hu => h u (by simp [hu]))
    simp only [two, List.length_cons, Nat.add_mul]
    omega
theorem cmpF_lenR : ∀ (f : Nat) (a b : Tm) (l : Lk), wfK f b → (cmpF f a b l).wt.length ≤ l.wt.length + 2 * 3 ^ f
  | 0, _, _, _, h => h.elim
  | f + 1, a, b, l, ⟨_, _, h3, h4⟩ => by
    have hp : 1 ≤ 3 ^ f := Nat.one_le_pow _ _ (by omega)
    have hq : 3 ^ (f + 1) = 3 * 3 ^ f := by rw [Nat.pow_succ, Nat.mul_comm]
    unfold cmpF
    have w1 := fun (l : Lk) x => (show (l.wait x).wt.length ≤ l.wt.length + 1 from addN_len _ _)
    by_cases ha : a.kind = 3
    · rw [if_pos ha]
      by_cases hb : b.kind = 3
      · rw [if_pos hb]
        by_cases he : a.text.toList = b.text.toList
        · rw [if_pos he]; omega
        · rw [if_neg he]
          have q1 := w1 l a.text.toList
          have q2 := w1 (l.wait a.text.toList) b.text.toList
          omega
      · rw [if_neg hb]
        have q1 := w1 l a.text.toList
        omega
    · rw [if_neg ha]
      by_cases hb : b.kind = 3
      · rw [if_pos hb]
        have q1 := w1 l b.text.toList
        omega
      · rw [if_neg hb]
        by_cases hk : alike a b = true
        · rw [if_pos hk]
          have := two_lenR (g := cmpF f) (c := 2 * 3 ^ f) a.args b.args l (fun u hu v m => cmpF_lenR f v u m (h4 u hu))
          have h5 := Nat.mul_le_mul_right (2 * 3 ^ f) h3
          omega
        · rw [if_neg hk]
          show l.wt.length ≤ _
          omega
theorem wfK.up : ∀ {f : Nat} {t : Tm}, wfK f t → wfK (f + 1) t
  | _ + 1, _, ⟨h1, h2, h3, h4⟩ => ⟨h1, h2, h3, fun a ha => (h4 a ha).up⟩
theorem wfK.le {f k : Nat} {t : Tm} (h : wfK f t) (hk : f ≤ k) : wfK k t := by
  induction hk with
  | refl => exact h
  | step _ ih => exact ih.up
theorem meet_len (l : Lk) (x : List UInt8) (t : Tm) (h : wfK 8 t) : (l.meet x t).wt.length ≤ l.wt.length + 13122 ∧ (l.meet x t).st.length ≤ l.st.length + 1 := by
  unfold Lk.meet
  split
  · rename_i q _
    have := cmpF_lenR 8 q.2 t l h
    rw [cmpF_st]
    exact ⟨by simpa using this, by omega⟩
  · exact ⟨by simp, by simp⟩
theorem matF_len : ∀ (f : Nat) (p t : Tm) (l : Lk), wfK f t → f ≤ 8 → (matF f p t l).wt.length ≤ l.wt.length + 13122 * 3 ^ f ∧ (matF f p t l).st.length ≤ l.st.length + 3 ^ f
  | 0, _, _, _, h, _ => h.elim
  | f + 1, p, t, l, hw, hf => by
    have hp : 1 ≤ 3 ^ f := Nat.one_le_pow _ _ (by omega)
    have hq : 3 ^ (f + 1) = 3 * 3 ^ f := by rw [Nat.pow_succ, Nat.mul_comm]
    have w1 := fun (l : Lk) x => (show (l.wait x).wt.length ≤ l.wt.length + 1 from addN_len _ _)
    unfold matF
    by_cases ha : p.kind = 3
    · rw [if_pos ha]
      have := meet_len l p.text.toList t (hw.le hf)
      omega
    · rw [if_neg ha]
      by_cases hb : t.kind = 3
      · rw [if_pos hb]
        have q1 := w1 l t.text.toList
        refine ⟨by omega, ?_⟩
        show l.st.length ≤ _
        omega
      · rw [if_neg hb]
        by_cases hk : alike p t = true
        · rw [if_pos hk]
          have q1 := two_lenR (g := matF f) (c := 13122 * 3 ^ f) p.args t.args l (fun u hu v m => (matF_len f v u m (hw.2.2.2 u hu) (by omega)).1)
          have q2 := two_stR (g := matF f) (c := 3 ^ f) p.args t.args l (fun u hu v m => (matF_len f v u m (hw.2.2.2 u hu) (by omega)).2)
          have h5 := Nat.mul_le_mul_right (13122 * 3 ^ f) hw.2.2.1
          have h6 := Nat.mul_le_mul_right (3 ^ f) hw.2.2.1
          omega
        · rw [if_neg hk]
          refine ⟨?_, ?_⟩
          · show l.wt.length ≤ _
            omega
          · show l.st.length ≤ _
            omega
end Parl
namespace Parl
theorem namesK_len : ∀ (f : Nat) (t : Tm) (ns : List (List UInt8)), wfK f t → (namesF f ns t).length ≤ ns.length + 3 ^ f
  | 0, _, _, h => h.elim
  | f + 1, t, ns, ⟨_, _, h3, h4⟩ => by
    have hp : 1 ≤ 3 ^ f := Nat.one_le_pow _ _ (by omega)
    have hq : 3 ^ (f + 1) = 3 * 3 ^ f := by rw [Nat.pow_succ, Nat.mul_comm]
    unfold namesF
    split
    · have := addN_len ns t.text.toList; omega
    · split
      · omega
      · have : ∀ (ts : List Tm) (ns : List (List UInt8)), (∀ u ∈ ts, wfK f u) → (ts.foldl (namesF f) ns).length ≤ ns.length + ts.length * 3 ^ f := by
          intro ts
          induction ts with
          | nil => intro ns _; simp
          | cons u ts ih =>
            intro ns h
            have q1 := namesK_len f u ns (h u (by simp))
            have q2 := ih (namesF f ns u) (fun v hv => h v (by simp [hv]))
            rw [List.foldl_cons, List.length_cons, Nat.add_mul]
            omega
        have q := this t.args ns h4
        have h5 := Nat.mul_le_mul_right (3 ^ f) h3
        omega
theorem namesK_fold (f : Nat) (ts : List Tm) (ns : List (List UInt8)) (h : ∀ u ∈ ts, wfK f u) : (ts.foldl (namesF f) ns).length ≤ ns.length + ts.length * 3 ^ f := by
  induction ts generalizing ns with
  | nil => simp
  | cons u ts ih =>
    have q1 := namesK_len f u ns (h u (by simp))
    have q2 := ih (namesF f ns u) (fun v hv => h v (by simp [hv]))
    rw [List.foldl_cons, List.length_cons, Nat.add_mul]
    omega
end Parl
namespace Parl
theorem bothE_a {a b : ByteArray} {la lb : List Tok} {er ps : Nat} (h : ¬ (64 < a.size ∨ 64 < b.size)) (hq : whole la = .inl (er, ps)) : bothE a b la lb = er := by
  unfold bothE; rw [if_neg h, hq]
theorem bothE_b {a b : ByteArray} {la lb : List Tok} {p : Tm} {l1 : List Tok} (h : ¬ (64 < a.size ∨ 64 < b.size)) (hq : whole la = .inr (p, l1)) : bothE a b la lb = erT (whole lb) := by
  unfold bothE; rw [if_neg h, hq]
end Parl
namespace Parl
theorem addN_nodup {l : List (List UInt8)} {x : List UInt8} (h : l.Nodup) : (addN l x).Nodup := by
  unfold addN
  split
  · exact h
  · rename_i q
    rw [List.nodup_append]
    refine ⟨h, by simp, ?_⟩
    intro a ha b hb e
    obtain rfl : b = x := by simpa using hb
    subst e
    exact q ha
theorem two_nodup {g : Tm → Tm → Lk → Lk} (hg : ∀ a b l, l.wt.Nodup → (g a b l).wt.Nodup) : ∀ (ps qs : List Tm) (l : Lk), l.wt.Nodup → (two g ps qs l).wt.Nodup
  | [], _, l, h => by simpa [two] using h
  | _ :: _, [], l, h => by simpa [two] using h
  | a :: ps, b :: qs, l, h => by rw [two]; exact two_nodup hg ps qs _ (hg a b l h)
theorem cmpF_nodup : ∀ (f : Nat) (a b : Tm) (l : Lk), l.wt.Nodup → (cmpF f a b l).wt.Nodup
  | 0, _, _, _, h => h
  | f + 1, a, b, l, h => by
    have w1 := fun (l : Lk) x (q : l.wt.Nodup) => (show (l.wait x).wt.Nodup from addN_nodup q)
    unfold cmpF
    split
    · split
      · split
        · exact h
        · exact w1 _ _ (w1 _ _ h)
      · exact w1 _ _ h
    · split
      · exact w1 _ _ h
      · split
        · exact two_nodup (cmpF_nodup f) _ _ _ h
        · exact h
theorem matF_nodup : ∀ (f : Nat) (p t : Tm) (l : Lk), l.wt.Nodup → (matF f p t l).wt.Nodup
  | 0, _, _, _, h => h
  | f + 1, p, t, l, h => by
    unfold matF
    split
    · unfold Lk.meet
      split
      · exact cmpF_nodup 8 _ _ _ h
      · exact h
    · split
      · exact addN_nodup h
      · split
        · exact two_nodup (matF_nodup f) _ _ _ h
        · exact h
theorem filter_eq {l : List (List UInt8)} (h : l.Nodup) (x : List UInt8) : l.filter (fun y => y == x) = if x ∈ l then [x] else [] := by
  induction l with
  | nil => simp
  | cons a l ih =>
    obtain ⟨h1, h2⟩ := List.nodup_cons.1 h
    rw [List.filter_cons, ih h2]
    by_cases e : a = x
    · subst e
      simp [h1]
    · have : (a == x) = false := by simpa using e
      rw [this]
      have e' : x ≠ a := fun q => e q.symm
      simp [e']
theorem waits_flat {l : Lk} (h : l.wt.Nodup) (ns : List (List UInt8)) : ns.flatMap (fun x => l.wt.filter (fun y => y == x)) = ns.filter fun x => decide (x ∈ l.wt) := by
  induction ns with
  | nil => rfl
  | cons x ns ih =>
    rw [List.flatMap_cons, ih, filter_eq h, List.filter_cons]
    by_cases q : x ∈ l.wt <;> simp [q]
end Parl
namespace Parl
theorem out_len {l : Lk} (h : l.wt.Nodup) (ns : List (List UInt8)) : (ns.flatMap (fun x => l.wt.filter (fun y => y == x))).length ≤ ns.length := by
  rw [waits_flat h]
  exact List.length_filter_le _ _
theorem take_filter {l : List (List UInt8)} {k : Nat} (hk : k < l.length) (x : List UInt8) : (l.take (k + 1)).filter (fun y => y == x) = (l.take k).filter (fun y => y == x) ++ (if l[k] = x then [x] else []) := by
  rw [List.take_add_one, List.getElem?_eq_getElem hk, List.filter_append]
  congr 1
  by_cases e : l[k] = x
  · simp [e]
  · simp [e]
theorem tfilter_len {l : List (List UInt8)} (h : l.Nodup) (k : Nat) (x : List UInt8) : ((l.take k).filter (fun y => y == x)).length ≤ 1 := by
  rw [filter_eq (h.sublist (List.take_sublist _ _))]
  split <;> simp
theorem take_flat {ns : List (List UInt8)} {j : Nat} (hj : j < ns.length) (F : List UInt8 → List (List UInt8)) : (ns.take (j + 1)).flatMap F = (ns.take j).flatMap F ++ F ns[j] := by
  rw [List.take_add_one, List.getElem?_eq_getElem hj, List.flatMap_append]
  simp
end Parl
namespace Parl
theorem namesV_ext : ∀ (f : Nat) (t : Tm) (ns : List (List UInt8)), ∃ K, namesF f ns t = ns ++ K
  | 0, _, ns => ⟨[], by simp [namesF]⟩
  | f + 1, t, ns => by
    unfold namesF
    split
    · obtain ⟨M, hM, _⟩ := addN_ext ns t.text.toList
      exact ⟨M, hM⟩
    · split
      · exact ⟨[], by simp⟩
      · have : ∀ (ts : List Tm) (ns : List (List UInt8)), ∃ K, ts.foldl (namesF f) ns = ns ++ K := by
          intro ts
          induction ts with
          | nil => exact fun ns => ⟨[], by simp⟩
          | cons u ts ih =>
            intro ns
            obtain ⟨K, hK⟩ := namesV_ext f u ns
            obtain ⟨K2, hK2⟩ := ih (namesF f ns u)
            exact ⟨K ++ K2, by rw [List.foldl_cons, hK2, hK, List.append_assoc]⟩
        exact this t.args ns
theorem namesW_ext (f : Nat) (ts : List Tm) (ns : List (List UInt8)) : ∃ K, ts.foldl (namesF f) ns = ns ++ K := by
  induction ts generalizing ns with
  | nil => exact ⟨[], by simp⟩
  | cons u ts ih =>
    obtain ⟨K, hK⟩ := namesV_ext f u ns
    obtain ⟨K2, hK2⟩ := ih (namesF f ns u)
    exact ⟨K ++ K2, by rw [List.foldl_cons, hK2, hK, List.append_assoc]⟩
theorem namesF_nodup : ∀ (f : Nat) (t : Tm) (ns : List (List UInt8)), ns.Nodup → (namesF f ns t).Nodup
  | 0, t, ns, h => by
    unfold namesF
    exact h
  | f + 1, t, ns, h => by
    have fold : ∀ (ts : List Tm) (ns : List (List UInt8)), ns.Nodup → (ts.foldl (namesF f) ns).Nodup := by
      intro ts
      induction ts with
      | nil => intro ns h; exact h
      | cons u ts ih => intro ns h; exact ih _ (namesF_nodup f u ns h)
    unfold namesF
    split
    · exact addN_nodup h
    · split
      · exact h
      · exact fold _ _ h
end Parl
namespace Go.Proofs.YthfjnfcekeknlaaGreatDoor
open Go.RowKit
/-- What 'Match' is to leave. -/
def PMa (a b : ByteArray) (la lb : List Parl.Tok) (w : World) (e : Ending) (w' : World) : Prop :=
  ∃ ov : Value, e = .returned (.tuple #[.int .i64 (Parl.mtN a b la lb : Int), ov, .int .i64 (Parl.mtE a b la lb : Int)]) ∧ w'.ownsRow w.heap.size 9 1 ov (Parl.mtW a b la lb).length ((Parl.mtW a b la lb).map fun x => .string ⟨x.toArray⟩) ∧ Below w.heap.size w w'
theorem new1S (W : World) (a : Value) (T : TypeId) : ∀ j u, ([a] : List Value)[j]? = some u → (W.alloc (.cells #[a] T)).cell? ((⟨W.heap.size, 0, none⟩ : Addr).add j) = some u := by
  intro j u hj
  match j, hj with
  | 0, hj => simp at hj; subst hj; simp [Addr.add]
theorem infoStrS : (Tryz.prog.info? 9).map (fun i => (i.zero, i.size, i.bytes)) = some (some (.string ⟨#[]⟩), 1, 16) := by kernel_rfl
theorem own_downS {b0 b1 : Nat} {w : World} {T : TypeId} {sz : Nat} {v : Value} {n : Nat} {xs : List Value} (h : w.ownsRow b1 T sz v n xs) (hb : b0 ≤ b1) : w.ownsRow b0 T sz v n xs :=
  ⟨h.1, h.2.imp id fun ⟨g, cap, cur, a, b, c, d⟩ => ⟨g, cap, cur, a, Nat.le_trans hb b, c, d⟩⟩
def LS (w1 : World) (ys : List Parl.Cls) (k : Nat) (sv iv : Value) (wr : World) : Prop :=
  ∃ j : Nat, k + j = ys.length ∧ iv = .int .i64 (j : Int) ∧ sv = .string ⟨(Parl.strP (ys.take j)).toArray⟩ ∧ Below w1.heap.size w1 wr
end Go.Proofs.YthfjnfcekeknlaaGreatDoor
namespace Go.Proofs.YthfjnfcekeknlaaGreatDoor
open Go.RowKit
/-- What such calls leave as it was. -/
structure FrG (R R' : Nat → Prop) (w w' : World) : Prop where
  os : w'.os = w.os
  tape : w'.tape = w.tape
  output : w'.output = w.output
  size : w.heap.size ≤ w'.heap.size
  block : ∀ k, k < w.heap.size → ¬ R k → w'.heap[k]? = w.heap[k]?
  row : ∀ k, R' k → R k ∨ w.heap.size ≤ k
theorem FrG.of_below {R : Nat → Prop} {w w' : World} (h : Below w.heap.size w w') : FrG R R w w' := ⟨h.os, h.tape, h.output, h.size, fun k hk _ => h.block k hk, fun _ q => Or.inl q⟩
theorem FrG.trans {R R1 R2 : Nat → Prop} {u v w : World} (h : FrG R R1 u v) (k : FrG R1 R2 v w) : FrG R R2 u w :=
  ⟨k.os.trans h.os, k.tape.trans h.tape, k.output.trans h.output, Nat.le_trans h.size k.size, fun i hi h1 => (k.block i (Nat.lt_of_lt_of_le hi h.size) (fun q => by
    rcases h.row i q with e | e
    · exact h1 e
    · omega)).trans (h.block i hi h1), fun i q => by
    rcases k.row i q with e | e
    · exact h.row i e
    · exact Or.inr (Nat.le_trans h.size e)⟩
theorem FrG.not {R R' : Nat → Prop} {w w' : World} (h : FrG R R' w w') {k : Nat} (hk : k < w.heap.size) (hr : ¬ R k) : ¬ R' k := fun q => by
  rcases h.row k q with e | e
  · exact hr e
  · omega
theorem own_keepG {w w' : World} {b0 : Nat} {T : TypeId} {sz : Nat} {v : Value} {n : Nat} {xs : List Value} (h : w.ownsRow b0 T sz v n xs) (hk : ∀ g, v.ownBlock = some g → w'.heap[g]? = w.heap[g]?) : w'.ownsRow b0 T sz v n xs :=
  ⟨h.1, h.2.imp id fun ⟨g, cap, cur, a, b, c, d⟩ => ⟨g, cap, cur, a, b, (hk g (by rw [a]; rfl)).trans c, d⟩⟩
theorem own_free {o : Option Addr} {n cap : Nat} {k : Nat} (h : ∀ q, o = some q → k ≠ q.block) : some k ≠ (Value.slice o n cap).ownBlock := by
  cases o with
  | none => simp [Value.ownBlock]
  | some q => have := h q rfl; simpa [Value.ownBlock] using this
theorem FrG.cell {R R' : Nat → Prop} {w w' : World} (h : FrG R R' w w') {p : Addr} (hp : p.block < w.heap.size) (hr : ¬ R p.block) : w'.cell? p = w.cell? p := World.cell?_of_block (w := w) (h.block p.block hp hr)
theorem FrG.down {R R' : Nat → Prop} {w w' : World} (h : FrG R R' w w') {b : Nat} (hb : b ≤ w.heap.size) (hr : ∀ k, R k → b ≤ k) : Below b w w' :=
  ⟨h.os, h.tape, h.output, h.size, fun k hk => h.block k (by omega) (fun q => by have := hr k q; omega)⟩
end Go.Proofs.YthfjnfcekeknlaaGreatDoor
namespace Go.Proofs.YthfjnfcekeknlaaGreatDoor
open Go.RowKit

theorem refuse_any (w : World) (rb : Nat) (s : ByteArray) (l : List Parl.Tok) (ns : List ByteArray) (nv : Value) (e0 : Int) (c : Int) (h : St w rb s l ns nv e0) :
    Calls Tryz.prog 82 #[.pointer (some ⟨rb, 0, none⟩), .int .i64 c] w fun e w' => e = .returned (.tuple #[]) ∧ St w' rb s l ns nv c ∧ KA rb [rb] w w' := by
  obtain ⟨⟨c0, c1, c2, c3, c4, c5, f1, f2, f3, f4, f5⟩, own, chain, isn, few, short, signs, pos, lt⟩ := h
  go_enter Tryz.func82, Tryz.ntmps82
  go_wp2
  go_end0
  refine ⟨rfl, ⟨⟨?_, ?_, ?_, ?_, ?_, ?_, ?_, ?_, ?_, ?_, ?_⟩, own_setCell own _ _, chain, isn, few, short, signs.setCell (by show rb ≠ 0; omega) _, pos, by simpa using lt⟩, (KA.refl _ _ _).setIn (by simp) _⟩
  all_goals first | go_cell | (simp [go_sem, *]; done)

theorem sees_any (w : World) (rb : Nat) (s : ByteArray) (l : List Parl.Tok) (ns : List ByteArray) (nv : Value) (e0 : Int) (g : ByteArray) (h : St w rb s l ns nv e0) :
    Calls Tryz.prog 76 #[.pointer (some ⟨rb, 0, none⟩), .string g] w fun e w' => e = .returned (.bool (Parl.sees l g.toList)) ∧ w' = w := by
  obtain ⟨⟨c0, c1, c2, c3, c4, c5, f1, f2, f3, f4, f5⟩, own, chain, isn, few, short, signs, pos, lt⟩ := h
  clear own chain isn few signs
  by_cases hk : (Parl.hd l).kind = 5
  · have hk' : (((Parl.hd l).kind : Int) == 5) = true := by simp; omega
    have HS := hide (show Parl.sees l g.toList = ((Parl.hd l).text.toList == g.toList) by simp [Parl.sees, hk])
    clear hk
    go_enter Tryz.func76, Tryz.ntmps76
    go_wp2
    go_ret
    exact ⟨ret_bool (by rw [unhide HS]), rfl⟩
  · have hk' : (((Parl.hd l).kind : Int) == 5) = false := by simp; omega
    have HS := hide (show Parl.sees l g.toList = false by simp [Parl.sees, hk])
    clear hk
    go_enter Tryz.func76, Tryz.ntmps76
    go_wp2
    go_ret
    exact ⟨ret_bool (by rw [unhide HS]), rfl⟩

theorem take_end {w w1 : World} {rb : Nat} {s : ByteArray} {l : List Parl.Tok} {ns : List ByteArray} {nv : Value} {e0 : Int} (h : St w rb s l ns nv e0) (h0 : (Parl.hd l).kind ≠ 0) (hb : Below w.heap.size w w1) :
    St (((w1.setCell ⟨rb, 1, none⟩ (.int .i64 ((Parl.next s ((Parl.hd l).pos + (Parl.hd l).text.size)).kind : Int))).setCell ⟨rb, 2, none⟩ (.int .i64 ((Parl.next s ((Parl.hd l).pos + (Parl.hd l).text.size)).pos : Int))).setCell ⟨rb, 3, none⟩ (.string (Parl.next s ((Parl.hd l).pos + (Parl.hd l).text.size)).text)) rb s l.tail ns nv e0 ∧
    KA rb [rb] w (((w1.setCell ⟨rb, 1, none⟩ (.int .i64 ((Parl.next s ((Parl.hd l).pos + (Parl.hd l).text.size)).kind : Int))).setCell ⟨rb, 2, none⟩ (.int .i64 ((Parl.next s ((Parl.hd l).pos + (Parl.hd l).text.size)).pos : Int))).setCell ⟨rb, 3, none⟩ (.string (Parl.next s ((Parl.hd l).pos + (Parl.hd l).text.size)).text)) := by
  have hk := h.chain.tail h0
  have h1 := h.below hb
  have few := h.few
  have hl : l.length = l.tail.length + 1 := by
    rcases l with _ | ⟨a, r⟩
    · exact absurd h.chain (by simp [Parl.Chain])
    · rfl
  obtain ⟨⟨d0, d1, d2, d3, d4, d5, g1, g2, g3, g4, g5⟩, own, chain, isn, few1, short, signs, pos, lt⟩ := h1
  have z : rb ≠ 0 := by omega
  refine ⟨⟨?_, own_setCell (own_setCell (own_setCell own _ _) _ _) _ _, hk.1, ⟨_, hk.2.1⟩, by omega, short, ((signs.setCell (by exact z) _).setCell (by exact z) _).setCell (by exact z) _, pos, by simpa using lt⟩, (((KA.of_below hb).setIn (by simp) _).setIn (by simp) _).setIn (by simp) _⟩
  rw [hk.2.1]
  generalize Parl.next s ((Parl.hd l).pos + (Parl.hd l).text.size) = t
  exact ⟨by go_cell, by go_cell, by go_cell, by go_cell, by go_cell, by go_cell, by go_cell, by go_cell, by go_cell, by go_cell, by go_cell⟩

end Go.Proofs.YthfjnfcekeknlaaGreatDoor
namespace Go.Proofs.YthfjnfcekeknlaaGreatDoor
open Go.RowKit

set_option maxHeartbeats 1000000 in
theorem take_any (w : World) (rb : Nat) (s : ByteArray) (l : List Parl.Tok) (ns : List ByteArray) (nv : Value) (e0 : Int) (h : St w rb s l ns nv e0) (h0 : (Parl.hd l).kind ≠ 0) :
    Calls Tryz.prog 77 #[.pointer (some ⟨rb, 0, none⟩)] w fun e w' => e = .returned (.tuple #[]) ∧ St w' rb s l.tail ns nv e0 ∧ KA rb [rb] w w' := by
  have HS := hide h
  obtain ⟨⟨c0, c1, c2, c3, c4, c5, f1, f2, f3, f4, f5⟩, own, chain, ⟨p, isn⟩, few, short, signs, pos, lt⟩ := h
  have hfit : (Parl.hd l).pos + (Parl.hd l).text.size ≤ s.size := by rw [isn]; exact Parl.next_fits
  have hmx : s.size ≤ maxLen := by unfold maxLen; omega
  have hz : 0 < w.heap.size := by omega
  have hC := hide chain
  have HG := hide signs
  have hw : IntKind.i64.wrap (((Parl.hd l).pos : Int) + ((Parl.hd l).text.size : Int)) = ((Parl.hd l).pos : Int) + ((Parl.hd l).text.size : Int) := by rw [IntWalk.i64_in _ ⟨by omega, by omega⟩]
  have HP := hide (show ((Parl.hd l).pos : Int) + ((Parl.hd l).text.size : Int) = (((Parl.hd l).pos + (Parl.hd l).text.size : Nat) : Int) by omega)
  clear chain own isn few signs
  go_enter Tryz.func77, Tryz.ntmps77
  go_wp2
  go_region_with (go_at_call 38; rw [unhide HP]; refine (next_any s ((Parl.hd l).pos + (Parl.hd l).text.size) _ hmx hfit ((unhide HG).draws 1) hz).mono ?_; rintro e w1 ⟨rfl, hb⟩; obtain ⟨d0, d1, d2, d3, d4, d5, g1, g2, g3, g4, g5⟩ := (unhide HS).rd.below (Below.trans (Below.refl _ _).drew hb) lt)
  all_goals
    go_wp2
    go_end0
    exact ⟨rfl, take_end (unhide HS) h0 (Below.trans (Below.refl _ _).drew hb)⟩
end Go.Proofs.YthfjnfcekeknlaaGreatDoor
namespace Go.Proofs.YthfjnfcekeknlaaGreatDoor
open Go.RowKit

theorem takeIf_any (w : World) (rb : Nat) (s : ByteArray) (l : List Parl.Tok) (ns : List ByteArray) (nv : Value) (e0 : Int) (f : Bool) (h : St w rb s l ns nv e0) (h0 : f = true → (Parl.hd l).kind ≠ 0) :
    Calls Tryz.prog 79 #[.pointer (some ⟨rb, 0, none⟩), .bool f] w fun e w' => e = .returned (.bool f) ∧ St w' rb s (if f then l.tail else l) ns nv (if f then e0 else 2) ∧ KA rb [rb] w w' := by
  have H := hide h
  clear h
  cases f
  · go_enter Tryz.func79, Tryz.ntmps79
    go_wp2_with (go_at_call 82; refine (refuse_any _ _ _ _ _ _ _ 2 (unhide H)).mono ?_; rintro e w1 ⟨rfl, hs, hk⟩; have HS := hide hs; have HK := hide hk; clear hs hk)
    go_ret
    exact ⟨rfl, unhide HS, unhide HK⟩
  · have h0' := hide (h0 rfl)
    clear h0
    go_enter Tryz.func79, Tryz.ntmps79
    go_wp2_with (go_at_call 77; refine (take_any _ _ _ _ _ _ _ (unhide H) (unhide h0')).mono ?_; rintro e w1 ⟨rfl, hs, hk⟩; have HS := hide hs; have HK := hide hk; clear hs hk)
    go_ret
    exact ⟨rfl, unhide HS, unhide HK⟩

theorem comma_any (w : World) (rb : Nat) (s : ByteArray) (l : List Parl.Tok) (ns : List ByteArray) (nv : Value) (e0 : Int) (c m : Nat) (h : St w rb s l ns nv e0) (h0 : (Parl.hd l).kind ≠ 0) :
    Calls Tryz.prog 81 #[.pointer (some ⟨rb, 0, none⟩), .int .i64 (c : Int), .int .i64 (m : Int)] w fun e w' => e = .returned (.bool (decide (c < m))) ∧ St w' rb s (if c < m then l.tail else l) ns nv (if c < m then e0 else 3) ∧ KA rb [rb] w w' := by
  have H := hide h
  have h0' := hide h0
  clear h h0
  by_cases hc : c < m
  · rw [if_pos hc, if_pos hc]
    go_enter Tryz.func81, Tryz.ntmps81
    go_wp2_with (go_at_call 77; refine (take_any _ _ _ _ _ _ _ (unhide H) (unhide h0')).mono ?_; rintro e w1 ⟨rfl, hs, hk⟩; have HS := hide hs; have HK := hide hk; clear hs hk)
    go_ret
    exact ⟨ret_bool (by simp [hc]), unhide HS, unhide HK⟩
  · rw [if_neg hc, if_neg hc]
    go_enter Tryz.func81, Tryz.ntmps81
    go_wp2_with (go_at_call 82; refine (refuse_any _ _ _ _ _ _ _ 3 (unhide H)).mono ?_; rintro e w1 ⟨rfl, hs, hk⟩; have HS := hide hs; have HK := hide hk; clear hs hk)
    go_ret
    exact ⟨ret_bool (by simp; omega), unhide HS, unhide HK⟩

end Go.Proofs.YthfjnfcekeknlaaGreatDoor
namespace Go.Proofs.YthfjnfcekeknlaaGreatDoor
open Go.RowKit

/-- What mayBegin says: 0 it may; else the error. -/
def mayB (d : Nat) (t : Parl.Tok) : Nat := if Parl.begins t = true then (if t.kind = 4 ∧ 6 < t.text.size ∨ 8 < d then 3 else 0) else 2

theorem mayB_two {d : Nat} {t : Parl.Tok} (h : ¬ (t.kind = 2 ∨ t.kind = 3 ∨ t.kind = 4)) : mayB d t = 2 := by
  unfold mayB Parl.begins; rw [if_neg]; simp; omega
theorem mayB_three {d : Nat} {t : Parl.Tok} (h : t.kind = 2 ∨ t.kind = 3 ∨ t.kind = 4) (b : t.kind = 4 ∧ 6 < t.text.size ∨ 8 < d) : mayB d t = 3 := by
  unfold mayB Parl.begins; rw [if_pos, if_pos b]; simp; omega
theorem mayB_none {d : Nat} {t : Parl.Tok} (h : t.kind = 2 ∨ t.kind = 3 ∨ t.kind = 4) (b : ¬ (t.kind = 4 ∧ 6 < t.text.size ∨ 8 < d)) : mayB d t = 0 := by
  unfold mayB Parl.begins; rw [if_pos, if_neg b]; simp; omega

set_option maxHeartbeats 1000000 in
/-- It may not begin here. -/
theorem may_no (w : World) (rb : Nat) (s : ByteArray) (l : List Parl.Tok) (ns : List ByteArray) (nv : Value) (e0 : Int) (d k z : Nat) (h : St w rb s l ns nv e0) (hkk : (Parl.hd l).kind = k) (hzz : (Parl.hd l).text.size = z) (hz : z ≤ 240) (m : Nat)
    (hm : (m = 2 ∧ ¬ (k = 2 ∨ k = 3 ∨ k = 4)) ∨ (m = 3 ∧ (k = 2 ∨ k = 3 ∨ k = 4) ∧ (k = 4 ∧ 6 < z ∨ 8 < d))) :
    Calls Tryz.prog 129 #[.pointer (some ⟨rb, 0, none⟩), .int .i64 (d : Int)] w fun e w' => e = .returned (.bool false) ∧ St w' rb s l ns nv (m : Int) ∧ KA rb [rb] w w' := by
  have H := hide h
  obtain ⟨⟨c0, c1, c2, c3, c4, c5, f1, f2, f3, f4, f5⟩, own, chain, isn, few, short, signs, pos, lt⟩ := h
  clear own chain isn few short signs pos lt c0 c2 c4 c5 f1 f2 f3 f4 f5
  rw [hkk] at c1
  generalize (Parl.hd l).text = tx at c3 hzz
  clear hkk
  subst hzz
  rcases hm with ⟨rfl, hn⟩ | ⟨rfl, hk, hb⟩
  · have n2 : ((k : Int) != 2) = true := by simp; omega
    have n3 : ((k : Int) != 3) = true := by simp; omega
    have n4 : ((k : Int) != 4) = true := by simp; omega
    clear hn
    go_enter Tryz.func129, Tryz.ntmps129
    go_wp2_with (go_at_call 82; refine (refuse_any _ _ _ _ _ _ _ 2 (unhide H)).mono ?_; rintro e w1 ⟨rfl, hs, hk⟩; have HS := hide hs; have HK := hide hk; clear hs hk)
    go_ret
    exact ⟨rfl, unhide HS, unhide HK⟩
  · rcases hk with rfl | rfl | rfl
    · have hd8 : 8 < d := by omega
      clear hb
      go_enter Tryz.func129, Tryz.ntmps129
      go_wp2_with (go_at_call 82; refine (refuse_any _ _ _ _ _ _ _ 3 (unhide H)).mono ?_; rintro e w1 ⟨rfl, hs, hk⟩; have HS := hide hs; have HK := hide hk; clear hs hk)
      go_ret
      exact ⟨rfl, unhide HS, unhide HK⟩
    · have hd8 : 8 < d := by omega
      clear hb
      go_enter Tryz.func129, Tryz.ntmps129
      go_wp2_with (go_at_call 82; refine (refuse_any _ _ _ _ _ _ _ 3 (unhide H)).mono ?_; rintro e w1 ⟨rfl, hs, hk⟩; have HS := hide hs; have HK := hide hk; clear hs hk)
      go_ret
      exact ⟨rfl, unhide HS, unhide HK⟩
    · by_cases h6 : 6 < tx.size
      · clear hb
        go_enter Tryz.func129, Tryz.ntmps129
        go_wp2_with (go_at_call 82; refine (refuse_any _ _ _ _ _ _ _ 3 (unhide H)).mono ?_; rintro e w1 ⟨rfl, hs, hk⟩; have HS := hide hs; have HK := hide hk; clear hs hk)
        go_ret
        exact ⟨rfl, unhide HS, unhide HK⟩
      · have hd8 : 8 < d := by omega
        clear hb
        go_enter Tryz.func129, Tryz.ntmps129
        go_wp2_with (go_at_call 82; refine (refuse_any _ _ _ _ _ _ _ 3 (unhide H)).mono ?_; rintro e w1 ⟨rfl, hs, hk⟩; have HS := hide hs; have HK := hide hk; clear hs hk)
        go_ret
        exact ⟨rfl, unhide HS, unhide HK⟩

set_option maxHeartbeats 1000000 in
/-- It may. -/
theorem may_yes (w : World) (rb : Nat) (s : ByteArray) (l : List Parl.Tok) (ns : List ByteArray) (nv : Value) (e0 : Int) (d k z : Nat) (h : St w rb s l ns nv e0) (hkk : (Parl.hd l).kind = k) (hzz : (Parl.hd l).text.size = z) (hz : z ≤ 240)
    (hk : k = 2 ∨ k = 3 ∨ k = 4) (hn : ¬ (k = 4 ∧ 6 < z ∨ 8 < d)) :
    Calls Tryz.prog 129 #[.pointer (some ⟨rb, 0, none⟩), .int .i64 (d : Int)] w fun e w' => e = .returned (.bool true) ∧ w' = w := by
  obtain ⟨⟨c0, c1, c2, c3, c4, c5, f1, f2, f3, f4, f5⟩, own, chain, isn, few, short, signs, pos, lt⟩ := h
  clear own chain isn few short signs pos lt c0 c2 c4 c5 f1 f2 f3 f4 f5
  rw [hkk] at c1
  generalize (Parl.hd l).text = tx at c3 hzz
  clear hkk
  subst hzz
  have hd8 : d ≤ 8 := by omega
  rcases hk with rfl | rfl | rfl
  · clear hn
    go_enter Tryz.func129, Tryz.ntmps129
    go_wp2_with fail
    go_ret
    exact ⟨rfl, rfl⟩
  · clear hn
    go_enter Tryz.func129, Tryz.ntmps129
    go_wp2_with fail
    go_ret
    exact ⟨rfl, rfl⟩
  · have h6 : tx.size ≤ 6 := by omega
    clear hn
    go_enter Tryz.func129, Tryz.ntmps129
    go_wp2_with fail
    go_ret
    exact ⟨rfl, rfl⟩

theorem mayBegin_any (w : World) (rb : Nat) (s : ByteArray) (l : List Parl.Tok) (ns : List ByteArray) (nv : Value) (e0 : Int) (d : Nat) (h : St w rb s l ns nv e0) :
    Calls Tryz.prog 129 #[.pointer (some ⟨rb, 0, none⟩), .int .i64 (d : Int)] w fun e w' => e = .returned (.bool (mayB d (Parl.hd l) == 0)) ∧ St w' rb s l ns nv (if mayB d (Parl.hd l) = 0 then e0 else (mayB d (Parl.hd l) : Int)) ∧ KA rb [rb] w w' := by
  have hz : (Parl.hd l).text.size ≤ 240 := by obtain ⟨p, e⟩ := h.isNext; have h1 := h.short; have h2 := @Parl.next_fits s p; rw [e]; omega
  by_cases hk : (Parl.hd l).kind = 2 ∨ (Parl.hd l).kind = 3 ∨ (Parl.hd l).kind = 4
  · by_cases hb : (Parl.hd l).kind = 4 ∧ 6 < (Parl.hd l).text.size ∨ 8 < d
    · rw [mayB_three hk hb]
      exact may_no w rb s l ns nv e0 d _ _ h rfl rfl hz 3 (Or.inr ⟨rfl, hk, hb⟩)
    · rw [mayB_none hk hb]
      refine (may_yes w rb s l ns nv e0 d _ _ h rfl rfl hz hk hb).mono ?_
      rintro e w' ⟨rfl, rfl⟩
      exact ⟨rfl, h, KA.refl _ _ _⟩
  · rw [mayB_two hk]
    exact may_no w rb s l ns nv e0 d _ _ h rfl rfl hz 2 (Or.inl ⟨rfl, hk⟩)
end Go.Proofs.YthfjnfcekeknlaaGreatDoor
namespace Go.Proofs.YthfjnfcekeknlaaGreatDoor
open Go.RowKit

/-- The names as lists. -/
def nmsA (ns : List ByteArray) : List (List UInt8) := ns.map fun b => b.toList
theorem nmA_idx {ns : List ByteArray} {k : Nat} {x : List UInt8} (h : k < ns.length) (he : ns[k].toList = x) (hno : ∀ j (hj : j < ns.length), j < k → ns[j].toList ≠ x) : (nmsA ns).idxOf x = k := by
  unfold nmsA
  induction ns generalizing k with
  | nil => simp at h
  | cons u us ih =>
    rw [List.map_cons]
    cases k with
    | zero => rw [List.idxOf_cons]; simp at he; simp [he]
    | succ k =>
      have h0 : u.toList ≠ x := hno 0 (by simp) (by omega)
      rw [List.idxOf_cons]
      simp only [beq_iff_eq, h0, cond_eq_ite, if_false]
      have := ih (k := k) (by simpa using h) (by simpa using he) (fun j hj q => by have := hno (j + 1) (by simpa using hj) (by omega); simpa using this)
      rw [this]
theorem nmA_in {ns : List ByteArray} {k : Nat} {x : List UInt8} (h : k < ns.length) (he : ns[k].toList = x) : Parl.addN (nmsA ns) x = nmsA ns := by
  unfold Parl.addN
  rw [if_pos]
  subst he
  exact List.mem_map.2 ⟨ns[k], by simp, rfl⟩
theorem nmA_out {ns : List ByteArray} {x : List UInt8} (hno : ∀ j (hj : j < ns.length), ns[j].toList ≠ x) : x ∉ nmsA ns := by
  intro q
  obtain ⟨u, hu, rfl⟩ := List.mem_map.1 q
  obtain ⟨i, hi, rfl⟩ := List.getElem_of_mem hu
  exact hno i hi rfl
theorem nmA_new {ns : List ByteArray} {g : ByteArray} (h : g.toList ∉ nmsA ns) : nmsA (ns ++ [g]) = Parl.addN (nmsA ns) g.toList ∧ (nmsA ns).idxOf g.toList = ns.length := by
  unfold Parl.addN
  rw [if_neg h, List.idxOf_eq_length h]
  simp [nmsA]
theorem nmA_len (ns : List ByteArray) : (nmsA ns).length = ns.length := by simp [nmsA]

/-- A term's four cells, as the program lays them. -/
structure AV where
  k : Int
  val : Int
  tx : ByteArray
  ao : Option Addr
  n : Nat
  cap : Nat
def avC (a : AV) : List Value := [.int .i64 a.k, .int .i64 a.val, .string a.tx, .slice a.ao a.n a.cap]
theorem avC_length (us : List AV) : (us.flatMap avC).length = us.length * 4 := by
  induction us with
  | nil => rfl
  | cons a r ih => rw [List.flatMap_cons, List.length_append, ih]; simp [avC]; omega
/-- The kinds of terms, as the program numbers them. -/
def ak (k : Nat) : Int := if k = 3 then 1 else if k = 4 then 2 else 3
/-- What a term's own cells say; N: the variables met so far. -/
def LeafA (N : List (List UInt8)) (a : AV) (t : Parl.Tm) : Prop := a.k = ak t.kind ∧ a.n = t.args.length ∧ (t.kind = 3 → t.text.toList ∈ N ∧ a.val = (N.idxOf t.text.toList : Int)) ∧ (t.kind = 4 → a.val = (Parl.numOf t.text : Int) ∧ t.text.size ≤ 6 ∧ a.tx = ⟨#[]⟩) ∧ (t.kind = 2 → a.tx = t.text) ∧ (t.kind = 2 ∨ t.kind = 3 ∨ t.kind = 4) ∧ t.text.size ≤ 240 ∧ t.args.length ≤ 3
def RA : Nat → List (List UInt8) → (Nat → Prop) → World → AV → Parl.Tm → Prop
  | 0, _, _, _, _, _ => False
  | f + 1, N, P, w, a, t => LeafA N a t ∧ (t.args ≠ [] → ∃ (g : Nat) (us : List AV) (cs : Array Value), a.ao = some ⟨g, 0, none⟩ ∧ P g ∧ w.heap[g]? = some (.cells cs 76 (0, 0)) ∧ cs.toList.take (us.length * 4) = us.flatMap avC ∧ All2 (RA f N P w) us t.args)
theorem RA.keep {N : List (List UInt8)} {P Q : Nat → Prop} {w w' : World} (hk : ∀ (g : Nat) (cs : Array Value), P g → w.heap[g]? = some (.cells cs 76 (0, 0)) → (∃ k r, cs.toList = .int .i64 k :: r) → w'.heap[g]? = some (.cells cs 76 (0, 0)) ∧ Q g) : ∀ {f : Nat} {a : AV} {t : Parl.Tm}, RA f N P w a t → RA f N Q w' a t
  | f + 1, _, _, ⟨h, q⟩ => ⟨h, fun n => by
    obtain ⟨g, us, cs, h1, h2, h3, h4, h5⟩ := q n
    have hi : ∃ k r, cs.toList = .int .i64 k :: r := by
      cases us with
      | nil => have := h5.length; simp at this; exact absurd (List.length_eq_zero_iff.1 this.symm) n
      | cons u us =>
        cases hc : cs.toList with
        | nil => rw [hc] at h4; simp [avC] at h4
        | cons c r =>
          rw [hc] at h4
          simp only [List.length_cons, Nat.add_mul, Nat.one_mul, List.flatMap_cons, avC, List.cons_append, List.take_succ_cons] at h4
          injection h4 with h4 _
          exact ⟨_, r, by rw [h4]⟩
    obtain ⟨r1, r2⟩ := hk g cs h2 h3 hi
    exact ⟨g, us, cs, h1, r2, r1, h4, h5.imp fun _ _ => RA.keep hk⟩⟩
theorem RA.imp {N : List (List UInt8)} {P Q : Nat → Prop} {w : World} {f : Nat} {a : AV} {t : Parl.Tm} (h : RA f N P w a t) (hk : ∀ g, P g → g < w.heap.size → Q g) : RA f N Q w a t :=
  h.keep fun g _ hp hg _ => ⟨hg, hk g hp (Array.getElem?_eq_some_iff.1 hg).1⟩
theorem RA.set {N : List (List UInt8)} {P : Nat → Prop} {w : World} {f : Nat} {a : AV} {t : Parl.Tm} (h : RA f N P w a t) {b : Nat} (hP : ∀ g, P g → g ≠ b) (o : Nat) (v : Value) : RA f N P (w.setCell ⟨b, o, none⟩ v) a t :=
  h.keep fun g _ hp hg _ => ⟨(Below.heap_setCell _ _ _ _ (fun e => hP g hp e)).trans hg, hp⟩
theorem LeafA.more {N : List (List UInt8)} {a : AV} {t : Parl.Tm} (h : LeafA N a t) (M : List (List UInt8)) : LeafA (N ++ M) a t :=
  ⟨h.1, h.2.1, fun k => ⟨List.mem_append_left _ (h.2.2.1 k).1, by rw [(h.2.2.1 k).2, List.idxOf_append, if_pos (h.2.2.1 k).1]⟩, h.2.2.2⟩
theorem RA.more {P : Nat → Prop} {w : World} {N : List (List UInt8)} (M : List (List UInt8)) : ∀ {f : Nat} {a : AV} {t : Parl.Tm}, RA f N P w a t → RA f (N ++ M) P w a t
  | f + 1, _, _, ⟨h, q⟩ => ⟨h.more M, fun n => by
    obtain ⟨g, us, cs, h1, h2, h3, h4, h5⟩ := q n
    exact ⟨g, us, cs, h1, h2, h3, h4, h5.imp fun _ _ => RA.more M⟩⟩
theorem RA.ok3 {P : Nat → Prop} {w : World} {N : List (List UInt8)} : ∀ {f : Nat} {a : AV} {t : Parl.Tm}, RA f N P w a t → Parl.ok3 f t
  | f + 1, a, t, ⟨h, q⟩ => by
    obtain ⟨h1, h2, h3, h4, h5, h6, h7, h8⟩ := h
    refine ⟨h7, h8, fun k => (h4 k).2.1, ?_⟩
    intro u hu
    obtain ⟨g, us, cs, _, _, _, _, ha⟩ := q (fun e => by rw [e] at hu; cases hu)
    have : ∀ (us : List AV) (ts : List Parl.Tm), All2 (RA f N P w) us ts → ∀ u ∈ ts, Parl.ok3 f u := by
      intro us
      induction us with
      | nil => intro ts ha u hu; cases ts with
        | nil => cases hu
        | cons t ts => exact ha.elim
      | cons v us ih => intro ts ha u hu; cases ts with
        | nil => cases hu
        | cons t ts =>
          rcases List.mem_cons.1 hu with rfl | hu
          · exact RA.ok3 ha.1
          · exact ih ts ha.2 u hu
    exact this us t.args ha u hu
/-- What 'term' says of its answer: rows new since w. -/
structure TA (f : Nat) (ns ns' : List ByteArray) (w w' : World) (val : Int) (tx : ByteArray) (ao : Option Addr) (cap : Nat) (t : Parl.Tm) : Prop where
  rep : RA f (nmsA ns') (fun g => w.heap.size ≤ g) w' ⟨ak t.kind, val, tx, ao, t.args.length, cap⟩ t
  nms : nmsA ns' = Parl.namesF f (nmsA ns) t
theorem RA.leaf {f : Nat} {N : List (List UInt8)} {P : Nat → Prop} {w : World} {a : AV} {t : Parl.Tm} (h : RA f N P w a t) : LeafA N a t := by
  cases f with
  | zero => exact h.elim
  | succ f => exact h.1
theorem TA.txt {f : Nat} {ns ns' : List ByteArray} {w w' : World} {val : Int} {tx : ByteArray} {ao : Option Addr} {cap : Nat} {t : Parl.Tm} (h : TA f ns ns' w w' val tx ao cap t) : t.kind = 2 → tx = t.text := h.rep.leaf.2.2.2.2.1
theorem RA.one {f : Nat} {N : List (List UInt8)} {P : Nat → Prop} {w : World} {a : AV} {t : Parl.Tm} (h : LeafA N a t) (h0 : t.args = []) : RA (f + 1) N P w a t := ⟨h, fun q => absurd h0 q⟩
/-- What 'arguments' says of its answer. -/
structure AA (f : Nat) (ns ns' : List ByteArray) (w w' : World) (ao : Option Addr) (ts : List Parl.Tm) : Prop where
  rows : ts ≠ [] → ∃ (g : Nat) (us : List AV) (cs : Array Value), ao = some ⟨g, 0, none⟩ ∧ w.heap.size ≤ g ∧ w'.heap[g]? = some (.cells cs 76 (0, 0)) ∧ cs.toList.take (us.length * 4) = us.flatMap avC ∧ All2 (RA f (nmsA ns') (fun g => w.heap.size ≤ g) w') us ts
  nms : nmsA ns' = ts.foldl (Parl.namesF f) (nmsA ns)
  few : ts.length ≤ 3
/-- Rows of the program's terms stay. -/
def KeepA (w w' : World) : Prop := ∀ (g : Nat) (cs : Array Value), w.heap[g]? = some (.cells cs 76 (0, 0)) → (∃ k r, cs.toList = .int .i64 k :: r) → w'.heap[g]? = some (.cells cs 76 (0, 0))
theorem KeepA.trans {u v w : World} (h : KeepA u v) (k : KeepA v w) : KeepA u w := fun g cs a b => k g cs (h g cs a b) b
theorem KeepA.below {w w' : World} (h : Below w.heap.size w w') : KeepA w w' := fun g _ a _ => (h.block g (Array.getElem?_eq_some_iff.1 a).1).trans a
theorem KeepA.ka {w w' : World} {rb : Nat} {s : ByteArray} {l : List Parl.Tok} {ns : List ByteArray} {nv : Value} {e : Int} (hs : St w rb s l ns nv e) (hk : KA rb [rb] w w') : KeepA w w' := fun g cs hg hi => (hk.block g (Array.getElem?_eq_some_iff.1 hg).1 (fun q => by
    obtain rfl : g = rb := by simpa using q
    obtain ⟨k, r, hc⟩ := hi
    have := hs.rd.c0
    simp [World.cell?, hg] at this
    rw [← Array.getElem?_toList, hc] at this
    simp at this) (Or.inr (by unfold tyAt; rw [hg]; simp))).trans hg
theorem KeepA.grown {w w' : World} {b0 : Nat} {T : TypeId} {sz : Nat} {av : Value} {n : Nat} {xs : List Value} (ho : w.ownsRow b0 T sz av n xs) (hg : w.grownBy w' av.ownBlock) (hT : T ≠ 76 := by decide) : KeepA w w' := fun g cs hc _ => (hg.block g (Array.getElem?_eq_some_iff.1 hc).1 (fun q => by
    rcases ho.2 with ⟨rfl, _⟩ | ⟨g', cap, cur, rfl, _, c, _⟩
    · simp [Value.ownBlock] at q
    · simp [Value.ownBlock] at q
      subst q
      rw [c] at hc; simp at hc; exact hT hc.2)).trans hc
end Go.Proofs.YthfjnfcekeknlaaGreatDoor
