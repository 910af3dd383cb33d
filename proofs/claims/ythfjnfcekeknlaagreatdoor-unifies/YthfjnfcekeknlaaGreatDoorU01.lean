import Derived.Lib.Strings
import Derived.Laws.Strings
import Derived.Lib.ItoaNum
import Derived.Test.YthfjnfcekeknlaaGreatDoorRows
import Derived.WalkKit
import Derived.WalkLawsBesides
import Derived.WalkSpells
import Derived.Deep.QuietTactic
import Derived.BigQuiet
import Derived.OpenShut
import Derived.Deep.RegionWith
/- The plain mathematics: tokens and the reader of the document, over lists. Nothing of the program. -/
namespace Parl

/-- The byte at a place; nought beyond the end. -/
def bAt (s : ByteArray) (i : Nat) : Nat := if h : i < s.size then (s[i]'h).toNat else 0

def low (c : Nat) : Bool := decide (97 ≤ c) && decide (c ≤ 122)
def upp (c : Nat) : Bool := decide (65 ≤ c) && decide (c ≤ 90)
def dig (c : Nat) : Bool := decide (48 ≤ c) && decide (c ≤ 57)
def blank (c : Nat) : Bool := c == 32 || c == 10

/-- The first place from i on, n places at most, that holds no blank. -/
def skipN (s : ByteArray) : Nat → Nat → Nat
  | 0, i => i
  | n + 1, i => if i < s.size ∧ blank (bAt s i) = true then skipN s n (i + 1) else i
def skip (s : ByteArray) (i : Nat) : Nat := skipN s (s.size - i) i

/-- Kinds of tokens: 0 the end, 1 no token, 2 a name, 3 a variable, 4 a number, 5 a sign. -/
def inWord (k : Nat) (c : Nat) : Bool :=
  if k = 2 then low c || dig c else if k = 3 then low c || dig c || upp c else dig c

def wordN (s : ByteArray) (k : Nat) : Nat → Nat → Nat
  | 0, i => i
  | n + 1, i => if i < s.size ∧ inWord k (bAt s i) = true then wordN s k n (i + 1) else i
def wordEnd (s : ByteArray) (k i : Nat) : Nat := wordN s k (s.size - i) i

/-- Two bytes that make a sign. -/
def longSign (a b : Nat) : Bool :=
  (a == 58 && b == 45) || (a == 58 && b == 61) || (a == 61 && b == 61) || (a == 92 && b == 61) || (a == 61 && b == 60)
def shortSign (a : Nat) : Bool :=
  a == 61 || a == 60 || a == 43 || a == 45 || a == 42 || a == 40 || a == 41 || a == 44 || a == 124 || a == 46
def signLen (s : ByteArray) (i : Nat) : Nat :=
  if i + 1 < s.size ∧ longSign (bAt s i) (bAt s (i + 1)) = true then 2
  else if i < s.size ∧ shortSign (bAt s i) = true then 1 else 0

def kindAt (s : ByteArray) (i : Nat) : Nat :=
  if s.size ≤ i then 0
  else if low (bAt s i) = true then 2
  else if upp (bAt s i) = true then 3
  else if dig (bAt s i) = true then 4
  else if 0 < signLen s i then 5 else 1

def endAt (s : ByteArray) (i : Nat) : Nat :=
  if kindAt s i = 0 then i
  else if kindAt s i = 1 then i + 1
  else if kindAt s i = 5 then i + signLen s i
  else wordEnd s (kindAt s i) i

structure Tok where
  kind : Nat
  pos : Nat
  text : ByteArray

def next (s : ByteArray) (p : Nat) : Tok :=
  let i := skip s p
  if s.size ≤ i then ⟨0, s.size, ByteArray.empty⟩ else ⟨kindAt s i, i, s.extract i (endAt s i)⟩

/-- Tokens in a row: each is the next one behind the one ahead of it; the end is the last. -/
def Chain (s : ByteArray) : List Tok → Prop
  | [] => False
  | [t] => t.kind = 0
  | t :: u :: r => t.kind ≠ 0 ∧ u = next s (t.pos + t.text.size) ∧ Chain s (u :: r)

/-- What is wrong (the error's number, the place), or a value and what is left. -/
abbrev Res (α : Type) := Sum (Nat × Nat) (α × List Tok)

def hd (l : List Tok) : Tok := l.headD ⟨0, 0, ByteArray.empty⟩
def sees (l : List Tok) (g : List UInt8) : Bool := (hd l).kind == 5 && (hd l).text.toList == g
def bad {α : Type} (e : Nat) (l : List Tok) : Res α := .inl (e, (hd l).pos)

structure Tm where
  kind : Nat
  text : ByteArray
  args : List Tm

/-- The items of a list in brackets, k more of them at most behind this one. -/
def argsOf (p : List Tok → Res Tm) : Nat → List Tok → Res (List Tm)
  | k, l =>
    match p l with
    | .inl e => .inl e
    | .inr (t, l1) =>
      if sees l1 [44] = true then
        match k with
        | 0 => bad 3 l1
        | k + 1 =>
          match argsOf p k l1.tail with
          | .inl e => .inl e
          | .inr (ts, l2) => .inr (t :: ts, l2)
      else if sees l1 [41] = true then .inr ([t], l1.tail) else bad 2 l1

def begins (t : Tok) : Bool := t.kind == 2 || t.kind == 3 || t.kind == 4

/-- A term that has f depths left. -/
def term : Nat → List Tok → Res Tm
  | 0, l => if begins (hd l) = true then bad 3 l else bad 2 l
  | f + 1, l =>
    if begins (hd l) = true then
      if (hd l).kind = 4 ∧ 6 < (hd l).text.size then bad 3 l
      else if (hd l).kind = 2 then
        if sees l.tail [40] = true then
          match argsOf (term f) 2 l.tail.tail with
          | .inl e => .inl e
          | .inr (ts, l2) => .inr (⟨2, (hd l).text, ts⟩, l2)
        else .inr (⟨2, (hd l).text, []⟩, l.tail)
      else .inr (⟨(hd l).kind, (hd l).text, []⟩, l.tail)
    else bad 2 l

structure Itm where
  left : Tm
  sign : List UInt8
  right : Option Tm
  op : List UInt8
  last : Option Tm

def testSign (l : List Tok) : Bool := sees l [60] || sees l [61, 60] || sees l [61, 61] || sees l [92, 61]
def operSign (l : List Tok) : Bool := sees l [43] || sees l [45] || sees l [42]
def isInt (t : Tm) : Bool := t.kind == 2 && t.text.toList == [105, 110, 116] && t.args.length == 1

def operand (l : List Tok) : Res Tm := if (hd l).kind = 2 then bad 2 l else term 8 l

/-- What stands behind a sign of a relation. -/
def sides (left : Tm) (fits : Bool) (l : List Tok) : Res Itm :=
  if fits = true then
    match term 8 l.tail with
    | .inl e => .inl e
    | .inr (r, l2) => .inr (⟨left, (hd l).text.toList, some r, [], none⟩, l2)
  else bad 2 l

def assignment (left : Tm) (fits : Bool) (l : List Tok) : Res Itm :=
  if fits = true then
    match operand l.tail with
    | .inl e => .inl e
    | .inr (r, l2) =>
      if operSign l2 = true then
        match operand l2.tail with
        | .inl e => .inl e
        | .inr (z, l3) => .inr (⟨left, (hd l).text.toList, some r, (hd l2).text.toList, some z⟩, l3)
      else .inr (⟨left, (hd l).text.toList, some r, [], none⟩, l2)
  else bad 2 l

/-- An item, where tests (goals) may stand; with what the list may be behind it. -/
def item (tests goals : Bool) (l : List Tok) : Res (Itm × Bool × Bool) :=
  match term 8 l with
  | .inl e => .inl e
  | .inr (t, l1) =>
    if testSign l1 = true then
      match sides t tests l1 with
      | .inl e => .inl e
      | .inr (x, l2) => .inr ((x, tests, false), l2)
    else if sees l1 [61] = true then
      match sides t goals l1 with
      | .inl e => .inl e
      | .inr (x, l2) => .inr ((x, false, goals), l2)
    else if t.kind = 3 ∧ sees l1 [58, 61] = true then
      match assignment t goals l1 with
      | .inl e => .inl e
      | .inr (x, l2) => .inr ((x, false, goals), l2)
    else if t.kind = 2 ∧ ((tests && isInt t) || goals) = true then
      .inr ((⟨t, [], none, [], none⟩, tests && isInt t, goals), l1)
    else bad 2 l1

/-- A list of items, k more of them at most behind this one. -/
def items : Nat → Bool → Bool → List Tok → Res (List Itm × Bool × Bool)
  | k, tests, goals, l =>
    match item tests goals l with
    | .inl e => .inl e
    | .inr ((x, t1, g1), l1) =>
      if sees l1 [44] = true then
        match k with
        | 0 => bad 3 l1
        | k + 1 =>
          match items k t1 g1 l1.tail with
          | .inl e => .inl e
          | .inr ((xs, t2, g2), l2) => .inr ((x :: xs, t2, g2), l2)
      else .inr (([x], t1, g1), l1)

structure Cls where
  head : Tm
  tests : List Itm
  goals : List Itm

/-- What stands behind the neck. -/
def body (l : List Tok) : Res (List Itm × List Itm) :=
  match items 5 true true l with
  | .inl e => .inl e
  | .inr ((xs, t, g), l1) =>
    if t = true ∧ sees l1 [124] = true then
      match items 5 false true l1.tail with
      | .inl e => .inl e
      | .inr ((ys, _, g2), l2) => if g2 = true then .inr ((xs, ys), l2) else bad 2 l2
    else if g = true then .inr (([], xs), l1) else bad 2 l1

def stop {α : Type} (x : α) (l : List Tok) : Res α := if sees l [46] = true then .inr (x, l.tail) else bad 2 l

/-- A clause, if one more may stand. -/
def clause (more : Bool) (l : List Tok) : Res Cls :=
  if (hd l).kind = 2 then
    if more = true then
      match term 8 l with
      | .inl e => .inl e
      | .inr (h, l1) =>
        if sees l1 [58, 45] = true then
          match body l1.tail with
          | .inl e => .inl e
          | .inr ((ts, gs), l2) => stop ⟨h, ts, gs⟩ l2
        else stop ⟨h, [], []⟩ l1
    else bad 3 l
  else bad 2 l

/-- A program, of k clauses at most. -/
def prog : Nat → List Tok → Res (List Cls)
  | k, l =>
    if (hd l).kind = 0 then .inr ([], l)
    else match k with
      | 0 => match clause false l with
        | .inl e => .inl e
        | .inr (c, l1) => .inr ([c], l1)
      | k + 1 =>
        match clause true l with
        | .inl e => .inl e
        | .inr (c, l1) =>
          match prog k l1 with
          | .inl e => .inl e
          | .inr (cs, l2) => .inr (c :: cs, l2)

end Parl
namespace Parl

theorem bAt_lt {s : ByteArray} {i : Nat} (h : i < s.size) : bAt s i = (s[i]'h).toNat := by simp [bAt, h]
theorem skip_step {s : ByteArray} {i : Nat} (h : i < s.size) (hb : blank (bAt s i) = true) : skip s i = skip s (i + 1) := by
  unfold skip
  rw [show s.size - i = (s.size - (i + 1)) + 1 by omega, skipN, if_pos ⟨h, hb⟩]

theorem skip_stop {s : ByteArray} {i : Nat} (h : ¬ (i < s.size ∧ blank (bAt s i) = true)) : skip s i = i := by
  unfold skip
  cases hn : s.size - i with
  | zero => rfl
  | succ n => rw [skipN, if_neg h]

theorem skipN_ge (s : ByteArray) (n i : Nat) : i ≤ skipN s n i := by
  induction n generalizing i with
  | zero => exact Nat.le_refl _
  | succ n ih => rw [skipN]; split
                 · have := ih (i + 1); omega
                 · omega
theorem skip_ge (s : ByteArray) (i : Nat) : i ≤ skip s i := skipN_ge _ _ _

theorem skipN_le (s : ByteArray) (n i : Nat) (h : i ≤ s.size) : skipN s n i ≤ s.size := by
  induction n generalizing i with
  | zero => exact h
  | succ n ih => rw [skipN]; split
                 · exact ih _ (by omega)
                 · exact h
theorem skip_le {s : ByteArray} {i : Nat} (h : i ≤ s.size) : skip s i ≤ s.size := skipN_le _ _ _ h

theorem wordEnd_step {s : ByteArray} {k i : Nat} (h : i < s.size) (hb : inWord k (bAt s i) = true) : wordEnd s k i = wordEnd s k (i + 1) := by
  unfold wordEnd
  rw [show s.size - i = (s.size - (i + 1)) + 1 by omega, wordN, if_pos ⟨h, hb⟩]

theorem wordEnd_stop {s : ByteArray} {k i : Nat} (h : ¬ (i < s.size ∧ inWord k (bAt s i) = true)) : wordEnd s k i = i := by
  unfold wordEnd
  cases hn : s.size - i with
  | zero => rfl
  | succ n => rw [wordN, if_neg h]

theorem wordN_ge (s : ByteArray) (k n i : Nat) : i ≤ wordN s k n i := by
  induction n generalizing i with
  | zero => exact Nat.le_refl _
  | succ n ih => rw [wordN]; split
                 · have := ih (i + 1); omega
                 · omega
theorem wordEnd_ge (s : ByteArray) (k i : Nat) : i ≤ wordEnd s k i := wordN_ge _ _ _ _
theorem wordN_le (s : ByteArray) (k n i : Nat) (h : i ≤ s.size) : wordN s k n i ≤ s.size := by
  induction n generalizing i with
  | zero => exact h
  | succ n ih => rw [wordN]; split
                 · exact ih _ (by omega)
                 · exact h
theorem wordEnd_le {s : ByteArray} {k i : Nat} (h : i ≤ s.size) : wordEnd s k i ≤ s.size := wordN_le _ _ _ _ h

theorem signLen_fits {s : ByteArray} {i : Nat} (h : i ≤ s.size) : i + signLen s i ≤ s.size := by unfold signLen; split <;> (try split) <;> omega

theorem kindAt_le (s : ByteArray) (i : Nat) : kindAt s i ≤ 5 := by
  unfold kindAt
  repeat' split
  all_goals omega
theorem kindAt_zero {s : ByteArray} {i : Nat} : kindAt s i = 0 ↔ s.size ≤ i := by
  unfold kindAt; repeat' split
  all_goals simp_all

theorem endAt_gt {s : ByteArray} {i : Nat} (h : i < s.size) : i < endAt s i := by
  unfold endAt
  have h0 : kindAt s i ≠ 0 := by rw [Ne, kindAt_zero]; omega
  rw [if_neg h0]
  by_cases h1 : kindAt s i = 1
  · rw [if_pos h1]; omega
  · rw [if_neg h1]
    by_cases h5 : kindAt s i = 5
    · rw [if_pos h5]
      unfold kindAt at h5
      rw [if_neg (by omega)] at h5
      by_cases hp : 0 < signLen s i
      · omega
      · repeat' split at h5
        all_goals omega
    · rw [if_neg h5]
      have hw : inWord (kindAt s i) (bAt s i) = true := by
        unfold kindAt at h0 h1 h5 ⊢
        rw [if_neg (by omega)] at h0 h1 h5 ⊢
        by_cases a : low (bAt s i) = true
        · simp [a, inWord]
        · rw [if_neg a] at h0 h1 h5 ⊢
          by_cases b : upp (bAt s i) = true
          · simp [b, inWord]
          · rw [if_neg b] at h0 h1 h5 ⊢
            by_cases c : dig (bAt s i) = true
            · simp [c, inWord]
            · rw [if_neg c] at h0 h1 h5
              by_cases d : 0 < signLen s i
              · rw [if_pos d] at h5; exact absurd rfl h5
              · rw [if_neg d] at h1; exact absurd rfl h1
      rw [wordEnd_step h hw]
      have := wordEnd_ge s (kindAt s i) (i + 1)
      omega

theorem endAt_le {s : ByteArray} {i : Nat} (h : i < s.size) : endAt s i ≤ s.size := by
  unfold endAt
  repeat' split
  · omega
  · omega
  · exact signLen_fits (by omega)
  · exact wordEnd_le (by omega)

theorem next_end {s : ByteArray} {p : Nat} (h : s.size ≤ skip s p) : next s p = ⟨0, s.size, ByteArray.empty⟩ := by simp [next, h]
theorem next_tok {s : ByteArray} {p : Nat} (h : skip s p < s.size) : next s p = ⟨kindAt s (skip s p), skip s p, s.extract (skip s p) (endAt s (skip s p))⟩ := by
  simp [next, show ¬ s.size ≤ skip s p by omega]

theorem next_text_size {s : ByteArray} {p : Nat} (h : skip s p < s.size) : (next s p).text.size = endAt s (skip s p) - skip s p := by
  rw [next_tok h]; simp [ByteArray.size_extract]
  have := endAt_le h; omega

theorem next_behind {s : ByteArray} {p : Nat} (h : skip s p < s.size) : (next s p).pos + (next s p).text.size = endAt s (skip s p) := by
  rw [next_text_size h, next_tok h]; have := endAt_gt h; simp; omega

theorem next_kind {s : ByteArray} {p : Nat} : (next s p).kind = 0 ↔ s.size ≤ skip s p := by
  by_cases h : s.size ≤ skip s p
  · simp [next_end h, h]
  · rw [next_tok (by omega)]; simp [kindAt_zero]

theorem next_fits {s : ByteArray} {p : Nat} : (next s p).pos + (next s p).text.size ≤ s.size := by
  by_cases h : skip s p < s.size
  · rw [next_behind h]; exact endAt_le h
  · rw [next_end (by omega)]; simp

theorem next_kind_le {s : ByteArray} {p : Nat} : (next s p).kind ≤ 5 := by
  by_cases h : skip s p < s.size
  · rw [next_tok h]; exact kindAt_le _ _
  · rw [next_end (by omega)]; simp

theorem chain_is (s : ByteArray) (n p : Nat) (h : s.size - p ≤ n) : ∃ l, Chain s (next s p :: l) := by
  induction n generalizing p with
  | zero => exact ⟨[], by rw [Chain, next_kind]; have := skip_ge s p; omega⟩
  | succ n ih =>
    by_cases hk : s.size ≤ skip s p
    · exact ⟨[], by rw [Chain, next_kind]; exact hk⟩
    · have hk' : skip s p < s.size := by omega
      have hb := next_behind hk'
      have hg := endAt_gt hk'
      have hs := skip_ge s p
      obtain ⟨l, hl⟩ := ih ((next s p).pos + (next s p).text.size) (by omega)
      exact ⟨next s ((next s p).pos + (next s p).text.size) :: l, fun e => hk (next_kind.1 e), rfl, hl⟩

theorem Chain.one {s : ByteArray} {l l' : List Tok} (h : Chain s l) (h' : Chain s l') (e : hd l = hd l') : l = l' := by
  induction l generalizing l' with
  | nil => exact absurd h (by simp [Chain])
  | cons t r ih =>
    cases l' with
    | nil => exact absurd h' (by simp [Chain])
    | cons t' r' =>
      have e' : t = t' := e
      subst e'
      cases r with
      | nil =>
        cases r' with
        | nil => rfl
        | cons u' q' => exact absurd h (by rw [Chain] at h ⊢; exact h'.1)
      | cons u q =>
        cases r' with
        | nil => exact absurd h' (by rw [Chain] at h' ⊢; exact h.1)
        | cons u' q' =>
          rw [Chain] at h h'
          rw [ih h.2.2 h'.2.2 (h.2.1.trans h'.2.1.symm)]

theorem Chain.tail {s : ByteArray} {l : List Tok} (h : Chain s l) (h0 : (hd l).kind ≠ 0) : Chain s l.tail ∧ hd l.tail = next s ((hd l).pos + (hd l).text.size) ∧ l = hd l :: l.tail := by
  match l, h with
  | [t], h => exact absurd h h0
  | t :: u :: r, h => exact ⟨h.2.2, h.2.1, rfl⟩

theorem sees_kind {l : List Tok} {g : List UInt8} (h : sees l g = true) : (hd l).kind = 5 := by
  simp [sees] at h; exact h.1

end Parl
namespace Parl
open Go

theorem len_eq (s : ByteArray) : s.data.toList.length = s.size := by rw [← Lib.size_eq]

theorem get_eq {s : ByteArray} {i : Nat} (h : i < s.size) : s.data.toList[i]'(by rw [len_eq]; exact h) = s[i] := by
  simp; rfl

theorem two_eq {s : ByteArray} {i : Nat} (h : i + 1 < s.size) (a b : UInt8) : ((s.extract i (i + 2)).toList == [a, b]) = (bAt s i == a.toNat && bAt s (i + 1) == b.toNat) := by
  have hl := len_eq s
  rw [Lib.extract_toList, show i + 2 - i = 2 by omega, bAt_lt (by omega), bAt_lt h]
  rw [List.drop_eq_getElem_cons (by omega), List.drop_eq_getElem_cons (by omega)]
  simp only [List.take_succ_cons, List.take_zero]
  rw [get_eq (by omega), get_eq h, Bool.eq_iff_iff]
  simp [UInt8.toNat_inj]

theorem one_eq {s : ByteArray} {i : Nat} (h : i < s.size) (a : UInt8) : ((s.extract i (i + 1)).toList == [a]) = (bAt s i == a.toNat) := by
  have hl := len_eq s
  rw [Lib.extract_toList, show i + 1 - i = 1 by omega, bAt_lt h]
  rw [List.drop_eq_getElem_cons (by omega)]
  simp only [List.take_succ_cons, List.take_zero]
  rw [get_eq h, Bool.eq_iff_iff]
  simp [UInt8.toNat_inj]

/-- What stands behind a place, as a text of its own. -/
def from_ (s : ByteArray) (i : Nat) : ByteArray := s.extract i s.size

theorem size_from {s : ByteArray} {i : Nat} : (from_ s i).size = s.size - i := by simp [from_, ByteArray.size_extract]

theorem bAt_from {s : ByteArray} {i j : Nat} : bAt (from_ s i) j = bAt s (i + j) := by
  unfold bAt
  by_cases h : j < s.size - i
  · rw [dif_pos (by simpa [from_, ByteArray.size_extract] using h), dif_pos (by omega)]
    simp [from_, ByteArray.getElem_extract]
  · rw [dif_neg (by simpa [from_, ByteArray.size_extract] using h), dif_neg (by omega)]

theorem wordN_from {s : ByteArray} {k i n j : Nat} : wordN (from_ s i) k n j + i = wordN s k n (i + j) := by
  induction n generalizing j with
  | zero => simp [wordN]; omega
  | succ n ih =>
    rw [wordN, wordN, bAt_from, size_from]
    by_cases h : i + j < s.size ∧ inWord k (bAt s (i + j)) = true
    · rw [if_pos h, if_pos ⟨by omega, h.2⟩, ih]; rfl
    · rw [if_neg h, if_neg (by intro q; exact h ⟨by omega, q.2⟩)]; omega
theorem wordEnd_from {s : ByteArray} {k i : Nat} : wordEnd (from_ s i) k 0 + i = wordEnd s k i := by
  unfold wordEnd
  rw [size_from, wordN_from, Nat.sub_zero]; rfl
theorem signLen_from {s : ByteArray} {i : Nat} : signLen (from_ s i) 0 = signLen s i := by
  unfold signLen
  rw [bAt_from, bAt_from, size_from]
  have e1 : (0 + 1 < s.size - i) = (i + 1 < s.size) := by rw [eq_iff_iff]; omega
  have e2 : (0 < s.size - i) = (i < s.size) := by rw [eq_iff_iff]; omega
  simp only [e1, e2, Nat.add_zero, Nat.zero_add]
theorem kindAt_from {s : ByteArray} {i : Nat} : kindAt (from_ s i) 0 = kindAt s i := by
  unfold kindAt
  rw [bAt_from, size_from, signLen_from]
  have e1 : (s.size - i ≤ 0) = (s.size ≤ i) := by rw [eq_iff_iff]; omega
  simp only [e1, Nat.add_zero]
theorem endAt_from {s : ByteArray} {i : Nat} : endAt (from_ s i) 0 + i = endAt s i := by
  unfold endAt
  rw [kindAt_from, signLen_from]
  have := @wordEnd_from s (kindAt s i) i
  repeat' split
  all_goals omega

theorem extract_from {s : ByteArray} {i n : Nat} (h : i + n ≤ s.size) : (from_ s i).extract 0 n = s.extract i (i + n) := by
  unfold from_
  rw [ByteArray.extract_extract, Nat.add_zero, Nat.min_eq_left h]

theorem longSign_two {s : ByteArray} {i : Nat} (h : i + 1 < s.size) : longSign (bAt s i) (bAt s (i + 1)) = (((s.extract i (i + 2)).toList == [58, 45]) || ((s.extract i (i + 2)).toList == [58, 61]) || ((s.extract i (i + 2)).toList == [61, 61]) || ((s.extract i (i + 2)).toList == [92, 61]) || ((s.extract i (i + 2)).toList == [61, 60])) := by
  simp only [two_eq h]; rfl

/-- The signs of one byte, in the program's order. -/
def shorts : List Nat := [61, 60, 43, 45, 42, 40, 41, 44, 124, 46]
theorem shortSign_in (c : Nat) : shortSign c = true ↔ ∃ j, j < 10 ∧ shorts[j]? = some c := by
  constructor
  · intro h
    simp [shortSign] at h
    rcases h with (((((((((h | h) | h) | h) | h) | h) | h) | h) | h) | h) <;> subst h
    · exact ⟨0, by omega, rfl⟩
    · exact ⟨1, by omega, rfl⟩
    · exact ⟨2, by omega, rfl⟩
    · exact ⟨3, by omega, rfl⟩
    · exact ⟨4, by omega, rfl⟩
    · exact ⟨5, by omega, rfl⟩
    · exact ⟨6, by omega, rfl⟩
    · exact ⟨7, by omega, rfl⟩
    · exact ⟨8, by omega, rfl⟩
    · exact ⟨9, by omega, rfl⟩
  · rintro ⟨j, hj, h⟩
    have hm := List.mem_of_getElem? h
    simp [shorts] at hm
    rcases hm with h | h | h | h | h | h | h | h | h | h <;> subst h <;> rfl

end Parl
namespace Parl
open Go

/-- Whether a text has another one at a place. -/
def startsAt (s : ByteArray) (i : Nat) (g : ByteArray) : Bool := decide (i + g.size ≤ s.size) && ((s.extract i (i + g.size)).toList == g.toList)

def sgs : List ByteArray := [⟨#[58, 45]⟩, ⟨#[58, 61]⟩, ⟨#[61, 61]⟩, ⟨#[92, 61]⟩, ⟨#[61, 60]⟩, ⟨#[61]⟩, ⟨#[60]⟩, ⟨#[43]⟩, ⟨#[45]⟩, ⟨#[42]⟩, ⟨#[40]⟩, ⟨#[41]⟩, ⟨#[44]⟩, ⟨#[124]⟩, ⟨#[46]⟩]
def sgAt (k : Nat) : ByteArray := sgs.getD k ByteArray.empty

theorem starts_two (s : ByteArray) (i : Nat) (a b : UInt8) : startsAt s i ⟨#[a, b]⟩ = (decide (i + 1 < s.size) && (bAt s i == a.toNat && bAt s (i + 1) == b.toNat)) := by
  unfold startsAt
  have e : (⟨#[a, b]⟩ : ByteArray).size = 2 := rfl
  have e2 : (⟨#[a, b]⟩ : ByteArray).toList = [a, b] := by rw [ByteArray.toList_eq]
  rw [e, e2]
  by_cases h : i + 1 < s.size
  · rw [two_eq h]; simp [h, show i + 2 ≤ s.size by omega]
  · simp [h, show ¬ i + 2 ≤ s.size by omega]
theorem starts_one (s : ByteArray) (i : Nat) (a : UInt8) : startsAt s i ⟨#[a]⟩ = (decide (i < s.size) && (bAt s i == a.toNat)) := by
  unfold startsAt
  have e : (⟨#[a]⟩ : ByteArray).size = 1 := rfl
  have e2 : (⟨#[a]⟩ : ByteArray).toList = [a] := by rw [ByteArray.toList_eq]
  rw [e, e2]
  by_cases h : i < s.size
  · rw [one_eq h]; simp [h, show i + 1 ≤ s.size by omega]
  · simp [h, show ¬ i + 1 ≤ s.size by omega]

theorem sg_long (s : ByteArray) (i : Nat) (h : i + 1 < s.size) : longSign (bAt s i) (bAt s (i + 1)) = true ↔ ∃ j, j < 5 ∧ startsAt s i (sgAt j) = true := by
  constructor
  · intro q
    simp [longSign] at q
    rcases q with (((q | q) | q) | q) | q
    · exact ⟨0, by omega, by rw [sgAt, sgs]; simp only [List.getD_cons_zero]; rw [starts_two]; simp [h, q]⟩
    · exact ⟨1, by omega, by rw [sgAt, sgs]; simp only [List.getD_cons_zero, List.getD_cons_succ]; rw [starts_two]; simp [h, q]⟩
    · exact ⟨2, by omega, by rw [sgAt, sgs]; simp only [List.getD_cons_zero, List.getD_cons_succ]; rw [starts_two]; simp [h, q]⟩
    · exact ⟨3, by omega, by rw [sgAt, sgs]; simp only [List.getD_cons_zero, List.getD_cons_succ]; rw [starts_two]; simp [h, q]⟩
    · exact ⟨4, by omega, by rw [sgAt, sgs]; simp only [List.getD_cons_zero, List.getD_cons_succ]; rw [starts_two]; simp [h, q]⟩
  · rintro ⟨j, hj, q⟩
    rcases (show j = 0 ∨ j = 1 ∨ j = 2 ∨ j = 3 ∨ j = 4 by omega) with rfl | rfl | rfl | rfl | rfl
    all_goals
      simp only [sgAt, sgs, List.getD_cons_zero, List.getD_cons_succ, starts_two] at q
      simp [longSign]
      simp at q
      omega

theorem sg_short (s : ByteArray) (i : Nat) (h : i < s.size) : shortSign (bAt s i) = true ↔ ∃ j, 5 ≤ j ∧ j < 15 ∧ startsAt s i (sgAt j) = true := by
  constructor
  · intro q
    simp [shortSign] at q
    rcases q with (((((((((q | q) | q) | q) | q) | q) | q) | q) | q) | q)
    · exact ⟨5, by omega, by omega, by rw [sgAt, sgs]; simp only [List.getD_cons_zero, List.getD_cons_succ]; rw [starts_one]; simp [h, q]⟩
    · exact ⟨6, by omega, by omega, by rw [sgAt, sgs]; simp only [List.getD_cons_zero, List.getD_cons_succ]; rw [starts_one]; simp [h, q]⟩
    · exact ⟨7, by omega, by omega, by rw [sgAt, sgs]; simp only [List.getD_cons_zero, List.getD_cons_succ]; rw [starts_one]; simp [h, q]⟩
    · exact ⟨8, by omega, by omega, by rw [sgAt, sgs]; simp only [List.getD_cons_zero, List.getD_cons_succ]; rw [starts_one]; simp [h, q]⟩
    · exact ⟨9, by omega, by omega, by rw [sgAt, sgs]; simp only [List.getD_cons_zero, List.getD_cons_succ]; rw [starts_one]; simp [h, q]⟩
    · exact ⟨10, by omega, by omega, by rw [sgAt, sgs]; simp only [List.getD_cons_zero, List.getD_cons_succ]; rw [starts_one]; simp [h, q]⟩
    · exact ⟨11, by omega, by omega, by rw [sgAt, sgs]; simp only [List.getD_cons_zero, List.getD_cons_succ]; rw [starts_one]; simp [h, q]⟩
    · exact ⟨12, by omega, by omega, by rw [sgAt, sgs]; simp only [List.getD_cons_zero, List.getD_cons_succ]; rw [starts_one]; simp [h, q]⟩
    · exact ⟨13, by omega, by omega, by rw [sgAt, sgs]; simp only [List.getD_cons_zero, List.getD_cons_succ]; rw [starts_one]; simp [h, q]⟩
    · exact ⟨14, by omega, by omega, by rw [sgAt, sgs]; simp only [List.getD_cons_zero, List.getD_cons_succ]; rw [starts_one]; simp [h, q]⟩
  · rintro ⟨j, hj, hj', q⟩
    rcases (show j = 5 ∨ j = 6 ∨ j = 7 ∨ j = 8 ∨ j = 9 ∨ j = 10 ∨ j = 11 ∨ j = 12 ∨ j = 13 ∨ j = 14 by omega) with rfl | rfl | rfl | rfl | rfl | rfl | rfl | rfl | rfl | rfl
    all_goals
      simp only [sgAt, sgs, List.getD_cons_zero, List.getD_cons_succ, starts_one] at q
      simp [shortSign]
      simp at q
      omega

theorem starts_fits {s : ByteArray} {i : Nat} {g : ByteArray} (h : startsAt s i g = true) : i + g.size ≤ s.size := by
  simp [startsAt] at h; exact h.1

theorem sg_size (j : Nat) (h : j < 15) : (sgAt j).size = if j < 5 then 2 else 1 := by
  rcases (show j = 0 ∨ j = 1 ∨ j = 2 ∨ j = 3 ∨ j = 4 ∨ j = 5 ∨ j = 6 ∨ j = 7 ∨ j = 8 ∨ j = 9 ∨ j = 10 ∨ j = 11 ∨ j = 12 ∨ j = 13 ∨ j = 14 by omega) with rfl | rfl | rfl | rfl | rfl | rfl | rfl | rfl | rfl | rfl | rfl | rfl | rfl | rfl | rfl <;> rfl

theorem sg_hit {s : ByteArray} {i k : Nat} (hk : k < 15) (ho : ∀ j, j < k → startsAt s i (sgAt j) = false) (h : startsAt s i (sgAt k) = true) : (sgAt k).size = signLen s i := by
  have hf := starts_fits h
  have hz := sg_size k hk
  rw [hz]
  by_cases h5 : k < 5
  · rw [if_pos h5] at hz ⊢
    have hl := (sg_long s i (by omega)).2 ⟨k, h5, h⟩
    unfold signLen; rw [if_pos ⟨by omega, hl⟩]
  · rw [if_neg h5] at hz ⊢
    have hs := (sg_short s i (by omega)).2 ⟨k, by omega, hk, h⟩
    unfold signLen
    rw [if_neg, if_pos ⟨by omega, hs⟩]
    rintro ⟨a, b⟩
    obtain ⟨j, hj, q⟩ := (sg_long s i a).1 b
    rw [ho j (by omega)] at q; cases q

theorem sg_none {s : ByteArray} {i k : Nat} (hk : ¬ k < 15) (ho : ∀ j, j < k → startsAt s i (sgAt j) = false) : signLen s i = 0 := by
  unfold signLen
  rw [if_neg, if_neg]
  · rintro ⟨a, b⟩
    obtain ⟨j, hj, hj', q⟩ := (sg_short s i a).1 b
    rw [ho j (by omega)] at q; cases q
  · rintro ⟨a, b⟩
    obtain ⟨j, hj, q⟩ := (sg_long s i a).1 b
    rw [ho j (by omega)] at q; cases q

/-- The tokens ts have been cut off; the rest begins at i. -/
def Pre (s : ByteArray) (ts : List Tok) (i : Nat) : Prop := ∀ r, Chain s (next s i :: r) → Chain s (ts ++ next s i :: r) ∧ hd (ts ++ next s i :: r) = next s 0

theorem Pre.start (s : ByteArray) : Pre s [] 0 := fun _ h => ⟨h, rfl⟩
theorem next_blank {s : ByteArray} {i : Nat} (h : i < s.size) (hb : blank (bAt s i) = true) : next s i = next s (i + 1) := by
  unfold next; rw [skip_step h hb]
theorem Pre.blank {s : ByteArray} {ts : List Tok} {i : Nat} (p : Pre s ts i) (h : i < s.size) (hb : blank (bAt s i) = true) : Pre s ts (i + 1) := by
  intro r hr; rw [← next_blank h hb] at hr ⊢; exact p r hr
theorem next_here {s : ByteArray} {i : Nat} (h : i < s.size) (hb : blank (bAt s i) = false) : next s i = ⟨kindAt s i, i, s.extract i (endAt s i)⟩ := by
  have e : skip s i = i := skip_stop (by rw [hb]; simp)
  have := @next_tok s i (by rw [e]; exact h)
  rw [e] at this; exact this
theorem Pre.tok {s : ByteArray} {ts : List Tok} {i : Nat} (p : Pre s ts i) (h : i < s.size) (hb : Parl.blank (bAt s i) = false) : Pre s (ts ++ [⟨kindAt s i, i, s.extract i (endAt s i)⟩]) (endAt s i) := by
  intro r hr
  have e : skip s i = i := skip_stop (by rw [hb]; simp)
  have hn := next_here h hb
  have hbh := @next_behind s i (by rw [e]; exact h)
  rw [e] at hbh
  have := p (next s (endAt s i) :: r) ⟨by rw [Ne, next_kind, e]; omega, by rw [hbh], hr⟩
  rw [hn] at this
  simpa using this
theorem Pre.done {s : ByteArray} {ts : List Tok} (p : Pre s ts s.size) : Chain s (ts ++ [⟨0, s.size, ByteArray.empty⟩]) ∧ hd (ts ++ [⟨0, s.size, ByteArray.empty⟩]) = next s 0 := by
  have e : next s s.size = ⟨0, s.size, ByteArray.empty⟩ := next_end (skip_ge s s.size)
  have := p [] (by rw [e]; rfl)
  rw [e] at this; exact this
theorem kind_name {s : ByteArray} {i : Nat} (h : i < s.size) (a : low (bAt s i) = true) : kindAt s i = 2 ∧ endAt s i = wordEnd s 2 i := by
  have e : kindAt s i = 2 := by unfold kindAt; rw [if_neg (by omega), if_pos a]
  exact ⟨e, by unfold endAt; rw [e]; rfl⟩
theorem kind_var {s : ByteArray} {i : Nat} (h : i < s.size) (a : low (bAt s i) = false) (b : upp (bAt s i) = true) : kindAt s i = 3 ∧ endAt s i = wordEnd s 3 i := by
  have e : kindAt s i = 3 := by unfold kindAt; rw [if_neg (by omega), if_neg (by simp [a]), if_pos b]
  exact ⟨e, by unfold endAt; rw [e]; rfl⟩
theorem kind_num {s : ByteArray} {i : Nat} (h : i < s.size) (a : low (bAt s i) = false) (b : upp (bAt s i) = false) (c : dig (bAt s i) = true) : kindAt s i = 4 ∧ endAt s i = wordEnd s 4 i := by
  have e : kindAt s i = 4 := by unfold kindAt; rw [if_neg (by omega), if_neg (by simp [a]), if_neg (by simp [b]), if_pos c]
  exact ⟨e, by unfold endAt; rw [e]; rfl⟩
theorem kind_sign {s : ByteArray} {i : Nat} (h : i < s.size) (a : low (bAt s i) = false) (b : upp (bAt s i) = false) (c : dig (bAt s i) = false) (d : 0 < signLen s i) : kindAt s i = 5 ∧ endAt s i = i + signLen s i := by
  have e : kindAt s i = 5 := by unfold kindAt; rw [if_neg (by omega), if_neg (by simp [a]), if_neg (by simp [b]), if_neg (by simp [c]), if_pos d]
  exact ⟨e, by unfold endAt; rw [e]; rfl⟩
theorem kind_none {s : ByteArray} {i : Nat} (h : i < s.size) (a : low (bAt s i) = false) (b : upp (bAt s i) = false) (c : dig (bAt s i) = false) (d : ¬ 0 < signLen s i) : kindAt s i = 1 ∧ endAt s i = i + 1 := by
  have e : kindAt s i = 1 := by unfold kindAt; rw [if_neg (by omega), if_neg (by simp [a]), if_neg (by simp [b]), if_neg (by simp [c]), if_neg d]
  exact ⟨e, by unfold endAt; rw [e]; rfl⟩
end Parl
namespace Parl
theorem Chain.len {s : ByteArray} : ∀ (n p : Nat) (l : List Tok), Chain s l → hd l = next s p → s.size - p ≤ n → l.length ≤ n + 1 := by
  intro n
  induction n with
  | zero =>
    intro p l h hh hn
    match l, h with
    | [t], _ => simp
    | t :: u :: r, h =>
      have ht : t = next s p := hh
      have h0 : t.kind ≠ 0 := h.1
      rw [ht, Ne, next_kind] at h0
      have := skip_ge s p
      omega
  | succ n ih =>
    intro p l h hh hn
    match l, h with
    | [t], _ => simp
    | t :: u :: r, h =>
      have ht : t = next s p := hh
      have h0 : t.kind ≠ 0 := h.1
      have hu : u = next s (t.pos + t.text.size) := h.2.1
      rw [ht, Ne, next_kind] at h0
      have h1 := skip_ge s p
      have h2 := endAt_gt (s := s) (i := skip s p) (by omega)
      have h3 : t.pos + t.text.size = endAt s (skip s p) := by rw [ht]; exact next_behind (by omega)
      have := ih (t.pos + t.text.size) (u :: r) h.2.2 hu (by omega)
      simp only [List.length_cons] at this ⊢
      omega
/-- Every text has its tokens. -/
theorem toks_of (s : ByteArray) : ∃ L, Chain s L ∧ hd L = next s 0 ∧ (s.size ≤ 240 → L.length ≤ 1000) := by
  obtain ⟨l, hl⟩ := chain_is s s.size 0 (by omega)
  exact ⟨_, hl, rfl, fun hs => by have := hl.len s.size 0 _ rfl (by omega); omega⟩
end Parl
namespace Parl

/-- Behind a term in brackets: k more at most. -/
def contArgs (p : List Tok → Res Tm) (k : Nat) (l1 : List Tok) : Res (List Tm) :=
  if sees l1 [44] = true then (match k with
    | 0 => bad 3 l1
    | k + 1 => argsOf p k l1.tail)
  else if sees l1 [41] = true then .inr ([], l1.tail) else bad 2 l1
def preT (ts : List Tm) (r : Res (List Tm)) : Res (List Tm) := match r with
  | .inl e => .inl e
  | .inr (us, l2) => .inr (ts ++ us, l2)

theorem args_cont (p : List Tok → Res Tm) (k : Nat) (l : List Tok) : argsOf p k l = match p l with
    | .inl e => .inl e
    | .inr (t, l1) => preT [t] (contArgs p k l1) := by
  unfold argsOf contArgs
  rcases p l with e | ⟨t, l1⟩
  · rfl
  · dsimp only
    by_cases hc : sees l1 [44] = true
    · rw [if_pos hc, if_pos hc]
      cases k with
      | zero => rfl
      | succ k =>
        dsimp only
        rcases argsOf p k l1.tail with e | ⟨us, l2⟩ <;> rfl
    · rw [if_neg hc, if_neg hc]
      by_cases hb : sees l1 [41] = true
      · rw [if_pos hb, if_pos hb]; rfl
      · rw [if_neg hb, if_neg hb]; rfl
theorem preT_preT (a b : List Tm) (r : Res (List Tm)) : preT a (preT b r) = preT (a ++ b) r := by rcases r with e | ⟨us, l2⟩ <;> simp [preT]

theorem argsOf_err {p : List Tok → Res Tm} (hp : ∀ l e, p l = .inl e → e.1 = 2 ∨ e.1 = 3) : ∀ k l e, argsOf p k l = .inl e → e.1 = 2 ∨ e.1 = 3 := by
  intro k
  induction k with
  | zero =>
    intro l e h
    rw [args_cont] at h
    rcases hr : p l with x | ⟨t, l1⟩
    · rw [hr] at h; injection h with h; subst h; exact hp _ _ hr
    · rw [hr] at h
      dsimp only at h
      unfold contArgs at h
      by_cases hc : sees l1 [44] = true
      · rw [if_pos hc] at h; simp only [preT, bad, Sum.inl.injEq] at h; subst h; exact Or.inr rfl
      · rw [if_neg hc] at h
        by_cases hb : sees l1 [41] = true
        · rw [if_pos hb] at h; cases h
        · rw [if_neg hb] at h; simp only [preT, bad, Sum.inl.injEq] at h; subst h; exact Or.inl rfl
  | succ k ih =>
    intro l e h
    rw [args_cont] at h
    rcases hr : p l with x | ⟨t, l1⟩
    · rw [hr] at h; injection h with h; subst h; exact hp _ _ hr
    · rw [hr] at h
      dsimp only at h
      unfold contArgs at h
      by_cases hc : sees l1 [44] = true
      · rw [if_pos hc] at h
        dsimp only at h
        rcases hq : argsOf p k l1.tail with x | ⟨us, l2⟩
        · rw [hq] at h; simp only [preT, Sum.inl.injEq] at h; subst h; exact ih _ _ hq
        · rw [hq] at h; cases h
      · rw [if_neg hc] at h
        by_cases hb : sees l1 [41] = true
        · rw [if_pos hb] at h; cases h
        · rw [if_neg hb] at h; simp only [preT, bad, Sum.inl.injEq] at h; subst h; exact Or.inl rfl

theorem term_err : ∀ f l e, term f l = .inl e → e.1 = 2 ∨ e.1 = 3 := by
  intro f
  induction f with
  | zero =>
    intro l e h
    rw [term] at h
    by_cases hb : begins (hd l) = true
    · rw [if_pos hb] at h; injection h with h; subst h; exact Or.inr rfl
    · rw [if_neg hb] at h; injection h with h; subst h; exact Or.inl rfl
  | succ f ih =>
    intro l e h
    rw [term] at h
    by_cases hb : begins (hd l) = true
    · rw [if_pos hb] at h
      by_cases hl : (hd l).kind = 4 ∧ 6 < (hd l).text.size
      · rw [if_pos hl] at h; injection h with h; subst h; exact Or.inr rfl
      · rw [if_neg hl] at h
        by_cases hk : (hd l).kind = 2
        · rw [if_pos hk] at h
          by_cases hs : sees l.tail [40] = true
          · rw [if_pos hs] at h
            rcases hq : argsOf (term f) 2 l.tail.tail with x | ⟨us, l2⟩
            · rw [hq] at h; injection h with h; subst h; exact argsOf_err ih _ _ _ hq
            · rw [hq] at h; cases h
          · rw [if_neg hs] at h; cases h
        · rw [if_neg hk] at h; cases h
    · rw [if_neg hb] at h; injection h with h; subst h; exact Or.inl rfl
end Parl
namespace Parl

/-- The look behind it. -/
def neither {α : Type} (r : Res (α × Bool × Bool)) : Res (α × Bool × Bool) := match r with
  | .inl e => .inl e
  | .inr ((x, t, g), l1) => if t = false ∧ g = false then bad 2 l1 else .inr ((x, t, g), l1)

def preI (ys : List Itm) (r : Res (List Itm × Bool × Bool)) : Res (List Itm × Bool × Bool) := match r with
  | .inl e => .inl e
  | .inr ((xs, t, g), l2) => .inr ((ys ++ xs, t, g), l2)
end Parl
namespace Parl

theorem Chain.toks {s : ByteArray} {l : List Tok} (h : Chain s l) (hh : ∃ p, hd l = next s p) : ∀ t ∈ l, ∃ p, t = next s p := by
  induction l with
  | nil => intro t ht; cases ht
  | cons a r ih =>
    intro t ht
    rcases List.mem_cons.1 ht with rfl | ht
    · exact hh
    · cases r with
      | nil => cases ht
      | cons b r => exact ih h.2.2 ⟨_, h.2.1⟩ t ht
theorem Chain.kinds {s : ByteArray} {l : List Tok} (h : Chain s l) (hh : ∃ p, hd l = next s p) (hs : s.size ≤ 240) : ∀ t ∈ l, t.kind ≤ 5 ∧ t.text.size ≤ 240 := by
  intro t ht
  obtain ⟨p, rfl⟩ := h.toks hh t ht
  have := next_fits (s := s) (p := p)
  exact ⟨next_kind_le, by omega⟩
theorem Chain.pos {s : ByteArray} {l : List Tok} (h : Chain s l) : 0 < l.length := by
  cases l with
  | nil => exact h.elim
  | cons a r => simp

end Parl
namespace Parl
/-- The value of digits, as it is reckoned. -/
def numL (l : List UInt8) : Nat := l.foldl (fun v b => v * 10 + (b.toNat + 208) % 256) 0
def numOf (x : ByteArray) : Nat := numL x.toList
theorem numL_snoc (l : List UInt8) (b : UInt8) : numL (l ++ [b]) = numL l * 10 + (b.toNat + 208) % 256 := by simp [numL]
theorem numF_le (l : List UInt8) : ∀ v m : Nat, 9 * v + 255 ≤ 255 * m → 9 * l.foldl (fun v b => v * 10 + (b.toNat + 208) % 256) v + 255 ≤ 255 * (m * 10 ^ l.length) := by
  induction l with
  | nil => intro v m h; simpa using h
  | cons b r ih =>
    intro v m h
    have := ih (v * 10 + (b.toNat + 208) % 256) (m * 10) (by omega)
    rw [List.foldl_cons, List.length_cons, Nat.pow_succ, Nat.mul_comm (10 ^ r.length) 10, ← Nat.mul_assoc m 10]
    exact this
theorem numL_le (l : List UInt8) (h : l.length ≤ 6) : numL l ≤ 28333333 := by
  have := numF_le l 0 1 (by omega)
  have h6 : 10 ^ l.length ≤ 10 ^ 6 := Nat.pow_le_pow_right (by omega) h
  unfold numL
  generalize 10 ^ l.length = q at *
  omega
end Parl
namespace Go.Proofs.YthfjnfcekeknlaaGreatDoor
/-- Two lists, one by one. -/
def All2 {α β : Type} (R : α → β → Prop) : List α → List β → Prop
  | [], [] => True
  | a :: xs, b :: ys => R a b ∧ All2 R xs ys
  | _, _ => False
theorem All2.imp {α β : Type} {R S : α → β → Prop} (h : ∀ a b, R a b → S a b) : ∀ {xs : List α} {ys : List β}, All2 R xs ys → All2 S xs ys
  | [], [], _ => trivial
  | _ :: _, _ :: _, q => ⟨h _ _ q.1, All2.imp h q.2⟩
theorem All2.length {α β : Type} {R : α → β → Prop} : ∀ {xs : List α} {ys : List β}, All2 R xs ys → xs.length = ys.length
  | [], [], _ => rfl
  | _ :: _, _ :: _, q => by simp [All2.length q.2]
theorem All2.snoc {α β : Type} {R : α → β → Prop} {a : α} {b : β} (h : R a b) : ∀ {xs : List α} {ys : List β}, All2 R xs ys → All2 R (xs ++ [a]) (ys ++ [b])
  | [], [], _ => ⟨h, trivial⟩
  | _ :: _, _ :: _, q => ⟨q.1, All2.snoc h q.2⟩
open Go
theorem num_next {g : ByteArray} {k : Nat} (h : k < g.size) : Parl.numL (g.toList.take (k + 1)) = Parl.numL (g.toList.take k) * 10 + (g[k].toNat + 208) % 256 := by
  rw [← Parl.numL_snoc]
  congr 1
  obtain ⟨d⟩ := g
  rw [ByteArray.toList_mk]
  have h' : k < d.toList.length := by rw [Array.length_toList]; exact h
  rw [List.take_add_one, List.getElem?_eq_getElem h']
  rfl
theorem num_all (g : ByteArray) : Parl.numL (g.toList.take g.size) = Parl.numOf g := by
  obtain ⟨d⟩ := g
  unfold Parl.numOf
  rw [ByteArray.toList_mk]
  congr 1
  exact List.take_of_length_le (by simp [ByteArray.size])
end Go.Proofs.YthfjnfcekeknlaaGreatDoor
namespace Parl
/-- So deep at most. -/
def wfD : Nat → Tm → Prop
  | 0, _ => False
  | f + 1, t => ∀ a ∈ t.args, wfD f a
theorem wfD_args {f : Nat} {p : List Tok → Res Tm} (hp : ∀ l t l1, p l = .inr (t, l1) → wfD f t) : ∀ (k : Nat) (l : List Tok) (ts : List Tm) (l2 : List Tok), argsOf p k l = .inr (ts, l2) → ∀ t ∈ ts, wfD f t := by
  intro k
  induction k with
  | zero =>
    intro l ts l2 h
    unfold argsOf at h
    rcases hq : p l with e | ⟨t, l1⟩
    · rw [hq] at h; cases h
    · rw [hq] at h
      dsimp only at h
      by_cases h1 : sees l1 [44] = true
      · rw [if_pos h1] at h; cases h
      · rw [if_neg h1] at h
        by_cases h2 : sees l1 [41] = true
        · rw [if_pos h2] at h
          cases h
          intro x hx
          obtain rfl : x = t := by simpa using hx
          exact hp _ _ _ hq
        · rw [if_neg h2] at h; cases h
  | succ k ih =>
    intro l ts l2 h
    rw [argsOf] at h
    rcases hq : p l with e | ⟨t, l1⟩
    · rw [hq] at h; cases h
    · rw [hq] at h
      dsimp only at h
      by_cases h1 : sees l1 [44] = true
      · rw [if_pos h1] at h
        rcases hr : argsOf p k l1.tail with e | ⟨us, l3⟩
        · rw [hr] at h; cases h
        · rw [hr] at h
          cases h
          intro x hx
          rcases List.mem_cons.1 hx with rfl | hx
          · exact hp _ _ _ hq
          · exact ih _ _ _ hr x hx
      · rw [if_neg h1] at h
        by_cases h2 : sees l1 [41] = true
        · rw [if_pos h2] at h
          cases h
          intro x hx
          obtain rfl : x = t := by simpa using hx
          exact hp _ _ _ hq
        · rw [if_neg h2] at h; cases h
theorem wfD_term : ∀ (f : Nat) (l : List Tok) (t : Tm) (l1 : List Tok), term f l = .inr (t, l1) → wfD f t := by
  intro f
  induction f with
  | zero => intro l t l1 h; rw [term] at h; split at h <;> cases h
  | succ f ih =>
    intro l t l1 h
    rw [term] at h
    by_cases hb : begins (hd l) = true
    · rw [if_pos hb] at h
      by_cases hc : (hd l).kind = 4 ∧ 6 < (hd l).text.size
      · rw [if_pos hc] at h; cases h
      · rw [if_neg hc] at h
        by_cases h2 : (hd l).kind = 2
        · rw [if_pos h2] at h
          by_cases hs : sees l.tail [40] = true
          · rw [if_pos hs] at h
            rcases hq : argsOf (term f) 2 l.tail.tail with x | ⟨us, l2⟩
            · rw [hq] at h; cases h
            · rw [hq] at h; cases h
              exact wfD_args ih _ _ _ _ hq
          · rw [if_neg hs] at h; cases h
            intro a ha; cases ha
        · rw [if_neg h2] at h; cases h
          intro a ha; cases ha
    · rw [if_neg hb] at h; cases h
def wfI (x : Itm) : Prop := (wfD 8 x.left ∧ (∀ r, x.right = some r → wfD 8 r) ∧ (∀ z, x.last = some z → wfD 8 z)) ∧ (x.sign = [] ↔ x.right = none) ∧ (x.op = [] ↔ x.last = none) ∧ x.sign.length ≤ 2 ∧ x.op.length ≤ 2 ∧ (x.right = none → x.last = none)
def wfC (c : Cls) : Prop := wfD 8 c.head ∧ (∀ x ∈ c.tests, wfI x) ∧ c.tests.length ≤ 6 ∧ (∀ x ∈ c.goals, wfI x) ∧ c.goals.length ≤ 6
end Parl
namespace Parl
/-- A name joins the list, if it is new. -/
def addN (ns : List (List UInt8)) (x : List UInt8) : List (List UInt8) := if x ∈ ns then ns else ns ++ [x]
def argS : List (List UInt8) → List UInt8
  | [] => []
  | x :: xs => 40 :: x ++ xs.flatMap (fun y => 44 :: y) ++ [41]
/-- A term as it is written; N: the clause's variables. -/
def strF : Nat → List (List UInt8) → Tm → List UInt8
  | 0, _, _ => []
  | f + 1, N, t => if t.kind = 3 then 86 :: Go.Lib.decDigits (N.idxOf t.text.toList) else if t.kind = 4 then Go.Lib.decDigits (numOf t.text) else t.text.toList ++ argS (t.args.map (strF f N))
/-- The variables that have been met behind it. -/
def namesF : Nat → List (List UInt8) → Tm → List (List UInt8)
  | 0, ns, _ => ns
  | f + 1, ns, t => if t.kind = 3 then addN ns t.text.toList else if t.kind = 4 then ns else t.args.foldl (namesF f) ns
/-- Within the bounds. -/
def ok3 : Nat → Tm → Prop
  | 0, _ => False
  | f + 1, t => t.text.size ≤ 240 ∧ t.args.length ≤ 3 ∧ (t.kind = 4 → t.text.size ≤ 6) ∧ ∀ a ∈ t.args, ok3 f a

theorem addN_ext (ns : List (List UInt8)) (x : List UInt8) : ∃ M, addN ns x = ns ++ M ∧ M.length ≤ 1 := by
  unfold addN
  by_cases h : x ∈ ns
  · rw [if_pos h]; exact ⟨[], by simp, by simp⟩
  · rw [if_neg h]; exact ⟨[x], rfl, by simp⟩
theorem addN_idx (ns M : List (List UInt8)) (x : List UInt8) : (addN ns x ++ M).idxOf x = ns.idxOf x := by
  unfold addN
  by_cases h : x ∈ ns
  · rw [if_pos h, List.idxOf_append, if_pos h]
  · rw [if_neg h, List.append_assoc, List.idxOf_append, if_neg h]
    simp [List.idxOf_eq_length h]
theorem fold_ext {F : List (List UInt8) → Tm → List (List UInt8)} {c : Nat} : ∀ (ts : List Tm), (∀ t ∈ ts, ∀ ns, ∃ M, F ns t = ns ++ M ∧ M.length ≤ c) → ∀ ns, ∃ M, ts.foldl F ns = ns ++ M ∧ M.length ≤ ts.length * c
  | [], _, ns => ⟨[], by simp, by simp⟩
  | t :: ts, h, ns => by
    obtain ⟨M, hM, hl⟩ := h t (by simp) ns
    obtain ⟨M2, hM2, hl2⟩ := fold_ext ts (fun u hu => h u (by simp [hu])) (F ns t)
    refine ⟨M ++ M2, by rw [List.foldl_cons, hM2, hM, List.append_assoc], ?_⟩
    rw [List.length_append, List.length_cons, Nat.add_mul]
    omega
theorem namesF_ext : ∀ (f : Nat) (t : Tm), ok3 f t → ∀ ns, ∃ M, namesF f ns t = ns ++ M ∧ M.length ≤ 3 ^ f
  | 0, _, h, _ => h.elim
  | f + 1, t, h, ns => by
    obtain ⟨h1, h2, h3, h4⟩ := h
    unfold namesF
    by_cases hk : t.kind = 3
    · rw [if_pos hk]
      obtain ⟨M, hM, hl⟩ := addN_ext ns t.text.toList
      exact ⟨M, hM, Nat.le_trans hl (Nat.one_le_pow _ _ (by omega))⟩
    · rw [if_neg hk]
      by_cases hk4 : t.kind = 4
      · rw [if_pos hk4]
        exact ⟨[], by simp, Nat.zero_le _⟩
      rw [if_neg hk4]
      obtain ⟨M, hM, hl⟩ := fold_ext (c := 3 ^ f) t.args (fun u hu => namesF_ext f u (h4 u hu)) ns
      refine ⟨M, hM, Nat.le_trans hl ?_⟩
      rw [Nat.pow_succ, Nat.mul_comm]
      exact Nat.mul_le_mul_left _ h2
def argP : List (List UInt8) → List UInt8
  | [] => []
  | x :: xs => 40 :: x ++ xs.flatMap (fun y => 44 :: y)
theorem argP_more (l : List (List UInt8)) (x : List UInt8) (h : l ≠ []) : argP (l ++ [x]) = argP l ++ 44 :: x := by
  cases l with
  | nil => exact absurd rfl h
  | cons y ys => simp [argP]
theorem argS_end (l : List (List UInt8)) (h : l ≠ []) : argS l = argP l ++ [41] := by
  cases l with
  | nil => exact absurd rfl h
  | cons y ys => simp [argS, argP]
theorem argP_len {c : Nat} : ∀ (l : List (List UInt8)), (∀ x ∈ l, x.length ≤ c) → (argP l).length ≤ l.length * (c + 1)
  | [], _ => by simp [argP]
  | x :: xs, h => by
    have h1 := h x (by simp)
    have : ∀ (ys : List (List UInt8)), (∀ y ∈ ys, y.length ≤ c) → (ys.flatMap (fun y => 44 :: y)).length ≤ ys.length * (c + 1) := by
      intro ys
      induction ys with
      | nil => intro _; simp
      | cons y ys ih =>
        intro h
        have a := h y (by simp)
        have b := ih (fun z hz => h z (by simp [hz]))
        rw [List.flatMap_cons, List.length_append, List.length_cons, List.length_cons, Nat.add_mul]
        omega
    have h2 := this xs (fun y hy => h y (by simp [hy]))
    simp only [argP, List.cons_append, List.length_cons, List.length_append, Nat.add_mul]
    omega
theorem bytes_len (b : ByteArray) : b.toList.length = b.size := by
  obtain ⟨d⟩ := b
  rw [Go.ByteArray.toList_mk]
  simp [ByteArray.size]
end Parl
namespace Parl
def strI (N : List (List UInt8)) (x : Itm) : List UInt8 :=
  strF 8 N x.left ++ (match x.right with
    | none => []
    | some r => x.sign ++ strF 8 N r) ++ (match x.last with
    | none => []
    | some z => x.op ++ strF 8 N z)
def nameO (ns : List (List UInt8)) : Option Tm → List (List UInt8)
  | none => ns
  | some t => namesF 8 ns t
def namesI (ns : List (List UInt8)) (x : Itm) : List (List UInt8) := nameO (nameO (namesF 8 ns x.left) x.right) x.last
def okI (x : Itm) : Prop := ok3 8 x.left ∧ (∀ r, x.right = some r → ok3 8 r) ∧ (∀ z, x.last = some z → ok3 8 z)
theorem nameO_ext {ns : List (List UInt8)} {t : Option Tm} (h : ∀ r, t = some r → ok3 8 r) : ∃ M, nameO ns t = ns ++ M ∧ M.length ≤ 3 ^ 8 := by
  cases t with
  | none => exact ⟨[], by simp [nameO], by simp⟩
  | some r => exact namesF_ext 8 r (h r rfl) ns
theorem namesI_ext (x : Itm) (h : okI x) (ns : List (List UInt8)) : ∃ M, namesI ns x = ns ++ M ∧ M.length ≤ 20000 := by
  obtain ⟨M1, h1, l1⟩ := namesF_ext 8 x.left h.1 ns
  obtain ⟨M2, h2, l2⟩ := nameO_ext (ns := namesF 8 ns x.left) (t := x.right) h.2.1
  obtain ⟨M3, h3, l3⟩ := nameO_ext (ns := nameO (namesF 8 ns x.left) x.right) (t := x.last) h.2.2
  refine ⟨M1 ++ (M2 ++ M3), by unfold namesI; rw [h3, h2, h1]; simp, ?_⟩
  simp at l1 l2 l3 ⊢
  omega
end Parl
namespace Parl
def joinC : List (List UInt8) → List UInt8
  | [] => []
  | x :: xs => x ++ xs.flatMap (fun y => 44 :: 32 :: y)
def namesL (ns : List (List UInt8)) (xs : List Itm) : List (List UInt8) := xs.foldl namesI ns
def strL (N : List (List UInt8)) (xs : List Itm) : List UInt8 := joinC (xs.map (strI N))
theorem foldA_ext {α : Type} {F : List (List UInt8) → α → List (List UInt8)} {c : Nat} (xs : List α) : (∀ t ∈ xs, ∀ ns, ∃ M, F ns t = ns ++ M ∧ M.length ≤ c) → ∀ ns, ∃ M, xs.foldl F ns = ns ++ M ∧ M.length ≤ xs.length * c := by
  induction xs with
  | nil => exact fun _ ns => ⟨[], by simp, by simp⟩
  | cons t ts ih =>
    intro h ns
    obtain ⟨M, hM, hl⟩ := h t (by simp) ns
    obtain ⟨M2, hM2, hl2⟩ := ih (fun u hu => h u (by simp [hu])) (F ns t)
    refine ⟨M ++ M2, by rw [List.foldl_cons, hM2, hM, List.append_assoc], ?_⟩
    rw [List.length_append, List.length_cons, Nat.add_mul]
    omega
theorem foldI_ext (xs : List Itm) (h : ∀ x ∈ xs, okI x) (ns : List (List UInt8)) : ∃ M, xs.foldl namesI ns = ns ++ M ∧ M.length ≤ xs.length * 20000 :=
  foldA_ext (F := namesI) (c := 20000) xs (fun t ht => namesI_ext t (h t ht)) ns
end Parl
namespace Parl
def NH (c : Cls) : List (List UInt8) := namesF 8 [] c.head
def NT (c : Cls) : List (List UInt8) := namesL (NH c) c.tests
def NG (c : Cls) : List (List UInt8) := namesL (NT c) c.goals
def midC (c : Cls) : List UInt8 := if c.goals.length = 0 then [] else [32, 58, 45, 32]
def guardC (N : List (List UInt8)) (c : Cls) : List UInt8 := if c.tests.length = 0 then [] else strL N c.tests ++ [32, 124, 32]
/-- A clause as it is written. -/
def strC (c : Cls) : List UInt8 := strF 8 (NG c) c.head ++ midC c ++ guardC (NG c) c ++ strL (NG c) c.goals ++ [46, 10]
def strP (cs : List Cls) : List UInt8 := cs.flatMap strC
def okC (c : Cls) : Prop := ok3 8 c.head ∧ (∀ x ∈ c.tests, okI x) ∧ (∀ x ∈ c.goals, okI x)
end Parl
namespace Parl
end Parl
namespace Go.Proofs.YthfjnfcekeknlaaGreatDoor
open Go
theorem dec_len : ∀ (k n : Nat), n < 10 ^ (k + 1) → (Lib.decDigits n).length ≤ k + 1
  | 0, n, h => by rw [Lib.decDigits, dif_pos (by omega)]; simp
  | k + 1, n, h => by
    rw [Lib.decDigits]
    by_cases h10 : n < 10
    · rw [dif_pos h10]; simp
    · rw [dif_neg h10]
      have := dec_len k (n / 10) (by rw [Nat.pow_succ] at h; omega)
      simp
      exact this
theorem ba_app (l m : List UInt8) : (⟨l.toArray⟩ : ByteArray) ++ ⟨m.toArray⟩ = ⟨(l ++ m).toArray⟩ := by
  show (⟨l.toArray⟩ : ByteArray).append ⟨m.toArray⟩ = _
  simp [ByteArray.append]
theorem ba_self (b : ByteArray) : (⟨b.toList.toArray⟩ : ByteArray) = b := by
  obtain ⟨d⟩ := b
  rw [ByteArray.toList_mk]
theorem All2.at {α β : Type} {R : α → β → Prop} : ∀ {xs : List α} {ys : List β}, All2 R xs ys → ∀ (i : Nat) (h : i < xs.length) (h' : i < ys.length), R xs[i] ys[i]
  | _ :: _, _ :: _, q, 0, _, _ => q.1
  | _ :: _, _ :: _, q, i + 1, h, h' => All2.at q.2 i (by simpa using h) (by simpa using h')
theorem ba_lit (c : UInt8) : (⟨#[c]⟩ : ByteArray) = ⟨[c].toArray⟩ := rfl
theorem lt_str0 (X A : List UInt8) (l : List (List UInt8)) (h : l = []) : (⟨(X ++ Parl.argP l).toArray⟩ : ByteArray) ++ ⟨#[40]⟩ ++ ⟨A.toArray⟩ = ⟨(X ++ Parl.argP (l ++ [A])).toArray⟩ := by
  subst h
  rw [ba_lit, ba_app, ba_app]
  simp [Parl.argP]
theorem lt_str1 (X A : List UInt8) (l : List (List UInt8)) (h : l ≠ []) : (⟨(X ++ Parl.argP l).toArray⟩ : ByteArray) ++ ⟨#[44]⟩ ++ ⟨A.toArray⟩ = ⟨(X ++ Parl.argP (l ++ [A])).toArray⟩ := by
  rw [ba_lit, ba_app, ba_app, Parl.argP_more _ _ h]
  simp
theorem lt_strE (X : List UInt8) (l : List (List UInt8)) (h : l ≠ []) : (⟨(X ++ Parl.argP l).toArray⟩ : ByteArray) ++ ⟨#[41]⟩ = ⟨(X ++ Parl.argS l).toArray⟩ := by
  rw [ba_lit, ba_app, Parl.argS_end _ h]
  simp
theorem All2.impM {α β : Type} {R S : α → β → Prop} : ∀ {xs : List α} {ys : List β}, (∀ a b, b ∈ ys → R a b → S a b) → All2 R xs ys → All2 S xs ys
  | [], [], _, _ => trivial
  | _ :: _, _ :: _, h, q => ⟨h _ _ (by simp) q.1, All2.impM (fun a b hb => h a b (by simp [hb])) q.2⟩
end Go.Proofs.YthfjnfcekeknlaaGreatDoor
namespace Go.Proofs.YthfjnfcekeknlaaGreatDoor
open Go.RowKit

theorem hide {p : Prop} (h : p) : Hid p := h
theorem unhide {p : Prop} (h : Hid p) : p := h
theorem ret_bool {a b : Bool} (h : a = b) : Ending.returned (.bool a) = .returned (.bool b) := by rw [h]
theorem ret_int {k : IntKind} {a b : Int} (h : a = b) : Ending.returned (.int k a) = .returned (.int k b) := by rw [h]

theorem isBlank_any (c : Nat) (w : World) : Calls Tryz.prog 123 #[.int .u8 (c : Int)] w fun e w' => e = .returned (.bool (Parl.blank c)) ∧ w' = w := by
  by_cases h1 : c = 32
  · subst h1
    go_enter Tryz.func123, Tryz.ntmps123
    go_wp2
    go_ret
    exact ⟨rfl, rfl⟩
  · have e1 : ((c : Int) == 32) = false := by simp; omega
    by_cases h2 : c = 10
    · subst h2
      go_enter Tryz.func123, Tryz.ntmps123
      go_wp2
      go_ret
      exact ⟨rfl, rfl⟩
    · have e2 : ((c : Int) == 10) = false := by simp; omega
      go_enter Tryz.func123, Tryz.ntmps123
      go_wp2
      go_ret
      exact ⟨by simp [Parl.blank, h1, h2], rfl⟩

theorem isSmall_any (c : Nat) (w : World) : Calls Tryz.prog 124 #[.int .u8 (c : Int)] w fun e w' => e = .returned (.bool (Parl.low c)) ∧ w' = w := by
  by_cases h1 : 97 ≤ c
  all_goals
    go_enter Tryz.func124, Tryz.ntmps124
    go_wp2
    go_ret
    exact ⟨ret_bool (by rw [Bool.eq_iff_iff]; simp [Parl.low]; omega), rfl⟩

theorem isCapital_any (c : Nat) (w : World) : Calls Tryz.prog 125 #[.int .u8 (c : Int)] w fun e w' => e = .returned (.bool (Parl.upp c)) ∧ w' = w := by
  by_cases h1 : 65 ≤ c
  all_goals
    go_enter Tryz.func125, Tryz.ntmps125
    go_wp2
    go_ret
    exact ⟨ret_bool (by rw [Bool.eq_iff_iff]; simp [Parl.upp]; omega), rfl⟩

theorem isDigit_any (c : Nat) (w : World) : Calls Tryz.prog 126 #[.int .u8 (c : Int)] w fun e w' => e = .returned (.bool (Parl.dig c)) ∧ w' = w := by
  by_cases h1 : 48 ≤ c
  all_goals
    go_enter Tryz.func126, Tryz.ntmps126
    go_wp2
    go_ret
    exact ⟨ret_bool (by rw [Bool.eq_iff_iff]; simp [Parl.dig]; omega), rfl⟩

theorem goesOn_any (k c : Nat) (w : World) : Calls Tryz.prog 175 #[.int .i64 (k : Int), .int .u8 (c : Int)] w fun e w' => e = .returned (.bool (Parl.inWord k c)) ∧ w' = w := by
  by_cases h2 : k = 2
  · subst h2
    cases hl : Parl.low c
    all_goals
      go_enter Tryz.func175, Tryz.ntmps175
      go_wp2_with (first | (go_at_call 124; refine (isSmall_any _ _).mono ?_; rintro e w' ⟨rfl, rfl⟩) | (go_at_call 126; refine (isDigit_any _ _).mono ?_; rintro e w' ⟨rfl, rfl⟩))
      go_ret
      exact ⟨ret_bool (by simp [Parl.inWord, hl]), rfl⟩
  · have e2 : ((k : Int) == 2) = false := by simp; omega
    by_cases h3 : k = 3
    · subst h3
      cases hl : Parl.low c <;> cases hd : Parl.dig c
      all_goals
        go_enter Tryz.func175, Tryz.ntmps175
        go_wp2_with (first | (go_at_call 124; refine (isSmall_any _ _).mono ?_; rintro e w' ⟨rfl, rfl⟩) | (go_at_call 126; refine (isDigit_any _ _).mono ?_; rintro e w' ⟨rfl, rfl⟩) | (go_at_call 125; refine (isCapital_any _ _).mono ?_; rintro e w' ⟨rfl, rfl⟩))
        go_ret
        exact ⟨ret_bool (by simp [Parl.inWord, hl, hd]), rfl⟩
    · have e3 : ((k : Int) == 3) = false := by simp; omega
      go_enter Tryz.func175, Tryz.ntmps175
      go_wp2_with (first | (go_at_call 126; refine (isDigit_any _ _).mono ?_; rintro e w' ⟨rfl, rfl⟩))
      go_ret
      exact ⟨ret_bool (by simp [Parl.inWord, h2, h3]), rfl⟩

theorem skipBlanks_any (s : ByteArray) (p : Nat) (w : World) (hs : s.size ≤ maxLen) (hp : p ≤ s.size) :
    Calls Tryz.prog 71 #[.string s, .int .i64 (p : Int)] w fun e w' => e = .returned (.int .i64 ((Parl.skip s p : Nat) : Int)) ∧ w' = w := by
  unfold maxLen at hs
  go_enter Tryz.func71, Tryz.ntmps71
  go_wp2
  go_loop [5] (fun i => ∃ k : Nat, k ≤ s.size ∧ Hid (Parl.skip s k = Parl.skip s p) ∧ i = .int .i64 k) (fun i => s.size - (intOf i).toNat)
  case atStart => exact ⟨p, hp, rfl, rfl⟩
  case round =>
    obtain ⟨k, hk, hsk, rfl⟩ := hrel
    by_cases hlt : k < s.size
    · cases hb : Parl.blank (s[k].toNat)
      · have hst : Hid (Parl.skip s p = k) := by rw [← hsk.out]; exact Parl.skip_stop (by rw [Parl.bAt_lt hlt, hb]; simp)
        go_wp2_with (go_at_call 123; refine (isBlank_any _ _).mono ?_; rintro e w' ⟨rfl, rfl⟩)
        go_ret
        exact ⟨ret_int (by rw [hst.out]), rfl⟩
      · have hst : Hid (Parl.skip s (k + 1) = Parl.skip s p) := by rw [← hsk.out]; exact (Parl.skip_step hlt (by rw [Parl.bAt_lt hlt, hb])).symm
        go_wp2_with (go_at_call 123; refine (isBlank_any _ _).mono ?_; rintro e w' ⟨rfl, rfl⟩)
        go_round
        case rel => exact ⟨k + 1, by omega, hst, by go_num⟩
        case measure => simp [intOf]; omega
    · have hst : Hid (Parl.skip s p = k) := by rw [← hsk.out]; exact Parl.skip_stop (by omega)
      go_wp2
      go_ret
      exact ⟨ret_int (by rw [hst.out]), rfl⟩

theorem wordLength_any (k : Nat) (s : ByteArray) (w : World) (hs : s.size ≤ maxLen) :
    Calls Tryz.prog 128 #[.int .i64 (k : Int), .string s] w fun e w' => e = .returned (.int .i64 ((Parl.wordEnd s k 0 : Nat) : Int)) ∧ w' = w := by
  unfold maxLen at hs
  go_enter Tryz.func128, Tryz.ntmps128
  go_wp2
  go_loop [5] (fun i => ∃ j : Nat, j ≤ s.size ∧ Hid (Parl.wordEnd s k j = Parl.wordEnd s k 0) ∧ i = .int .i64 j) (fun i => s.size - (intOf i).toNat)
  case atStart => exact ⟨0, by omega, rfl, rfl⟩
  case round =>
    obtain ⟨j, hj, hsk, rfl⟩ := hrel
    by_cases hlt : j < s.size
    · cases hb : Parl.inWord k (s[j].toNat)
      · have hst : Hid (Parl.wordEnd s k 0 = j) := by rw [← hsk.out]; exact Parl.wordEnd_stop (by rw [Parl.bAt_lt hlt, hb]; simp)
        go_wp2_with (go_at_call 175; refine (goesOn_any _ _ _).mono ?_; rintro e w' ⟨rfl, rfl⟩)
        go_ret
        exact ⟨ret_int (by rw [hst.out]), rfl⟩
      · have hst : Hid (Parl.wordEnd s k (j + 1) = Parl.wordEnd s k 0) := by rw [← hsk.out]; exact (Parl.wordEnd_step hlt (by rw [Parl.bAt_lt hlt, hb])).symm
        go_wp2_with (go_at_call 175; refine (goesOn_any _ _ _).mono ?_; rintro e w' ⟨rfl, rfl⟩)
        go_round
        case rel => exact ⟨j + 1, by omega, hst, by go_num⟩
        case measure => simp [intOf]; omega
    · have hst : Hid (Parl.wordEnd s k 0 = j) := by rw [← hsk.out]; exact Parl.wordEnd_stop (by omega)
      go_wp2
      go_ret
      exact ⟨ret_int (by rw [hst.out]), rfl⟩
end Go.Proofs.YthfjnfcekeknlaaGreatDoor
namespace Go.Proofs.YthfjnfcekeknlaaGreatDoor
open Go.RowKit

/-- A row of one's own stays while old blocks stay. -/
theorem own_below {w w' : World} {b0 : Nat} {e : TypeId} {sz : Nat} {v : Value} {n : Nat} {xs : List Value} (h : w.ownsRow b0 e sz v n xs) (hb : Below w.heap.size w w') : w'.ownsRow b0 e sz v n xs :=
  ⟨h.1, h.2.imp id fun ⟨g, cap, cur, a, b, c, d⟩ => ⟨g, cap, cur, a, b, (hb.block g (Array.getElem?_eq_some_iff.1 c).1).trans c, d⟩⟩

theorem lower_any (c : Nat) (w : World) : Calls Tryz.prog 143 #[.int .u8 (c : Int)] w fun e w' => e = .returned (.bool (Parl.low c)) ∧ w' = w := by
  by_cases h1 : 97 ≤ c
  all_goals
    go_enter Tryz.func143, Tryz.ntmps143
    go_wp2
    go_ret
    exact ⟨ret_bool (by rw [Bool.eq_iff_iff]; simp [Parl.low]; omega), rfl⟩

theorem upper_any (c : Nat) (w : World) : Calls Tryz.prog 144 #[.int .u8 (c : Int)] w fun e w' => e = .returned (.bool (Parl.upp c)) ∧ w' = w := by
  by_cases h1 : 65 ≤ c
  all_goals
    go_enter Tryz.func144, Tryz.ntmps144
    go_wp2
    go_ret
    exact ⟨ret_bool (by rw [Bool.eq_iff_iff]; simp [Parl.upp]; omega), rfl⟩

theorem digit_any (c : Nat) (w : World) : Calls Tryz.prog 145 #[.int .u8 (c : Int)] w fun e w' => e = .returned (.bool (Parl.dig c)) ∧ w' = w := by
  by_cases h1 : 48 ≤ c
  all_goals
    go_enter Tryz.func145, Tryz.ntmps145
    go_wp2
    go_ret
    exact ⟨ret_bool (by rw [Bool.eq_iff_iff]; simp [Parl.dig]; omega), rfl⟩

set_option maxHeartbeats 1000000 in
theorem word_any (s : ByteArray) (p k : Nat) (w : World) (hs : s.size ≤ maxLen) (hp : p ≤ s.size) (kb : Int) (hk : (k = 2 ∧ kb = 1) ∨ (k = 3 ∧ kb = 2) ∨ (k = 4 ∧ kb = 3)) :
    Calls Tryz.prog 146 #[.string s, .int .i64 (p : Int), .int .i64 kb] w fun e w' => e = .returned (.int .i64 ((Parl.wordEnd s k p : Nat) : Int)) ∧ w' = w := by
  unfold maxLen at hs
  rcases hk with ⟨rfl, rfl⟩ | ⟨rfl, rfl⟩ | ⟨rfl, rfl⟩
  all_goals
    go_enter Tryz.func146, Tryz.ntmps146
    go_wp2_with fail
  · go_loop [7] (fun i => ∃ j : Nat, j ≤ s.size ∧ Hid (Parl.wordEnd s 2 j = Parl.wordEnd s 2 p) ∧ i = .int .i64 j) (fun i => s.size - (intOf i).toNat)
    case atStart => exact ⟨p, hp, rfl, rfl⟩
    case round =>
      obtain ⟨j, hj, hsk, rfl⟩ := hrel
      by_cases hlt : j < s.size
      · have hW := hide (show Parl.inWord 2 (s[j].toNat) = (Parl.low (s[j].toNat) || Parl.dig (s[j].toNat)) from rfl)
        cases hd : Parl.dig (s[j].toNat) <;> cases hl : Parl.low (s[j].toNat)
        · have hst : Hid (Parl.wordEnd s 2 p = j) := by rw [← hsk.out]; exact Parl.wordEnd_stop (by rw [Parl.bAt_lt hlt, unhide hW, hd, hl]; simp)
          go_wp2_with (first | (go_at_call 145; refine (digit_any _ _).mono ?_; rintro e w' ⟨rfl, rfl⟩) | (go_at_call 143; refine (lower_any _ _).mono ?_; rintro e w' ⟨rfl, rfl⟩))
          go_ret
          exact ⟨ret_int (by rw [hst.out]), rfl⟩
        all_goals
          have hst : Hid (Parl.wordEnd s 2 (j + 1) = Parl.wordEnd s 2 p) := by rw [← hsk.out]; exact (Parl.wordEnd_step hlt (by rw [Parl.bAt_lt hlt, unhide hW, hd, hl]; rfl)).symm
          go_wp2_with (first | (go_at_call 145; refine (digit_any _ _).mono ?_; rintro e w' ⟨rfl, rfl⟩) | (go_at_call 143; refine (lower_any _ _).mono ?_; rintro e w' ⟨rfl, rfl⟩))
          go_round
          case rel => exact ⟨j + 1, by omega, hst, by go_num⟩
          case measure => simp [intOf]; omega
      · have hst : Hid (Parl.wordEnd s 2 p = j) := by rw [← hsk.out]; exact Parl.wordEnd_stop (by omega)
        go_wp2_with fail
        go_ret
        exact ⟨ret_int (by rw [hst.out]), rfl⟩
  · go_loop [7] (fun i => ∃ j : Nat, j ≤ s.size ∧ Hid (Parl.wordEnd s 3 j = Parl.wordEnd s 3 p) ∧ i = .int .i64 j) (fun i => s.size - (intOf i).toNat)
    case atStart => exact ⟨p, hp, rfl, rfl⟩
    case round =>
      obtain ⟨j, hj, hsk, rfl⟩ := hrel
      by_cases hlt : j < s.size
      · have hW := hide (show Parl.inWord 3 (s[j].toNat) = (Parl.low (s[j].toNat) || Parl.dig (s[j].toNat) || Parl.upp (s[j].toNat)) from rfl)
        cases hd : Parl.dig (s[j].toNat) <;> cases hl : Parl.low (s[j].toNat) <;> cases hu : Parl.upp (s[j].toNat)
        · have hst : Hid (Parl.wordEnd s 3 p = j) := by rw [← hsk.out]; exact Parl.wordEnd_stop (by rw [Parl.bAt_lt hlt, unhide hW, hd, hl, hu]; simp)
          go_wp2_with (first | (go_at_call 145; refine (digit_any _ _).mono ?_; rintro e w' ⟨rfl, rfl⟩) | (go_at_call 143; refine (lower_any _ _).mono ?_; rintro e w' ⟨rfl, rfl⟩) | (go_at_call 144; refine (upper_any _ _).mono ?_; rintro e w' ⟨rfl, rfl⟩))
          go_ret
          exact ⟨ret_int (by rw [hst.out]), rfl⟩
        all_goals
          have hst : Hid (Parl.wordEnd s 3 (j + 1) = Parl.wordEnd s 3 p) := by rw [← hsk.out]; exact (Parl.wordEnd_step hlt (by rw [Parl.bAt_lt hlt, unhide hW, hd, hl, hu]; rfl)).symm
          go_wp2_with (first | (go_at_call 145; refine (digit_any _ _).mono ?_; rintro e w' ⟨rfl, rfl⟩) | (go_at_call 143; refine (lower_any _ _).mono ?_; rintro e w' ⟨rfl, rfl⟩) | (go_at_call 144; refine (upper_any _ _).mono ?_; rintro e w' ⟨rfl, rfl⟩))
          go_round
          case rel => exact ⟨j + 1, by omega, hst, by go_num⟩
          case measure => simp [intOf]; omega
      · have hst : Hid (Parl.wordEnd s 3 p = j) := by rw [← hsk.out]; exact Parl.wordEnd_stop (by omega)
        go_wp2_with fail
        go_ret
        exact ⟨ret_int (by rw [hst.out]), rfl⟩
  · go_loop [7] (fun i => ∃ j : Nat, j ≤ s.size ∧ Hid (Parl.wordEnd s 4 j = Parl.wordEnd s 4 p) ∧ i = .int .i64 j) (fun i => s.size - (intOf i).toNat)
    case atStart => exact ⟨p, hp, rfl, rfl⟩
    case round =>
      obtain ⟨j, hj, hsk, rfl⟩ := hrel
      by_cases hlt : j < s.size
      · have hW := hide (show Parl.inWord 4 (s[j].toNat) = Parl.dig (s[j].toNat) from rfl)
        cases hd : Parl.dig (s[j].toNat)
        · have hst : Hid (Parl.wordEnd s 4 p = j) := by rw [← hsk.out]; exact Parl.wordEnd_stop (by rw [Parl.bAt_lt hlt, unhide hW, hd]; simp)
          go_wp2_with (first | (go_at_call 145; refine (digit_any _ _).mono ?_; rintro e w' ⟨rfl, rfl⟩))
          go_ret
          exact ⟨ret_int (by rw [hst.out]), rfl⟩
        · have hst : Hid (Parl.wordEnd s 4 (j + 1) = Parl.wordEnd s 4 p) := by rw [← hsk.out]; exact (Parl.wordEnd_step hlt (by rw [Parl.bAt_lt hlt, unhide hW, hd])).symm
          go_wp2_with (first | (go_at_call 145; refine (digit_any _ _).mono ?_; rintro e w' ⟨rfl, rfl⟩))
          go_round
          case rel => exact ⟨j + 1, by omega, hst, by go_num⟩
          case measure => simp [intOf]; omega
      · have hst : Hid (Parl.wordEnd s 4 p = j) := by rw [← hsk.out]; exact Parl.wordEnd_stop (by omega)
        go_wp2_with fail
        go_ret
        exact ⟨ret_int (by rw [hst.out]), rfl⟩

theorem begins_any (s : ByteArray) (i : Nat) (g : ByteArray) (w : World) (hs : s.size ≤ 240) (hi : i ≤ s.size) (hg : g.size ≤ 2) :
    Calls Tryz.prog 184 #[.string s, .int .i64 (i : Int), .string g] w fun e w' => e = .returned (.bool (Parl.startsAt s i g)) ∧ w' = w := by
  by_cases h : i + g.size ≤ s.size
  · have HB := hide (show Parl.startsAt s i g = ((s.extract i (i + g.size)).toList == g.toList) by simp [Parl.startsAt, h])
    go_enter Tryz.func184, Tryz.ntmps184
    go_wp2
    go_ret
    exact ⟨ret_bool (by rw [unhide HB]), rfl⟩
  · have HB := hide (show Parl.startsAt s i g = false by simp [Parl.startsAt, h])
    go_enter Tryz.func184, Tryz.ntmps184
    go_wp2
    go_ret
    exact ⟨ret_bool (by rw [unhide HB]), rfl⟩

end Go.Proofs.YthfjnfcekeknlaaGreatDoor
namespace Go.Proofs.YthfjnfcekeknlaaGreatDoor
open Go.RowKit

def sgBlock : Obj := .cells #[.string ⟨#[58, 45]⟩, .string ⟨#[58, 61]⟩, .string ⟨#[61, 61]⟩, .string ⟨#[92, 61]⟩, .string ⟨#[61, 60]⟩, .string ⟨#[61]⟩, .string ⟨#[60]⟩, .string ⟨#[43]⟩, .string ⟨#[45]⟩, .string ⟨#[42]⟩, .string ⟨#[40]⟩, .string ⟨#[41]⟩, .string ⟨#[44]⟩, .string ⟨#[124]⟩, .string ⟨#[46]⟩] 9
theorem sg_cell (w : World) (k : Nat) (h : k < 15) : (w.alloc sgBlock).cell? ⟨w.heap.size, k, none⟩ = some (.string (Parl.sgAt k)) := by
  rcases (show k = 0 ∨ k = 1 ∨ k = 2 ∨ k = 3 ∨ k = 4 ∨ k = 5 ∨ k = 6 ∨ k = 7 ∨ k = 8 ∨ k = 9 ∨ k = 10 ∨ k = 11 ∨ k = 12 ∨ k = 13 ∨ k = 14 by omega) with rfl | rfl | rfl | rfl | rfl | rfl | rfl | rfl | rfl | rfl | rfl | rfl | rfl | rfl | rfl
  all_goals (unfold sgBlock Parl.sgAt Parl.sgs; simp)

set_option maxHeartbeats 1000000 in
theorem sign_any (s : ByteArray) (i : Nat) (w : World) (hs : s.size ≤ 240) (hi : i ≤ s.size) :
    Calls Tryz.prog 147 #[.string s, .int .i64 (i : Int)] w fun e w' => (∃ g : ByteArray, e = .returned (.string g) ∧ g.size = Parl.signLen s i) ∧ Below w.heap.size w w' := by
  have hcell := hide (sg_cell w)
  have hbl : Below w.heap.size w (w.alloc sgBlock) := (Below.refl _ _).alloc (Nat.le_refl _) _
  unfold sgBlock at hcell hbl
  have HB := hide hbl
  clear hbl
  go_enter Tryz.func147, Tryz.ntmps147
  go_wp2_with fail
  go_loop [6] (fun v => ∃ k : Nat, k ≤ 15 ∧ v = .int .i64 k ∧ Hid (∀ j, j < k → Parl.startsAt s i (Parl.sgAt j) = false)) (fun v => 15 - (intOf v).toNat)
  case atStart => exact ⟨0, by omega, rfl, fun j h => absurd h (Nat.not_lt_zero _)⟩
  case round =>
    obtain ⟨k, hk, rfl, hno⟩ := hrel
    by_cases hlt : k < 15
    · have hc := unhide hcell k hlt
      have hz := Parl.sg_size k hlt
      have hz2 : (Parl.sgAt k).size ≤ 2 := by rw [hz]; split <;> omega
      clear hz
      cases hb : Parl.startsAt s i (Parl.sgAt k)
      · have HN : Hid (∀ j, j < k + 1 → Parl.startsAt s i (Parl.sgAt j) = false) := fun j hj => by
          by_cases e : j < k
          · exact hno.out j e
          · obtain rfl : j = k := by omega
            exact hb
        go_wp2_with (go_at_call 184; refine (begins_any _ _ _ _ hs hi hz2).mono ?_; rintro e w' ⟨rfl, rfl⟩)
        go_round
        case rel => exact ⟨k + 1, by omega, by go_num, HN⟩
        case measure => simp [intOf]; omega
      · have HZ := hide (Parl.sg_hit hlt hno.out hb)
        go_wp2_with (go_at_call 184; refine (begins_any _ _ _ _ hs hi hz2).mono ?_; rintro e w' ⟨rfl, rfl⟩)
        go_ret
        exact ⟨⟨_, rfl, unhide HZ⟩, unhide HB⟩
    · have HZ := hide (Parl.sg_none hlt hno.out)
      go_wp2_with fail
      go_ret
      exact ⟨⟨ByteArray.empty, rfl, by rw [unhide HZ]; rfl⟩, unhide HB⟩
end Go.Proofs.YthfjnfcekeknlaaGreatDoor
namespace Go.Proofs.YthfjnfcekeknlaaGreatDoor
open Go.RowKit

theorem Tryz.info168 : (Tryz.prog.info? 168).map (fun i => (i.zero, i.size, i.bytes)) = some (some (.agg #[.int .i64 0, .string ⟨#[]⟩, .int .i64 0]), 3, 32) := by kernel_rfl

/-- The kinds of tokens, as the document's answer numbers them. -/
def bk (k : Nat) : Int := if k = 0 then 6 else if k = 1 then 5 else (k : Int) - 1
/-- A token's cells there. -/
def tokC (t : Parl.Tok) : List Value := [.int .i64 (bk t.kind), .string t.text, .int .i64 (t.pos : Int)]

/-- Behind a round's append. -/
theorem tok_step {w wr w1 : World} {ts : List Parl.Tok} {t : Parl.Tok} {v v' : Value} {B : Nat} (hB : B ≤ wr.heap.size) (hb : Below B w wr) (o1 o2 : Obj)
    (hown' : w1.ownsRow B 168 3 v' (ts.length + 1) (ts.flatMap tokC ++ tokC t)) (hg : ((wr.alloc o1).alloc o2).grownBy w1 v.ownBlock) (hv : ∀ k, v.ownBlock = some k → B ≤ k) :
    w1.ownsRow B 168 3 v' (ts ++ [t]).length ((ts ++ [t]).flatMap tokC) ∧ Below B w w1 := by
  refine ⟨by simpa [List.flatMap_append] using hown', ?_⟩
  exact (((hb.alloc hB _).alloc (by simp; omega) _).grown hg (by simp; omega) hv)

theorem cell_new {W : World} {n : Nat} (hn : n = W.heap.size) (cs : Array Value) (T : TypeId) (i : Nat) (v : Value) (h : cs[i]? = some v) : (W.alloc (.cells cs T)).cell? ⟨n, i, none⟩ = some v := by
  subst hn; simp [h]
theorem not_mt {r : ByteArray} (h : 0 < r.size) : r.toList.isEmpty = false := by
  rw [ByteArray.toList_eq]
  cases hx : r.data.toList with
  | nil => have := Parl.len_eq r; rw [hx] at this; simp at this; omega
  | cons => rfl
theorem mt {r : ByteArray} (h : r.size = 0) : r.toList.isEmpty = true := by
  rw [ByteArray.toList_eq]
  have := Parl.len_eq r
  cases hx : r.data.toList with
  | nil => rfl
  | cons a l => rw [hx] at this; simp at this; omega
theorem tok_any {w wr W w1 : World} {ts : List Parl.Tok} {t : Parl.Tok} {v v' : Value} {B : Nat} (hB : B ≤ wr.heap.size) (hb : Below B w wr) (hW : Below wr.heap.size wr W)
    (hown' : w1.ownsRow B 168 3 v' (ts.length + 1) (ts.flatMap tokC ++ tokC t)) (hg : W.grownBy w1 v.ownBlock) (hv : ∀ k, v.ownBlock = some k → B ≤ k) :
    w1.ownsRow B 168 3 v' (ts ++ [t]).length ((ts ++ [t]).flatMap tokC) ∧ Below B w w1 := by
  refine ⟨by simpa [List.flatMap_append] using hown', ?_⟩
  have := hW.size
  exact ((hb.trans (hW.mono hB)).grown hg (by omega) hv)
theorem tok_last {w wr w1 : World} {ts : List Parl.Tok} {t : Parl.Tok} {v v' : Value} {B : Nat} (hB : B ≤ wr.heap.size) (hb : Below B w wr) (o1 : Obj)
    (hown' : w1.ownsRow B 168 3 v' (ts.length + 1) (ts.flatMap tokC ++ tokC t)) (hg : (wr.alloc o1).grownBy w1 v.ownBlock) (hv : ∀ k, v.ownBlock = some k → B ≤ k) :
    w1.ownsRow B 168 3 v' (ts ++ [t]).length ((ts ++ [t]).flatMap tokC) ∧ Below B w w1 := by
  refine ⟨by simpa [List.flatMap_append] using hown', ?_⟩
  exact ((hb.alloc hB _).grown hg (by simp; omega) hv)

set_option maxHeartbeats 2000000 in
set_option maxRecDepth 100000 in
theorem tokens_any (s : ByteArray) (w : World) (hs : s.size ≤ 240) :
    Calls Tryz.prog 88 #[.string s] w fun e w' => ∃ tv ts, e = .returned tv ∧ w'.ownsRow w.heap.size 168 3 tv ts.length (ts.flatMap tokC) ∧ Parl.Chain s ts ∧ Parl.hd ts = Parl.next s 0 ∧ ts.length ≤ s.size + 1 ∧ Below w.heap.size w w' := by
  obtain ⟨i0, hi, hz0, hz1, hz2⟩ := info_parts Tryz.info168
  have hs' : s.size ≤ maxLen := by unfold maxLen; omega
  go_enter Tryz.func88, Tryz.ntmps88
  go_wp2_with fail
  go_loopw [3, 4] (fun v i wr => ∃ (k : Nat) (ts : List Parl.Tok), k ≤ s.size ∧ i = .int .i64 k ∧ wr.ownsRow w.heap.size 168 3 v ts.length (ts.flatMap tokC) ∧ Hid (Parl.Pre s ts k) ∧ ts.length ≤ k ∧ Below w.heap.size w wr)
    (fun _ i _ => s.size - (intOf i).toNat)
  case atStart => exact ⟨0, [], by omega, rfl, World.ownsRow_nil _ _ _ _, Parl.Pre.start s, by simp, Below.refl _ _⟩
  case round =>
    obtain ⟨k, ts, hk, rfl, hown, hpre, hlen, hbel⟩ := hrel
    by_cases hlt : k < s.size
    · have hbb := hide (Parl.bAt_lt hlt)
      cases hbl : Parl.blank (s[k].toNat)
      · have n32 : ((s[k].toNat : Int) == 32) = false := by simp [Parl.blank] at hbl; simp; omega
        have n10 : ((s[k].toNat : Int) == 10) = false := by simp [Parl.blank] at hbl; simp; omega
        have hP := hide (hpre.out.tok hlt (by rw [unhide hbb]; exact hbl))
        have hgt := Parl.endAt_gt hlt
        have hle := Parl.endAt_le hlt
        clear hbl
        cases ha : Parl.low (s[k].toNat)
        · cases hb : Parl.upp (s[k].toNat)
          · cases hc : Parl.dig (s[k].toNat)
            · by_cases hd : 0 < Parl.signLen s k
              · have hKE := hide (Parl.kind_sign hlt (by rw [unhide hbb]; exact ha) (by rw [unhide hbb]; exact hb) (by rw [unhide hbb]; exact hc) hd)
                go_wp2_with (first | (go_at_call 143; refine (lower_any _ _).mono ?_; rintro e w' ⟨rfl, rfl⟩) | (go_at_call 144; refine (upper_any _ _).mono ?_; rintro e w' ⟨rfl, rfl⟩) | (go_at_call 145; refine (digit_any _ _).mono ?_; rintro e w' ⟨rfl, rfl⟩))
                refine (sign_any s k _ hs hk).mono ?_
                rintro e w1 ⟨⟨g, rfl, hg⟩, hb1⟩
                have hg0 : 0 < g.size := by rw [hg]; exact hd
                have hgE : g.toList.isEmpty = false := not_mt hg0
                have hgf : k + g.size ≤ s.size := by rw [hg]; exact Parl.signLen_fits (by omega)
                have HG := hide hg
                clear hg
                have HB0 : (Below (wr.heap.size + 1) (wr.alloc (.cells #[.int .i64 5, .string ⟨#[]⟩, .int .i64 (k : Int)] 168)) w1) := by simpa using hb1
                have HB1 := hide HB0
                clear hb1 HB0
                have d0 : w1.cell? ⟨wr.heap.size, 0, none⟩ = some (.int .i64 5) := ((unhide HB1).cell (p := ⟨wr.heap.size, 0, none⟩) (by simp)).trans (by simp)
                have d1 : w1.cell? ⟨wr.heap.size, 1, none⟩ = some (.string ⟨#[]⟩) := ((unhide HB1).cell (p := ⟨wr.heap.size, 1, none⟩) (by simp)).trans (by simp)
                have d2 : w1.cell? ⟨wr.heap.size, 2, none⟩ = some (.int .i64 (k : Int)) := ((unhide HB1).cell (p := ⟨wr.heap.size, 2, none⟩) (by simp)).trans (by simp)
                have x0 : w1.frozen? ⟨wr.heap.size, 0, none⟩ = false := ((unhide HB1).frozen (p := ⟨wr.heap.size, 0, none⟩) (by simp)).trans (by simp)
                have x1 : w1.frozen? ⟨wr.heap.size, 1, none⟩ = false := ((unhide HB1).frozen (p := ⟨wr.heap.size, 1, none⟩) (by simp)).trans (by simp)
                have HW : Hid (Below wr.heap.size wr w1) := ((Below.refl _ _).alloc (Nat.le_refl _) _).trans ((unhide HB1).mono (by omega))
                go_wp2_with (first | (at_builtin; refine wpList_append_own _ rfl (.tmp 69) (.tmp 71) 163 rfl w.heap.size 168 i0 (.agg #[.int .i64 0, .string ⟨#[]⟩, .int .i64 0]) 3 32 Tryz.underlying163 hi hz0 hz1 hz2 rfl (by decide) _ ts.length _ rfl (own_below hown ((((unhide HW).setCell (Nat.le_refl _) _).setCell (Nat.le_refl _) _).alloc (by simp [World.setCell]; exact (unhide HW).size) _)) ⟨w1.heap.size, 0, none⟩ 1 1 [.int .i64 4, .string (s.extract k (k + g.size)), .int .i64 (k : Int)] rfl rfl ?c1 ?c2 ?c3 ?c4 ?c5 ?go))
                case c1 =>
                  intro j u hj
                  match j, hj with
                  | 0, hj => simp at hj; subst hj; exact cell_new (by simp) _ _ _ _ rfl
                  | 1, hj => simp at hj; subst hj; exact cell_new (by simp) _ _ _ _ rfl
                  | 2, hj => simp at hj; subst hj; exact cell_new (by simp) _ _ _ _ rfl
                case c2 => intro u hu; simp at hu; rcases hu with rfl | rfl | rfl <;> rfl
                case c3 => unfold maxLen; omega
                case c4 => omega
                case c5 => have := hbel.size; have := (unhide HB1).size; simp at this; simp; omega
                case go =>
                  intro v' w2 hown' hgrow _
                  have R := hide (tok_any (t := ⟨Parl.kindAt s k, k, s.extract k (Parl.endAt s k)⟩) hbel.size hbel ((((unhide HW).setCell (Nat.le_refl _) _).setCell (Nat.le_refl _) _).alloc (by simp [World.setCell]; exact (unhide HW).size) _) (by rw [tokC, (unhide hKE).1, (unhide hKE).2, ← unhide HG]; exact hown') hgrow (fun q hq => (hown.lt q hq).1))
                  clear hown' hgrow hown hbel
                  go_wp2_with fail
                  go_roundw
                  case rel => exact ⟨Parl.endAt s k, _, hle, by rw [(unhide hKE).2, ← unhide HG]; go_num, (unhide R).1, unhide hP, by simp; omega, (unhide R).2⟩
                  case measure => simp [intOf]; omega
              · have hKE := hide (Parl.kind_none hlt (by rw [unhide hbb]; exact ha) (by rw [unhide hbb]; exact hb) (by rw [unhide hbb]; exact hc) hd)
                go_wp2_with (first | (go_at_call 143; refine (lower_any _ _).mono ?_; rintro e w' ⟨rfl, rfl⟩) | (go_at_call 144; refine (upper_any _ _).mono ?_; rintro e w' ⟨rfl, rfl⟩) | (go_at_call 145; refine (digit_any _ _).mono ?_; rintro e w' ⟨rfl, rfl⟩))
                refine (sign_any s k _ hs hk).mono ?_
                rintro e w1 ⟨⟨g, rfl, hg⟩, hb1⟩
                have hgE : g.toList.isEmpty = true := mt (by rw [hg]; omega)
                have hgf : k + g.size ≤ s.size := by rw [hg]; exact Parl.signLen_fits (by omega)
                have HG := hide hg
                clear hg
                have HB0 : (Below (wr.heap.size + 1) (wr.alloc (.cells #[.int .i64 5, .string ⟨#[]⟩, .int .i64 (k : Int)] 168)) w1) := by simpa using hb1
                have HB1 := hide HB0
                clear hb1 HB0
                have d0 : w1.cell? ⟨wr.heap.size, 0, none⟩ = some (.int .i64 5) := ((unhide HB1).cell (p := ⟨wr.heap.size, 0, none⟩) (by simp)).trans (by simp)
                have d1 : w1.cell? ⟨wr.heap.size, 1, none⟩ = some (.string ⟨#[]⟩) := ((unhide HB1).cell (p := ⟨wr.heap.size, 1, none⟩) (by simp)).trans (by simp)
                have d2 : w1.cell? ⟨wr.heap.size, 2, none⟩ = some (.int .i64 (k : Int)) := ((unhide HB1).cell (p := ⟨wr.heap.size, 2, none⟩) (by simp)).trans (by simp)
                have x0 : w1.frozen? ⟨wr.heap.size, 0, none⟩ = false := ((unhide HB1).frozen (p := ⟨wr.heap.size, 0, none⟩) (by simp)).trans (by simp)
                have x1 : w1.frozen? ⟨wr.heap.size, 1, none⟩ = false := ((unhide HB1).frozen (p := ⟨wr.heap.size, 1, none⟩) (by simp)).trans (by simp)
                have HW : Hid (Below wr.heap.size wr w1) := ((Below.refl _ _).alloc (Nat.le_refl _) _).trans ((unhide HB1).mono (by omega))
                go_wp2_with (first | (at_builtin; refine wpList_append_own _ rfl (.tmp 69) (.tmp 71) 163 rfl w.heap.size 168 i0 (.agg #[.int .i64 0, .string ⟨#[]⟩, .int .i64 0]) 3 32 Tryz.underlying163 hi hz0 hz1 hz2 rfl (by decide) _ ts.length _ rfl (own_below hown (((unhide HW).setCell (Nat.le_refl _) _).alloc (by simp [World.setCell]; exact (unhide HW).size) _)) ⟨w1.heap.size, 0, none⟩ 1 1 [.int .i64 5, .string (s.extract k (k + 1)), .int .i64 (k : Int)] rfl rfl ?c1 ?c2 ?c3 ?c4 ?c5 ?go))
                case c1 =>
                  intro j u hj
                  match j, hj with
                  | 0, hj => simp at hj; subst hj; exact cell_new (by simp) _ _ _ _ rfl
                  | 1, hj => simp at hj; subst hj; exact cell_new (by simp) _ _ _ _ rfl
                  | 2, hj => simp at hj; subst hj; exact cell_new (by simp) _ _ _ _ rfl
                case c2 => intro u hu; simp at hu; rcases hu with rfl | rfl | rfl <;> rfl
                case c3 => unfold maxLen; omega
                case c4 => omega
                case c5 => have := hbel.size; have := (unhide HB1).size; simp at this; simp; omega
                case go =>
                  intro v' w2 hown' hgrow _
                  have R := hide (tok_any (t := ⟨Parl.kindAt s k, k, s.extract k (Parl.endAt s k)⟩) hbel.size hbel (((unhide HW).setCell (Nat.le_refl _) _).alloc (by simp [World.setCell]; exact (unhide HW).size) _) (by rw [tokC, (unhide hKE).1, (unhide hKE).2]; exact hown') hgrow (fun q hq => (hown.lt q hq).1))
                  clear hown' hgrow hown hbel
                  go_wp2_with fail
                  go_roundw
                  case rel => exact ⟨Parl.endAt s k, _, hle, by rw [(unhide hKE).2]; go_num, (unhide R).1, unhide hP, by simp; omega, (unhide R).2⟩
                  case measure => simp [intOf]; omega
            · have hKE := hide (Parl.kind_num hlt (by rw [unhide hbb]; exact ha) (by rw [unhide hbb]; exact hb) (by rw [unhide hbb]; exact hc))
              go_wp2_with (first | (go_at_call 143; refine (lower_any _ _).mono ?_; rintro e w' ⟨rfl, rfl⟩) | (go_at_call 144; refine (upper_any _ _).mono ?_; rintro e w' ⟨rfl, rfl⟩) | (go_at_call 145; refine (digit_any _ _).mono ?_; rintro e w' ⟨rfl, rfl⟩) | (go_at_call 146; refine (word_any s k 4 _ hs' hk 3 (Or.inr (Or.inr ⟨rfl, rfl⟩))).mono ?_; rintro e w' ⟨rfl, rfl⟩; rw [← (unhide hKE).2]) | (at_builtin; refine wpList_append_own _ rfl (.tmp 69) (.tmp 71) 163 rfl w.heap.size 168 i0 (.agg #[.int .i64 0, .string ⟨#[]⟩, .int .i64 0]) 3 32 Tryz.underlying163 hi hz0 hz1 hz2 rfl (by decide) _ ts.length _ rfl ((hown.alloc _).alloc _) ⟨wr.heap.size + 1, 0, none⟩ 1 1 [.int .i64 3, .string (s.extract k (Parl.endAt s k)), .int .i64 (k : Int)] rfl rfl ?c1 ?c2 ?c3 ?c4 ?c5 ?go))
              case c1 =>
                intro j u hj
                match j, hj with
                | 0, hj => simp at hj; subst hj; simp [Addr.add]
                | 1, hj => simp at hj; subst hj; simp [Addr.add]
                | 2, hj => simp at hj; subst hj; simp [Addr.add]
              case c2 => intro u hu; simp at hu; rcases hu with rfl | rfl | rfl <;> rfl
              case c3 => unfold maxLen; omega
              case c4 => omega
              case c5 => have := hbel.size; simp; omega
              case go =>
                intro v' w1 hown' hgrow _
                have R := hide (tok_step (t := ⟨Parl.kindAt s k, k, s.extract k (Parl.endAt s k)⟩) hbel.size hbel _ _ (by rw [tokC, (unhide hKE).1]; exact hown') hgrow (fun q hq => (hown.lt q hq).1))
                clear hown' hgrow hown hbel
                go_wp2_with fail
                go_roundw
                case rel => exact ⟨Parl.endAt s k, _, hle, rfl, (unhide R).1, unhide hP, by simp; omega, (unhide R).2⟩
                case measure => simp [intOf]; omega
          · have hKE := hide (Parl.kind_var hlt (by rw [unhide hbb]; exact ha) (by rw [unhide hbb]; exact hb))
            go_wp2_with (first | (go_at_call 143; refine (lower_any _ _).mono ?_; rintro e w' ⟨rfl, rfl⟩) | (go_at_call 144; refine (upper_any _ _).mono ?_; rintro e w' ⟨rfl, rfl⟩) | (go_at_call 145; refine (digit_any _ _).mono ?_; rintro e w' ⟨rfl, rfl⟩) | (go_at_call 146; refine (word_any s k 3 _ hs' hk 2 (Or.inr (Or.inl ⟨rfl, rfl⟩))).mono ?_; rintro e w' ⟨rfl, rfl⟩; rw [← (unhide hKE).2]) | (at_builtin; refine wpList_append_own _ rfl (.tmp 69) (.tmp 71) 163 rfl w.heap.size 168 i0 (.agg #[.int .i64 0, .string ⟨#[]⟩, .int .i64 0]) 3 32 Tryz.underlying163 hi hz0 hz1 hz2 rfl (by decide) _ ts.length _ rfl ((hown.alloc _).alloc _) ⟨wr.heap.size + 1, 0, none⟩ 1 1 [.int .i64 2, .string (s.extract k (Parl.endAt s k)), .int .i64 (k : Int)] rfl rfl ?c1 ?c2 ?c3 ?c4 ?c5 ?go))
            case c1 =>
              intro j u hj
              match j, hj with
              | 0, hj => simp at hj; subst hj; simp [Addr.add]
              | 1, hj => simp at hj; subst hj; simp [Addr.add]
              | 2, hj => simp at hj; subst hj; simp [Addr.add]
            case c2 => intro u hu; simp at hu; rcases hu with rfl | rfl | rfl <;> rfl
            case c3 => unfold maxLen; omega
            case c4 => omega
            case c5 => have := hbel.size; simp; omega
            case go =>
              intro v' w1 hown' hgrow _
              have R := hide (tok_step (t := ⟨Parl.kindAt s k, k, s.extract k (Parl.endAt s k)⟩) hbel.size hbel _ _ (by rw [tokC, (unhide hKE).1]; exact hown') hgrow (fun q hq => (hown.lt q hq).1))
              clear hown' hgrow hown hbel
              go_wp2_with fail
              go_roundw
              case rel => exact ⟨Parl.endAt s k, _, hle, rfl, (unhide R).1, unhide hP, by simp; omega, (unhide R).2⟩
              case measure => simp [intOf]; omega
        · have hKE := hide (Parl.kind_name hlt (by rw [unhide hbb]; exact ha))
          go_wp2_with (first | (go_at_call 143; refine (lower_any _ _).mono ?_; rintro e w' ⟨rfl, rfl⟩) | (go_at_call 144; refine (upper_any _ _).mono ?_; rintro e w' ⟨rfl, rfl⟩) | (go_at_call 145; refine (digit_any _ _).mono ?_; rintro e w' ⟨rfl, rfl⟩) | (go_at_call 146; refine (word_any s k 2 _ hs' hk 1 (Or.inl ⟨rfl, rfl⟩)).mono ?_; rintro e w' ⟨rfl, rfl⟩; rw [← (unhide hKE).2]) | (at_builtin; refine wpList_append_own _ rfl (.tmp 69) (.tmp 71) 163 rfl w.heap.size 168 i0 (.agg #[.int .i64 0, .string ⟨#[]⟩, .int .i64 0]) 3 32 Tryz.underlying163 hi hz0 hz1 hz2 rfl (by decide) _ ts.length _ rfl ((hown.alloc _).alloc _) ⟨wr.heap.size + 1, 0, none⟩ 1 1 [.int .i64 1, .string (s.extract k (Parl.endAt s k)), .int .i64 (k : Int)] rfl rfl ?c1 ?c2 ?c3 ?c4 ?c5 ?go))
          case c1 =>
            intro j u hj
            match j, hj with
            | 0, hj => simp at hj; subst hj; simp [Addr.add]
            | 1, hj => simp at hj; subst hj; simp [Addr.add]
            | 2, hj => simp at hj; subst hj; simp [Addr.add]
          case c2 => intro u hu; simp at hu; rcases hu with rfl | rfl | rfl <;> rfl
          case c3 => unfold maxLen; omega
          case c4 => omega
          case c5 => have := hbel.size; simp; omega
          case go =>
            intro v' w1 hown' hgrow _
            have R := hide (tok_step (t := ⟨Parl.kindAt s k, k, s.extract k (Parl.endAt s k)⟩) hbel.size hbel _ _ (by rw [tokC, (unhide hKE).1]; exact hown') hgrow (fun q hq => (hown.lt q hq).1))
            clear hown' hgrow hown hbel
            go_wp2_with fail
            go_roundw
            case rel => exact ⟨Parl.endAt s k, _, hle, rfl, (unhide R).1, unhide hP, by simp; omega, (unhide R).2⟩
            case measure => simp [intOf]; omega
      · have hP := hide (hpre.out.blank hlt (by rw [unhide hbb]; exact hbl))
        rcases (show s[k].toNat = 32 ∨ s[k].toNat = 10 by simp [Parl.blank] at hbl; exact hbl) with hc | hc
        · have n32 : ((s[k].toNat : Int) == 32) = true := by simp; omega
          clear hbl hc
          go_wp2_with fail
          go_roundw
          case rel => exact ⟨k + 1, ts, by omega, by go_num, hown, unhide hP, by omega, hbel⟩
          case measure => simp [intOf]; omega
        · have n32 : ((s[k].toNat : Int) == 32) = false := by simp; omega
          have n10 : ((s[k].toNat : Int) == 10) = true := by simp; omega
          clear hbl hc
          go_wp2_with fail
          go_roundw
          case rel => exact ⟨k + 1, ts, by omega, by go_num, hown, unhide hP, by omega, hbel⟩
          case measure => simp [intOf]; omega
    · have hD : Hid (Parl.Chain s (ts ++ [⟨0, s.size, ByteArray.empty⟩]) ∧ Parl.hd (ts ++ [⟨0, s.size, ByteArray.empty⟩]) = Parl.next s 0) := by
        have e : k = s.size := by omega
        rw [e] at hpre; exact hpre.out.done
      go_wp2_with (first | (at_builtin; refine wpList_append_own _ rfl (.tmp 74) (.tmp 78) 163 rfl w.heap.size 168 i0 (.agg #[.int .i64 0, .string ⟨#[]⟩, .int .i64 0]) 3 32 Tryz.underlying163 hi hz0 hz1 hz2 rfl (by decide) _ ts.length _ rfl (hown.alloc _) ⟨wr.heap.size, 0, none⟩ 1 1 [.int .i64 6, .string ⟨#[]⟩, .int .i64 (s.size : Int)] rfl rfl ?c1 ?c2 ?c3 ?c4 ?c5 ?go))
      case c1 =>
        intro j u hj
        match j, hj with
        | 0, hj => simp at hj; subst hj; simp [Addr.add]
        | 1, hj => simp at hj; subst hj; simp [Addr.add]
        | 2, hj => simp at hj; subst hj; simp [Addr.add]
      case c2 => intro u hu; simp at hu; rcases hu with rfl | rfl | rfl <;> rfl
      case c3 => unfold maxLen; omega
      case c4 => omega
      case c5 => have := hbel.size; simp; omega
      case go =>
        intro v' w1 hown' hgrow _
        have R := hide (tok_last (t := ⟨0, s.size, ByteArray.empty⟩) hbel.size hbel _ hown' hgrow (fun q hq => (hown.lt q hq).1))
        clear hown' hgrow hown
        go_wp2_with fail
        go_ret
        exact ⟨_, _, rfl, (unhide R).1, (unhide hD).1, (unhide hD).2, by simp; omega, (unhide R).2⟩
end Go.Proofs.YthfjnfcekeknlaaGreatDoor
namespace Go.Proofs.YthfjnfcekeknlaaGreatDoor
open Go.RowKit

/-- All blocks stay but those of X. -/
structure KB (X : List Nat) (w w' : World) : Prop where
  os : w'.os = w.os
  tape : w'.tape = w.tape
  output : w'.output = w.output
  size : w.heap.size ≤ w'.heap.size
  block : ∀ k, k < w.heap.size → k ∉ X → w'.heap[k]? = w.heap[k]?

theorem KB.refl (X : List Nat) (w : World) : KB X w w := ⟨rfl, rfl, rfl, Nat.le_refl _, fun _ _ _ => rfl⟩
theorem KB.trans {X : List Nat} {u v w : World} (h : KB X u v) (k : KB X v w) : KB X u w :=
  ⟨k.os.trans h.os, k.tape.trans h.tape, k.output.trans h.output, Nat.le_trans h.size k.size, fun i hi hX => (k.block i (Nat.lt_of_lt_of_le hi h.size) hX).trans (h.block i hi hX)⟩
theorem KB.of_below {X : List Nat} {w w' : World} (h : Below w.heap.size w w') : KB X w w' := ⟨h.os, h.tape, h.output, h.size, fun k hk _ => h.block k hk⟩
theorem KB.drew {X : List Nat} {u w : World} (h : KB X u w) : KB X u w.drew := h.trans (KB.of_below (Below.refl _ _).drew)
theorem KB.drewN {X : List Nat} {u w : World} (h : KB X u w) (n : Nat) : KB X u (w.drewN n) := h.trans (KB.of_below ⟨rfl, rfl, rfl, Nat.le_refl _, fun _ _ => rfl⟩)
theorem KB.alloc {X : List Nat} {u w : World} (h : KB X u w) (o : Obj) : KB X u (w.alloc o) := h.trans (KB.of_below ((Below.refl _ _).alloc (Nat.le_refl _) o))
theorem KB.setIn {X : List Nat} {u w : World} (h : KB X u w) {p : Addr} (hp : p.block ∈ X) (v : Value) : KB X u (w.setCell p v) :=
  h.trans ⟨rfl, rfl, rfl, by simp [World.setCell], fun k _ hX => Below.heap_setCell _ _ _ _ (fun e => hX (e ▸ hp))⟩
theorem KB.setNew {X : List Nat} {u w : World} (h : KB X u w) {p : Addr} (hp : u.heap.size ≤ p.block) (v : Value) : KB X u (w.setCell p v) :=
  ⟨h.os, h.tape, h.output, by have := h.size; simp [World.setCell]; omega, fun k hk hX => (Below.heap_setCell _ _ _ _ (by omega)).trans (h.block k hk hX)⟩
theorem KB.grown {X : List Nat} {u w w' : World} {row : Option Nat} (h : KB X u w) (hg : w.grownBy w' row) (hr : ∀ k, row = some k → u.heap.size ≤ k) : KB X u w' :=
  ⟨hg.os.trans h.os, hg.tape.trans h.tape, hg.output.trans h.output, Nat.le_trans h.size hg.size, fun k hk hX => by
    rw [hg.block k (Nat.lt_of_lt_of_le hk h.size) (fun q => by have := hr k q.symm; omega), h.block k hk hX]⟩
theorem KB.below {X : List Nat} {w w' : World} (h : KB X w w') {B : Nat} (hB : B ≤ w.heap.size) (hX : ∀ x ∈ X, B ≤ x) : Below B w w' :=
  ⟨h.os, h.tape, h.output, h.size, fun k hk => h.block k (by omega) (fun e => by have := hX k e; omega)⟩

/-- The document's reader: it stands at token i of L; e and p: what was wrong first. -/
structure SB (w : World) (rb tb cap : Nat) (s : ByteArray) (L : List Parl.Tok) (i : Nat) (e p : Int) : Prop where
  c0 : w.cell? ⟨rb, 0, none⟩ = some (.slice (some ⟨tb, 0, none⟩) L.length cap)
  c1 : w.cell? ⟨rb, 1, none⟩ = some (.int .i64 (i : Int))
  c2 : w.cell? ⟨rb, 2, none⟩ = some (.int .i64 e)
  c3 : w.cell? ⟨rb, 3, none⟩ = some (.int .i64 p)
  f1 : w.frozen? ⟨rb, 1, none⟩ = false
  f2 : w.frozen? ⟨rb, 2, none⟩ = false
  f3 : w.frozen? ⟨rb, 3, none⟩ = false
  own : w.ownsRow 0 168 3 (.slice (some ⟨tb, 0, none⟩) L.length cap) L.length (L.flatMap tokC)
  ne : tb ≠ rb
  lt : i < L.length
  chain : Parl.Chain s L
  few : L.length ≤ 241
  kinds : ∀ t ∈ L, t.kind ≤ 5 ∧ t.text.size ≤ 240
  hlt : rb < w.heap.size

theorem tokC_at {L : List Parl.Tok} {i : Nat} (h : i < L.length) (j : Nat) (hj : j < 3) : (L.flatMap tokC)[i * 3 + j]? = (tokC L[i])[j]? := by
  induction L generalizing i with
  | nil => simp at h
  | cons t r ih =>
    cases i with
    | zero => rw [List.flatMap_cons, List.getElem?_append_left (by simp [tokC]; omega)]; simp
    | succ i =>
      rw [List.flatMap_cons, List.getElem?_append_right (by simp [tokC]; omega)]
      simp only [show (tokC t).length = 3 from rfl]
      rw [show (i + 1) * 3 + j - 3 = i * 3 + j by omega]
      simpa using ih (by simpa using h)

theorem SB.tok {w : World} {rb tb cap : Nat} {s : ByteArray} {L : List Parl.Tok} {i : Nat} {e p : Int} (h : SB w rb tb cap s L i e p) :
    w.cell? ⟨tb, i * 3, none⟩ = some (.int .i64 (bk (Parl.hd (L.drop i)).kind)) ∧ w.cell? ⟨tb, i * 3 + 1, none⟩ = some (.string (Parl.hd (L.drop i)).text) ∧ w.cell? ⟨tb, i * 3 + 2, none⟩ = some (.int .i64 ((Parl.hd (L.drop i)).pos : Int)) := by
  have hd : Parl.hd (L.drop i) = L[i]'h.lt := by
    rw [Parl.hd, List.drop_eq_getElem_cons h.lt]; rfl
  rw [hd]
  have hl := h.lt
  exact ⟨by rw [h.own.cellAt _ (by omega)]; have := tokC_at h.lt 0 (by omega); simpa [tokC] using this, by rw [h.own.cellAt _ (by omega)]; have := tokC_at h.lt 1 (by omega); simpa [tokC] using this, by rw [h.own.cellAt _ (by omega)]; have := tokC_at h.lt 2 (by omega); simpa [tokC] using this⟩

theorem SB.kb {w w' : World} {rb tb cap : Nat} {s : ByteArray} {L : List Parl.Tok} {i : Nat} {e p : Int} {X : List Nat} (h : SB w rb tb cap s L i e p) (hk : KB X w w') (h1 : rb ∉ X) (h2 : tb ∉ X) : SB w' rb tb cap s L i e p := by
  have hb := hk.block rb h.hlt h1
  have c : ∀ o, w'.cell? ⟨rb, o, none⟩ = w.cell? ⟨rb, o, none⟩ := fun o => World.cell?_of_block hb
  have f : ∀ o, w'.frozen? ⟨rb, o, none⟩ = w.frozen? ⟨rb, o, none⟩ := fun o => World.frozen?_of_block hb
  refine ⟨(c 0).trans h.c0, (c 1).trans h.c1, (c 2).trans h.c2, (c 3).trans h.c3, (f 1).trans h.f1, (f 2).trans h.f2, (f 3).trans h.f3, ⟨h.own.1, ?_⟩, h.ne, h.lt, h.chain, h.few, h.kinds, by have := hk.size; have := h.hlt; omega⟩
  rcases h.own.2 with ⟨q, _⟩ | ⟨g, cp, cur, a, b', c', d⟩
  · cases q
  · refine Or.inr ⟨g, cp, cur, a, b', ?_, d⟩
    simp only [Value.slice.injEq, Option.some.injEq, Addr.mk.injEq, and_true, true_and] at a
    obtain ⟨rfl, rfl⟩ := a
    rw [hk.block tb (Array.getElem?_eq_some_iff.1 c').1 h2]
    exact c'
theorem SB.below {w w' : World} {rb tb cap : Nat} {s : ByteArray} {L : List Parl.Tok} {i : Nat} {e p : Int} (h : SB w rb tb cap s L i e p) (hb : Below w.heap.size w w') : SB w' rb tb cap s L i e p :=
  h.kb (KB.of_below (X := []) hb) (by simp) (by simp)
theorem SB.tblt {w : World} {rb tb cap : Nat} {s : ByteArray} {L : List Parl.Tok} {i : Nat} {e p : Int} (h : SB w rb tb cap s L i e p) : tb < w.heap.size := (h.own.lt tb rfl).2

theorem ownTb_set {w : World} {rb tb cap n : Nat} {xs : List Value} (h : w.ownsRow 0 168 3 (.slice (some ⟨tb, 0, none⟩) n cap) n xs) (hne : tb ≠ rb) (o : Nat) (v : Value) : (w.setCell ⟨rb, o, none⟩ v).ownsRow 0 168 3 (.slice (some ⟨tb, 0, none⟩) n cap) n xs := by
  refine ⟨h.1, ?_⟩
  rcases h.2 with ⟨q, _⟩ | ⟨g, cp, cur, a, b', c', d⟩
  · cases q
  · refine Or.inr ⟨g, cp, cur, a, b', ?_, d⟩
    simp only [Value.slice.injEq, Option.some.injEq, Addr.mk.injEq, and_true, true_and] at a
    obtain ⟨rfl, rfl⟩ := a
    rw [Below.heap_setCell _ _ _ _ (by exact hne)]; exact c'

theorem bk5 {k : Nat} (h : k ≤ 5) : (bk k == 4) = (k == 5) := by
  rcases (show k = 0 ∨ k = 1 ∨ k = 2 ∨ k = 3 ∨ k = 4 ∨ k = 5 by omega) with rfl | rfl | rfl | rfl | rfl | rfl <;> rfl
theorem bk6 {k : Nat} (h : k ≤ 5) : (bk k != 6) = (k != 0) := by
  rcases (show k = 0 ∨ k = 1 ∨ k = 2 ∨ k = 3 ∨ k = 4 ∨ k = 5 by omega) with rfl | rfl | rfl | rfl | rfl | rfl <;> rfl
theorem SB.kind {w : World} {rb tb cap : Nat} {s : ByteArray} {L : List Parl.Tok} {i : Nat} {e p : Int} (h : SB w rb tb cap s L i e p) : (Parl.hd (L.drop i)).kind ≤ 5 := by
  have hd : Parl.hd (L.drop i) = L[i]'h.lt := by
    rw [Parl.hd, List.drop_eq_getElem_cons h.lt]; rfl
  rw [hd]; exact (h.kinds _ (List.getElem_mem _)).1
theorem SB.tsize {w : World} {rb tb cap : Nat} {s : ByteArray} {L : List Parl.Tok} {i : Nat} {e p : Int} (h : SB w rb tb cap s L i e p) : (Parl.hd (L.drop i)).text.size ≤ 240 := by
  have hd : Parl.hd (L.drop i) = L[i]'h.lt := by
    rw [Parl.hd, List.drop_eq_getElem_cons h.lt]; rfl
  rw [hd]; exact (h.kinds _ (List.getElem_mem _)).2
/-- Behind a token that is not the end there is another one. -/
theorem chain_lt {s : ByteArray} {L : List Parl.Tok} {i : Nat} (h : Parl.Chain s L) (hi : i < L.length) (hk : (Parl.hd (L.drop i)).kind ≠ 0) : i + 1 < L.length := by
  induction L generalizing i with
  | nil => simp at hi
  | cons t r ih =>
    cases i with
    | zero =>
      cases r with
      | nil => exact absurd h hk
      | cons u q => simp
    | succ i =>
      cases r with
      | nil => simp at hi
      | cons u q =>
        have := ih (i := i) h.2.2 (by simpa using hi) (by simpa using hk)
        simpa using this

end Go.Proofs.YthfjnfcekeknlaaGreatDoor
namespace Go.Proofs.YthfjnfcekeknlaaGreatDoor
open Go.RowKit

set_option maxHeartbeats 1000000 in
theorem is_any (w : World) (rb tb cap : Nat) (s : ByteArray) (L : List Parl.Tok) (i : Nat) (e0 p0 : Int) (g : ByteArray) (h : SB w rb tb cap s L i e0 p0) :
    Calls Tryz.prog 150 #[.pointer (some ⟨rb, 0, none⟩), .string g] w fun e w' => e = .returned (.bool (Parl.sees (L.drop i) g.toList)) ∧ ∃ n, w' = w.drewN n := by
  obtain ⟨k0, k1, k2⟩ := h.tok
  have hk := h.kind
  obtain ⟨c0, c1, c2, c3, f1, f2, f3, own, ne, lt, chain, few, kinds, hlt⟩ := h
  clear own chain kinds f1 f2 f3 c2 c3 k2
  have HS := hide (show Parl.sees (L.drop i) g.toList = (((Parl.hd (L.drop i)).kind == 5) && ((Parl.hd (L.drop i)).text.toList == g.toList)) from rfl)
  generalize Parl.hd (L.drop i) = t at *
  have hb := bk5 hk
  by_cases h5 : t.kind = 5
  · have hb4 : (bk t.kind == 4) = true := by rw [hb, h5]; rfl
    rw [h5] at HS
    clear hb h5 hk
    generalize bk t.kind = q at *
    go_enter Tryz.func150, Tryz.ntmps150
    go_wp2
    go_big_region
    go_wp2
    go_ret
    exact ⟨ret_bool (by rw [unhide HS]; rfl), 1, rfl⟩
  · have hb4 : (bk t.kind == 4) = false := by rw [hb]; simpa using h5
    have HS' := hide (show Parl.sees (L.drop i) g.toList = false by rw [unhide HS]; simp [h5])
    clear hb h5 hk HS
    generalize bk t.kind = q at *
    go_enter Tryz.func150, Tryz.ntmps150
    go_wp2
    go_big_region
    go_wp2
    go_ret
    exact ⟨ret_bool (by rw [unhide HS']), 1, rfl⟩
end Go.Proofs.YthfjnfcekeknlaaGreatDoor
namespace Go.Proofs.YthfjnfcekeknlaaGreatDoor
open Go.RowKit

theorem SB.draws {w : World} {rb tb cap : Nat} {s : ByteArray} {L : List Parl.Tok} {i : Nat} {e p : Int} (h : SB w rb tb cap s L i e p) (n : Nat) : SB (w.drewN n) rb tb cap s L i e p :=
  ⟨h.c0, h.c1, h.c2, h.c3, h.f1, h.f2, h.f3, h.own, h.ne, h.lt, h.chain, h.few, h.kinds, h.hlt⟩

theorem SB.set {w : World} {rb tb cap : Nat} {s : ByteArray} {L : List Parl.Tok} {i : Nat} {e p : Int} (h : SB w rb tb cap s L i e p) (n : Nat) (e' p' : Int) :
    SB (((w.setCell ⟨rb, 2, none⟩ (.int .i64 e')).drewN n).setCell ⟨rb, 3, none⟩ (.int .i64 p')) rb tb cap s L i e' p' ∧ KB [rb] w (((w.setCell ⟨rb, 2, none⟩ (.int .i64 e')).drewN n).setCell ⟨rb, 3, none⟩ (.int .i64 p')) := by
  refine ⟨?_, (((KB.refl [rb] w).setIn (by simp) _).drewN n).setIn (by simp) _⟩
  obtain ⟨c0, c1, c2, c3, f1, f2, f3, own, ne, lt, chain, few, kinds, hlt⟩ := h
  have q : SB (((w.setCell ⟨rb, 2, none⟩ (.int .i64 e'))).setCell ⟨rb, 3, none⟩ (.int .i64 p')) rb tb cap s L i e' p' := ⟨by go_cell, by go_cell, by go_cell, by go_cell, by go_cell, by go_cell, by go_cell, ownTb_set (ownTb_set own ne _ _) ne _ _, ne, lt, chain, few, kinds, by simpa using hlt⟩
  exact q.draws n

theorem SB.step {w : World} {rb tb cap : Nat} {s : ByteArray} {L : List Parl.Tok} {i : Nat} {e p : Int} (h : SB w rb tb cap s L i e p) (hi : i + 1 < L.length) :
    SB (w.setCell ⟨rb, 1, none⟩ (.int .i64 ((i + 1 : Nat) : Int))) rb tb cap s L (i + 1) e p ∧ KB [rb] w (w.setCell ⟨rb, 1, none⟩ (.int .i64 ((i + 1 : Nat) : Int))) := by
  refine ⟨?_, (KB.refl [rb] w).setIn (by simp) _⟩
  obtain ⟨c0, c1, c2, c3, f1, f2, f3, own, ne, lt, chain, few, kinds, hlt⟩ := h
  exact ⟨by go_cell, by go_cell, by go_cell, by go_cell, by go_cell, by go_cell, by go_cell, ownTb_set own ne _ _, ne, hi, chain, few, kinds, by simpa using hlt⟩

set_option maxHeartbeats 1000000 in
theorem bad_first (w : World) (rb tb cap : Nat) (s : ByteArray) (L : List Parl.Tok) (i : Nat) (p0 er : Int) (h : SB w rb tb cap s L i 0 p0) :
    Calls Tryz.prog 148 #[.pointer (some ⟨rb, 0, none⟩), .int .i64 er] w fun e w' => e = .returned (.tuple #[]) ∧ SB w' rb tb cap s L i er ((Parl.hd (L.drop i)).pos : Int) ∧ KB [rb] w w' := by
  have H := hide h
  obtain ⟨k0, k1, k2⟩ := h.tok
  obtain ⟨c0, c1, c2, c3, f1, f2, f3, own, ne, lt, chain, few, kinds, hlt⟩ := h
  clear own chain kinds k0 k1
  generalize Parl.hd (L.drop i) = t at *
  have hq : (w.setCell ⟨rb, 2, none⟩ (.int .i64 er)).cell? ⟨tb, i * 3 + 2, none⟩ = some (.int .i64 (t.pos : Int)) := (World.cell?_of_block (a := ⟨tb, i * 3 + 2, none⟩) (Below.heap_setCell _ _ _ _ ne)).trans k2
  go_enter Tryz.func148, Tryz.ntmps148
  go_wp2
  go_big_region
  go_wp2
  go_end0
  have R := (unhide H).set 1 er (t.pos : Int)
  exact ⟨rfl, R.1, R.2⟩

set_option maxHeartbeats 1000000 in
theorem bad_later (w : World) (rb tb cap : Nat) (s : ByteArray) (L : List Parl.Tok) (i : Nat) (e0 p0 er : Int) (h : SB w rb tb cap s L i e0 p0) (he : e0 ≠ 0) :
    Calls Tryz.prog 148 #[.pointer (some ⟨rb, 0, none⟩), .int .i64 er] w fun e w' => e = .returned (.tuple #[]) ∧ w' = w := by
  obtain ⟨c0, c1, c2, c3, f1, f2, f3, own, ne, lt, chain, few, kinds, hlt⟩ := h
  clear own chain kinds
  have he' : (e0 == 0) = false := by simpa using he
  go_enter Tryz.func148, Tryz.ntmps148
  go_wp2
  go_end0
  exact ⟨rfl, rfl⟩

set_option maxHeartbeats 1000000 in
theorem pass_on (w : World) (rb tb cap : Nat) (s : ByteArray) (L : List Parl.Tok) (i : Nat) (e0 p0 : Int) (h : SB w rb tb cap s L i e0 p0) (hk : (Parl.hd (L.drop i)).kind ≠ 0) :
    Calls Tryz.prog 151 #[.pointer (some ⟨rb, 0, none⟩)] w fun e w' => e = .returned (.tuple #[]) ∧ SB w' rb tb cap s L (i + 1) e0 p0 ∧ KB [rb] w w' := by
  have H := hide h
  have hn := chain_lt h.chain h.lt hk
  have hb : (bk (Parl.hd (L.drop i)).kind != 6) = true := by rw [bk6 h.kind]; simpa using hk
  obtain ⟨k0, k1, k2⟩ := h.tok
  obtain ⟨c0, c1, c2, c3, f1, f2, f3, own, ne, lt, chain, few, kinds, hlt⟩ := h
  clear own chain kinds k1 k2 hk
  generalize bk (Parl.hd (L.drop i)).kind = q at *
  go_enter Tryz.func151, Tryz.ntmps151
  go_wp2
  go_big_region
  go_wp2
  go_end0
  have R := ((unhide H).draws 1).step hn
  exact ⟨rfl, R.1, ((KB.refl [rb] w).drewN 1).trans R.2⟩

set_option maxHeartbeats 1000000 in
theorem pass_end (w : World) (rb tb cap : Nat) (s : ByteArray) (L : List Parl.Tok) (i : Nat) (e0 p0 : Int) (h : SB w rb tb cap s L i e0 p0) (hk : (Parl.hd (L.drop i)).kind = 0) :
    Calls Tryz.prog 151 #[.pointer (some ⟨rb, 0, none⟩)] w fun e w' => e = .returned (.tuple #[]) ∧ ∃ n, w' = w.drewN n := by
  have hb : (bk (Parl.hd (L.drop i)).kind != 6) = false := by rw [bk6 h.kind]; simpa using hk
  obtain ⟨k0, k1, k2⟩ := h.tok
  obtain ⟨c0, c1, c2, c3, f1, f2, f3, own, ne, lt, chain, few, kinds, hlt⟩ := h
  clear own chain kinds k1 k2 hk
  generalize bk (Parl.hd (L.drop i)).kind = q at *
  go_enter Tryz.func151, Tryz.ntmps151
  go_wp2
  go_big_region
  go_wp2
  go_end0
  exact ⟨rfl, 1, rfl⟩

/-- It stands somewhere, with what was wrong first. -/
def EB (w : World) (rb tb cap : Nat) (s : ByteArray) (L : List Parl.Tok) (e p : Int) : Prop := ∃ i, SB w rb tb cap s L i e p

theorem pass_any (w : World) (rb tb cap : Nat) (s : ByteArray) (L : List Parl.Tok) (e0 p0 : Int) (h : EB w rb tb cap s L e0 p0) :
    Calls Tryz.prog 151 #[.pointer (some ⟨rb, 0, none⟩)] w fun e w' => e = .returned (.tuple #[]) ∧ EB w' rb tb cap s L e0 p0 ∧ KB [rb] w w' := by
  obtain ⟨i, h⟩ := h
  by_cases hk : (Parl.hd (L.drop i)).kind = 0
  · refine (pass_end w rb tb cap s L i e0 p0 h hk).mono ?_
    rintro e w' ⟨rfl, n, rfl⟩
    exact ⟨rfl, ⟨i, h.draws n⟩, (KB.refl _ _).drewN n⟩
  · refine (pass_on w rb tb cap s L i e0 p0 h hk).mono ?_
    rintro e w' ⟨rfl, hs, hk⟩
    exact ⟨rfl, ⟨i + 1, hs⟩, hk⟩
/-- A sign that stands there is passed. -/
theorem want_yes (w : World) (rb tb cap : Nat) (s : ByteArray) (L : List Parl.Tok) (i : Nat) (e0 p0 : Int) (g : ByteArray) (h : SB w rb tb cap s L i e0 p0) (hs : Parl.sees (L.drop i) g.toList = true) :
    Calls Tryz.prog 153 #[.pointer (some ⟨rb, 0, none⟩), .string g] w fun e w' => e = .returned (.tuple #[]) ∧ SB w' rb tb cap s L (i + 1) e0 p0 ∧ KB [rb] w w' := by
  have H := hide h
  have hk := hide (show (Parl.hd (L.drop i)).kind ≠ 0 by rw [Parl.sees_kind hs]; omega)
  clear h
  go_enter Tryz.func153, Tryz.ntmps153
  go_wp2_with fail
  refine (is_any _ rb tb cap s L i e0 p0 g (unhide H)).mono ?_
  rintro e w1 ⟨rfl, n, rfl⟩
  go_wp2_with fail
  refine (pass_on _ rb tb cap s L i e0 p0 ((unhide H).draws n) (unhide hk)).mono ?_
  rintro e w2 ⟨rfl, hs2, hk2⟩
  have HS := hide hs2
  have HK := hide (((KB.refl [rb] w).drewN n).trans hk2)
  clear hs2 hk2
  go_wp2_with fail
  go_end0
  exact ⟨rfl, unhide HS, unhide HK⟩
/-- One that does not: that is wrong. -/
theorem want_no (w : World) (rb tb cap : Nat) (s : ByteArray) (L : List Parl.Tok) (i : Nat) (p0 : Int) (g : ByteArray) (h : SB w rb tb cap s L i 0 p0) (hs : Parl.sees (L.drop i) g.toList = false) :
    Calls Tryz.prog 153 #[.pointer (some ⟨rb, 0, none⟩), .string g] w fun e w' => e = .returned (.tuple #[]) ∧ EB w' rb tb cap s L 2 ((Parl.hd (L.drop i)).pos : Int) ∧ KB [rb] w w' := by
  have H := hide h
  clear h
  go_enter Tryz.func153, Tryz.ntmps153
  go_wp2_with fail
  refine (is_any _ rb tb cap s L i 0 p0 g (unhide H)).mono ?_
  rintro e w1 ⟨rfl, n, rfl⟩
  go_wp2_with fail
  refine (bad_first _ rb tb cap s L i p0 2 ((unhide H).draws n)).mono ?_
  rintro e w2 ⟨rfl, hs2, hk2⟩
  have HS := hide hs2
  have HK := hide (((KB.refl [rb] w).drewN n).trans hk2)
  clear hs2 hk2
  go_wp2_with fail
  refine (pass_any _ rb tb cap s L _ _ ⟨i, unhide HS⟩).mono ?_
  rintro e w3 ⟨rfl, hs3, hk3⟩
  have HS3 := hide hs3
  have HK3 := hide ((unhide HK).trans hk3)
  clear hs3 hk3
  go_wp2_with fail
  go_end0
  exact ⟨rfl, unhide HS3, unhide HK3⟩
/-- Behind an error: nothing of it turns. -/
theorem want_err (w : World) (rb tb cap : Nat) (s : ByteArray) (L : List Parl.Tok) (e0 p0 : Int) (g : ByteArray) (h : EB w rb tb cap s L e0 p0) (he : e0 ≠ 0) :
    Calls Tryz.prog 153 #[.pointer (some ⟨rb, 0, none⟩), .string g] w fun e w' => e = .returned (.tuple #[]) ∧ EB w' rb tb cap s L e0 p0 ∧ KB [rb] w w' := by
  obtain ⟨i, h⟩ := h
  have H := hide h
  clear h
  cases hs : Parl.sees (L.drop i) g.toList
  · go_enter Tryz.func153, Tryz.ntmps153
    go_wp2_with fail
    refine (is_any _ rb tb cap s L i e0 p0 g (unhide H)).mono ?_
    rintro e w1 ⟨rfl, n, rfl⟩
    go_wp2_with fail
    refine (bad_later _ rb tb cap s L i e0 p0 2 ((unhide H).draws n) he).mono ?_
    rintro e w2 ⟨rfl, rfl⟩
    go_wp2_with fail
    refine (pass_any _ rb tb cap s L _ _ ⟨i, (unhide H).draws n⟩).mono ?_
    rintro e w3 ⟨rfl, hs3, hk3⟩
    have HS3 := hide hs3
    have HK3 := hide (((KB.refl [rb] w).drewN n).trans hk3)
    clear hs3 hk3
    go_wp2_with fail
    go_end0
    exact ⟨rfl, unhide HS3, unhide HK3⟩
  · refine (want_yes w rb tb cap s L i e0 p0 g (unhide H) hs).mono ?_
    rintro e w' ⟨rfl, hs, hk⟩
    exact ⟨rfl, ⟨i + 1, hs⟩, hk⟩

theorem number_any (g : ByteArray) (w : World) (hg : g.size ≤ 240) : Calls Tryz.prog 185 #[.string g] w fun e w' => (∃ n : Int, e = .returned (.int .i64 n)) ∧ w' = w := by
  go_enter Tryz.func185, Tryz.ntmps185
  go_wp2
  go_loop [3, 4] (fun v i => ∃ (k : Nat) (n : Int), k ≤ g.size ∧ k ≤ 9 ∧ i = .int .i64 k ∧ v = .int .i64 n) (fun _ i => g.size - (intOf i).toNat)
  case atStart => exact ⟨0, 0, by omega, by omega, rfl, rfl⟩
  case round =>
    obtain ⟨k, n, hk, h9, rfl, rfl⟩ := hrel
    by_cases hlt : k < g.size
    · by_cases h9' : k < 9
      · go_wp2
        go_round
        case rel => exact ⟨k + 1, _, by omega, by omega, by go_num, rfl⟩
        case measure => simp [intOf]; omega
      · go_wp2
        go_ret
        exact ⟨⟨n, rfl⟩, rfl⟩
    · go_wp2
      go_ret
      exact ⟨⟨n, rfl⟩, rfl⟩
end Go.Proofs.YthfjnfcekeknlaaGreatDoor
namespace Go.Proofs.YthfjnfcekeknlaaGreatDoor
open Go.RowKit

/-- A term's four cells there. -/
structure BV where
  k : Int
  nm : ByteArray
  num : Int
  ao : Option Addr
  n : Nat
  cap : Nat
def bvC (a : BV) : List Value := [.int .i64 a.k, .string a.nm, .int .i64 a.num, .slice a.ao a.n a.cap]
theorem bvC_length (us : List BV) : (us.flatMap bvC).length = us.length * 4 := by
  induction us with
  | nil => rfl
  | cons a r ih => rw [List.flatMap_cons, List.length_append, ih]; simp [bvC]; omega

/-- What a term's own cells say. -/
def LeafB (a : BV) (t : Parl.Tm) : Prop := a.k = bk t.kind ∧ a.n = t.args.length ∧ (t.kind ≠ 4 → a.nm = t.text ∧ a.num = 0) ∧ (t.kind = 4 → a.num = (Parl.numOf t.text : Int) ∧ t.text.size ≤ 6 ∧ a.nm = ⟨#[]⟩) ∧ t.text.size ≤ 240 ∧ t.args.length ≤ 3
def RB : Nat → (Nat → Prop) → World → BV → Parl.Tm → Prop
  | 0, _, _, _, _ => False
  | f + 1, P, w, a, t => LeafB a t ∧ (t.args ≠ [] → ∃ (g : Nat) (us : List BV) (cs : Array Value), a.ao = some ⟨g, 0, none⟩ ∧ P g ∧ w.heap[g]? = some (.cells cs 109 (0, 0)) ∧ cs.toList.take (us.length * 4) = us.flatMap bvC ∧ All2 (RB f P w) us t.args)
/-- The term lies there; its rows are of the kind P. -/
def VB (P : Nat → Prop) (w : World) (a : BV) (t : Parl.Tm) : Prop := ∃ f, RB f P w a t

theorem RB.up {P : Nat → Prop} {w : World} : ∀ {f : Nat} {a : BV} {t : Parl.Tm}, RB f P w a t → RB (f + 1) P w a t
  | f + 1, _, _, ⟨h, q⟩ => ⟨h, fun n => by
    obtain ⟨g, us, cs, h1, h2, h3, h4, h5⟩ := q n
    exact ⟨g, us, cs, h1, h2, h3, h4, h5.imp fun _ _ => RB.up⟩⟩
theorem RB.le {P : Nat → Prop} {w : World} {f f' : Nat} {a : BV} {t : Parl.Tm} (h : RB f P w a t) (hf : f ≤ f') : RB f' P w a t := by
  induction hf with
  | refl => exact h
  | step _ ih => exact ih.up
theorem VB.all {P : Nat → Prop} {w : World} : ∀ {us : List BV} {ts : List Parl.Tm}, All2 (VB P w) us ts → ∃ f, All2 (RB f P w) us ts
  | [], [], _ => ⟨0, trivial⟩
  | _ :: _, _ :: _, q => by
    obtain ⟨f, hf⟩ := q.1
    obtain ⟨f', hf'⟩ := VB.all q.2
    exact ⟨max f f', hf.le (by omega), hf'.imp fun _ _ h => h.le (by omega)⟩
theorem VB.leaf {P : Nat → Prop} {w : World} {a : BV} {t : Parl.Tm} (h : LeafB a t) (h0 : t.args = []) : VB P w a t := ⟨1, h, fun q => absurd h0 q⟩
theorem VB.node {P : Nat → Prop} {w : World} {a : BV} {t : Parl.Tm} {g : Nat} {us : List BV} {cs : Array Value} (h : LeafB a t) (h1 : a.ao = some ⟨g, 0, none⟩) (h2 : P g) (h3 : w.heap[g]? = some (.cells cs 109 (0, 0))) (h4 : cs.toList.take (us.length * 4) = us.flatMap bvC) (h5 : All2 (VB P w) us t.args) : VB P w a t := by
  obtain ⟨f, hf⟩ := VB.all h5
  exact ⟨f + 1, h, fun _ => ⟨g, us, cs, h1, h2, h3, h4, hf⟩⟩
theorem VB.its {P : Nat → Prop} {w : World} {a : BV} {t : Parl.Tm} (h : VB P w a t) : LeafB a t ∧ (t.args ≠ [] → ∃ (g : Nat) (us : List BV) (cs : Array Value), a.ao = some ⟨g, 0, none⟩ ∧ P g ∧ w.heap[g]? = some (.cells cs 109 (0, 0)) ∧ cs.toList.take (us.length * 4) = us.flatMap bvC ∧ All2 (VB P w) us t.args) := by
  obtain ⟨f, hf⟩ := h
  cases f with
  | zero => exact hf.elim
  | succ f =>
    refine ⟨hf.1, fun q => ?_⟩
    obtain ⟨g, us, cs, h1, h2, h3, h4, h5⟩ := hf.2 q
    exact ⟨g, us, cs, h1, h2, h3, h4, h5.imp fun _ _ h => ⟨f, h⟩⟩
theorem RB.keep {P Q : Nat → Prop} {w w' : World} (hk : ∀ g cs, P g → w.heap[g]? = some (.cells cs 109 (0, 0)) → (∃ k r, cs.toList = .int .i64 k :: r) → w'.heap[g]? = some (.cells cs 109 (0, 0)) ∧ Q g) : ∀ {f : Nat} {a : BV} {t : Parl.Tm}, RB f P w a t → RB f Q w' a t
  | f + 1, _, _, ⟨h, q⟩ => ⟨h, fun n => by
    obtain ⟨g, us, cs, h1, h2, h3, h4, h5⟩ := q n
    have hi : ∃ k r, cs.toList = .int .i64 k :: r := by
      cases us with
      | nil => have := h5.length; simp at this; exact absurd (List.length_eq_zero_iff.1 this.symm) n
      | cons u us =>
        cases hc : cs.toList with
        | nil => rw [hc] at h4; simp [bvC] at h4
        | cons c r =>
          rw [hc] at h4
          simp only [List.length_cons, Nat.add_mul, Nat.one_mul, List.flatMap_cons, bvC, List.cons_append, List.take_succ_cons] at h4
          injection h4 with h4 _
          exact ⟨_, r, by rw [h4]⟩
    obtain ⟨r1, r2⟩ := hk g cs h2 h3 hi
    exact ⟨g, us, cs, h1, r2, r1, h4, h5.imp fun _ _ => RB.keep hk⟩⟩
theorem VB.keep {P Q : Nat → Prop} {w w' : World} {a : BV} {t : Parl.Tm} (h : VB P w a t) (hk : ∀ g cs, P g → w.heap[g]? = some (.cells cs 109 (0, 0)) → (∃ k r, cs.toList = .int .i64 k :: r) → w'.heap[g]? = some (.cells cs 109 (0, 0)) ∧ Q g) : VB Q w' a t := by
  obtain ⟨f, hf⟩ := h
  exact ⟨f, hf.keep hk⟩
theorem VB.imp {P Q : Nat → Prop} {w : World} {a : BV} {t : Parl.Tm} (h : VB P w a t) (hk : ∀ g, P g → g < w.heap.size → Q g) : VB Q w a t :=
  h.keep fun g _ hp hg _ => ⟨hg, hk g hp (Array.getElem?_eq_some_iff.1 hg).1⟩
/-- Across a call of the reader. -/
theorem VB.kb {P : Nat → Prop} {w w' : World} {a : BV} {t : Parl.Tm} {X : List Nat} (h : VB P w a t) (hk : KB X w w') (hX : ∀ x ∈ X, ¬ P x) : VB P w' a t :=
  h.keep fun g _ hp hg _ => ⟨(hk.block g (Array.getElem?_eq_some_iff.1 hg).1 (fun q => hX g q hp)).trans hg, hp⟩
theorem VB.below {P : Nat → Prop} {w w' : World} {a : BV} {t : Parl.Tm} (h : VB P w a t) (hb : Below w.heap.size w w') : VB P w' a t := h.kb (KB.of_below (X := []) hb) (by simp)
set_option maxHeartbeats 1000000 in
theorem number_is (g : ByteArray) (w : World) (hg : g.size ≤ 6) : Calls Tryz.prog 185 #[.string g] w fun e w' => e = .returned (.int .i64 (Parl.numOf g : Int)) ∧ w' = w := by
  go_enter Tryz.func185, Tryz.ntmps185
  go_wp2
  go_loop [3, 4] (fun v i => ∃ (k : Nat), k ≤ g.size ∧ i = .int .i64 k ∧ v = .int .i64 (Parl.numL (g.toList.take k) : Int)) (fun _ i => g.size - (intOf i).toNat)
  case atStart => exact ⟨0, by omega, rfl, rfl⟩
  case round =>
    obtain ⟨k, hk, rfl, rfl⟩ := hrel
    by_cases hlt : k < g.size
    · go_wp2
      go_round
      case rel =>
        refine ⟨k + 1, by omega, by go_num, ?_⟩
        rw [num_next hlt]
        have hb := Parl.numL_le (g.toList.take k) (by simp; omega)
        generalize Parl.numL (g.toList.take k) = v at *
        have hc : g[k].toNat < 256 := g[k].toNat_lt
        generalize g[k].toNat = c at *
        congr 1
        unfold wrap64
        omega
      case measure => simp [intOf]; omega
    · go_wp2
      go_ret
      obtain rfl : k = g.size := by omega
      exact ⟨by rw [num_all]; rfl, rfl⟩
end Go.Proofs.YthfjnfcekeknlaaGreatDoor
