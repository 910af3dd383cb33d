import Derived.Test.YtombbccmeeaimaaGreatDoorRows
import Derived.WalkKit
import Derived.WalkLawsBesides
import Derived.WalkSpells
import Derived.Lib.Strings
import Derived.Deep.QuietTactic
import Derived.BigQuiet
import Derived.Deep.RegionWith
import Derived.OpenShut
/- The plain mathematics: tokens and the reader of the document, over lists. Nothing of the program. -/
namespace Parl

/-- The byte at a place; nought beyond the end. -/
def bAt (s : ByteArray) (i : Nat) : Nat := if h : i < s.size then (s[i]'h).toNat else 0

def low (c : Nat) : Bool := decide (97 ≤ c) && decide (c ≤ 122)
def upp (c : Nat) : Bool := decide (65 ≤ c) && decide (c ≤ 90)
def dig (c : Nat) : Bool := decide (48 ≤ c) && decide (c ≤ 57)
def blank (c : Nat) : Bool := c == 32 || c == 10

/-- The first place from i on, n places at most, that holds no blank. -/
def skipN (s : ByteArray) : Nat → Nat → Nat
  | 0, i => i
  | n + 1, i => if i < s.size ∧ blank (bAt s i) = true then skipN s n (i + 1) else i
def skip (s : ByteArray) (i : Nat) : Nat := skipN s (s.size - i) i

/-- Kinds of tokens: 0 the end, 1 no token, 2 a name, 3 a variable, 4 a number, 5 a sign. -/
def inWord (k : Nat) (c : Nat) : Bool :=
  if k = 2 then low c || dig c else if k = 3 then low c || dig c || upp c else dig c

def wordN (s : ByteArray) (k : Nat) : Nat → Nat → Nat
  | 0, i => i
  | n + 1, i => if i < s.size ∧ inWord k (bAt s i) = true then wordN s k n (i + 1) else i
def wordEnd (s : ByteArray) (k i : Nat) : Nat := wordN s k (s.size - i) i

/-- Two bytes that make a sign. -/
def longSign (a b : Nat) : Bool :=
  (a == 58 && b == 45) || (a == 58 && b == 61) || (a == 61 && b == 61) || (a == 92 && b == 61) || (a == 61 && b == 60)
def shortSign (a : Nat) : Bool :=
  a == 61 || a == 60 || a == 43 || a == 45 || a == 42 || a == 40 || a == 41 || a == 44 || a == 124 || a == 46
def signLen (s : ByteArray) (i : Nat) : Nat :=
  if i + 1 < s.size ∧ longSign (bAt s i) (bAt s (i + 1)) = true then 2
  else if i < s.size ∧ shortSign (bAt s i) = true then 1 else 0

def kindAt (s : ByteArray) (i : Nat) : Nat :=
  if s.size ≤ i then 0
  else if low (bAt s i) = true then 2
  else if upp (bAt s i) = true then 3
  else if dig (bAt s i) = true then 4
  else if 0 < signLen s i then 5 else 1

def endAt (s : ByteArray) (i : Nat) : Nat :=
  if kindAt s i = 0 then i
  else if kindAt s i = 1 then i + 1
  else if kindAt s i = 5 then i + signLen s i
  else wordEnd s (kindAt s i) i

structure Tok where
  kind : Nat
  pos : Nat
  text : ByteArray

def next (s : ByteArray) (p : Nat) : Tok :=
  let i := skip s p
  if s.size ≤ i then ⟨0, s.size, ByteArray.empty⟩ else ⟨kindAt s i, i, s.extract i (endAt s i)⟩

/-- Tokens in a row: each is the next one behind the one ahead of it; the end is the last. -/
def Chain (s : ByteArray) : List Tok → Prop
  | [] => False
  | [t] => t.kind = 0
  | t :: u :: r => t.kind ≠ 0 ∧ u = next s (t.pos + t.text.size) ∧ Chain s (u :: r)

/-! ### The reader -/

/-- What is wrong (the error's number, the place), or a value and what is left. -/
abbrev Res (α : Type) := Sum (Nat × Nat) (α × List Tok)

def hd (l : List Tok) : Tok := l.headD ⟨0, 0, ByteArray.empty⟩
def sees (l : List Tok) (g : List UInt8) : Bool := (hd l).kind == 5 && (hd l).text.toList == g
def bad {α : Type} (e : Nat) (l : List Tok) : Res α := .inl (e, (hd l).pos)

structure Tm where
  kind : Nat
  text : ByteArray
  args : List Tm

/-- The items of a list in brackets, k more of them at most behind this one. -/
def argsOf (p : List Tok → Res Tm) : Nat → List Tok → Res (List Tm)
  | k, l =>
    match p l with
    | .inl e => .inl e
    | .inr (t, l1) =>
      if sees l1 [44] = true then
        match k with
        | 0 => bad 3 l1
        | k + 1 =>
          match argsOf p k l1.tail with
          | .inl e => .inl e
          | .inr (ts, l2) => .inr (t :: ts, l2)
      else if sees l1 [41] = true then .inr ([t], l1.tail) else bad 2 l1

def begins (t : Tok) : Bool := t.kind == 2 || t.kind == 3 || t.kind == 4

/-- A term that has f depths left. -/
def term : Nat → List Tok → Res Tm
  | 0, l => if begins (hd l) = true then bad 3 l else bad 2 l
  | f + 1, l =>
    if begins (hd l) = true then
      if (hd l).kind = 4 ∧ 6 < (hd l).text.size then bad 3 l
      else if (hd l).kind = 2 then
        if sees l.tail [40] = true then
          match argsOf (term f) 2 l.tail.tail with
          | .inl e => .inl e
          | .inr (ts, l2) => .inr (⟨2, (hd l).text, ts⟩, l2)
        else .inr (⟨2, (hd l).text, []⟩, l.tail)
      else .inr (⟨(hd l).kind, (hd l).text, []⟩, l.tail)
    else bad 2 l

structure Itm where
  left : Tm
  sign : List UInt8
  right : Option Tm
  op : List UInt8
  last : Option Tm

def testSign (l : List Tok) : Bool := sees l [60] || sees l [61, 60] || sees l [61, 61] || sees l [92, 61]
def operSign (l : List Tok) : Bool := sees l [43] || sees l [45] || sees l [42]
def isInt (t : Tm) : Bool := t.kind == 2 && t.text.toList == [105, 110, 116] && t.args.length == 1

def operand (l : List Tok) : Res Tm := if (hd l).kind = 2 then bad 2 l else term 8 l

/-- What stands behind a sign of a relation. -/
def sides (left : Tm) (fits : Bool) (l : List Tok) : Res Itm :=
  if fits = true then
    match term 8 l.tail with
    | .inl e => .inl e
    | .inr (r, l2) => .inr (⟨left, (hd l).text.toList, some r, [], none⟩, l2)
  else bad 2 l

def assignment (left : Tm) (fits : Bool) (l : List Tok) : Res Itm :=
  if fits = true then
    match operand l.tail with
    | .inl e => .inl e
    | .inr (r, l2) =>
      if operSign l2 = true then
        match operand l2.tail with
        | .inl e => .inl e
        | .inr (z, l3) => .inr (⟨left, (hd l).text.toList, some r, (hd l2).text.toList, some z⟩, l3)
      else .inr (⟨left, (hd l).text.toList, some r, [], none⟩, l2)
  else bad 2 l

/-- An item, where tests (goals) may stand; with what the list may be behind it. -/
def item (tests goals : Bool) (l : List Tok) : Res (Itm × Bool × Bool) :=
  match term 8 l with
  | .inl e => .inl e
  | .inr (t, l1) =>
    if testSign l1 = true then
      match sides t tests l1 with
      | .inl e => .inl e
      | .inr (x, l2) => .inr ((x, tests, false), l2)
    else if sees l1 [61] = true then
      match sides t goals l1 with
      | .inl e => .inl e
      | .inr (x, l2) => .inr ((x, false, goals), l2)
    else if t.kind = 3 ∧ sees l1 [58, 61] = true then
      match assignment t goals l1 with
      | .inl e => .inl e
      | .inr (x, l2) => .inr ((x, false, goals), l2)
    else if t.kind = 2 ∧ ((tests && isInt t) || goals) = true then
      .inr ((⟨t, [], none, [], none⟩, tests && isInt t, goals), l1)
    else bad 2 l1

/-- A list of items, k more of them at most behind this one. -/
def items : Nat → Bool → Bool → List Tok → Res (List Itm × Bool × Bool)
  | k, tests, goals, l =>
    match item tests goals l with
    | .inl e => .inl e
    | .inr ((x, t1, g1), l1) =>
      if sees l1 [44] = true then
        match k with
        | 0 => bad 3 l1
        | k + 1 =>
          match items k t1 g1 l1.tail with
          | .inl e => .inl e
          | .inr ((xs, t2, g2), l2) => .inr ((x :: xs, t2, g2), l2)
      else .inr (([x], t1, g1), l1)

structure Cls where
  head : Tm
  tests : List Itm
  goals : List Itm

/-- What stands behind the neck. -/
def body (l : List Tok) : Res (List Itm × List Itm) :=
  match items 5 true true l with
  | .inl e => .inl e
  | .inr ((xs, t, g), l1) =>
    if t = true ∧ sees l1 [124] = true then
      match items 5 false true l1.tail with
      | .inl e => .inl e
      | .inr ((ys, _, g2), l2) => if g2 = true then .inr ((xs, ys), l2) else bad 2 l2
    else if g = true then .inr (([], xs), l1) else bad 2 l1

def stop {α : Type} (x : α) (l : List Tok) : Res α := if sees l [46] = true then .inr (x, l.tail) else bad 2 l

/-- A clause, if one more may stand. -/
def clause (more : Bool) (l : List Tok) : Res Cls :=
  if (hd l).kind = 2 then
    if more = true then
      match term 8 l with
      | .inl e => .inl e
      | .inr (h, l1) =>
        if sees l1 [58, 45] = true then
          match body l1.tail with
          | .inl e => .inl e
          | .inr ((ts, gs), l2) => stop ⟨h, ts, gs⟩ l2
        else stop ⟨h, [], []⟩ l1
    else bad 3 l
  else bad 2 l

/-- A program, of k clauses at most. -/
def prog : Nat → List Tok → Res (List Cls)
  | k, l =>
    if (hd l).kind = 0 then .inr ([], l)
    else match k with
      | 0 => match clause false l with
        | .inl e => .inl e
        | .inr (c, l1) => .inr ([c], l1)
      | k + 1 =>
        match clause true l with
        | .inl e => .inl e
        | .inr (c, l1) =>
          match prog k l1 with
          | .inl e => .inl e
          | .inr (cs, l2) => .inr (c :: cs, l2)

end Parl
namespace Parl

theorem bAt_lt {s : ByteArray} {i : Nat} (h : i < s.size) : bAt s i = (s[i]'h).toNat := by simp [bAt, h]
theorem bAt_bd (s : ByteArray) (i : Nat) : bAt s i < 256 := by
  unfold bAt; split
  · exact UInt8.toNat_lt _
  · omega

theorem skip_step {s : ByteArray} {i : Nat} (h : i < s.size) (hb : blank (bAt s i) = true) : skip s i = skip s (i + 1) := by
  unfold skip
  rw [show s.size - i = (s.size - (i + 1)) + 1 by omega, skipN, if_pos ⟨h, hb⟩]

theorem skip_stop {s : ByteArray} {i : Nat} (h : ¬ (i < s.size ∧ blank (bAt s i) = true)) : skip s i = i := by
  unfold skip
  cases hn : s.size - i with
  | zero => rfl
  | succ n => rw [skipN, if_neg h]

theorem skipN_ge (s : ByteArray) (n i : Nat) : i ≤ skipN s n i := by
  induction n generalizing i with
  | zero => exact Nat.le_refl _
  | succ n ih => rw [skipN]; split
                 · have := ih (i + 1); omega
                 · omega
theorem skip_ge (s : ByteArray) (i : Nat) : i ≤ skip s i := skipN_ge _ _ _

theorem skipN_le (s : ByteArray) (n i : Nat) (h : i ≤ s.size) : skipN s n i ≤ s.size := by
  induction n generalizing i with
  | zero => exact h
  | succ n ih => rw [skipN]; split
                 · exact ih _ (by omega)
                 · exact h
theorem skip_le {s : ByteArray} {i : Nat} (h : i ≤ s.size) : skip s i ≤ s.size := skipN_le _ _ _ h

theorem skipN_stands (s : ByteArray) (n i : Nat) (h : s.size - i ≤ n) : ¬ (skipN s n i < s.size ∧ blank (bAt s (skipN s n i)) = true) := by
  induction n generalizing i with
  | zero => rw [skipN]; omega
  | succ n ih => rw [skipN]; split
                 · exact ih _ (by omega)
                 · assumption
theorem skip_skip (s : ByteArray) (i : Nat) : skip s (skip s i) = skip s i := skip_stop (skipN_stands s _ i (Nat.le_refl _))

theorem wordEnd_step {s : ByteArray} {k i : Nat} (h : i < s.size) (hb : inWord k (bAt s i) = true) : wordEnd s k i = wordEnd s k (i + 1) := by
  unfold wordEnd
  rw [show s.size - i = (s.size - (i + 1)) + 1 by omega, wordN, if_pos ⟨h, hb⟩]

theorem wordEnd_stop {s : ByteArray} {k i : Nat} (h : ¬ (i < s.size ∧ inWord k (bAt s i) = true)) : wordEnd s k i = i := by
  unfold wordEnd
  cases hn : s.size - i with
  | zero => rfl
  | succ n => rw [wordN, if_neg h]

theorem wordN_ge (s : ByteArray) (k n i : Nat) : i ≤ wordN s k n i := by
  induction n generalizing i with
  | zero => exact Nat.le_refl _
  | succ n ih => rw [wordN]; split
                 · have := ih (i + 1); omega
                 · omega
theorem wordEnd_ge (s : ByteArray) (k i : Nat) : i ≤ wordEnd s k i := wordN_ge _ _ _ _
theorem wordN_le (s : ByteArray) (k n i : Nat) (h : i ≤ s.size) : wordN s k n i ≤ s.size := by
  induction n generalizing i with
  | zero => exact h
  | succ n ih => rw [wordN]; split
                 · exact ih _ (by omega)
                 · exact h
theorem wordEnd_le {s : ByteArray} {k i : Nat} (h : i ≤ s.size) : wordEnd s k i ≤ s.size := wordN_le _ _ _ _ h

theorem signLen_le (s : ByteArray) (i : Nat) : signLen s i ≤ 2 := by unfold signLen; split <;> (try split) <;> omega
theorem signLen_fits {s : ByteArray} {i : Nat} (h : i ≤ s.size) : i + signLen s i ≤ s.size := by unfold signLen; split <;> (try split) <;> omega

theorem kindAt_le (s : ByteArray) (i : Nat) : kindAt s i ≤ 5 := by
  unfold kindAt
  repeat' split
  all_goals omega
theorem kindAt_zero {s : ByteArray} {i : Nat} : kindAt s i = 0 ↔ s.size ≤ i := by
  unfold kindAt; repeat' split
  all_goals simp_all

theorem endAt_gt {s : ByteArray} {i : Nat} (h : i < s.size) : i < endAt s i := by
  unfold endAt
  have h0 : kindAt s i ≠ 0 := by rw [Ne, kindAt_zero]; omega
  rw [if_neg h0]
  by_cases h1 : kindAt s i = 1
  · rw [if_pos h1]; omega
  · rw [if_neg h1]
    by_cases h5 : kindAt s i = 5
    · rw [if_pos h5]
      unfold kindAt at h5
      rw [if_neg (by omega)] at h5
      by_cases hp : 0 < signLen s i
      · omega
      · repeat' split at h5
        all_goals omega
    · rw [if_neg h5]
      have hw : inWord (kindAt s i) (bAt s i) = true := by
        unfold kindAt at h0 h1 h5 ⊢
        rw [if_neg (by omega)] at h0 h1 h5 ⊢
        by_cases a : low (bAt s i) = true
        · simp [a, inWord]
        · rw [if_neg a] at h0 h1 h5 ⊢
          by_cases b : upp (bAt s i) = true
          · simp [b, inWord]
          · rw [if_neg b] at h0 h1 h5 ⊢
            by_cases c : dig (bAt s i) = true
            · simp [c, inWord]
            · rw [if_neg c] at h0 h1 h5
              by_cases d : 0 < signLen s i
              · rw [if_pos d] at h5; exact absurd rfl h5
              · rw [if_neg d] at h1; exact absurd rfl h1
      rw [wordEnd_step h hw]
      have := wordEnd_ge s (kindAt s i) (i + 1)
      omega

theorem endAt_le {s : ByteArray} {i : Nat} (h : i < s.size) : endAt s i ≤ s.size := by
  unfold endAt
  repeat' split
  · omega
  · omega
  · exact signLen_fits (by omega)
  · exact wordEnd_le (by omega)

theorem next_end {s : ByteArray} {p : Nat} (h : s.size ≤ skip s p) : next s p = ⟨0, s.size, ByteArray.empty⟩ := by simp [next, h]
theorem next_tok {s : ByteArray} {p : Nat} (h : skip s p < s.size) : next s p = ⟨kindAt s (skip s p), skip s p, s.extract (skip s p) (endAt s (skip s p))⟩ := by
  simp [next, show ¬ s.size ≤ skip s p by omega]

theorem next_text_size {s : ByteArray} {p : Nat} (h : skip s p < s.size) : (next s p).text.size = endAt s (skip s p) - skip s p := by
  rw [next_tok h]; simp [ByteArray.size_extract]
  have := endAt_le h; omega

theorem next_behind {s : ByteArray} {p : Nat} (h : skip s p < s.size) : (next s p).pos + (next s p).text.size = endAt s (skip s p) := by
  rw [next_text_size h, next_tok h]; have := endAt_gt h; simp; omega

theorem next_kind {s : ByteArray} {p : Nat} : (next s p).kind = 0 ↔ s.size ≤ skip s p := by
  by_cases h : s.size ≤ skip s p
  · simp [next_end h, h]
  · rw [next_tok (by omega)]; simp [kindAt_zero]

theorem next_fits {s : ByteArray} {p : Nat} : (next s p).pos + (next s p).text.size ≤ s.size := by
  by_cases h : skip s p < s.size
  · rw [next_behind h]; exact endAt_le h
  · rw [next_end (by omega)]; simp

theorem next_kind_le {s : ByteArray} {p : Nat} : (next s p).kind ≤ 5 := by
  by_cases h : skip s p < s.size
  · rw [next_tok h]; exact kindAt_le _ _
  · rw [next_end (by omega)]; simp

theorem chain_is (s : ByteArray) (n p : Nat) (h : s.size - p ≤ n) : ∃ l, Chain s (next s p :: l) := by
  induction n generalizing p with
  | zero => exact ⟨[], by rw [Chain, next_kind]; have := skip_ge s p; omega⟩
  | succ n ih =>
    by_cases hk : s.size ≤ skip s p
    · exact ⟨[], by rw [Chain, next_kind]; exact hk⟩
    · have hk' : skip s p < s.size := by omega
      have hb := next_behind hk'
      have hg := endAt_gt hk'
      have hs := skip_ge s p
      obtain ⟨l, hl⟩ := ih ((next s p).pos + (next s p).text.size) (by omega)
      exact ⟨next s ((next s p).pos + (next s p).text.size) :: l, fun e => hk (next_kind.1 e), rfl, hl⟩

theorem Chain.one {s : ByteArray} {l l' : List Tok} (h : Chain s l) (h' : Chain s l') (e : hd l = hd l') : l = l' := by
  induction l generalizing l' with
  | nil => exact absurd h (by simp [Chain])
  | cons t r ih =>
    cases l' with
    | nil => exact absurd h' (by simp [Chain])
    | cons t' r' =>
      have e' : t = t' := e
      subst e'
      cases r with
      | nil =>
        cases r' with
        | nil => rfl
        | cons u' q' => exact absurd h (by rw [Chain] at h ⊢; exact h'.1)
      | cons u q =>
        cases r' with
        | nil => exact absurd h' (by rw [Chain] at h' ⊢; exact h.1)
        | cons u' q' =>
          rw [Chain] at h h'
          rw [ih h.2.2 h'.2.2 (h.2.1.trans h'.2.1.symm)]

theorem Chain.kind0 {s : ByteArray} {l : List Tok} (h : Chain s l) (h0 : (hd l).kind = 0) : l = [hd l] := by
  match l, h with
  | [t], _ => rfl
  | t :: u :: r, h => exact absurd h0 h.1

theorem Chain.tail {s : ByteArray} {l : List Tok} (h : Chain s l) (h0 : (hd l).kind ≠ 0) : Chain s l.tail ∧ hd l.tail = next s ((hd l).pos + (hd l).text.size) ∧ l = hd l :: l.tail := by
  match l, h with
  | [t], h => exact absurd h h0
  | t :: u :: r, h => exact ⟨h.2.2, h.2.1, rfl⟩

theorem sees_kind {l : List Tok} {g : List UInt8} (h : sees l g = true) : (hd l).kind = 5 := by
  simp [sees] at h; exact h.1

end Parl
namespace Go.Proofs.YtombbccmeeaimaaGreatDoor
open Go.RowKit

theorem hide {p : Prop} (h : p) : Hid p := h
theorem unhide {p : Prop} (h : Hid p) : p := h
theorem ret_bool {a b : Bool} (h : a = b) : Ending.returned (.bool a) = .returned (.bool b) := by rw [h]
theorem ret_int {k : IntKind} {a b : Int} (h : a = b) : Ending.returned (.int k a) = .returned (.int k b) := by rw [h]

theorem isBlank_any (c : Nat) (w : World) : Calls Tryz.prog 91 #[.int .u8 (c : Int)] w fun e w' => e = .returned (.bool (Parl.blank c)) ∧ w' = w := by
  by_cases h1 : c = 32
  · subst h1
    go_enter Tryz.func91, Tryz.ntmps91
    go_wp2
    go_ret
    exact ⟨rfl, rfl⟩
  · have e1 : ((c : Int) == 32) = false := by simp; omega
    by_cases h2 : c = 10
    · subst h2
      go_enter Tryz.func91, Tryz.ntmps91
      go_wp2
      go_ret
      exact ⟨rfl, rfl⟩
    · have e2 : ((c : Int) == 10) = false := by simp; omega
      go_enter Tryz.func91, Tryz.ntmps91
      go_wp2
      go_ret
      exact ⟨by simp [Parl.blank, h1, h2], rfl⟩

theorem isSmall_any (c : Nat) (w : World) : Calls Tryz.prog 92 #[.int .u8 (c : Int)] w fun e w' => e = .returned (.bool (Parl.low c)) ∧ w' = w := by
  by_cases h1 : 97 ≤ c
  all_goals
    go_enter Tryz.func92, Tryz.ntmps92
    go_wp2
    go_ret
    exact ⟨ret_bool (by rw [Bool.eq_iff_iff]; simp [Parl.low]; omega), rfl⟩

theorem isCapital_any (c : Nat) (w : World) : Calls Tryz.prog 93 #[.int .u8 (c : Int)] w fun e w' => e = .returned (.bool (Parl.upp c)) ∧ w' = w := by
  by_cases h1 : 65 ≤ c
  all_goals
    go_enter Tryz.func93, Tryz.ntmps93
    go_wp2
    go_ret
    exact ⟨ret_bool (by rw [Bool.eq_iff_iff]; simp [Parl.upp]; omega), rfl⟩

theorem isDigit_any (c : Nat) (w : World) : Calls Tryz.prog 94 #[.int .u8 (c : Int)] w fun e w' => e = .returned (.bool (Parl.dig c)) ∧ w' = w := by
  by_cases h1 : 48 ≤ c
  all_goals
    go_enter Tryz.func94, Tryz.ntmps94
    go_wp2
    go_ret
    exact ⟨ret_bool (by rw [Bool.eq_iff_iff]; simp [Parl.dig]; omega), rfl⟩

theorem goesOn_any (k c : Nat) (w : World) : Calls Tryz.prog 112 #[.int .i64 (k : Int), .int .u8 (c : Int)] w fun e w' => e = .returned (.bool (Parl.inWord k c)) ∧ w' = w := by
  by_cases h2 : k = 2
  · subst h2
    cases hl : Parl.low c
    all_goals
      go_enter Tryz.func112, Tryz.ntmps112
      go_wp2_with (first | (go_at_call 92; refine (isSmall_any _ _).mono ?_; rintro e w' ⟨rfl, rfl⟩) | (go_at_call 94; refine (isDigit_any _ _).mono ?_; rintro e w' ⟨rfl, rfl⟩))
      go_ret
      exact ⟨ret_bool (by simp [Parl.inWord, hl]), rfl⟩
  · have e2 : ((k : Int) == 2) = false := by simp; omega
    by_cases h3 : k = 3
    · subst h3
      cases hl : Parl.low c <;> cases hd : Parl.dig c
      all_goals
        go_enter Tryz.func112, Tryz.ntmps112
        go_wp2_with (first | (go_at_call 92; refine (isSmall_any _ _).mono ?_; rintro e w' ⟨rfl, rfl⟩) | (go_at_call 94; refine (isDigit_any _ _).mono ?_; rintro e w' ⟨rfl, rfl⟩) | (go_at_call 93; refine (isCapital_any _ _).mono ?_; rintro e w' ⟨rfl, rfl⟩))
        go_ret
        exact ⟨ret_bool (by simp [Parl.inWord, hl, hd]), rfl⟩
    · have e3 : ((k : Int) == 3) = false := by simp; omega
      go_enter Tryz.func112, Tryz.ntmps112
      go_wp2_with (first | (go_at_call 94; refine (isDigit_any _ _).mono ?_; rintro e w' ⟨rfl, rfl⟩))
      go_ret
      exact ⟨ret_bool (by simp [Parl.inWord, h2, h3]), rfl⟩

theorem skipBlanks_any (s : ByteArray) (p : Nat) (w : World) (hs : s.size ≤ maxLen) (hp : p ≤ s.size) :
    Calls Tryz.prog 58 #[.string s, .int .i64 (p : Int)] w fun e w' => e = .returned (.int .i64 ((Parl.skip s p : Nat) : Int)) ∧ w' = w := by
  unfold maxLen at hs
  go_enter Tryz.func58, Tryz.ntmps58
  go_wp2
  go_loop [5] (fun i => ∃ k : Nat, k ≤ s.size ∧ Hid (Parl.skip s k = Parl.skip s p) ∧ i = .int .i64 k) (fun i => s.size - (intOf i).toNat)
  case atStart => exact ⟨p, hp, rfl, rfl⟩
  case round =>
    obtain ⟨k, hk, hsk, rfl⟩ := hrel
    by_cases hlt : k < s.size
    · cases hb : Parl.blank (s[k].toNat)
      · have hst : Hid (Parl.skip s p = k) := by rw [← hsk.out]; exact Parl.skip_stop (by rw [Parl.bAt_lt hlt, hb]; simp)
        go_wp2_with (go_at_call 91; refine (isBlank_any _ _).mono ?_; rintro e w' ⟨rfl, rfl⟩)
        go_ret
        exact ⟨ret_int (by rw [hst.out]), rfl⟩
      · have hst : Hid (Parl.skip s (k + 1) = Parl.skip s p) := by rw [← hsk.out]; exact (Parl.skip_step hlt (by rw [Parl.bAt_lt hlt, hb])).symm
        go_wp2_with (go_at_call 91; refine (isBlank_any _ _).mono ?_; rintro e w' ⟨rfl, rfl⟩)
        go_round
        case rel => exact ⟨k + 1, by omega, hst, by go_num⟩
        case measure => simp [intOf]; omega
    · have hst : Hid (Parl.skip s p = k) := by rw [← hsk.out]; exact Parl.skip_stop (by omega)
      go_wp2
      go_ret
      exact ⟨ret_int (by rw [hst.out]), rfl⟩

theorem wordLength_any (k : Nat) (s : ByteArray) (w : World) (hs : s.size ≤ maxLen) :
    Calls Tryz.prog 96 #[.int .i64 (k : Int), .string s] w fun e w' => e = .returned (.int .i64 ((Parl.wordEnd s k 0 : Nat) : Int)) ∧ w' = w := by
  unfold maxLen at hs
  go_enter Tryz.func96, Tryz.ntmps96
  go_wp2
  go_loop [5] (fun i => ∃ j : Nat, j ≤ s.size ∧ Hid (Parl.wordEnd s k j = Parl.wordEnd s k 0) ∧ i = .int .i64 j) (fun i => s.size - (intOf i).toNat)
  case atStart => exact ⟨0, by omega, rfl, rfl⟩
  case round =>
    obtain ⟨j, hj, hsk, rfl⟩ := hrel
    by_cases hlt : j < s.size
    · cases hb : Parl.inWord k (s[j].toNat)
      · have hst : Hid (Parl.wordEnd s k 0 = j) := by rw [← hsk.out]; exact Parl.wordEnd_stop (by rw [Parl.bAt_lt hlt, hb]; simp)
        go_wp2_with (go_at_call 112; refine (goesOn_any _ _ _).mono ?_; rintro e w' ⟨rfl, rfl⟩)
        go_ret
        exact ⟨ret_int (by rw [hst.out]), rfl⟩
      · have hst : Hid (Parl.wordEnd s k (j + 1) = Parl.wordEnd s k 0) := by rw [← hsk.out]; exact (Parl.wordEnd_step hlt (by rw [Parl.bAt_lt hlt, hb])).symm
        go_wp2_with (go_at_call 112; refine (goesOn_any _ _ _).mono ?_; rintro e w' ⟨rfl, rfl⟩)
        go_round
        case rel => exact ⟨j + 1, by omega, hst, by go_num⟩
        case measure => simp [intOf]; omega
    · have hst : Hid (Parl.wordEnd s k 0 = j) := by rw [← hsk.out]; exact Parl.wordEnd_stop (by omega)
      go_wp2
      go_ret
      exact ⟨ret_int (by rw [hst.out]), rfl⟩
end Go.Proofs.YtombbccmeeaimaaGreatDoor
namespace Parl
open Go

theorem len_eq (s : ByteArray) : s.data.toList.length = s.size := by rw [← Lib.size_eq]

theorem get_eq {s : ByteArray} {i : Nat} (h : i < s.size) : s.data.toList[i]'(by rw [len_eq]; exact h) = s[i] := by
  simp; rfl

theorem two_eq {s : ByteArray} {i : Nat} (h : i + 1 < s.size) (a b : UInt8) : ((s.extract i (i + 2)).toList == [a, b]) = (bAt s i == a.toNat && bAt s (i + 1) == b.toNat) := by
  have hl := len_eq s
  rw [Lib.extract_toList, show i + 2 - i = 2 by omega, bAt_lt (by omega), bAt_lt h]
  rw [List.drop_eq_getElem_cons (by omega), List.drop_eq_getElem_cons (by omega)]
  simp only [List.take_succ_cons, List.take_zero]
  rw [get_eq (by omega), get_eq h, Bool.eq_iff_iff]
  simp [UInt8.toNat_inj]

theorem one_eq {s : ByteArray} {i : Nat} (h : i < s.size) (a : UInt8) : ((s.extract i (i + 1)).toList == [a]) = (bAt s i == a.toNat) := by
  have hl := len_eq s
  rw [Lib.extract_toList, show i + 1 - i = 1 by omega, bAt_lt h]
  rw [List.drop_eq_getElem_cons (by omega)]
  simp only [List.take_succ_cons, List.take_zero]
  rw [get_eq h, Bool.eq_iff_iff]
  simp [UInt8.toNat_inj]

/-- What stands behind a place, as a text of its own. -/
def from_ (s : ByteArray) (i : Nat) : ByteArray := s.extract i s.size

theorem size_from {s : ByteArray} {i : Nat} : (from_ s i).size = s.size - i := by simp [from_, ByteArray.size_extract]

theorem bAt_from {s : ByteArray} {i j : Nat} : bAt (from_ s i) j = bAt s (i + j) := by
  unfold bAt
  by_cases h : j < s.size - i
  · rw [dif_pos (by simpa [from_, ByteArray.size_extract] using h), dif_pos (by omega)]
    simp [from_, ByteArray.getElem_extract]
  · rw [dif_neg (by simpa [from_, ByteArray.size_extract] using h), dif_neg (by omega)]

theorem wordN_from {s : ByteArray} {k i n j : Nat} : wordN (from_ s i) k n j + i = wordN s k n (i + j) := by
  induction n generalizing j with
  | zero => simp [wordN]; omega
  | succ n ih =>
    rw [wordN, wordN, bAt_from, size_from]
    by_cases h : i + j < s.size ∧ inWord k (bAt s (i + j)) = true
    · rw [if_pos h, if_pos ⟨by omega, h.2⟩, ih]; rfl
    · rw [if_neg h, if_neg (by intro q; exact h ⟨by omega, q.2⟩)]; omega
theorem wordEnd_from {s : ByteArray} {k i : Nat} : wordEnd (from_ s i) k 0 + i = wordEnd s k i := by
  unfold wordEnd
  rw [size_from, wordN_from, Nat.sub_zero]; rfl
theorem signLen_from {s : ByteArray} {i : Nat} : signLen (from_ s i) 0 = signLen s i := by
  unfold signLen
  rw [bAt_from, bAt_from, size_from]
  have e1 : (0 + 1 < s.size - i) = (i + 1 < s.size) := by rw [eq_iff_iff]; omega
  have e2 : (0 < s.size - i) = (i < s.size) := by rw [eq_iff_iff]; omega
  simp only [e1, e2, Nat.add_zero, Nat.zero_add]
theorem kindAt_from {s : ByteArray} {i : Nat} : kindAt (from_ s i) 0 = kindAt s i := by
  unfold kindAt
  rw [bAt_from, size_from, signLen_from]
  have e1 : (s.size - i ≤ 0) = (s.size ≤ i) := by rw [eq_iff_iff]; omega
  simp only [e1, Nat.add_zero]
theorem endAt_from {s : ByteArray} {i : Nat} : endAt (from_ s i) 0 + i = endAt s i := by
  unfold endAt
  rw [kindAt_from, signLen_from]
  have := @wordEnd_from s (kindAt s i) i
  repeat' split
  all_goals omega

theorem extract_from {s : ByteArray} {i n : Nat} (h : i + n ≤ s.size) : (from_ s i).extract 0 n = s.extract i (i + n) := by
  unfold from_
  rw [ByteArray.extract_extract, Nat.add_zero, Nat.min_eq_left h]

theorem longSign_two {s : ByteArray} {i : Nat} (h : i + 1 < s.size) : longSign (bAt s i) (bAt s (i + 1)) = (((s.extract i (i + 2)).toList == [58, 45]) || ((s.extract i (i + 2)).toList == [58, 61]) || ((s.extract i (i + 2)).toList == [61, 61]) || ((s.extract i (i + 2)).toList == [92, 61]) || ((s.extract i (i + 2)).toList == [61, 60])) := by
  simp only [two_eq h]; rfl

/-- The signs of one byte, in the program's order. -/
def shorts : List Nat := [61, 60, 43, 45, 42, 40, 41, 44, 124, 46]
theorem shortSign_in (c : Nat) : shortSign c = true ↔ ∃ j, j < 10 ∧ shorts[j]? = some c := by
  constructor
  · intro h
    simp [shortSign] at h
    rcases h with (((((((((h | h) | h) | h) | h) | h) | h) | h) | h) | h) <;> subst h
    · exact ⟨0, by omega, rfl⟩
    · exact ⟨1, by omega, rfl⟩
    · exact ⟨2, by omega, rfl⟩
    · exact ⟨3, by omega, rfl⟩
    · exact ⟨4, by omega, rfl⟩
    · exact ⟨5, by omega, rfl⟩
    · exact ⟨6, by omega, rfl⟩
    · exact ⟨7, by omega, rfl⟩
    · exact ⟨8, by omega, rfl⟩
    · exact ⟨9, by omega, rfl⟩
  · rintro ⟨j, hj, h⟩
    have hm := List.mem_of_getElem? h
    simp [shorts] at hm
    rcases hm with h | h | h | h | h | h | h | h | h | h <;> subst h <;> rfl

end Parl
namespace Go.Proofs.YtombbccmeeaimaaGreatDoor
open Go.RowKit

/-- The table of the signs of two bytes lies where the program lays it. -/
structure Signs (w : World) : Prop where
  s0 : w.cell? ⟨0, 0, none⟩ = some (.string ⟨#[58, 45]⟩)
  s1 : w.cell? ⟨0, 1, none⟩ = some (.string ⟨#[58, 61]⟩)
  s2 : w.cell? ⟨0, 2, none⟩ = some (.string ⟨#[61, 61]⟩)
  s3 : w.cell? ⟨0, 3, none⟩ = some (.string ⟨#[92, 61]⟩)
  s4 : w.cell? ⟨0, 4, none⟩ = some (.string ⟨#[61, 60]⟩)

theorem signLen_two {r : ByteArray} (h : 2 ≤ r.size) (hl : Parl.longSign (Parl.bAt r 0) (Parl.bAt r 1) = true) : Parl.signLen r 0 = 2 := by
  unfold Parl.signLen; rw [if_pos ⟨by omega, hl⟩]
theorem signLen_one {r : ByteArray} (h : 0 < r.size) (hl : 2 ≤ r.size → Parl.longSign (Parl.bAt r 0) (Parl.bAt r 1) = false) (hs : Parl.shortSign (Parl.bAt r 0) = true) : Parl.signLen r 0 = 1 := by
  unfold Parl.signLen; rw [if_neg (by rintro ⟨a, b⟩; rw [hl (by omega)] at b; cases b), if_pos ⟨h, hs⟩]
theorem signLen_none {r : ByteArray} (hl : 2 ≤ r.size → Parl.longSign (Parl.bAt r 0) (Parl.bAt r 1) = false) (hs : 0 < r.size → Parl.shortSign (Parl.bAt r 0) = false) : Parl.signLen r 0 = 0 := by
  unfold Parl.signLen; rw [if_neg (by rintro ⟨a, b⟩; rw [hl (by omega)] at b; cases b), if_neg (by rintro ⟨a, b⟩; rw [hs a] at b; cases b)]

def shortB : ByteArray := ⟨#[61, 60, 43, 45, 42, 40, 41, 44, 124, 46]⟩
theorem shorts_at (k : Nat) (h : k < shortB.size) : Parl.shorts[k]? = some (shortB[k]'h).toNat := by
  have h' : k < 10 := h
  rcases (show k = 0 ∨ k = 1 ∨ k = 2 ∨ k = 3 ∨ k = 4 ∨ k = 5 ∨ k = 6 ∨ k = 7 ∨ k = 8 ∨ k = 9 by omega) with rfl | rfl | rfl | rfl | rfl | rfl | rfl | rfl | rfl | rfl <;> rfl
theorem short_hit {r : ByteArray} {k : Nat} (h0 : 0 < r.size) (hk : k < shortB.size) (h : (((r[0]'h0).toNat : Int) == ((shortB[k]'hk).toNat : Int)) = true) : Parl.shortSign (Parl.bAt r 0) = true := by
  rw [Parl.shortSign_in]
  refine ⟨k, hk, ?_⟩
  rw [shorts_at k hk, Parl.bAt_lt h0]
  have : ((r[0]'h0).toNat : Int) = ((shortB[k]'hk).toNat : Int) := by simpa using h
  rw [show (r[0]'h0).toNat = (shortB[k]'hk).toNat by omega]
theorem short_miss {r : ByteArray} {k : Nat} (h0 : 0 < r.size) (hk : k < shortB.size) (h : (((r[0]'h0).toNat : Int) == ((shortB[k]'hk).toNat : Int)) = false) (ho : ∀ j, j < k → Parl.shorts[j]? ≠ some (Parl.bAt r 0)) : ∀ j, j < k + 1 → Parl.shorts[j]? ≠ some (Parl.bAt r 0) := by
  intro j hj e
  by_cases hjk : j < k
  · exact ho j hjk e
  · obtain rfl : j = k := by omega
    rw [shorts_at j hk, Parl.bAt_lt h0] at e
    have e' := Option.some.inj e
    simp [e'] at h
theorem short_none {c k : Nat} (h : ¬ k < 10) (ho : ∀ j, j < k → Parl.shorts[j]? ≠ some c) : Parl.shortSign c = false := by
  cases hs : Parl.shortSign c with
  | false => rfl
  | true =>
    obtain ⟨j, hj, e⟩ := (Parl.shortSign_in c).1 hs
    exact absurd e (ho j (by omega))
theorem not_empty {r : ByteArray} (h : 0 < r.size) : r.toList.isEmpty = false := by
  rw [ByteArray.toList_eq]
  cases hx : r.data.toList with
  | nil => have := Parl.len_eq r; rw [hx] at this; simp at this; omega
  | cons => rfl

set_option maxHeartbeats 2000000 in
theorem signLength_any (r : ByteArray) (w : World) (hr : r.size ≤ maxLen) (h : Signs w) : Calls Tryz.prog 95 #[.string r] w fun e w' => e = .returned (.int .i64 ((Parl.signLen r 0 : Nat) : Int)) ∧ ∃ n, w' = w.drewN n := by
  obtain ⟨s0, s1, s2, s3, s4⟩ := h
  unfold maxLen at hr
  have i0 : ∀ w, (Instr.index 177 (.agg #[.string ⟨#[58, 45]⟩, .string ⟨#[58, 61]⟩, .string ⟨#[61, 61]⟩, .string ⟨#[92, 61]⟩, .string ⟨#[61, 60]⟩]) (.int .i64 0)).run Tryz.prog w = .ok (.string ⟨#[58, 45]⟩) w := fun _ => by kernel_rfl
  have i1 : ∀ w, (Instr.index 177 (.agg #[.string ⟨#[58, 45]⟩, .string ⟨#[58, 61]⟩, .string ⟨#[61, 61]⟩, .string ⟨#[92, 61]⟩, .string ⟨#[61, 60]⟩]) (.int .i64 1)).run Tryz.prog w = .ok (.string ⟨#[58, 61]⟩) w := fun _ => by kernel_rfl
  have i2 : ∀ w, (Instr.index 177 (.agg #[.string ⟨#[58, 45]⟩, .string ⟨#[58, 61]⟩, .string ⟨#[61, 61]⟩, .string ⟨#[92, 61]⟩, .string ⟨#[61, 60]⟩]) (.int .i64 2)).run Tryz.prog w = .ok (.string ⟨#[61, 61]⟩) w := fun _ => by kernel_rfl
  have i3 : ∀ w, (Instr.index 177 (.agg #[.string ⟨#[58, 45]⟩, .string ⟨#[58, 61]⟩, .string ⟨#[61, 61]⟩, .string ⟨#[92, 61]⟩, .string ⟨#[61, 60]⟩]) (.int .i64 3)).run Tryz.prog w = .ok (.string ⟨#[92, 61]⟩) w := fun _ => by kernel_rfl
  have i4 : ∀ w, (Instr.index 177 (.agg #[.string ⟨#[58, 45]⟩, .string ⟨#[58, 61]⟩, .string ⟨#[61, 61]⟩, .string ⟨#[92, 61]⟩, .string ⟨#[61, 60]⟩]) (.int .i64 4)).run Tryz.prog w = .ok (.string ⟨#[61, 60]⟩) w := fun _ => by kernel_rfl
  have LS : Hid (2 ≤ r.size → Parl.longSign (Parl.bAt r 0) (Parl.bAt r 1) = (((r.extract 0 2).toList == [58, 45]) || ((r.extract 0 2).toList == [58, 61]) || ((r.extract 0 2).toList == [61, 61]) || ((r.extract 0 2).toList == [92, 61]) || ((r.extract 0 2).toList == [61, 60]))) := fun h => Parl.longSign_two (i := 0) (by omega)
  by_cases h2 : 2 ≤ r.size
  · cases b0 : ((r.extract 0 2).toList == [58, 45])
    · cases b1 : ((r.extract 0 2).toList == [58, 61])
      · cases b2 : ((r.extract 0 2).toList == [61, 61])
        · cases b3 : ((r.extract 0 2).toList == [92, 61])
          · cases b4 : ((r.extract 0 2).toList == [61, 60])
            · have LN : Hid (Parl.longSign (Parl.bAt r 0) (Parl.bAt r 1) = false) := by rw [Hid, LS.out h2, b0, b1, b2, b3, b4]; rfl
              go_enter Tryz.func95, Tryz.ntmps95
              go_wp2
              refine wp_loop_rounds 6 ?_
              rw [rounds_succ]
              go_wp2
              rw [rounds_succ]
              go_wp2
              rw [rounds_succ]
              go_wp2
              rw [rounds_succ]
              go_wp2
              rw [rounds_succ]
              go_wp2
              rw [rounds_succ]
              go_wp2
              clear i0 i1 i2 i3 i4 b0 b1 b2 b3 b4
              go_loopw [5] (fun i wr => ∃ k n : Nat, k ≤ 10 ∧ i = .int .i64 k ∧ wr = w.drewN n ∧ Hid (∀ j, j < k → Parl.shorts[j]? ≠ some (Parl.bAt r 0))) (fun i _ => 10 - (intOf i).toNat)
              case atStart => exact ⟨0, 0, by omega, rfl, rfl, fun j h => absurd h (Nat.not_lt_zero _)⟩
              case round =>
                obtain ⟨k, n, hk, rfl, rfl, hno⟩ := hrel
                by_cases hlt : k < 10
                · by_cases h0 : 0 < r.size
                  · have hE := not_empty h0
                    have HM : Hid (∀ hk : k < shortB.size, (((r[0]'h0).toNat : Int) == ((shortB[k]'hk).toNat : Int)) = false → ∀ j, j < k + 1 → Parl.shorts[j]? ≠ some (Parl.bAt r 0)) := fun hk h => short_miss h0 hk h hno.out
                    go_wp2
                    go_big_region
                    go_wp2
                    · go_ret
                      exact ⟨ret_int (by rw [signLen_one h0 (fun _ => LN.out) (short_hit (k := k) h0 hlt (by assumption))]; rfl), n + 1, rfl⟩
                    · go_roundw
                      case rel => exact ⟨k + 1, n + 1, by omega, by go_num, rfl, HM.out hlt (by assumption)⟩
                      case measure => simp [intOf]; omega
                  · exact absurd (show 0 < r.size by omega) h0
                · have hS : Hid (Parl.shortSign (Parl.bAt r 0) = false) := short_none hlt hno.out
                  go_wp2
                  go_ret
                  exact ⟨ret_int (by rw [signLen_none (fun _ => LN.out) (fun _ => hS.out)]; rfl), n, rfl⟩
            · have LN : Hid (Parl.longSign (Parl.bAt r 0) (Parl.bAt r 1) = true) := by rw [Hid, LS.out h2, b0, b1, b2, b3, b4]; simp
              go_enter Tryz.func95, Tryz.ntmps95
              go_wp2
              refine wp_loop_rounds 6 ?_
              rw [rounds_succ]
              go_wp2
              rw [rounds_succ]
              go_wp2
              rw [rounds_succ]
              go_wp2
              rw [rounds_succ]
              go_wp2
              rw [rounds_succ]
              go_wp2
              go_ret
              exact ⟨ret_int (by rw [signLen_two h2 LN.out]; rfl), 0, rfl⟩
          · have LN : Hid (Parl.longSign (Parl.bAt r 0) (Parl.bAt r 1) = true) := by rw [Hid, LS.out h2, b0, b1, b2, b3]; simp
            go_enter Tryz.func95, Tryz.ntmps95
            go_wp2
            refine wp_loop_rounds 6 ?_
            rw [rounds_succ]
            go_wp2
            rw [rounds_succ]
            go_wp2
            rw [rounds_succ]
            go_wp2
            rw [rounds_succ]
            go_wp2
            go_ret
            exact ⟨ret_int (by rw [signLen_two h2 LN.out]; rfl), 0, rfl⟩
        · have LN : Hid (Parl.longSign (Parl.bAt r 0) (Parl.bAt r 1) = true) := by rw [Hid, LS.out h2, b0, b1, b2]; simp
          go_enter Tryz.func95, Tryz.ntmps95
          go_wp2
          refine wp_loop_rounds 6 ?_
          rw [rounds_succ]
          go_wp2
          rw [rounds_succ]
          go_wp2
          rw [rounds_succ]
          go_wp2
          go_ret
          exact ⟨ret_int (by rw [signLen_two h2 LN.out]; rfl), 0, rfl⟩
      · have LN : Hid (Parl.longSign (Parl.bAt r 0) (Parl.bAt r 1) = true) := by rw [Hid, LS.out h2, b0, b1]; simp
        go_enter Tryz.func95, Tryz.ntmps95
        go_wp2
        refine wp_loop_rounds 6 ?_
        rw [rounds_succ]
        go_wp2
        rw [rounds_succ]
        go_wp2
        go_ret
        exact ⟨ret_int (by rw [signLen_two h2 LN.out]; rfl), 0, rfl⟩
    · have LN : Hid (Parl.longSign (Parl.bAt r 0) (Parl.bAt r 1) = true) := by rw [Hid, LS.out h2, b0]; simp
      go_enter Tryz.func95, Tryz.ntmps95
      go_wp2
      refine wp_loop_rounds 6 ?_
      rw [rounds_succ]
      go_wp2
      go_ret
      exact ⟨ret_int (by rw [signLen_two h2 LN.out]; rfl), 0, rfl⟩
  · have LN : Hid (2 ≤ r.size → Parl.longSign (Parl.bAt r 0) (Parl.bAt r 1) = false) := fun h => absurd h h2
    go_enter Tryz.func95, Tryz.ntmps95
    go_wp2
    refine wp_loop_rounds 6 ?_
    rw [rounds_succ]
    go_wp2
    rw [rounds_succ]
    go_wp2
    rw [rounds_succ]
    go_wp2
    rw [rounds_succ]
    go_wp2
    rw [rounds_succ]
    go_wp2
    rw [rounds_succ]
    go_wp2
    clear i0 i1 i2 i3 i4 LS
    go_loopw [5] (fun i wr => ∃ k n : Nat, k ≤ 10 ∧ i = .int .i64 k ∧ wr = w.drewN n ∧ Hid (∀ j, j < k → Parl.shorts[j]? ≠ some (Parl.bAt r 0))) (fun i _ => 10 - (intOf i).toNat)
    case atStart => exact ⟨0, 0, by omega, rfl, rfl, fun j h => absurd h (Nat.not_lt_zero _)⟩
    case round =>
      obtain ⟨k, n, hk, rfl, rfl, hno⟩ := hrel
      by_cases hlt : k < 10
      · by_cases h0 : 0 < r.size
        · have hE := not_empty h0
          have HM : Hid (∀ hk : k < shortB.size, (((r[0]'h0).toNat : Int) == ((shortB[k]'hk).toNat : Int)) = false → ∀ j, j < k + 1 → Parl.shorts[j]? ≠ some (Parl.bAt r 0)) := fun hk h => short_miss h0 hk h hno.out
          go_wp2
          go_big_region
          go_wp2
          · go_ret
            exact ⟨ret_int (by rw [signLen_one h0 LN.out (short_hit (k := k) h0 hlt (by assumption))]; rfl), n + 1, rfl⟩
          · go_roundw
            case rel => exact ⟨k + 1, n + 1, by omega, by go_num, rfl, HM.out hlt (by assumption)⟩
            case measure => simp [intOf]; omega
        · have hE : r.toList.isEmpty = true := by rw [ByteArray.toList_eq]; have := Parl.len_eq r; cases hx : r.data.toList with
              | nil => rfl
              | cons a l => rw [hx] at this; simp at this; omega
          have HM : Hid (∀ j, j < k + 1 → Parl.shorts[j]? ≠ some (Parl.bAt r 0)) := fun j hj e => by
              have e0 : Parl.bAt r 0 = 0 := by unfold Parl.bAt; rw [dif_neg h0]
              rw [e0] at e
              have hm := List.mem_of_getElem? e
              simp [Parl.shorts] at hm
          go_wp2
          go_big_region
          go_wp2
          go_roundw
          case rel => exact ⟨k + 1, n + 1, by omega, by go_num, rfl, HM.out⟩
          case measure => simp [intOf]; omega
      · have hS : Hid (Parl.shortSign (Parl.bAt r 0) = false) := short_none hlt hno.out
        go_wp2
        go_ret
        exact ⟨ret_int (by rw [signLen_none LN.out (fun _ => hS.out)]; rfl), n, rfl⟩
end Go.Proofs.YtombbccmeeaimaaGreatDoor
namespace Go.Proofs.YtombbccmeeaimaaGreatDoor
open Go.RowKit

theorem Signs.below {B : Nat} {w w' : World} (h : Signs w) (hb : Below B w w') (h0 : 0 < B) : Signs w' :=
  ⟨(hb.cell (p := ⟨0, 0, none⟩) h0).trans h.s0, (hb.cell (p := ⟨0, 1, none⟩) h0).trans h.s1, (hb.cell (p := ⟨0, 2, none⟩) h0).trans h.s2, (hb.cell (p := ⟨0, 3, none⟩) h0).trans h.s3, (hb.cell (p := ⟨0, 4, none⟩) h0).trans h.s4⟩
theorem Signs.draws {w : World} (h : Signs w) (n : Nat) : Signs (w.drewN n) := ⟨h.s0, h.s1, h.s2, h.s3, h.s4⟩

theorem kindAt0 {r : ByteArray} (h : r.size = 0) : Parl.kindAt r 0 = 0 := by unfold Parl.kindAt; rw [if_pos (by omega)]
theorem kindAt2 {r : ByteArray} (h : 0 < r.size) (a : Parl.low (r[0].toNat) = true) : Parl.kindAt r 0 = 2 := by unfold Parl.kindAt; rw [if_neg (by omega), Parl.bAt_lt h, if_pos a]
theorem kindAt3 {r : ByteArray} (h : 0 < r.size) (a : Parl.low (r[0].toNat) = false) (b : Parl.upp (r[0].toNat) = true) : Parl.kindAt r 0 = 3 := by unfold Parl.kindAt; rw [if_neg (by omega), Parl.bAt_lt h, if_neg (by simp [a]), if_pos b]
theorem kindAt4 {r : ByteArray} (h : 0 < r.size) (a : Parl.low (r[0].toNat) = false) (b : Parl.upp (r[0].toNat) = false) (c : Parl.dig (r[0].toNat) = true) : Parl.kindAt r 0 = 4 := by unfold Parl.kindAt; rw [if_neg (by omega), Parl.bAt_lt h, if_neg (by simp [a]), if_neg (by simp [b]), if_pos c]
theorem kindAt5 {r : ByteArray} (h : 0 < r.size) (a : Parl.low (r[0].toNat) = false) (b : Parl.upp (r[0].toNat) = false) (c : Parl.dig (r[0].toNat) = false) (d : 0 < Parl.signLen r 0) : Parl.kindAt r 0 = 5 := by unfold Parl.kindAt; rw [if_neg (by omega), Parl.bAt_lt h, if_neg (by simp [a]), if_neg (by simp [b]), if_neg (by simp [c]), if_pos d]
theorem kindAt1 {r : ByteArray} (h : 0 < r.size) (a : Parl.low (r[0].toNat) = false) (b : Parl.upp (r[0].toNat) = false) (c : Parl.dig (r[0].toNat) = false) (d : ¬ 0 < Parl.signLen r 0) : Parl.kindAt r 0 = 1 := by unfold Parl.kindAt; rw [if_neg (by omega), Parl.bAt_lt h, if_neg (by simp [a]), if_neg (by simp [b]), if_neg (by simp [c]), if_neg d]
theorem is_empty {r : ByteArray} (h : r.size = 0) : r.toList.isEmpty = true := by
  rw [ByteArray.toList_eq]
  have := Parl.len_eq r
  cases hx : r.data.toList with
  | nil => rfl
  | cons a l => rw [hx] at this; simp at this; omega

set_option maxHeartbeats 1000000 in
theorem kindOf_any (r : ByteArray) (w : World) (hr : r.size ≤ maxLen) (h : Signs w) : Calls Tryz.prog 59 #[.string r] w fun e w' => e = .returned (.int .i64 ((Parl.kindAt r 0 : Nat) : Int)) ∧ ∃ n, w' = w.drewN n := by
  have hr' := hr
  unfold maxLen at hr'
  have H := h
  by_cases h0 : 0 < r.size
  · have hE := not_empty h0
    cases a : Parl.low (r[0].toNat)
    · cases b : Parl.upp (r[0].toNat)
      · cases c : Parl.dig (r[0].toNat)
        · by_cases d : 0 < Parl.signLen r 0
          · have K := hide (kindAt5 h0 a b c d)
            go_enter Tryz.func59, Tryz.ntmps59
            go_wp2_with (first | (go_at_call 92; refine (isSmall_any _ _).mono ?_; rintro e w' ⟨rfl, rfl⟩) | (go_at_call 94; refine (isDigit_any _ _).mono ?_; rintro e w' ⟨rfl, rfl⟩) | (go_at_call 93; refine (isCapital_any _ _).mono ?_; rintro e w' ⟨rfl, rfl⟩) | (go_at_call 95; refine (signLength_any _ _ hr H).mono ?_; rintro e w' ⟨rfl, n, rfl⟩))
            go_ret
            exact ⟨ret_int (by rw [unhide K]; rfl), n, rfl⟩
          · have K := hide (kindAt1 h0 a b c d)
            go_enter Tryz.func59, Tryz.ntmps59
            go_wp2_with (first | (go_at_call 92; refine (isSmall_any _ _).mono ?_; rintro e w' ⟨rfl, rfl⟩) | (go_at_call 94; refine (isDigit_any _ _).mono ?_; rintro e w' ⟨rfl, rfl⟩) | (go_at_call 93; refine (isCapital_any _ _).mono ?_; rintro e w' ⟨rfl, rfl⟩) | (go_at_call 95; refine (signLength_any _ _ hr H).mono ?_; rintro e w' ⟨rfl, n, rfl⟩))
            go_ret
            exact ⟨ret_int (by rw [unhide K]; rfl), n, rfl⟩
        · have K := hide (kindAt4 h0 a b c)
          go_enter Tryz.func59, Tryz.ntmps59
          go_wp2_with (first | (go_at_call 92; refine (isSmall_any _ _).mono ?_; rintro e w' ⟨rfl, rfl⟩) | (go_at_call 94; refine (isDigit_any _ _).mono ?_; rintro e w' ⟨rfl, rfl⟩) | (go_at_call 93; refine (isCapital_any _ _).mono ?_; rintro e w' ⟨rfl, rfl⟩))
          go_ret
          exact ⟨ret_int (by rw [unhide K]; rfl), 0, rfl⟩
      · have K := hide (kindAt3 h0 a b)
        go_enter Tryz.func59, Tryz.ntmps59
        go_wp2_with (first | (go_at_call 92; refine (isSmall_any _ _).mono ?_; rintro e w' ⟨rfl, rfl⟩) | (go_at_call 93; refine (isCapital_any _ _).mono ?_; rintro e w' ⟨rfl, rfl⟩))
        go_ret
        exact ⟨ret_int (by rw [unhide K]; rfl), 0, rfl⟩
    · have K := hide (kindAt2 h0 a)
      go_enter Tryz.func59, Tryz.ntmps59
      go_wp2_with (first | (go_at_call 92; refine (isSmall_any _ _).mono ?_; rintro e w' ⟨rfl, rfl⟩))
      go_ret
      exact ⟨ret_int (by rw [unhide K]; rfl), 0, rfl⟩
  · have hE := is_empty (r := r) (by omega)
    have K := hide (kindAt0 (r := r) (by omega))
    go_enter Tryz.func59, Tryz.ntmps59
    go_wp2
    go_ret
    exact ⟨ret_int (by rw [unhide K]; rfl), 0, rfl⟩

set_option maxHeartbeats 1000000 in
theorem lengthOf_any (r : ByteArray) (w : World) (hr : r.size ≤ maxLen) (h : Signs w) : Calls Tryz.prog 60 #[.int .i64 ((Parl.kindAt r 0 : Nat) : Int), .string r] w fun e w' => e = .returned (.int .i64 ((Parl.endAt r 0 : Nat) : Int)) ∧ ∃ n, w' = w.drewN n := by
  have hk := Parl.kindAt_le r 0
  have KE : Hid (Parl.endAt r 0 = if Parl.kindAt r 0 = 0 then 0 else if Parl.kindAt r 0 = 1 then 0 + 1 else if Parl.kindAt r 0 = 5 then 0 + Parl.signLen r 0 else Parl.wordEnd r (Parl.kindAt r 0) 0) := rfl
  generalize Parl.kindAt r 0 = k at *
  rcases (show k = 0 ∨ k = 1 ∨ k = 2 ∨ k = 3 ∨ k = 4 ∨ k = 5 by omega) with rfl | rfl | rfl | rfl | rfl | rfl
  · go_enter Tryz.func60, Tryz.ntmps60
    go_wp2_with fail
    go_ret
    exact ⟨ret_int (by rw [KE.out]; rfl), 0, rfl⟩
  · go_enter Tryz.func60, Tryz.ntmps60
    go_wp2_with fail
    go_ret
    exact ⟨ret_int (by rw [KE.out]; rfl), 0, rfl⟩
  · go_enter Tryz.func60, Tryz.ntmps60
    go_wp2_with (go_at_call 96; refine (wordLength_any 2 _ _ hr).mono ?_; rintro e w' ⟨rfl, rfl⟩)
    go_ret
    exact ⟨ret_int (by rw [KE.out]; rfl), 0, rfl⟩
  · go_enter Tryz.func60, Tryz.ntmps60
    go_wp2_with (go_at_call 96; refine (wordLength_any 3 _ _ hr).mono ?_; rintro e w' ⟨rfl, rfl⟩)
    go_ret
    exact ⟨ret_int (by rw [KE.out]; rfl), 0, rfl⟩
  · go_enter Tryz.func60, Tryz.ntmps60
    go_wp2_with (go_at_call 96; refine (wordLength_any 4 _ _ hr).mono ?_; rintro e w' ⟨rfl, rfl⟩)
    go_ret
    exact ⟨ret_int (by rw [KE.out]; rfl), 0, rfl⟩
  · go_enter Tryz.func60, Tryz.ntmps60
    go_wp2_with (go_at_call 95; refine (signLength_any _ _ hr h).mono ?_; rintro e w' ⟨rfl, n, rfl⟩)
    go_ret
    exact ⟨ret_int (by rw [KE.out]; simp), n, rfl⟩


set_option maxHeartbeats 1000000 in
theorem next_any (s : ByteArray) (p : Nat) (w : World) (hs : s.size ≤ maxLen) (hp : p ≤ s.size) (h : Signs w) (hz : 0 < w.heap.size) :
    Calls Tryz.prog 33 #[.string s, .int .i64 (p : Int)] w fun e w' => e = .returned (.agg #[.int .i64 ((Parl.next s p).kind : Int), .int .i64 ((Parl.next s p).pos : Int), .string (Parl.next s p).text]) ∧ Below w.heap.size w w' := by
  have hs' := hs
  unfold maxLen at hs'
  have hle := Parl.skip_le hp
  have hge := Parl.skip_ge s p
  by_cases he : Parl.skip s p < s.size
  · have hS : ∀ o, Signs (w.alloc o) := fun o => h.below ((Below.refl _ _).alloc (Nat.le_refl _) o) hz
    have hsz : (s.extract (Parl.skip s p) s.size).size ≤ maxLen := by rw [← Parl.from_, Parl.size_from]; omega
    have hN := hide (Parl.next_tok he)
    have hK := hide (@Parl.kindAt_from s (Parl.skip s p))
    have hE := hide (@Parl.endAt_from s (Parl.skip s p))
    have hEl := Parl.endAt_le he
    have hEg := Parl.endAt_gt he
    have hX : Hid (∀ n : Nat, Parl.skip s p + n ≤ s.size → (Parl.from_ s (Parl.skip s p)).extract 0 n = s.extract (Parl.skip s p) (Parl.skip s p + n)) := fun n h => Parl.extract_from h
    unfold Parl.from_ at hK hE hX
    go_enter Tryz.func33, Tryz.ntmps33
    go_wp2_with fail
    refine (skipBlanks_any s p _ hs hp).mono ?_
    rintro e w' ⟨rfl, rfl⟩
    go_wp2_with fail
    refine (kindOf_any (s.extract (Parl.skip s p) s.size) _ hsz (hS _)).mono ?_
    rintro e w' ⟨rfl, n, rfl⟩
    go_wp2_with fail
    refine (lengthOf_any (s.extract (Parl.skip s p) s.size) _ hsz ((hS _).draws _)).mono ?_
    rintro e w' ⟨rfl, m, rfl⟩
    have hb : Parl.endAt (s.extract (Parl.skip s p) s.size) 0 + Parl.skip s p = Parl.endAt s (Parl.skip s p) := unhide hE
    have hb2 : Parl.endAt (s.extract (Parl.skip s p) s.size) 0 ≤ (s.extract (Parl.skip s p) s.size).size := by rw [ByteArray.size_extract]; omega
    generalize hg : Parl.endAt (s.extract (Parl.skip s p) s.size) 0 = q at *
    have hg' := hide hg
    clear hg
    have hb' := hide hb
    clear hb
    go_wp2_with fail
    refine bodyPost_ret (v := .agg #[.int .i64 (Parl.kindAt (s.extract (Parl.skip s p) s.size) 0 : Int), .int .i64 (Parl.skip s p : Int), .string ((s.extract (Parl.skip s p) s.size).extract 0 q)]) (by simp [results, Tryz.results33, go_sem]) rfl ⟨?_, ?_⟩
    · rw [unhide hN, unhide hK, unhide hX q (by rw [ByteArray.size_extract] at hb2; omega), Nat.add_comm, unhide hb']
    · exact (((below_drewN ((Below.refl _ _).alloc (Nat.le_refl _) _) _).setCell (Nat.le_refl _) _).setCell (Nat.le_refl _) _).setCell (Nat.le_refl _) _
  · have hN := hide (Parl.next_end (s := s) (p := p) (by omega))
    go_enter Tryz.func33, Tryz.ntmps33
    go_wp2_with fail
    refine (skipBlanks_any s p _ hs hp).mono ?_
    rintro e w' ⟨rfl, rfl⟩
    go_wp2_with fail
    refine bodyPost_ret (v := .agg #[.int .i64 0, .int .i64 (s.size : Int), .string ByteArray.empty]) (by simp [results, Tryz.results33, go_sem]; rfl) rfl ⟨?_, ?_⟩
    · rw [unhide hN]; rfl
    · exact (Below.refl _ _).alloc (Nat.le_refl _) _
end Go.Proofs.YtombbccmeeaimaaGreatDoor
namespace Go.Proofs.YtombbccmeeaimaaGreatDoor
open Go.RowKit

/-- The type of a block's cells. -/
def tyAt (w : World) (k : Nat) : Option TypeId := match w.heap[k]? with
  | some (.cells _ t _) => some t
  | _ => none

/-- All blocks stay but those of X and rows of texts from b on. -/
structure KA (b : Nat) (X : List Nat) (w w' : World) : Prop where
  os : w'.os = w.os
  tape : w'.tape = w.tape
  output : w'.output = w.output
  size : w.heap.size ≤ w'.heap.size
  block : ∀ k, k < w.heap.size → k ∉ X → (k < b ∨ tyAt w k ≠ some 9) → w'.heap[k]? = w.heap[k]?

theorem KA.refl (b : Nat) (X : List Nat) (w : World) : KA b X w w := ⟨rfl, rfl, rfl, Nat.le_refl _, fun _ _ _ _ => rfl⟩
theorem KA.trans {b : Nat} {X : List Nat} {u v w : World} (h : KA b X u v) (k : KA b X v w) : KA b X u w :=
  ⟨k.os.trans h.os, k.tape.trans h.tape, k.output.trans h.output, Nat.le_trans h.size k.size, fun i hi hX ht => by
    have e := h.block i hi hX ht
    rw [k.block i (Nat.lt_of_lt_of_le hi h.size) hX (by unfold tyAt at ht ⊢; rw [e]; exact ht), e]⟩
theorem KA.of_below {b : Nat} {X : List Nat} {w w' : World} (h : Below w.heap.size w w') : KA b X w w' := ⟨h.os, h.tape, h.output, h.size, fun k hk _ _ => h.block k hk⟩
theorem KA.drewN {b : Nat} {X : List Nat} {u w : World} (h : KA b X u w) (n : Nat) : KA b X u (w.drewN n) := h.trans (KA.of_below (below_drewN (Below.refl _ _) n))
theorem KA.drew {b : Nat} {X : List Nat} {u w : World} (h : KA b X u w) : KA b X u w.drew := h.trans (KA.of_below (Below.refl _ _).drew)
theorem KA.alloc {b : Nat} {X : List Nat} {u w : World} (h : KA b X u w) (o : Obj) : KA b X u (w.alloc o) := h.trans (KA.of_below ((Below.refl _ _).alloc (Nat.le_refl _) o))
theorem KA.setIn {b : Nat} {X : List Nat} {u w : World} (h : KA b X u w) {p : Addr} (hp : p.block ∈ X) (v : Value) : KA b X u (w.setCell p v) :=
  h.trans ⟨rfl, rfl, rfl, by simp [World.setCell], fun k hk hX _ => Below.heap_setCell _ _ _ _ (fun e => hX (e ▸ hp))⟩
theorem KA.setNew {b : Nat} {X : List Nat} {u w : World} (h : KA b X u w) {p : Addr} (hp : u.heap.size ≤ p.block) (v : Value) : KA b X u (w.setCell p v) :=
  ⟨h.os, h.tape, h.output, by have := h.size; simp [World.setCell]; omega, fun k hk hX ht => (Below.heap_setCell _ _ _ _ (by omega)).trans (h.block k hk hX ht)⟩
theorem KA.mono {b : Nat} {X Y : List Nat} {u w : World} (h : KA b X u w) (hs : ∀ x ∈ X, x ∈ Y) : KA b Y u w :=
  ⟨h.os, h.tape, h.output, h.size, fun k hk hY ht => h.block k hk (fun e => hY (hs k e)) ht⟩
/-- What is new in the first world may be let go. -/
theorem KA.forget {b : Nat} {X Y : List Nat} {u w : World} (h : KA b Y u w) (hs : ∀ x ∈ Y, x ∈ X ∨ u.heap.size ≤ x) : KA b X u w :=
  ⟨h.os, h.tape, h.output, h.size, fun k hk hX ht => h.block k hk (fun e => (hs k e).elim hX (fun q => by omega)) ht⟩
theorem KA.cell {b : Nat} {X : List Nat} {w w' : World} (h : KA b X w w') {p : Addr} (hp : p.block < w.heap.size) (hX : p.block ∉ X) (ht : p.block < b ∨ tyAt w p.block ≠ some 9) : w'.cell? p = w.cell? p := World.cell?_of_block (w := w) (h.block p.block hp hX ht)
theorem KA.frozen {b : Nat} {X : List Nat} {w w' : World} (h : KA b X w w') {p : Addr} (hp : p.block < w.heap.size) (hX : p.block ∉ X) (ht : p.block < b ∨ tyAt w p.block ≠ some 9) : w'.frozen? p = w.frozen? p := World.frozen?_of_block (w := w) (h.block p.block hp hX ht)
theorem KA.below {b : Nat} {X : List Nat} {w w' : World} (h : KA b X w w') {B : Nat} (hB : B ≤ w.heap.size) (hb : B ≤ b) (hX : ∀ x ∈ X, B ≤ x) : Below B w w' :=
  ⟨h.os, h.tape, h.output, h.size, fun k hk => h.block k (by omega) (fun e => by have := hX k e; omega) (Or.inl (by omega))⟩
theorem KA.grown {b : Nat} {X : List Nat} {u w w' : World} {row : Option Nat} (h : KA b X u w) (hg : w.grownBy w' row) (hr : ∀ k, row = some k → u.heap.size ≤ k ∨ k ∈ X ∨ (b ≤ k ∧ tyAt w k = some 9)) : KA b X u w' :=
  ⟨hg.os.trans h.os, hg.tape.trans h.tape, hg.output.trans h.output, Nat.le_trans h.size hg.size, fun k hk hX ht => by
    have e := h.block k hk hX ht
    rw [hg.block k (Nat.lt_of_lt_of_le hk h.size) (fun q => ?_), e]
    rcases hr k q.symm with a | a | ⟨a, c⟩
    · omega
    · exact hX a
    · rcases ht with t | t
      · omega
      · apply t; unfold tyAt at c ⊢; rw [← e]; exact c⟩

theorem Signs.ka {b : Nat} {X : List Nat} {w w' : World} (h : Signs w) (hk : KA b X w w') (h0 : 0 < w.heap.size) (hX : 0 ∉ X) (hb : 0 < b) : Signs w' :=
  ⟨(hk.cell (p := ⟨0, 0, none⟩) h0 hX (Or.inl hb)).trans h.s0, (hk.cell (p := ⟨0, 1, none⟩) h0 hX (Or.inl hb)).trans h.s1, (hk.cell (p := ⟨0, 2, none⟩) h0 hX (Or.inl hb)).trans h.s2, (hk.cell (p := ⟨0, 3, none⟩) h0 hX (Or.inl hb)).trans h.s3, (hk.cell (p := ⟨0, 4, none⟩) h0 hX (Or.inl hb)).trans h.s4⟩

/-- The reader's six cells. -/
structure Rd (w : World) (rb : Nat) (s : ByteArray) (t : Parl.Tok) (nv : Value) (e : Int) : Prop where
  c0 : w.cell? ⟨rb, 0, none⟩ = some (.string s)
  c1 : w.cell? ⟨rb, 1, none⟩ = some (.int .i64 (t.kind : Int))
  c2 : w.cell? ⟨rb, 2, none⟩ = some (.int .i64 (t.pos : Int))
  c3 : w.cell? ⟨rb, 3, none⟩ = some (.string t.text)
  c4 : w.cell? ⟨rb, 4, none⟩ = some nv
  c5 : w.cell? ⟨rb, 5, none⟩ = some (.int .i64 e)
  f1 : w.frozen? ⟨rb, 1, none⟩ = false
  f2 : w.frozen? ⟨rb, 2, none⟩ = false
  f3 : w.frozen? ⟨rb, 3, none⟩ = false
  f4 : w.frozen? ⟨rb, 4, none⟩ = false
  f5 : w.frozen? ⟨rb, 5, none⟩ = false

theorem Rd.below {B : Nat} {w w' : World} {rb : Nat} {s : ByteArray} {t : Parl.Tok} {nv : Value} {e : Int} (h : Rd w rb s t nv e) (hb : Below B w w') (hr : rb < B) : Rd w' rb s t nv e :=
  ⟨(hb.cell (p := ⟨rb, 0, none⟩) hr).trans h.c0, (hb.cell (p := ⟨rb, 1, none⟩) hr).trans h.c1, (hb.cell (p := ⟨rb, 2, none⟩) hr).trans h.c2, (hb.cell (p := ⟨rb, 3, none⟩) hr).trans h.c3, (hb.cell (p := ⟨rb, 4, none⟩) hr).trans h.c4, (hb.cell (p := ⟨rb, 5, none⟩) hr).trans h.c5,
   (hb.frozen (p := ⟨rb, 1, none⟩) hr).trans h.f1, (hb.frozen (p := ⟨rb, 2, none⟩) hr).trans h.f2, (hb.frozen (p := ⟨rb, 3, none⟩) hr).trans h.f3, (hb.frozen (p := ⟨rb, 4, none⟩) hr).trans h.f4, (hb.frozen (p := ⟨rb, 5, none⟩) hr).trans h.f5⟩

/-- What the reader stands at: the tokens l are left, ns are the clause's variables so far. -/
structure St (w : World) (rb : Nat) (s : ByteArray) (l : List Parl.Tok) (ns : List ByteArray) (nv : Value) (e : Int) : Prop where
  rd : Rd w rb s (Parl.hd l) nv e
  own : w.ownsRow (rb + 1) 9 1 nv ns.length (ns.map Value.string)
  chain : Parl.Chain s l
  isNext : ∃ p, Parl.hd l = Parl.next s p
  few : ns.length + l.length ≤ 1000
  short : s.size ≤ 240
  signs : Signs w
  pos : 0 < rb
  lt : rb < w.heap.size

theorem St.below {w w' : World} {rb : Nat} {s : ByteArray} {l : List Parl.Tok} {ns : List ByteArray} {nv : Value} {e : Int} (h : St w rb s l ns nv e) (hb : Below w.heap.size w w') : St w' rb s l ns nv e :=
  ⟨h.rd.below hb h.lt, ⟨h.own.1, h.own.2.imp id fun ⟨g, cap, cur, a, b, c, d⟩ => ⟨g, cap, cur, a, b, (hb.block g (by
      have := Array.getElem?_eq_some_iff.1 c; exact this.1)).trans c, d⟩⟩, h.chain, h.isNext, h.few, h.short, h.signs.below hb (by have := h.lt; omega), h.pos, by have := hb.size; have := h.lt; omega⟩

/-- A store into the reader's own block: what does not hang on its cells stays. -/
theorem own_setCell {w : World} {rb : Nat} {T : TypeId} {sz : Nat} {nv : Value} {n : Nat} {xs : List Value} (h : w.ownsRow (rb + 1) T sz nv n xs) (o : Nat) (v : Value) : (w.setCell ⟨rb, o, none⟩ v).ownsRow (rb + 1) T sz nv n xs :=
  ownsRow_setCell_below h (by show rb < rb + 1; omega) v

theorem Signs.setCell {w : World} (h : Signs w) {p : Addr} (hp : p.block ≠ 0) (v : Value) : Signs (w.setCell p v) := by
  have k : ∀ o, (w.setCell p v).cell? ⟨0, o, none⟩ = w.cell? ⟨0, o, none⟩ := fun o => World.cell?_of_block (Below.heap_setCell _ _ _ _ (fun e => hp e.symm))
  exact ⟨(k 0).trans h.s0, (k 1).trans h.s1, (k 2).trans h.s2, (k 3).trans h.s3, (k 4).trans h.s4⟩
end Go.Proofs.YtombbccmeeaimaaGreatDoor
namespace Go.Proofs.YtombbccmeeaimaaGreatDoor
open Go.RowKit

theorem refuse_any (w : World) (rb : Nat) (s : ByteArray) (l : List Parl.Tok) (ns : List ByteArray) (nv : Value) (e0 : Int) (c : Int) (h : St w rb s l ns nv e0) :
    Calls Tryz.prog 97 #[.pointer (some ⟨rb, 0, none⟩), .int .i64 c] w fun e w' => e = .returned (.tuple #[]) ∧ St w' rb s l ns nv c ∧ KA rb [rb] w w' := by
  obtain ⟨⟨c0, c1, c2, c3, c4, c5, f1, f2, f3, f4, f5⟩, own, chain, isn, few, short, signs, pos, lt⟩ := h
  go_enter Tryz.func97, Tryz.ntmps97
  go_wp2
  go_end0
  refine ⟨rfl, ⟨⟨?_, ?_, ?_, ?_, ?_, ?_, ?_, ?_, ?_, ?_, ?_⟩, own_setCell own _ _, chain, isn, few, short, signs.setCell (by show rb ≠ 0; omega) _, pos, by simpa using lt⟩, (KA.refl _ _ _).setIn (by simp) _⟩
  all_goals first | go_cell | (simp [go_sem, *]; done)

theorem sees_any (w : World) (rb : Nat) (s : ByteArray) (l : List Parl.Tok) (ns : List ByteArray) (nv : Value) (e0 : Int) (g : ByteArray) (h : St w rb s l ns nv e0) :
    Calls Tryz.prog 63 #[.pointer (some ⟨rb, 0, none⟩), .string g] w fun e w' => e = .returned (.bool (Parl.sees l g.toList)) ∧ w' = w := by
  obtain ⟨⟨c0, c1, c2, c3, c4, c5, f1, f2, f3, f4, f5⟩, own, chain, isn, few, short, signs, pos, lt⟩ := h
  clear own chain isn few signs
  by_cases hk : (Parl.hd l).kind = 5
  · have hk' : (((Parl.hd l).kind : Int) == 5) = true := by simp; omega
    have HS := hide (show Parl.sees l g.toList = ((Parl.hd l).text.toList == g.toList) by simp [Parl.sees, hk])
    clear hk
    go_enter Tryz.func63, Tryz.ntmps63
    go_wp2
    go_ret
    exact ⟨ret_bool (by rw [unhide HS]), rfl⟩
  · have hk' : (((Parl.hd l).kind : Int) == 5) = false := by simp; omega
    have HS := hide (show Parl.sees l g.toList = false by simp [Parl.sees, hk])
    clear hk
    go_enter Tryz.func63, Tryz.ntmps63
    go_wp2
    go_ret
    exact ⟨ret_bool (by rw [unhide HS]), rfl⟩

theorem take_end {w w1 : World} {rb : Nat} {s : ByteArray} {l : List Parl.Tok} {ns : List ByteArray} {nv : Value} {e0 : Int} (h : St w rb s l ns nv e0) (h0 : (Parl.hd l).kind ≠ 0) (hb : Below w.heap.size w w1) :
    St (((w1.setCell ⟨rb, 1, none⟩ (.int .i64 ((Parl.next s ((Parl.hd l).pos + (Parl.hd l).text.size)).kind : Int))).setCell ⟨rb, 2, none⟩ (.int .i64 ((Parl.next s ((Parl.hd l).pos + (Parl.hd l).text.size)).pos : Int))).setCell ⟨rb, 3, none⟩ (.string (Parl.next s ((Parl.hd l).pos + (Parl.hd l).text.size)).text)) rb s l.tail ns nv e0 ∧
    KA rb [rb] w (((w1.setCell ⟨rb, 1, none⟩ (.int .i64 ((Parl.next s ((Parl.hd l).pos + (Parl.hd l).text.size)).kind : Int))).setCell ⟨rb, 2, none⟩ (.int .i64 ((Parl.next s ((Parl.hd l).pos + (Parl.hd l).text.size)).pos : Int))).setCell ⟨rb, 3, none⟩ (.string (Parl.next s ((Parl.hd l).pos + (Parl.hd l).text.size)).text)) := by
  have hk := h.chain.tail h0
  have h1 := h.below hb
  have few := h.few
  have hl : l.length = l.tail.length + 1 := by
    rcases l with _ | ⟨a, r⟩
    · exact absurd h.chain (by simp [Parl.Chain])
    · rfl
  obtain ⟨⟨d0, d1, d2, d3, d4, d5, g1, g2, g3, g4, g5⟩, own, chain, isn, few1, short, signs, pos, lt⟩ := h1
  have z : rb ≠ 0 := by omega
  refine ⟨⟨?_, own_setCell (own_setCell (own_setCell own _ _) _ _) _ _, hk.1, ⟨_, hk.2.1⟩, by omega, short, ((signs.setCell (by exact z) _).setCell (by exact z) _).setCell (by exact z) _, pos, by simpa using lt⟩, (((KA.of_below hb).setIn (by simp) _).setIn (by simp) _).setIn (by simp) _⟩
  rw [hk.2.1]
  generalize Parl.next s ((Parl.hd l).pos + (Parl.hd l).text.size) = t
  exact ⟨by go_cell, by go_cell, by go_cell, by go_cell, by go_cell, by go_cell, by go_cell, by go_cell, by go_cell, by go_cell, by go_cell⟩

end Go.Proofs.YtombbccmeeaimaaGreatDoor
namespace Parl
open Go

/-- Whether a text has another one at a place. -/
def startsAt (s : ByteArray) (i : Nat) (g : ByteArray) : Bool := decide (i + g.size ≤ s.size) && ((s.extract i (i + g.size)).toList == g.toList)

def sgs : List ByteArray := [⟨#[58, 45]⟩, ⟨#[58, 61]⟩, ⟨#[61, 61]⟩, ⟨#[92, 61]⟩, ⟨#[61, 60]⟩, ⟨#[61]⟩, ⟨#[60]⟩, ⟨#[43]⟩, ⟨#[45]⟩, ⟨#[42]⟩, ⟨#[40]⟩, ⟨#[41]⟩, ⟨#[44]⟩, ⟨#[124]⟩, ⟨#[46]⟩]
def sgAt (k : Nat) : ByteArray := sgs.getD k ByteArray.empty

theorem starts_two (s : ByteArray) (i : Nat) (a b : UInt8) : startsAt s i ⟨#[a, b]⟩ = (decide (i + 1 < s.size) && (bAt s i == a.toNat && bAt s (i + 1) == b.toNat)) := by
  unfold startsAt
  have e : (⟨#[a, b]⟩ : ByteArray).size = 2 := rfl
  have e2 : (⟨#[a, b]⟩ : ByteArray).toList = [a, b] := by rw [ByteArray.toList_eq]
  rw [e, e2]
  by_cases h : i + 1 < s.size
  · rw [two_eq h]; simp [h, show i + 2 ≤ s.size by omega]
  · simp [h, show ¬ i + 2 ≤ s.size by omega]
theorem starts_one (s : ByteArray) (i : Nat) (a : UInt8) : startsAt s i ⟨#[a]⟩ = (decide (i < s.size) && (bAt s i == a.toNat)) := by
  unfold startsAt
  have e : (⟨#[a]⟩ : ByteArray).size = 1 := rfl
  have e2 : (⟨#[a]⟩ : ByteArray).toList = [a] := by rw [ByteArray.toList_eq]
  rw [e, e2]
  by_cases h : i < s.size
  · rw [one_eq h]; simp [h, show i + 1 ≤ s.size by omega]
  · simp [h, show ¬ i + 1 ≤ s.size by omega]

theorem sg_long (s : ByteArray) (i : Nat) (h : i + 1 < s.size) : longSign (bAt s i) (bAt s (i + 1)) = true ↔ ∃ j, j < 5 ∧ startsAt s i (sgAt j) = true := by
  constructor
  · intro q
    simp [longSign] at q
    rcases q with (((q | q) | q) | q) | q
    · exact ⟨0, by omega, by rw [sgAt, sgs]; simp only [List.getD_cons_zero]; rw [starts_two]; simp [h, q]⟩
    · exact ⟨1, by omega, by rw [sgAt, sgs]; simp only [List.getD_cons_zero, List.getD_cons_succ]; rw [starts_two]; simp [h, q]⟩
    · exact ⟨2, by omega, by rw [sgAt, sgs]; simp only [List.getD_cons_zero, List.getD_cons_succ]; rw [starts_two]; simp [h, q]⟩
    · exact ⟨3, by omega, by rw [sgAt, sgs]; simp only [List.getD_cons_zero, List.getD_cons_succ]; rw [starts_two]; simp [h, q]⟩
    · exact ⟨4, by omega, by rw [sgAt, sgs]; simp only [List.getD_cons_zero, List.getD_cons_succ]; rw [starts_two]; simp [h, q]⟩
  · rintro ⟨j, hj, q⟩
    rcases (show j = 0 ∨ j = 1 ∨ j = 2 ∨ j = 3 ∨ j = 4 by omega) with rfl | rfl | rfl | rfl | rfl
    all_goals
      simp only [sgAt, sgs, List.getD_cons_zero, List.getD_cons_succ, starts_two] at q
      simp [longSign]
      simp at q
      omega

theorem sg_short (s : ByteArray) (i : Nat) (h : i < s.size) : shortSign (bAt s i) = true ↔ ∃ j, 5 ≤ j ∧ j < 15 ∧ startsAt s i (sgAt j) = true := by
  constructor
  · intro q
    simp [shortSign] at q
    rcases q with (((((((((q | q) | q) | q) | q) | q) | q) | q) | q) | q)
    · exact ⟨5, by omega, by omega, by rw [sgAt, sgs]; simp only [List.getD_cons_zero, List.getD_cons_succ]; rw [starts_one]; simp [h, q]⟩
    · exact ⟨6, by omega, by omega, by rw [sgAt, sgs]; simp only [List.getD_cons_zero, List.getD_cons_succ]; rw [starts_one]; simp [h, q]⟩
    · exact ⟨7, by omega, by omega, by rw [sgAt, sgs]; simp only [List.getD_cons_zero, List.getD_cons_succ]; rw [starts_one]; simp [h, q]⟩
    · exact ⟨8, by omega, by omega, by rw [sgAt, sgs]; simp only [List.getD_cons_zero, List.getD_cons_succ]; rw [starts_one]; simp [h, q]⟩
    · exact ⟨9, by omega, by omega, by rw [sgAt, sgs]; simp only [List.getD_cons_zero, List.getD_cons_succ]; rw [starts_one]; simp [h, q]⟩
    · exact ⟨10, by omega, by omega, by rw [sgAt, sgs]; simp only [List.getD_cons_zero, List.getD_cons_succ]; rw [starts_one]; simp [h, q]⟩
    · exact ⟨11, by omega, by omega, by rw [sgAt, sgs]; simp only [List.getD_cons_zero, List.getD_cons_succ]; rw [starts_one]; simp [h, q]⟩
    · exact ⟨12, by omega, by omega, by rw [sgAt, sgs]; simp only [List.getD_cons_zero, List.getD_cons_succ]; rw [starts_one]; simp [h, q]⟩
    · exact ⟨13, by omega, by omega, by rw [sgAt, sgs]; simp only [List.getD_cons_zero, List.getD_cons_succ]; rw [starts_one]; simp [h, q]⟩
    · exact ⟨14, by omega, by omega, by rw [sgAt, sgs]; simp only [List.getD_cons_zero, List.getD_cons_succ]; rw [starts_one]; simp [h, q]⟩
  · rintro ⟨j, hj, hj', q⟩
    rcases (show j = 5 ∨ j = 6 ∨ j = 7 ∨ j = 8 ∨ j = 9 ∨ j = 10 ∨ j = 11 ∨ j = 12 ∨ j = 13 ∨ j = 14 by omega) with rfl | rfl | rfl | rfl | rfl | rfl | rfl | rfl | rfl | rfl
    all_goals
      simp only [sgAt, sgs, List.getD_cons_zero, List.getD_cons_succ, starts_one] at q
      simp [shortSign]
      simp at q
      omega

theorem starts_fits {s : ByteArray} {i : Nat} {g : ByteArray} (h : startsAt s i g = true) : i + g.size ≤ s.size := by
  simp [startsAt] at h; exact h.1

theorem sg_size (j : Nat) (h : j < 15) : (sgAt j).size = if j < 5 then 2 else 1 := by
  rcases (show j = 0 ∨ j = 1 ∨ j = 2 ∨ j = 3 ∨ j = 4 ∨ j = 5 ∨ j = 6 ∨ j = 7 ∨ j = 8 ∨ j = 9 ∨ j = 10 ∨ j = 11 ∨ j = 12 ∨ j = 13 ∨ j = 14 by omega) with rfl | rfl | rfl | rfl | rfl | rfl | rfl | rfl | rfl | rfl | rfl | rfl | rfl | rfl | rfl <;> rfl

theorem sg_hit {s : ByteArray} {i k : Nat} (hk : k < 15) (ho : ∀ j, j < k → startsAt s i (sgAt j) = false) (h : startsAt s i (sgAt k) = true) : (sgAt k).size = signLen s i := by
  have hf := starts_fits h
  have hz := sg_size k hk
  rw [hz]
  by_cases h5 : k < 5
  · rw [if_pos h5] at hz ⊢
    have hl := (sg_long s i (by omega)).2 ⟨k, h5, h⟩
    unfold signLen; rw [if_pos ⟨by omega, hl⟩]
  · rw [if_neg h5] at hz ⊢
    have hs := (sg_short s i (by omega)).2 ⟨k, by omega, hk, h⟩
    unfold signLen
    rw [if_neg, if_pos ⟨by omega, hs⟩]
    rintro ⟨a, b⟩
    obtain ⟨j, hj, q⟩ := (sg_long s i a).1 b
    rw [ho j (by omega)] at q; cases q

theorem sg_none {s : ByteArray} {i k : Nat} (hk : ¬ k < 15) (ho : ∀ j, j < k → startsAt s i (sgAt j) = false) : signLen s i = 0 := by
  unfold signLen
  rw [if_neg, if_neg]
  · rintro ⟨a, b⟩
    obtain ⟨j, hj, hj', q⟩ := (sg_short s i a).1 b
    rw [ho j (by omega)] at q; cases q
  · rintro ⟨a, b⟩
    obtain ⟨j, hj, q⟩ := (sg_long s i a).1 b
    rw [ho j (by omega)] at q; cases q

/-- The tokens ts have been cut off; the rest begins at i. -/
def Pre (s : ByteArray) (ts : List Tok) (i : Nat) : Prop := ∀ r, Chain s (next s i :: r) → Chain s (ts ++ next s i :: r) ∧ hd (ts ++ next s i :: r) = next s 0

theorem Pre.start (s : ByteArray) : Pre s [] 0 := fun _ h => ⟨h, rfl⟩
theorem next_blank {s : ByteArray} {i : Nat} (h : i < s.size) (hb : blank (bAt s i) = true) : next s i = next s (i + 1) := by
  unfold next; rw [skip_step h hb]
theorem Pre.blank {s : ByteArray} {ts : List Tok} {i : Nat} (p : Pre s ts i) (h : i < s.size) (hb : blank (bAt s i) = true) : Pre s ts (i + 1) := by
  intro r hr; rw [← next_blank h hb] at hr ⊢; exact p r hr
theorem next_here {s : ByteArray} {i : Nat} (h : i < s.size) (hb : blank (bAt s i) = false) : next s i = ⟨kindAt s i, i, s.extract i (endAt s i)⟩ := by
  have e : skip s i = i := skip_stop (by rw [hb]; simp)
  have := @next_tok s i (by rw [e]; exact h)
  rw [e] at this; exact this
theorem Pre.tok {s : ByteArray} {ts : List Tok} {i : Nat} (p : Pre s ts i) (h : i < s.size) (hb : Parl.blank (bAt s i) = false) : Pre s (ts ++ [⟨kindAt s i, i, s.extract i (endAt s i)⟩]) (endAt s i) := by
  intro r hr
  have e : skip s i = i := skip_stop (by rw [hb]; simp)
  have hn := next_here h hb
  have hbh := @next_behind s i (by rw [e]; exact h)
  rw [e] at hbh
  have := p (next s (endAt s i) :: r) ⟨by rw [Ne, next_kind, e]; omega, by rw [hbh], hr⟩
  rw [hn] at this
  simpa using this
theorem Pre.done {s : ByteArray} {ts : List Tok} (p : Pre s ts s.size) : Chain s (ts ++ [⟨0, s.size, ByteArray.empty⟩]) ∧ hd (ts ++ [⟨0, s.size, ByteArray.empty⟩]) = next s 0 := by
  have e : next s s.size = ⟨0, s.size, ByteArray.empty⟩ := next_end (skip_ge s s.size)
  have := p [] (by rw [e]; rfl)
  rw [e] at this; exact this
theorem kind_name {s : ByteArray} {i : Nat} (h : i < s.size) (a : low (bAt s i) = true) : kindAt s i = 2 ∧ endAt s i = wordEnd s 2 i := by
  have e : kindAt s i = 2 := by unfold kindAt; rw [if_neg (by omega), if_pos a]
  exact ⟨e, by unfold endAt; rw [e]; rfl⟩
theorem kind_var {s : ByteArray} {i : Nat} (h : i < s.size) (a : low (bAt s i) = false) (b : upp (bAt s i) = true) : kindAt s i = 3 ∧ endAt s i = wordEnd s 3 i := by
  have e : kindAt s i = 3 := by unfold kindAt; rw [if_neg (by omega), if_neg (by simp [a]), if_pos b]
  exact ⟨e, by unfold endAt; rw [e]; rfl⟩
theorem kind_num {s : ByteArray} {i : Nat} (h : i < s.size) (a : low (bAt s i) = false) (b : upp (bAt s i) = false) (c : dig (bAt s i) = true) : kindAt s i = 4 ∧ endAt s i = wordEnd s 4 i := by
  have e : kindAt s i = 4 := by unfold kindAt; rw [if_neg (by omega), if_neg (by simp [a]), if_neg (by simp [b]), if_pos c]
  exact ⟨e, by unfold endAt; rw [e]; rfl⟩
theorem kind_sign {s : ByteArray} {i : Nat} (h : i < s.size) (a : low (bAt s i) = false) (b : upp (bAt s i) = false) (c : dig (bAt s i) = false) (d : 0 < signLen s i) : kindAt s i = 5 ∧ endAt s i = i + signLen s i := by
  have e : kindAt s i = 5 := by unfold kindAt; rw [if_neg (by omega), if_neg (by simp [a]), if_neg (by simp [b]), if_neg (by simp [c]), if_pos d]
  exact ⟨e, by unfold endAt; rw [e]; rfl⟩
theorem kind_none {s : ByteArray} {i : Nat} (h : i < s.size) (a : low (bAt s i) = false) (b : upp (bAt s i) = false) (c : dig (bAt s i) = false) (d : ¬ 0 < signLen s i) : kindAt s i = 1 ∧ endAt s i = i + 1 := by
  have e : kindAt s i = 1 := by unfold kindAt; rw [if_neg (by omega), if_neg (by simp [a]), if_neg (by simp [b]), if_neg (by simp [c]), if_neg d]
  exact ⟨e, by unfold endAt; rw [e]; rfl⟩
theorem not_blank {c : Nat} (h : blank c = false) : ((c : Int) == 32) = false ∧ ((c : Int) == 10) = false := by
  simp [blank] at h; simp; omega
end Parl
namespace Go.Proofs.YtombbccmeeaimaaGreatDoor
open Go.RowKit

/-- A row of one's own stays while old blocks stay. -/
theorem own_below {w w' : World} {b0 : Nat} {e : TypeId} {sz : Nat} {v : Value} {n : Nat} {xs : List Value} (h : w.ownsRow b0 e sz v n xs) (hb : Below w.heap.size w w') : w'.ownsRow b0 e sz v n xs :=
  ⟨h.1, h.2.imp id fun ⟨g, cap, cur, a, b, c, d⟩ => ⟨g, cap, cur, a, b, (hb.block g (Array.getElem?_eq_some_iff.1 c).1).trans c, d⟩⟩

theorem lower_any (c : Nat) (w : World) : Calls Tryz.prog 67 #[.int .u8 (c : Int)] w fun e w' => e = .returned (.bool (Parl.low c)) ∧ w' = w := by
  by_cases h1 : 97 ≤ c
  all_goals
    go_enter Tryz.func67, Tryz.ntmps67
    go_wp2
    go_ret
    exact ⟨ret_bool (by rw [Bool.eq_iff_iff]; simp [Parl.low]; omega), rfl⟩

theorem upper_any (c : Nat) (w : World) : Calls Tryz.prog 68 #[.int .u8 (c : Int)] w fun e w' => e = .returned (.bool (Parl.upp c)) ∧ w' = w := by
  by_cases h1 : 65 ≤ c
  all_goals
    go_enter Tryz.func68, Tryz.ntmps68
    go_wp2
    go_ret
    exact ⟨ret_bool (by rw [Bool.eq_iff_iff]; simp [Parl.upp]; omega), rfl⟩

theorem digit_any (c : Nat) (w : World) : Calls Tryz.prog 69 #[.int .u8 (c : Int)] w fun e w' => e = .returned (.bool (Parl.dig c)) ∧ w' = w := by
  by_cases h1 : 48 ≤ c
  all_goals
    go_enter Tryz.func69, Tryz.ntmps69
    go_wp2
    go_ret
    exact ⟨ret_bool (by rw [Bool.eq_iff_iff]; simp [Parl.dig]; omega), rfl⟩

set_option maxHeartbeats 1000000 in
theorem word_any (s : ByteArray) (p k : Nat) (w : World) (hs : s.size ≤ maxLen) (hp : p ≤ s.size) (kb : Int) (hk : (k = 2 ∧ kb = 1) ∨ (k = 3 ∧ kb = 2) ∨ (k = 4 ∧ kb = 3)) :
    Calls Tryz.prog 70 #[.string s, .int .i64 (p : Int), .int .i64 kb] w fun e w' => e = .returned (.int .i64 ((Parl.wordEnd s k p : Nat) : Int)) ∧ w' = w := by
  unfold maxLen at hs
  rcases hk with ⟨rfl, rfl⟩ | ⟨rfl, rfl⟩ | ⟨rfl, rfl⟩
  all_goals
    go_enter Tryz.func70, Tryz.ntmps70
    go_wp2_with fail
  · go_loop [7] (fun i => ∃ j : Nat, j ≤ s.size ∧ Hid (Parl.wordEnd s 2 j = Parl.wordEnd s 2 p) ∧ i = .int .i64 j) (fun i => s.size - (intOf i).toNat)
    case atStart => exact ⟨p, hp, rfl, rfl⟩
    case round =>
      obtain ⟨j, hj, hsk, rfl⟩ := hrel
      by_cases hlt : j < s.size
      · have hW := hide (show Parl.inWord 2 (s[j].toNat) = (Parl.low (s[j].toNat) || Parl.dig (s[j].toNat)) from rfl)
        cases hd : Parl.dig (s[j].toNat) <;> cases hl : Parl.low (s[j].toNat)
        · have hst : Hid (Parl.wordEnd s 2 p = j) := by rw [← hsk.out]; exact Parl.wordEnd_stop (by rw [Parl.bAt_lt hlt, unhide hW, hd, hl]; simp)
          go_wp2_with (first | (go_at_call 69; refine (digit_any _ _).mono ?_; rintro e w' ⟨rfl, rfl⟩) | (go_at_call 67; refine (lower_any _ _).mono ?_; rintro e w' ⟨rfl, rfl⟩))
          go_ret
          exact ⟨ret_int (by rw [hst.out]), rfl⟩
        all_goals
          have hst : Hid (Parl.wordEnd s 2 (j + 1) = Parl.wordEnd s 2 p) := by rw [← hsk.out]; exact (Parl.wordEnd_step hlt (by rw [Parl.bAt_lt hlt, unhide hW, hd, hl]; rfl)).symm
          go_wp2_with (first | (go_at_call 69; refine (digit_any _ _).mono ?_; rintro e w' ⟨rfl, rfl⟩) | (go_at_call 67; refine (lower_any _ _).mono ?_; rintro e w' ⟨rfl, rfl⟩))
          go_round
          case rel => exact ⟨j + 1, by omega, hst, by go_num⟩
          case measure => simp [intOf]; omega
      · have hst : Hid (Parl.wordEnd s 2 p = j) := by rw [← hsk.out]; exact Parl.wordEnd_stop (by omega)
        go_wp2_with fail
        go_ret
        exact ⟨ret_int (by rw [hst.out]), rfl⟩
  · go_loop [7] (fun i => ∃ j : Nat, j ≤ s.size ∧ Hid (Parl.wordEnd s 3 j = Parl.wordEnd s 3 p) ∧ i = .int .i64 j) (fun i => s.size - (intOf i).toNat)
    case atStart => exact ⟨p, hp, rfl, rfl⟩
    case round =>
      obtain ⟨j, hj, hsk, rfl⟩ := hrel
      by_cases hlt : j < s.size
      · have hW := hide (show Parl.inWord 3 (s[j].toNat) = (Parl.low (s[j].toNat) || Parl.dig (s[j].toNat) || Parl.upp (s[j].toNat)) from rfl)
        cases hd : Parl.dig (s[j].toNat) <;> cases hl : Parl.low (s[j].toNat) <;> cases hu : Parl.upp (s[j].toNat)
        · have hst : Hid (Parl.wordEnd s 3 p = j) := by rw [← hsk.out]; exact Parl.wordEnd_stop (by rw [Parl.bAt_lt hlt, unhide hW, hd, hl, hu]; simp)
          go_wp2_with (first | (go_at_call 69; refine (digit_any _ _).mono ?_; rintro e w' ⟨rfl, rfl⟩) | (go_at_call 67; refine (lower_any _ _).mono ?_; rintro e w' ⟨rfl, rfl⟩) | (go_at_call 68; refine (upper_any _ _).mono ?_; rintro e w' ⟨rfl, rfl⟩))
          go_ret
          exact ⟨ret_int (by rw [hst.out]), rfl⟩
        all_goals
          have hst : Hid (Parl.wordEnd s 3 (j + 1) = Parl.wordEnd s 3 p) := by rw [← hsk.out]; exact (Parl.wordEnd_step hlt (by rw [Parl.bAt_lt hlt, unhide hW, hd, hl, hu]; rfl)).symm
          go_wp2_with (first | (go_at_call 69; refine (digit_any _ _).mono ?_; rintro e w' ⟨rfl, rfl⟩) | (go_at_call 67; refine (lower_any _ _).mono ?_; rintro e w' ⟨rfl, rfl⟩) | (go_at_call 68; refine (upper_any _ _).mono ?_; rintro e w' ⟨rfl, rfl⟩))
          go_round
          case rel => exact ⟨j + 1, by omega, hst, by go_num⟩
          case measure => simp [intOf]; omega
      · have hst : Hid (Parl.wordEnd s 3 p = j) := by rw [← hsk.out]; exact Parl.wordEnd_stop (by omega)
        go_wp2_with fail
        go_ret
        exact ⟨ret_int (by rw [hst.out]), rfl⟩
  · go_loop [7] (fun i => ∃ j : Nat, j ≤ s.size ∧ Hid (Parl.wordEnd s 4 j = Parl.wordEnd s 4 p) ∧ i = .int .i64 j) (fun i => s.size - (intOf i).toNat)
    case atStart => exact ⟨p, hp, rfl, rfl⟩
    case round =>
      obtain ⟨j, hj, hsk, rfl⟩ := hrel
      by_cases hlt : j < s.size
      · have hW := hide (show Parl.inWord 4 (s[j].toNat) = Parl.dig (s[j].toNat) from rfl)
        cases hd : Parl.dig (s[j].toNat)
        · have hst : Hid (Parl.wordEnd s 4 p = j) := by rw [← hsk.out]; exact Parl.wordEnd_stop (by rw [Parl.bAt_lt hlt, unhide hW, hd]; simp)
          go_wp2_with (first | (go_at_call 69; refine (digit_any _ _).mono ?_; rintro e w' ⟨rfl, rfl⟩))
          go_ret
          exact ⟨ret_int (by rw [hst.out]), rfl⟩
        · have hst : Hid (Parl.wordEnd s 4 (j + 1) = Parl.wordEnd s 4 p) := by rw [← hsk.out]; exact (Parl.wordEnd_step hlt (by rw [Parl.bAt_lt hlt, unhide hW, hd])).symm
          go_wp2_with (first | (go_at_call 69; refine (digit_any _ _).mono ?_; rintro e w' ⟨rfl, rfl⟩))
          go_round
          case rel => exact ⟨j + 1, by omega, hst, by go_num⟩
          case measure => simp [intOf]; omega
      · have hst : Hid (Parl.wordEnd s 4 p = j) := by rw [← hsk.out]; exact Parl.wordEnd_stop (by omega)
        go_wp2_with fail
        go_ret
        exact ⟨ret_int (by rw [hst.out]), rfl⟩

theorem begins_any (s : ByteArray) (i : Nat) (g : ByteArray) (w : World) (hs : s.size ≤ 240) (hi : i ≤ s.size) (hg : g.size ≤ 2) :
    Calls Tryz.prog 103 #[.string s, .int .i64 (i : Int), .string g] w fun e w' => e = .returned (.bool (Parl.startsAt s i g)) ∧ w' = w := by
  by_cases h : i + g.size ≤ s.size
  · have HB := hide (show Parl.startsAt s i g = ((s.extract i (i + g.size)).toList == g.toList) by simp [Parl.startsAt, h])
    go_enter Tryz.func103, Tryz.ntmps103
    go_wp2
    go_ret
    exact ⟨ret_bool (by rw [unhide HB]), rfl⟩
  · have HB := hide (show Parl.startsAt s i g = false by simp [Parl.startsAt, h])
    go_enter Tryz.func103, Tryz.ntmps103
    go_wp2
    go_ret
    exact ⟨ret_bool (by rw [unhide HB]), rfl⟩

end Go.Proofs.YtombbccmeeaimaaGreatDoor
namespace Go.Proofs.YtombbccmeeaimaaGreatDoor
open Go.RowKit

def sgBlock : Obj := .cells #[.string ⟨#[58, 45]⟩, .string ⟨#[58, 61]⟩, .string ⟨#[61, 61]⟩, .string ⟨#[92, 61]⟩, .string ⟨#[61, 60]⟩, .string ⟨#[61]⟩, .string ⟨#[60]⟩, .string ⟨#[43]⟩, .string ⟨#[45]⟩, .string ⟨#[42]⟩, .string ⟨#[40]⟩, .string ⟨#[41]⟩, .string ⟨#[44]⟩, .string ⟨#[124]⟩, .string ⟨#[46]⟩] 9
theorem sg_cell (w : World) (k : Nat) (h : k < 15) : (w.alloc sgBlock).cell? ⟨w.heap.size, k, none⟩ = some (.string (Parl.sgAt k)) := by
  rcases (show k = 0 ∨ k = 1 ∨ k = 2 ∨ k = 3 ∨ k = 4 ∨ k = 5 ∨ k = 6 ∨ k = 7 ∨ k = 8 ∨ k = 9 ∨ k = 10 ∨ k = 11 ∨ k = 12 ∨ k = 13 ∨ k = 14 by omega) with rfl | rfl | rfl | rfl | rfl | rfl | rfl | rfl | rfl | rfl | rfl | rfl | rfl | rfl | rfl
  all_goals (unfold sgBlock Parl.sgAt Parl.sgs; simp)

set_option maxHeartbeats 1000000 in
theorem sign_any (s : ByteArray) (i : Nat) (w : World) (hs : s.size ≤ 240) (hi : i ≤ s.size) :
    Calls Tryz.prog 71 #[.string s, .int .i64 (i : Int)] w fun e w' => (∃ g : ByteArray, e = .returned (.string g) ∧ g.size = Parl.signLen s i) ∧ Below w.heap.size w w' := by
  have hcell := hide (sg_cell w)
  have hbl : Below w.heap.size w (w.alloc sgBlock) := (Below.refl _ _).alloc (Nat.le_refl _) _
  unfold sgBlock at hcell hbl
  have HB := hide hbl
  clear hbl
  go_enter Tryz.func71, Tryz.ntmps71
  go_wp2_with fail
  go_loop [6] (fun v => ∃ k : Nat, k ≤ 15 ∧ v = .int .i64 k ∧ Hid (∀ j, j < k → Parl.startsAt s i (Parl.sgAt j) = false)) (fun v => 15 - (intOf v).toNat)
  case atStart => exact ⟨0, by omega, rfl, fun j h => absurd h (Nat.not_lt_zero _)⟩
  case round =>
    obtain ⟨k, hk, rfl, hno⟩ := hrel
    by_cases hlt : k < 15
    · have hc := unhide hcell k hlt
      have hz := Parl.sg_size k hlt
      have hz2 : (Parl.sgAt k).size ≤ 2 := by rw [hz]; split <;> omega
      clear hz
      cases hb : Parl.startsAt s i (Parl.sgAt k)
      · have HN : Hid (∀ j, j < k + 1 → Parl.startsAt s i (Parl.sgAt j) = false) := fun j hj => by
          by_cases e : j < k
          · exact hno.out j e
          · obtain rfl : j = k := by omega
            exact hb
        go_wp2_with (go_at_call 103; refine (begins_any _ _ _ _ hs hi hz2).mono ?_; rintro e w' ⟨rfl, rfl⟩)
        go_round
        case rel => exact ⟨k + 1, by omega, by go_num, HN⟩
        case measure => simp [intOf]; omega
      · have HZ := hide (Parl.sg_hit hlt hno.out hb)
        go_wp2_with (go_at_call 103; refine (begins_any _ _ _ _ hs hi hz2).mono ?_; rintro e w' ⟨rfl, rfl⟩)
        go_ret
        exact ⟨⟨_, rfl, unhide HZ⟩, unhide HB⟩
    · have HZ := hide (Parl.sg_none hlt hno.out)
      go_wp2_with fail
      go_ret
      exact ⟨⟨ByteArray.empty, rfl, by rw [unhide HZ]; rfl⟩, unhide HB⟩
end Go.Proofs.YtombbccmeeaimaaGreatDoor
