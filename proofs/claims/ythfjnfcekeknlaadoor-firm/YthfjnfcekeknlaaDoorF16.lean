import Derived.Test.YthfjnfcekeknlaaDoorF03
import Derived.Test.YthfjnfcekeknlaaDoorF08
namespace Go.Proofs.YthfjnfcekeknlaaDoor
open Go.RowKit

/-- A node of the store, with the node that it was made one with. -/
structure Ng where
  k : Int
  val : Int
  tx : ByteArray
  cnt : Nat
  ao : Option Addr
  cap : Nat
  args : List Nat
  nx : Nat
  mrk : Nat
def ngC (d : Ng) : List Value := [.int .i64 d.k, .int .i64 d.val, .string d.tx, .int .i64 (d.cnt : Int), .slice d.ao d.args.length d.cap, .int .i64 (d.nx : Int), .int .i64 (d.mrk : Int)]
def ngsC (D : List Ng) : List Value := D.flatMap ngC
theorem ngC_len : ∀ d, (ngC d).length = 7 := fun _ => rfl
theorem ngsC_at {D : List Ng} {n : Nat} (h : n < D.length) (j : Nat) (hj : j < 7) : (ngsC D)[n * 7 + j]? = (ngC D[n])[j]? := flat_at ngC_len h j hj
theorem ngsC_more (D : List Ng) (d : Ng) : ngsC (D ++ [d]) = ngsC D ++ ngC d := by unfold ngsC; rw [List.flatMap_append]; simp
theorem ngsC_set (D : List Ng) (n j : Nat) (hn : n < D.length) (hj : j < 7) (d : Ng) (v : Value) (h : ngC d = (ngC D[n]).set j v) : ngsC (D.set n d) = (ngsC D).set (n * 7 + j) v := by
  unfold ngsC
  induction D generalizing n with
  | nil => simp at hn
  | cons e D ih =>
    cases n with
    | zero =>
      simp only [List.set_cons_zero, List.flatMap_cons]
      rw [List.set_append_left _ _ (by rw [ngC_len]; omega)]
      rw [h]
      simp
    | succ n =>
      simp only [List.set_cons_succ, List.flatMap_cons]
      rw [List.set_append_right _ _ (by rw [ngC_len]; omega), ngC_len, ih n (by simpa using hn) (by simpa using h)]
      congr 2
      omega
/-- But for the links and the marks. -/
def bareN (d : Ng) : Ng := ⟨d.k, d.val, d.tx, d.cnt, d.ao, d.cap, d.args, 0, 0⟩
def SameN (D D' : List Ng) : Prop := D.map bareN = D'.map bareN
theorem SameN.refl (D : List Ng) : SameN D D := rfl
theorem SameN.trans {D E F : List Ng} (h : SameN D E) (k : SameN E F) : SameN D F := Eq.trans h k
theorem SameN.symm {D E : List Ng} (h : SameN D E) : SameN E D := Eq.symm h
theorem SameN.len {D E : List Ng} (h : SameN D E) : E.length = D.length := by simpa using (congrArg List.length h).symm
theorem SameN.at {D E : List Ng} (h : SameN D E) {n : Nat} (hn : n < D.length) (hn' : n < E.length) : bareN D[n] = bareN E[n] := by
  have := congrArg (·[n]?) h
  simpa [List.getElem?_eq_getElem hn, List.getElem?_eq_getElem hn'] using this
theorem SameN.set {D : List Ng} {n : Nat} (hn : n < D.length) {d : Ng} (h : bareN d = bareN D[n]) : SameN D (D.set n d) := by
  unfold SameN
  rw [List.map_set]
  apply List.ext_getElem (by simp)
  intro i h1 h2
  rw [List.getElem_set]
  split
  · rename_i e; subst e; simp [h]
  · rfl
/-- What a node is for: its label. -/
def labN (d : Ng) : Option (Nat × List UInt8 × Int) := if d.k = 1 then none else if d.k = 2 then some (3, [], d.val) else some (1, d.tx.toList, 0)
def gnOf (d : Ng) : Parl.Gn := ⟨labN d, d.args⟩
def gOf (D : List Ng) : List Parl.Gn := D.map gnOf
theorem SameN.g {D E : List Ng} (h : SameN D E) : gOf E = gOf D := by
  have := congrArg (List.map gnOf) h
  rw [List.map_map, List.map_map] at this
  exact this.symm
theorem gl_of {D : List Ng} {n : Nat} (h : n < D.length) : Parl.gl (gOf D) n = labN D[n] := by
  unfold Parl.gl gOf
  rw [List.getElem?_map, List.getElem?_eq_getElem h]
  rfl
theorem ga_of {D : List Ng} {n : Nat} (h : n < D.length) : Parl.ga (gOf D) n = D[n].args := by
  unfold Parl.ga gOf
  rw [List.getElem?_map, List.getElem?_eq_getElem h]
  rfl
theorem gl_out {D : List Ng} {n : Nat} (h : D.length ≤ n) : Parl.gl (gOf D) n = none := by
  unfold Parl.gl gOf
  rw [List.getElem?_map, List.getElem?_eq_none h]
  rfl
/-- The cells of a node go together. -/
structure NdOk (len : Nat) (d : Ng) : Prop where
  ks : d.k = 1 ∨ d.k = 2 ∨ d.k = 3
  v : d.k = 1 → d.val = 0 ∧ d.tx = ⟨#[]⟩ ∧ d.cnt = 0 ∧ d.args = []
  m : d.k = 2 → d.tx = ⟨#[]⟩ ∧ d.cnt = 0 ∧ d.args = []
  c : d.k = 3 → d.val = 0 ∧ d.cnt = d.args.length ∧ d.args.length ≤ 3
  inn : ∀ a ∈ d.args, a < len
theorem NdOk.same {len : Nat} {d e : Ng} (q : bareN d = bareN e) (r : NdOk len d) : NdOk len e := by
  obtain ⟨k, val, tx, cnt, ao, cap, args, nx, mrk⟩ := d
  obtain ⟨k', val', tx', cnt', ao', cap', args', nx', mrk'⟩ := e
  unfold bareN at q
  simp only [Ng.mk.injEq, and_true] at q
  obtain ⟨rfl, rfl, rfl, rfl, rfl, rfl, rfl⟩ := q
  exact ⟨r.ks, r.v, r.m, r.c, r.inn⟩
theorem NdOk.few {len : Nat} {d : Ng} (h : NdOk len d) : d.args.length ≤ 3 := by
  rcases h.ks with q | q | q
  · rw [(h.v q).2.2.2]; simp
  · rw [(h.m q).2.2]; simp
  · exact (h.c q).2.2
theorem NdOk.lab {len : Nat} {d : Ng} (h : NdOk len d) : labN d = none ↔ d.k = 1 := by
  unfold labN
  rcases h.ks with q | q | q
  · simp [q]
  · rw [q]; simp
  · rw [q]; simp
theorem toList_inj {a b : ByteArray} (h : a.toList = b.toList) : a = b := by
  obtain ⟨a⟩ := a
  obtain ⟨b⟩ := b
  rw [ByteArray.toList_mk, ByteArray.toList_mk] at h
  have : a = b := by
    apply Array.toList_inj.1 h
  rw [this]
/-- The labels are the same just if the cells are. -/
theorem lab_iff {len : Nat} {d e : Ng} (h : NdOk len d) (k : NdOk len e) (h1 : d.k ≠ 1) (k1 : e.k ≠ 1) : (labN d = labN e ∧ d.args.length = e.args.length) ↔ (d.k = e.k ∧ d.val = e.val ∧ d.tx = e.tx ∧ d.cnt = e.cnt) := by
  unfold labN
  rw [if_neg h1, if_neg k1]
  rcases h.ks with q | q | q
  · exact absurd q h1
  · obtain ⟨a1, a2, a3⟩ := h.m q
    rw [if_pos q]
    rcases k.ks with r | r | r
    · exact absurd r k1
    · obtain ⟨b1, b2, b3⟩ := k.m r
      rw [if_pos r, q, r, a1, a2, a3, b1, b2, b3]
      simp
    · rw [if_neg (by omega), q, r]; simp
  · obtain ⟨a1, a2, a3⟩ := h.c q
    rw [if_neg (by omega)]
    rcases k.ks with r | r | r
    · exact absurd r k1
    · rw [if_pos r, q, r]; simp
    · obtain ⟨b1, b2, b3⟩ := k.c r
      rw [if_neg (by omega), q, r, a1, a2, b1, b2]
      simp only [Option.some.injEq, Prod.mk.injEq, true_and, and_true]
      exact ⟨fun ⟨x, y⟩ => ⟨toList_inj x, y⟩, fun ⟨x, y⟩ => ⟨by rw [x], y⟩⟩
/-- The way from a node to its front. -/
inductive Hop (D : List Ng) : Nat → Nat → Nat → Prop
  | stop {n} (h : n < D.length) (e : D[n].nx = n) : Hop D n n 0
  | go {n m k} (h : n < D.length) (e : D[n].nx ≠ n) (hs : Hop D D[n].nx m k) : Hop D n m (k + 1)
theorem Hop.lt {D : List Ng} {n m k : Nat} (h : Hop D n m k) : n < D.length ∧ m < D.length := by
  induction h with
  | stop h _ => exact ⟨h, h⟩
  | go h _ _ ih => exact ⟨h, ih.2⟩
theorem Hop.end {D : List Ng} {n m k : Nat} (h : Hop D n m k) : ∃ q : m < D.length, D[m].nx = m := by
  induction h with
  | stop h e => exact ⟨h, e⟩
  | go _ _ _ ih => exact ih
theorem Hop.one {D : List Ng} {n m k : Nat} (h : Hop D n m k) : ∀ {m' k' : Nat}, Hop D n m' k' → m = m' := by
  induction h with
  | stop h e =>
    intro m' k' h'
    cases h' with
    | stop _ _ => rfl
    | go _ e' _ => exact absurd e e'
  | go h e hs ih =>
    intro m' k' h'
    cases h' with
    | stop _ e' => exact absurd e' e
    | go _ _ hs' => exact ih hs'
/-- The nodes and their fronts. -/
structure OkD (D : List Ng) (fr : Nat → Nat) : Prop where
  nd : ∀ n (h : n < D.length), NdOk D.length D[n]
  hop : ∀ n, n < D.length → ∃ k, Hop D n (fr n) k
  out : ∀ n, D.length ≤ n → fr n = n
theorem OkD.lt {D : List Ng} {fr : Nat → Nat} (h : OkD D fr) {n : Nat} (hn : n < D.length) : fr n < D.length := by
  obtain ⟨k, hk⟩ := h.hop n hn
  exact hk.lt.2
theorem OkD.idem {D : List Ng} {fr : Nat → Nat} (h : OkD D fr) (n : Nat) : fr (fr n) = fr n := by
  by_cases hn : n < D.length
  · obtain ⟨k, hk⟩ := h.hop n hn
    obtain ⟨q, e⟩ := hk.end
    obtain ⟨k', hk'⟩ := h.hop (fr n) q
    exact hk'.one (.stop q e)
  · rw [h.out n (by omega), h.out n (by omega)]
theorem OkD.self {D : List Ng} {fr : Nat → Nat} (h : OkD D fr) {n : Nat} (hn : n < D.length) : fr n = n ↔ D[n].nx = n := by
  obtain ⟨k, hk⟩ := h.hop n hn
  constructor
  · intro e
    rw [e] at hk
    exact hk.end.2
  · intro e
    exact hk.one (.stop hn e)
/-- A front is linked to another one. -/
def linkD (D : List Ng) (a b : Nat) : List Ng := if h : a < D.length then D.set a { D[a] with nx := b } else D
theorem linkD_same (D : List Ng) (a b : Nat) : SameN D (linkD D a b) := by
  unfold linkD
  split
  · rename_i h; exact SameN.set h rfl
  · rfl
theorem linkD_nx {D : List Ng} {a b n : Nat} (hn : n < D.length) (h : n < (linkD D a b).length) : (linkD D a b)[n].nx = if n = a then b else D[n].nx := by
  unfold linkD at h ⊢
  split
  · rename_i ha
    rw [List.getElem_set]
    by_cases e : a = n
    · subst e; simp
    · rw [if_neg e, if_neg (Ne.symm e)]
  · rename_i ha
    rw [if_neg (by omega)]
theorem OkD.link {D : List Ng} {fr : Nat → Nat} (h : OkD D fr) {a b : Nat} (ha : a < D.length) (hb : b < D.length) (hfa : fr a = a) (hfb : fr b = b) (hab : a ≠ b) : OkD (linkD D a b) (Parl.lnk fr a b) := by
  have hs := linkD_same D a b
  have hl := hs.len
  refine ⟨fun n hn => ?_, fun n hn => ?_, fun n hn => ?_⟩
  · rw [hl]
    have h0 := h.nd n (by omega)
    have e := hs.at (by omega : n < D.length) hn
    exact h0.same e
  · rw [hl] at hn
    obtain ⟨k, hk⟩ := h.hop n hn
    have stopb : Hop (linkD D a b) b b 0 := by
      have q : b < (linkD D a b).length := by omega
      exact .stop q (by rw [linkD_nx hb q, if_neg (Ne.symm hab)]; exact (h.self hb).1 hfb)
    have key : ∀ {n m k}, Hop D n m k → Hop (linkD D a b) n (if m = a then b else m) (if m = a then k + 1 else k) := by
      intro n m k hk
      induction hk with
      | @stop n hn e =>
        have q : n < (linkD D a b).length := by omega
        by_cases ea : n = a
        · rw [if_pos ea, if_pos ea]
          refine .go q ?_ ?_
          · rw [linkD_nx hn q, if_pos ea, ea]; exact Ne.symm hab
          · rw [linkD_nx hn q, if_pos ea]; exact stopb
        · rw [if_neg ea, if_neg ea]
          exact .stop q (by rw [linkD_nx hn q, if_neg ea]; exact e)
      | @go n m k hn e hs ih =>
        have q : n < (linkD D a b).length := by omega
        have ea : n ≠ a := fun r => e (by subst r; exact (h.self hn).1 hfa)
        have : Hop (linkD D a b) n (if m = a then b else m) ((if m = a then k + 1 else k) + 1) := by
          refine .go q ?_ ?_
          · rw [linkD_nx hn q, if_neg ea]; exact e
          · rw [linkD_nx hn q, if_neg ea]; exact ih
        by_cases em : m = a
        · rw [if_pos em] at this ⊢; rw [if_pos em] at this ⊢; exact this
        · rw [if_neg em] at this ⊢; rw [if_neg em] at this ⊢; exact this
    have := key hk
    by_cases e : fr n = a
    · rw [if_pos e, if_pos e] at this
      exact ⟨_, by unfold Parl.lnk; rw [if_pos e]; exact this⟩
    · rw [if_neg e, if_neg e] at this
      exact ⟨_, by unfold Parl.lnk; rw [if_neg e]; exact this⟩
  · rw [hl] at hn
    unfold Parl.lnk
    rw [h.out n hn, if_neg (by omega)]
end Go.Proofs.YthfjnfcekeknlaaDoor
