import Derived.Test.YthfjnfcekeknlaaDoorF11
import Derived.Test.YthfjnfcekeknlaaDoorF16
import Derived.Deep.LoopGhost
import Derived.Deep.RegionHeld3
namespace Go.Proofs.YthfjnfcekeknlaaDoor
open Go.RowKit

theorem Hop.parts {D : List Ng} {n m k : Nat} (h : Hop D n m k) (hn : n < D.length) : (m = n ∧ D[n].nx = n) ∨ ∃ p j, D[n].nx = p ∧ p ≠ n ∧ k = j + 1 ∧ Hop D p m j := by
  cases h with
  | stop _ e => exact Or.inl ⟨rfl, e⟩
  | go _ e hs => exact Or.inr ⟨_, _, rfl, e, rfl, hs⟩
/-- The row's block. -/
def rowOf (o : Option Addr) (k : Nat) : Prop := ∃ p, o = some p ∧ k = p.block
/-- The store lies at the place so of the block sb. -/
structure StG (w : World) (sb so : Nat) (cs : Array Value) (T : TypeId) (D : List Ng) (no : Option Addr) (nc : Nat) : Prop where
  blk : w.heap[sb]? = some (.cells cs T (0, 0))
  cel : cs[so]? = some (.slice no D.length nc)
  own : w.ownsRow 0 95 7 (.slice no D.length nc) D.length (ngsC D)
  ty : T ≠ 95
/-- The arguments of the nodes lie there. -/
def ArgsG (w : World) (D : List Ng) (P : Nat → Prop) : Prop := ∀ d ∈ D, d.args ≠ [] → ∃ (g : Nat) (cs : Array Value), d.ao = some ⟨g, 0, none⟩ ∧ P g ∧ w.heap[g]? = some (.cells cs 3 (0, 0)) ∧ cs.toList.take d.args.length = d.args.map intV
theorem ArgsG.keep {w w' : World} {D : List Ng} {P Q : Nat → Prop} (h : ArgsG w D P) (hk : ∀ g cs, P g → w.heap[g]? = some (.cells cs 3 (0, 0)) → w'.heap[g]? = some (.cells cs 3 (0, 0)) ∧ Q g) : ArgsG w' D Q := fun d hd q => by
  obtain ⟨g, cs, h1, h2, h3, h4⟩ := h d hd q
  obtain ⟨r1, r2⟩ := hk g cs h2 h3
  exact ⟨g, cs, h1, r2, r1, h4⟩
theorem ArgsG.below {w w' : World} {D : List Ng} {P : Nat → Prop} (h : ArgsG w D P) (hb : Below w.heap.size w w') : ArgsG w' D P := h.keep fun g _ hp hg => ⟨(hb.block g (blk_lt hg)).trans hg, hp⟩
theorem ArgsG.same {w : World} {D D' : List Ng} {P : Nat → Prop} (h : ArgsG w D P) (hs : SameN D D') : ArgsG w D' P := fun d hd q => by
  obtain ⟨i, hi, rfl⟩ := List.getElem_of_mem hd
  have hl := hs.len
  have e := hs.at (show i < D.length by omega) hi
  have h0 := h D[i] (List.getElem_mem _)
  generalize D[i] = a at *
  generalize D'[i] = b at *
  obtain ⟨k, val, tx, cnt, ao, cap, args, nx, mrk⟩ := a
  obtain ⟨k', val', tx', cnt', ao', cap', args', nx', mrk'⟩ := b
  unfold bareN at e
  simp only [Ng.mk.injEq, and_true] at e
  obtain ⟨rfl, rfl, rfl, rfl, rfl, rfl, rfl⟩ := e
  exact h0 q
theorem StG.below {w w' : World} {sb so : Nat} {cs : Array Value} {T : TypeId} {D : List Ng} {no : Option Addr} {nc : Nat} (h : StG w sb so cs T D no nc) (hb : Below w.heap.size w w') : StG w' sb so cs T D no nc :=
  ⟨(hb.block sb (blk_lt h.blk)).trans h.blk, h.cel, own_keepG h.own (fun g q => hb.block g (h.own.lt g q).2), h.ty⟩
theorem StG.at {w : World} {sb so : Nat} {cs : Array Value} {T : TypeId} {D : List Ng} {no : Option Addr} {nc : Nat} (h : StG w sb so cs T D no nc) {n : Nat} (hn : n < D.length) : ∃ g, no = some ⟨g, 0, none⟩ ∧ g < w.heap.size ∧ g ≠ sb ∧ (∀ j, j < 7 → w.cell? ⟨g, n * 7 + j, none⟩ = (ngC D[n])[j]?) ∧ ∀ j, w.frozen? ⟨g, j, none⟩ = false := by
  rcases h.own.2 with ⟨_, q⟩ | ⟨g, cap, cur, q1, _, q3, _⟩
  · omega
  · simp only [Value.slice.injEq] at q1
    obtain ⟨rfl, _, _⟩ := q1
    refine ⟨g, rfl, blk_lt q3, fun e => ?_, fun j hj => ?_, fun j => h.own.frozenAt j⟩
    · subst e
      have := h.blk
      rw [q3] at this
      simp only [Option.some.injEq, Obj.cells.injEq] at this
      exact h.ty this.2.1.symm
    · rw [h.own.cellAt (n * 7 + j) (by omega)]
      exact ngsC_at hn j hj
theorem StG.cell {w : World} {sb so : Nat} {cs : Array Value} {T : TypeId} {D : List Ng} {no : Option Addr} {nc : Nat} (h : StG w sb so cs T D no nc) : w.cell? ⟨sb, so, none⟩ = some (.slice no D.length nc) := (blkA h.blk so).trans h.cel
/-- No row of arguments is the nodes' row. -/
theorem StG.apart {w : World} {sb so : Nat} {cs : Array Value} {T : TypeId} {D : List Ng} {no : Option Addr} {nc : Nat} (h : StG w sb so cs T D no nc) {g : Nat} {xs : Array Value} {S : TypeId} (hg : w.heap[g]? = some (.cells xs S (0, 0))) (hS : S ≠ 95) : ¬ rowOf no g := by
  rintro ⟨p, rfl, rfl⟩
  rcases h.own.2 with ⟨c, _⟩ | ⟨g, cp, cur, c, _, hc, _⟩
  · cases c
  · simp only [Value.slice.injEq, Option.some.injEq] at c
    obtain ⟨rfl, _⟩ := c
    rw [hc] at hg
    simp only [Option.some.injEq, Obj.cells.injEq] at hg
    exact hS hg.2.1.symm
theorem ArgsG.frg {w w' : World} {sb so : Nat} {cs : Array Value} {T : TypeId} {D E : List Ng} {no : Option Addr} {nc : Nat} {P : Nat → Prop} (h : ArgsG w D P) (hs : StG w sb so cs T E no nc) (hf : FrG (rowOf no) (rowOf no) w w') : ArgsG w' D P :=
  h.keep fun g _ hp hg => ⟨(hf.block g (blk_lt hg) (hs.apart hg (by decide))).trans hg, hp⟩

set_option maxHeartbeats 1000000 in
theorem has_g (w : World) (sb so : Nat) (cs : Array Value) (T : TypeId) (D : List Ng) (no : Option Addr) (nc : Nat) (n : Nat) (h : StG w sb so cs T D no nc) (hn : n < D.length) :
    Calls Tryd.prog 73 #[.pointer (some ⟨sb, so, none⟩), .int .i64 (n : Int)] w fun e w' => e = .returned (.bool true) ∧ w' = w := by
  have s0 := h.cell
  have sz := blk_lt h.blk
  have t1 : decide ((0 : Int) ≤ (n : Int)) = true := by simp
  have t2 : decide ((n : Int) < (D.length : Int)) = true := by simp; omega
  clear h
  go_enter Tryd.func73, Tryd.ntmps73
  go_wp2_with fail
  go_ret
  exact ⟨rfl, rfl⟩

set_option maxHeartbeats 2000000 in
theorem front_g (w : World) (sb so : Nat) (cs : Array Value) (T : TypeId) (D : List Ng) (no : Option Addr) (nc : Nat) (n m k : Nat) (h : StG w sb so cs T D no nc) (hn : Hop D n m k) :
    Calls Tryd.prog 48 #[.pointer (some ⟨sb, so, none⟩), .int .i64 (n : Int)] w fun e w' => e = .returned (intV m) ∧ w' = w := by
  have H := hide h
  have s0 := h.cell
  have sz := blk_lt h.blk
  have HN := hide hn
  clear h hn
  go_enter Tryd.func48, Tryd.ntmps48
  go_wp2_with fail
  go_loopg [5] k (fun j fv wr => ∃ i : Nat, fv = intV i ∧ Hop D i m j ∧ wr = w)
  case atStart => exact ⟨n, rfl, unhide HN, rfl⟩
  case round =>
    obtain ⟨i, rfl, hop, rfl⟩ := hrel
    have hi := hop.lt.1
    have HH := hide (has_g wr sb so cs T D no nc i (unhide H) hi)
    obtain ⟨g, rfl, gz, gne, hc, -⟩ := (unhide H).at hi
    have f5 := hc 5 (by omega)
    simp only [ngC, List.getElem?_cons_zero, List.getElem?_cons_succ] at f5
    have i0 : (0 : Int) ≤ (i : Int) := by omega
    have i1 : (i : Int) < (D.length : Int) := by omega
    clear hc
    unfold intV
    rcases hop.parts hi with ⟨rfl, e⟩ | ⟨p, j', e, hne, hk, hs⟩
    · rw [e] at f5
      clear e hop
      go_wp2_with fail
      refine (unhide HH).mono ?_
      rintro e w2 ⟨rfl, rfl⟩
      go_wp2_with fail
      go_ret
      exact ⟨rfl, rfl⟩
    · rw [e] at f5
      have HS := hide hs
      have HK := hide hk
      have t5 : ((p : Int) != (i : Int)) = true := by simp; omega
      clear hs hk e hop
      go_wp2_with fail
      refine (unhide HH).mono ?_
      rintro e w2 ⟨rfl, rfl⟩
      go_wp2_with fail
      go_roundg (gk - 1)
      case measure => have := unhide HK; omega
      case rel => exact ⟨p, rfl, by have := unhide HK; rw [show gk - 1 = j' by omega]; exact unhide HS, rfl⟩
end Go.Proofs.YthfjnfcekeknlaaDoor
namespace Go.Proofs.YthfjnfcekeknlaaDoor
open Go.RowKit

set_option maxHeartbeats 2000000 in
theorem label_g (w : World) (sb so : Nat) (cs : Array Value) (T : TypeId) (D : List Ng) (no : Option Addr) (nc : Nat) (n m k : Nat) (d : Ng) (h : StG w sb so cs T D no nc) (hn : Hop D n m k) (hd : D[m]? = some d) :
    Calls Tryd.prog 47 #[.pointer (some ⟨sb, so, none⟩), .int .i64 (n : Int)] w fun e w' => e = .returned (.agg #[.int .i64 d.k, .int .i64 d.val, .string d.tx, .int .i64 (d.cnt : Int)]) ∧ Below w.heap.size w w' := by
  have hm := hn.lt.2
  have hW := h.below ((Below.refl w.heap.size w).alloc (Nat.le_refl _) (.cells #[.int .i64 0, .int .i64 0, .string ⟨#[]⟩, .int .i64 0] 92))
  have HH := hide (has_g (w.alloc (.cells #[.int .i64 0, .int .i64 0, .string ⟨#[]⟩, .int .i64 0] 92)) sb so cs T D no nc m hW hm)
  have HF := hide (front_g (w.alloc (.cells #[.int .i64 0, .int .i64 0, .string ⟨#[]⟩, .int .i64 0] 92)) sb so cs T D no nc n m k hW hn)
  obtain ⟨g, rfl, gz, gne, hc, -⟩ := h.at hm
  have s0 := h.cell
  have sz := blk_lt h.blk
  have f0 := hc 0 (by omega)
  have f1 := hc 1 (by omega)
  have f2 := hc 2 (by omega)
  have f3 := hc 3 (by omega)
  rw [List.getElem?_eq_getElem hm] at hd
  obtain rfl := Option.some.inj hd
  simp only [ngC, List.getElem?_cons_zero, List.getElem?_cons_succ, Nat.add_zero] at f0 f1 f2 f3
  have i0 : (0 : Int) ≤ (m : Int) := by omega
  have i1 : (m : Int) < (D.length : Int) := by omega
  have HNN := hide hn
  clear h hc hW hn hd
  generalize D[m] = d at *
  go_enter Tryd.func47, Tryd.ntmps47
  go_wp2_with fail
  refine (unhide HF).mono ?_
  rintro e w2 ⟨rfl, rfl⟩
  unfold intV
  go_wp2_with fail
  refine (unhide HH).mono ?_
  rintro e w2 ⟨rfl, rfl⟩
  go_wp2_with fail
  refine bodyPost_ret (v := .agg #[.int .i64 d.k, .int .i64 d.val, .string d.tx, .int .i64 (d.cnt : Int)]) (by simp [results, Tryd.results47, go_sem]) rfl ?_
  exact ⟨rfl, (Below.refl _ _).alloc (Nat.le_refl _) _⟩

set_option maxHeartbeats 2000000 in
theorem args_g (w : World) (sb so : Nat) (cs : Array Value) (T : TypeId) (D : List Ng) (no : Option Addr) (nc : Nat) (n m k : Nat) (d : Ng) (h : StG w sb so cs T D no nc) (hn : Hop D n m k) (hd : D[m]? = some d) :
    Calls Tryd.prog 46 #[.pointer (some ⟨sb, so, none⟩), .int .i64 (n : Int)] w fun e w' => e = .returned (.slice d.ao d.args.length d.cap) ∧ w' = w := by
  have hm := hn.lt.2
  have HH := hide (has_g w sb so cs T D no nc m h hm)
  have HF := hide (front_g w sb so cs T D no nc n m k h hn)
  obtain ⟨g, rfl, gz, gne, hc, -⟩ := h.at hm
  have s0 := h.cell
  have sz := blk_lt h.blk
  have f4 := hc 4 (by omega)
  rw [List.getElem?_eq_getElem hm] at hd
  obtain rfl := Option.some.inj hd
  simp only [ngC, List.getElem?_cons_zero, List.getElem?_cons_succ] at f4
  have i0 : (0 : Int) ≤ (m : Int) := by omega
  have i1 : (m : Int) < (D.length : Int) := by omega
  have HNN := hide hn
  clear h hc hn hd
  generalize D[m] = d at *
  go_enter Tryd.func46, Tryd.ntmps46
  go_wp2_with fail
  refine (unhide HF).mono ?_
  rintro e w2 ⟨rfl, rfl⟩
  unfold intV
  go_wp2_with fail
  refine (unhide HH).mono ?_
  rintro e w2 ⟨rfl, rfl⟩
  go_wp2_with fail
  go_ret
  exact ⟨rfl, rfl⟩
/-- A link is laid. -/
theorem StG.link {w : World} {sb so : Nat} {cs : Array Value} {T : TypeId} {D : List Ng} {g : Nat} {nc : Nat} (h : StG w sb so cs T D (some ⟨g, 0, none⟩) nc) {a b : Nat} (ha : a < D.length) : StG (w.setCell ⟨g, a * 7 + 5, none⟩ (.int .i64 (b : Int))) sb so cs T (linkD D a b) (some ⟨g, 0, none⟩) nc ∧ FrG (rowOf (some ⟨g, 0, none⟩)) (rowOf (some ⟨g, 0, none⟩)) w (w.setCell ⟨g, a * 7 + 5, none⟩ (.int .i64 (b : Int))) := by
  obtain ⟨h1, h2⟩ := h.own.stored (a * 7 + 5) (.int .i64 (b : Int))
  have hl := (linkD_same D a b).len
  obtain ⟨g', e, gz, gne, -⟩ := h.at ha
  cases e
  refine ⟨⟨?_, by rw [hl]; exact h.cel, ?_, h.ty⟩, ⟨h2.os, h2.tape, h2.output, h2.size, fun k hk hr => h2.block k hk (fun e => hr ⟨⟨g, 0, none⟩, rfl, by simpa using e⟩), fun _ q => Or.inl q⟩⟩
  · exact (h2.block sb (blk_lt h.blk) (by simpa using Ne.symm gne)).trans h.blk
  · rw [hl]
    have : ngsC (linkD D a b) = (ngsC D).set (a * 7 + 5) (.int .i64 (b : Int)) := by
      unfold linkD
      rw [dif_pos ha]
      exact ngsC_set D a 5 ha (by omega) _ _ rfl
    rw [this]
    exact h1

set_option maxHeartbeats 2000000 in
theorem link_g (w : World) (sb so : Nat) (cs : Array Value) (T : TypeId) (D : List Ng) (no : Option Addr) (nc : Nat) (a b : Nat) (h : StG w sb so cs T D no nc) (ha : a < D.length) :
    Calls Tryd.prog 70 #[.pointer (some ⟨sb, so, none⟩), .int .i64 (a : Int), .int .i64 (b : Int)] w fun e w' => e = .returned (.tuple #[]) ∧ StG w' sb so cs T (linkD D a b) no nc ∧ FrG (rowOf no) (rowOf no) w w' := by
  have HH := hide (has_g w sb so cs T D no nc a h ha)
  obtain ⟨g, rfl, gz, gne, hc, hx⟩ := h.at ha
  have s0 := h.cell
  have sz := blk_lt h.blk
  have x5 := hx (a * 7 + 5)
  have i0 : (0 : Int) ≤ (a : Int) := by omega
  have i1 : (a : Int) < (D.length : Int) := by omega
  have f5 := hc 5 (by omega)
  simp only [ngC, List.getElem?_cons_zero, List.getElem?_cons_succ] at f5
  have HR := hide (h.link (b := b) ha)
  clear h hc hx
  go_enter Tryd.func70, Tryd.ntmps70
  go_wp2_with fail
  refine (unhide HH).mono ?_
  rintro e w2 ⟨rfl, rfl⟩
  go_wp2_with fail
  go_end0
  exact ⟨rfl, unhide HR⟩

set_option maxHeartbeats 2000000 in
theorem linkLater_g (w : World) (sb so : Nat) (cs : Array Value) (T : TypeId) (D : List Ng) (no : Option Addr) (nc : Nat) (a b lo hi : Nat) (h : StG w sb so cs T D no nc) (ha : a < D.length) (hb : b < D.length) (hl : (a < b ∧ lo = a ∧ hi = b) ∨ (b < a ∧ lo = b ∧ hi = a)) :
    Calls Tryd.prog 69 #[.pointer (some ⟨sb, so, none⟩), .int .i64 (a : Int), .int .i64 (b : Int)] w fun e w' => e = .returned (.tuple #[]) ∧ StG w' sb so cs T (linkD D hi lo) no nc ∧ FrG (rowOf no) (rowOf no) w w' := by
  rcases hl with ⟨h1, rfl, rfl⟩ | ⟨h1, rfl, rfl⟩
  · have HH := hide (link_g w sb so cs T D no nc hi lo h hb)
    have t1 : decide ((lo : Int) < (hi : Int)) = true := by simpa using h1
    clear h
    go_enter Tryd.func69, Tryd.ntmps69
    go_wp2_with fail
    refine (unhide HH).mono ?_
    rintro e w2 ⟨rfl, hr⟩
    have HR := hide hr
    clear hr
    go_wp2_with fail
    (try simp only [Exit.inBlock, Exit.then]); refine bodyPost_ret (results_none rfl _ _ _) rfl ?_
    exact ⟨rfl, unhide HR⟩
  · have HH := hide (link_g w sb so cs T D no nc hi lo h ha)
    have t1 : decide ((hi : Int) < (lo : Int)) = false := by simp; omega
    clear h
    go_enter Tryd.func69, Tryd.ntmps69
    go_wp2_with fail
    refine (unhide HH).mono ?_
    rintro e w2 ⟨rfl, hr⟩
    have HR := hide hr
    clear hr
    go_wp2_with fail
    go_end0
    exact ⟨rfl, unhide HR⟩
end Go.Proofs.YthfjnfcekeknlaaDoor
namespace Parl
/-- How many fronts there are. -/
def nfr (L : Nat) (fr : Nat → Nat) : Nat := (List.range L).countP fun n => fr n == n
theorem count_lt {p q : Nat → Bool} : ∀ {l : List Nat} {x : Nat}, (∀ n, q n = true → p n = true) → x ∈ l → p x = true → q x = false → l.countP q + 1 ≤ l.countP p
  | y :: l, x, h, hx, h1, h2 => by
    rw [List.countP_cons, List.countP_cons]
    rcases List.mem_cons.1 hx with rfl | hx
    · rw [h1, h2]
      have : l.countP q ≤ l.countP p := List.countP_mono_left fun n _ r => h n r
      simp
      omega
    · have := count_lt h hx h1 h2
      by_cases r : q y = true
      · rw [r, h y r]; simp; omega
      · rw [Bool.not_eq_true] at r
        rw [r]
        simp
        omega
theorem nfr_lnk {L : Nat} {fr : Nat → Nat} {a b : Nat} (ha : a < L) (hfa : fr a = a) (hfb : fr b = b) (hab : a ≠ b) : nfr L (lnk fr a b) + 1 ≤ nfr L fr := by
  refine count_lt (x := a) (fun n h => ?_) (by simpa using ha) (by simpa using hfa) ?_
  · rw [beq_iff_eq] at h ⊢
    unfold lnk at h
    split at h
    · rename_i q; subst h; rw [hfb] at q; exact absurd q.symm hab
    · exact h
  · rw [beq_eq_false_iff_ne]
    unfold lnk
    rw [if_pos hfa]
    exact Ne.symm hab
end Parl
namespace Go.Proofs.YthfjnfcekeknlaaDoor
open Go.RowKit

/-- A row of nodes lies there. -/
def RowG (w : World) (ao : Option Addr) (xs : List Nat) : Prop := xs ≠ [] → ∃ (g : Nat) (cs : Array Value), ao = some ⟨g, 0, none⟩ ∧ w.heap[g]? = some (.cells cs 3 (0, 0)) ∧ cs.toList.take xs.length = xs.map intV
theorem RowG.at {w : World} {ao : Option Addr} {xs : List Nat} (h : RowG w ao xs) {j : Nat} (hj : j < xs.length) : ∃ g, ao = some ⟨g, 0, none⟩ ∧ g < w.heap.size ∧ w.cell? ⟨g, j, none⟩ = some (.int .i64 (xs[j] : Int)) := by
  obtain ⟨g, cs, h1, h2, h3⟩ := h (fun q => by rw [q] at hj; simp at hj)
  refine ⟨g, h1, blk_lt h2, ?_⟩
  rw [blkA h2, ← Array.getElem?_toList, ← List.getElem?_take_of_lt (l := cs.toList) hj, h3, List.getElem?_map, List.getElem?_eq_getElem hj]
  rfl
theorem RowG.frg {w w' : World} {sb so : Nat} {cs : Array Value} {T : TypeId} {E : List Ng} {no : Option Addr} {nc : Nat} {ao : Option Addr} {xs : List Nat} (h : RowG w ao xs) (hs : StG w sb so cs T E no nc) (hf : FrG (rowOf no) (rowOf no) w w') : RowG w' ao xs := fun q => by
  obtain ⟨g, ds, h1, h2, h3⟩ := h q
  exact ⟨g, ds, h1, (hf.block g (blk_lt h2) (hs.apart h2 (by decide))).trans h2, h3⟩
theorem ArgsG.row {w : World} {D : List Ng} {P : Nat → Prop} (h : ArgsG w D P) {d : Ng} (hd : d ∈ D) : RowG w d.ao d.args := fun q => by
  obtain ⟨g, cs, h1, _, h3, h4⟩ := h d hd q
  exact ⟨g, cs, h1, h3, h4⟩
/-- What 'join' is to leave. -/
def PJn (sb so : Nat) (cs : Array Value) (T : TypeId) (D : List Ng) (no : Option Addr) (nc : Nat) (J : Bool → (Nat → Nat) → Prop) (c : Nat) (w : World) (e : Ending) (w' : World) : Prop :=
  ∃ (r : Bool) (D' : List Ng) (fr' : Nat → Nat), e = .returned (.bool r) ∧ StG w' sb so cs T D' no nc ∧ SameN D D' ∧ (r = true → OkD D' fr' ∧ Parl.nfr D.length fr' ≤ c) ∧ J r fr' ∧ FrG (rowOf no) (rowOf no) w w'
def JnSaid (c : Nat) : Prop := ∀ (w : World) (sb so : Nat) (cs : Array Value) (T : TypeId) (D : List Ng) (no : Option Addr) (nc : Nat) (P : Nat → Prop) (fr : Nat → Nat) (a b : Nat), StG w sb so cs T D no nc → OkD D fr → ArgsG w D P → Parl.nfr D.length fr ≤ c → a < D.length → b < D.length →
  Calls Tryd.prog 44 #[.pointer (some ⟨sb, so, none⟩), .int .i64 (a : Int), .int .i64 (b : Int)] w fun e w' => PJn sb so cs T D no nc (fun r fr' => Parl.JoinR (gOf D) fr a b r fr') (Parl.nfr D.length fr) w e w'
/-- The loop over the arguments. -/
def LJn (w : World) (sb so : Nat) (cs : Array Value) (T : TypeId) (D : List Ng) (no : Option Addr) (nc : Nat) (P : Nat → Prop) (fr : Nat → Nat) (xs ys : List Nat) (k : Nat) (iv : Value) (wr : World) : Prop :=
  ∃ (j : Nat) (D1 : List Ng) (fr1 : Nat → Nat), k + j = xs.length ∧ iv = .int .i64 (j : Int) ∧ StG wr sb so cs T D1 no nc ∧ SameN D D1 ∧ OkD D1 fr1 ∧ ArgsG wr D1 P ∧ Parl.nfr D.length fr1 ≤ Parl.nfr D.length fr ∧
    (∀ r fr', Parl.JoinsR (gOf D) fr1 (xs.drop j) (ys.drop j) r fr' → Parl.JoinsR (gOf D) fr xs ys r fr') ∧ FrG (rowOf no) (rowOf no) w wr

set_option maxHeartbeats 4000000 in
set_option maxRecDepth 100000 in
theorem joins_g {c : Nat} (IH : JnSaid c) (w : World) (sb so : Nat) (cs : Array Value) (T : TypeId) (D : List Ng) (no : Option Addr) (nc : Nat) (P : Nat → Prop) (fr : Nat → Nat) (xs ys : List Nat) (xo yo : Option Addr) (xc yc : Nat)
    (h : StG w sb so cs T D no nc) (hok : OkD D fr) (ha : ArgsG w D P) (hc : Parl.nfr D.length fr ≤ c) (hx : RowG w xo xs) (hy : RowG w yo ys) (hxl : ∀ x ∈ xs, x < D.length) (hyl : ∀ y ∈ ys, y < D.length) (hl : xs.length = ys.length) (h3 : xs.length ≤ 3) :
    Calls Tryd.prog 71 #[.pointer (some ⟨sb, so, none⟩), .slice xo xs.length xc, .slice yo ys.length yc] w fun e w' => PJn sb so cs T D no nc (fun r fr' => Parl.JoinsR (gOf D) fr xs ys r fr') (Parl.nfr D.length fr) w e w' := by
  have HST := hide (show LJn w sb so cs T D no nc P fr xs ys xs.length (.int .i64 0) w from ⟨0, D, fr, by omega, rfl, h, SameN.refl D, hok, ha, Nat.le_refl _, (fun r fr' q => by simpa using q), FrG.of_below (Below.refl _ _)⟩)
  have I := hide IH
  have HX := hide hx
  have HY := hide hy
  have HXL := hide hxl
  have HYL := hide hyl
  have HC := hide hc
  have HS0 := hide h
  rw [← hl]
  have HL := hide hl
  clear h hok ha hx hy hxl hyl hc IH hl
  go_enter Tryd.func71, Tryd.ntmps71
  go_wp2_with fail
  go_loopg [7] xs.length (fun k iv wr => LJn w sb so cs T D no nc P fr xs ys k iv wr)
  case atStart => exact unhide HST
  case round =>
    clear HST
    obtain ⟨j, D1, fr1, hkj, rfl, hst, hsm, hok, ha, hn, hcont, hfr⟩ := hrel
    by_cases hlt : j < xs.length
    · have hlt' : j < ys.length := by have := unhide HL; omega
      obtain ⟨gx, ex, zx, cx⟩ := ((unhide HX).frg (unhide HS0) hfr).at hlt
      obtain ⟨gy, ey, zy, cy⟩ := ((unhide HY).frg (unhide HS0) hfr).at hlt'
      subst ex ey
      have hl1 := hsm.len
      have IC := hide (unhide I wr.drew sb so cs T D1 no nc P fr1 xs[j] ys[j] (hst.below (Below.refl _ _).drew) hok (ha.below (Below.refl _ _).drew) (by rw [hl1]; have := unhide HC; omega) (by rw [hl1]; exact unhide HXL _ (List.getElem_mem hlt)) (by rw [hl1]; exact unhide HYL _ (List.getElem_mem hlt')))
      have HDX := hide (show xs.drop j = xs[j] :: xs.drop (j + 1) from List.drop_eq_getElem_cons hlt)
      have HDY := hide (show ys.drop j = ys[j] :: ys.drop (j + 1) from List.drop_eq_getElem_cons hlt')
      have HF0 := hide (show ∀ w', FrG (rowOf no) (rowOf no) w w' → w'.cell? ⟨gx, j, none⟩ = some (.int .i64 (xs[j] : Int)) ∧ w'.cell? ⟨gy, j, none⟩ = some (.int .i64 (ys[j] : Int)) from fun w' hf => by
        obtain ⟨g1, e1, _, c1⟩ := ((unhide HX).frg (unhide HS0) hf).at hlt
        obtain ⟨g2, e2, _, c2⟩ := ((unhide HY).frg (unhide HS0) hf).at hlt'
        cases e1
        cases e2
        exact ⟨c1, c2⟩)
      have HFR := hide hfr
      have HSM := hide hsm
      have HST1 := hide hst
      have HAR := hide ha
      have HN := hide hn
      have HCO := hide hcont
      have HKJ := hide hkj
      have HLT := hide hlt
      have HG1 := hide hsm.g
      have HL1 := hide hl1
      generalize xs[j] = na at *
      generalize ys[j] = nb at *
      have i0 : (0 : Int) ≤ (j : Int) := by omega
      have i1 : (j : Int) < (xs.length : Int) := by omega
      clear hst hsm hok ha hn hcont hfr hkj hlt hlt' hl1
      go_wp2_with fail
      go_region_held3 (fun w' => w'.cell? ⟨gx, j, none⟩ = some (.int .i64 (na : Int)) ∧ w'.cell? ⟨gy, j, none⟩ = some (.int .i64 (nb : Int))) (go_keep) (first
        | (go_at_call 44; refine (unhide IC).mono ?_; rintro e w8 ⟨r, D8, fr8, rfl, h8, s8, o8, j8, f8⟩; have HFR8 := hide ((unhide HFR).trans ((FrG.of_below (Below.refl _ _).drew).trans f8)); obtain ⟨k0, k1⟩ := unhide HF0 w8 (unhide HFR8); have H8 := hide h8; have S8 := hide s8; have O8 := hide o8; have J8 := hide j8; have HA8 := hide (((unhide HAR).below (Below.refl _ _).drew).frg ((unhide HST1).below (Below.refl _ _).drew) f8); clear h8 s8 o8 j8 f8))
      all_goals
        cases r
        · go_wp2_with fail
          go_ret
          refine ⟨false, D8, fr8, rfl, unhide H8, (unhide HSM).trans (unhide S8), fun q => (by cases q), ?_, unhide HFR8⟩
          refine unhide HCO _ _ ?_
          rw [unhide HDX, unhide HDY]
          have := unhide J8
          rw [unhide HG1] at this
          exact .no this
        · go_wp2_with fail
          go_roundg (gk - 1)
          case measure => have := unhide HKJ; have := unhide HLT; omega
          case rel =>
            obtain ⟨o1, o2⟩ := unhide O8 (by trivial)
            have hl1 := unhide HL1
            rw [hl1] at o2
            refine ⟨j + 1, D8, fr8, by have := unhide HKJ; have := unhide HLT; omega, by go_num, unhide H8, (unhide HSM).trans (unhide S8), o1, (unhide HA8).same (unhide S8), by have := unhide HN; omega, fun r fr' q => ?_, unhide HFR8⟩
            refine unhide HCO _ _ ?_
            rw [unhide HDX, unhide HDY]
            have := unhide J8
            rw [unhide HG1] at this
            exact .cons this q
    · obtain rfl : j = xs.length := by omega
      have HFIN := hide (show PJn sb so cs T D no nc (fun r fr' => Parl.JoinsR (gOf D) fr xs ys r fr') (Parl.nfr D.length fr) w (.returned (.bool true)) wr from ⟨true, D1, fr1, rfl, hst, hsm, (fun _ => ⟨hok, hn⟩), hcont _ _ (by rw [List.drop_length, List.drop_eq_nil_of_le (by have := unhide HL; omega)]; exact .nil), hfr⟩)
      clear hst hsm hok ha hn hcont hfr hkj
      go_wp2_with fail
      go_ret
      exact unhide HFIN
end Go.Proofs.YthfjnfcekeknlaaDoor
namespace Go.Proofs.YthfjnfcekeknlaaDoor
open Go.RowKit

theorem OkD.hopF {D : List Ng} {fr : Nat → Nat} (h : OkD D fr) {n : Nat} (hn : n < D.length) : ∃ k, Hop D (fr n) (fr n) k := by
  have := h.hop (fr n) (h.lt hn)
  rwa [h.idem] at this
/-- What is common to all ways. -/
theorem glF {D : List Ng} {fr : Nat → Nat} (h : OkD D fr) {n : Nat} (hn : n < D.length) : ∃ d, D[fr n]? = some d ∧ NdOk D.length d ∧ Parl.gl (gOf D) (fr n) = labN d ∧ Parl.ga (gOf D) (fr n) = d.args ∧ d ∈ D := by
  have hl := h.lt hn
  exact ⟨D[fr n], List.getElem?_eq_getElem hl, h.nd _ hl, gl_of hl, ga_of hl, List.getElem_mem hl⟩

set_option maxHeartbeats 2000000 in
set_option maxRecDepth 100000 in
theorem join_same (w : World) (sb so : Nat) (cs : Array Value) (T : TypeId) (D : List Ng) (no : Option Addr) (nc : Nat) (fr : Nat → Nat) (a b : Nat) (h : StG w sb so cs T D no nc) (hok : OkD D fr) (ha : a < D.length) (hb : b < D.length) (he : fr a = fr b) :
    Calls Tryd.prog 44 #[.pointer (some ⟨sb, so, none⟩), .int .i64 (a : Int), .int .i64 (b : Int)] w fun e w' => PJn sb so cs T D no nc (fun r fr' => Parl.JoinR (gOf D) fr a b r fr') (Parl.nfr D.length fr) w e w' := by
  obtain ⟨ka, hka⟩ := hok.hop a ha
  obtain ⟨kb, hkb⟩ := hok.hop b hb
  rw [← he] at hkb
  have FA := hide (front_g w sb so cs T D no nc a (fr a) ka h hka)
  have FB := hide (front_g w sb so cs T D no nc b (fr a) kb h hkb)
  have HFIN := hide (show PJn sb so cs T D no nc (fun r fr' => Parl.JoinR (gOf D) fr a b r fr') (Parl.nfr D.length fr) w (.returned (.bool true)) w from ⟨true, D, fr, rfl, h, SameN.refl D, fun _ => ⟨hok, Nat.le_refl _⟩, .same he, FrG.of_below (Below.refl _ _)⟩)
  clear h hok hka hkb he
  generalize fr a = p at *
  go_enter Tryd.func44, Tryd.ntmps44
  go_wp2_with fail
  refine (unhide FA).mono ?_
  rintro e w2 ⟨rfl, rfl⟩
  unfold intV at FB ⊢
  go_wp2_with fail
  refine (unhide FB).mono ?_
  rintro e w2 ⟨rfl, rfl⟩
  go_wp2_with fail
  go_ret
  exact unhide HFIN

set_option maxHeartbeats 4000000 in
set_option maxRecDepth 100000 in
theorem join_diff {c : Nat} (IH : JnSaid c) (w : World) (sb so : Nat) (cs : Array Value) (T : TypeId) (D : List Ng) (no : Option Addr) (nc : Nat) (P : Nat → Prop) (fr : Nat → Nat) (a b : Nat) (h : StG w sb so cs T D no nc) (hok : OkD D fr) (har : ArgsG w D P) (hc : Parl.nfr D.length fr ≤ c + 1) (ha : a < D.length) (hb : b < D.length) (he : fr a ≠ fr b) :
    Calls Tryd.prog 44 #[.pointer (some ⟨sb, so, none⟩), .int .i64 (a : Int), .int .i64 (b : Int)] w fun e w' => PJn sb so cs T D no nc (fun r fr' => Parl.JoinR (gOf D) fr a b r fr') (Parl.nfr D.length fr) w e w' := by
  obtain ⟨ka, hka⟩ := hok.hop a ha
  obtain ⟨kb, hkb⟩ := hok.hop b hb
  obtain ⟨ja, hja⟩ := hok.hopF ha
  obtain ⟨jb, hjb⟩ := hok.hopF hb
  obtain ⟨da, hda, oa, ga, aa, ma⟩ := glF hok ha
  obtain ⟨db, hdb, ob, gb, ab, mb⟩ := glF hok hb
  have la := hok.lt ha
  have lb := hok.lt hb
  have ia := hok.idem a
  have ib := hok.idem b
  have FA := hide (front_g w sb so cs T D no nc a (fr a) ka h hka)
  have FB := hide (front_g w sb so cs T D no nc b (fr b) kb h hkb)
  have LA := hide (label_g w sb so cs T D no nc (fr a) (fr a) ja da h hja hda)
  have LB := hide (fun W (hb : Below w.heap.size w W) => label_g W sb so cs T D no nc (fr b) (fr b) jb db (h.below hb) hjb hdb)
  have AA := hide (fun W (hb : Below w.heap.size w W) => args_g W sb so cs T D no nc (fr a) (fr a) ja da (h.below hb) hja hda)
  have AB := hide (fun W (hb : Below w.heap.size w W) => args_g W sb so cs T D no nc (fr b) (fr b) jb db (h.below hb) hjb hdb)
  -- the ways that end here
  have link1 : ∀ x y, (x = fr a ∧ y = fr b) ∨ (x = fr b ∧ y = fr a) → OkD (linkD D x y) (Parl.lnk fr x y) ∧ Parl.nfr D.length (Parl.lnk fr x y) + 1 ≤ Parl.nfr D.length fr := fun x y q => by
    rcases q with ⟨rfl, rfl⟩ | ⟨rfl, rfl⟩
    · exact ⟨hok.link la lb ia ib he, Parl.nfr_lnk la ia ib he⟩
    · exact ⟨hok.link lb la ib ia (Ne.symm he), Parl.nfr_lnk lb ib ia (Ne.symm he)⟩
  have done : ∀ x y W W', ((x = fr a ∧ y = fr b) ∨ (x = fr b ∧ y = fr a)) → Below w.heap.size w W → StG W' sb so cs T (linkD D x y) no nc → FrG (rowOf no) (rowOf no) W W' → Parl.JoinR (gOf D) fr a b true (Parl.lnk fr x y) → PJn sb so cs T D no nc (fun r fr' => Parl.JoinR (gOf D) fr a b r fr') (Parl.nfr D.length fr) w (.returned (.bool true)) W' := fun x y W W' q hW hS hF hJ =>
    ⟨true, linkD D x y, Parl.lnk fr x y, rfl, hS, linkD_same D x y, fun _ => ⟨(link1 x y q).1, by have := (link1 x y q).2; omega⟩, hJ, (FrG.of_below hW).trans hF⟩
  have DONE := hide done
  have HH := hide h
  have t0 : (((fr a : Nat) : Int) == ((fr b : Nat) : Int)) = false := by simp; omega
  by_cases k1 : da.k = 1
  · by_cases k2 : db.k = 1
    · -- two variables
      obtain ⟨lo, hi, hlh⟩ : ∃ lo hi, (fr a < fr b ∧ lo = fr a ∧ hi = fr b) ∨ (fr b < fr a ∧ lo = fr b ∧ hi = fr a) := by
        rcases Nat.lt_or_ge (fr a) (fr b) with q | q
        · exact ⟨_, _, Or.inl ⟨q, rfl, rfl⟩⟩
        · exact ⟨_, _, Or.inr ⟨by omega, rfl, rfl⟩⟩
      have LK := hide (fun W (hb : Below w.heap.size w W) => linkLater_g W sb so cs T D no nc (fr a) (fr b) lo hi (h.below hb) la lb hlh)
      have HJ := hide (show Parl.JoinR (gOf D) fr a b true (Parl.lnk fr hi lo) from .vars he (by rw [ga]; exact oa.lab.2 k1) (by rw [gb]; exact ob.lab.2 k2) (by rcases hlh with ⟨_, r, s⟩ | ⟨_, r, s⟩; exact Or.inl ⟨r, s⟩; exact Or.inr ⟨r, s⟩) (by rcases hlh with ⟨q, r, s⟩ | ⟨q, r, s⟩ <;> omega))
      have HQ := hide (show (hi = fr a ∧ lo = fr b) ∨ (hi = fr b ∧ lo = fr a) by rcases hlh with ⟨_, r, s⟩ | ⟨_, r, s⟩; exact Or.inr ⟨s, r⟩; exact Or.inl ⟨s, r⟩)
      obtain ⟨k, val, tx, cnt, ao, cap, args, nx, mrk⟩ := da
      obtain ⟨k', val', tx', cnt', ao', cap', args', nx', mrk'⟩ := db
      dsimp only at k1 k2 LA LB
      subst k1 k2
      clear h hok har hka hkb hja hjb hda hdb oa ob ga gb aa ab ma mb la lb ia ib link1 done hlh he hc ha hb AA AB IH
      generalize fr a = p at *
      generalize fr b = q at *
      go_enter Tryd.func44, Tryd.ntmps44
      go_wp2_with fail
      refine (unhide FA).mono ?_
      rintro e w2 ⟨rfl, rfl⟩
      unfold intV at FB ⊢
      go_wp2_with fail
      refine (unhide FB).mono ?_
      rintro e w2 ⟨rfl, rfl⟩
      go_wp2_with fail
      refine (unhide LA).mono ?_
      rintro e w3 ⟨rfl, hb3⟩
      have HB3 := hide (hb3.alloc hb3.size (.cells #[.int .i64 1, .int .i64 val, .string tx, .int .i64 (cnt : Int)] 92))
      have z3 := hb3.size
      clear hb3
      go_wp2_with fail
      refine (unhide LB _ (unhide HB3)).mono ?_
      rintro e w4 ⟨rfl, hb4⟩
      have HB4 := hide (((unhide HB3).trans (hb4.mono (by simp; omega))).alloc (by have := hb4.size; simp at this; omega) (.cells #[.int .i64 1, .int .i64 val', .string tx', .int .i64 (cnt' : Int)] 92))
      have f0 := (hb4.cell (p := ⟨w3.heap.size, 0, none⟩) (by simp)).trans (blkA (heap_alloc_new w3 _) 0)
      simp only [List.getElem?_toArray, List.getElem?_cons_zero] at f0
      have z4 : w3.heap.size < w4.heap.size := by have := hb4.size; simp at this; omega
      clear hb4
      go_wp2_with fail
      refine (unhide LK _ (unhide HB4)).mono ?_
      rintro e w5 ⟨rfl, hs5, hf5⟩
      have HFIN := hide (unhide DONE hi lo _ _ (unhide HQ) (unhide HB4) hs5 hf5 (unhide HJ))
      clear hs5 hf5
      go_wp2_with fail
      go_ret
      exact unhide HFIN
    · -- a variable and another term
      have LK := hide (fun W (hb : Below w.heap.size w W) => link_g W sb so cs T D no nc (fr a) (fr b) (h.below hb) la)
      have HJ := hide (show Parl.JoinR (gOf D) fr a b true (Parl.lnk fr (fr a) (fr b)) from .left he (by rw [ga]; exact oa.lab.2 k1) (by rw [gb]; exact fun r => k2 (ob.lab.1 r)))
      have DN := hide (fun W W' (h1 : Below w.heap.size w W) (h2 : StG W' sb so cs T (linkD D (fr a) (fr b)) no nc) (h3 : FrG (rowOf no) (rowOf no) W W') => done (fr a) (fr b) W W' (Or.inl ⟨rfl, rfl⟩) h1 h2 h3 (unhide HJ))
      have t2 : (db.k == 1) = false := by simpa using k2
      obtain ⟨k, val, tx, cnt, ao, cap, args, nx, mrk⟩ := da
      obtain ⟨k', val', tx', cnt', ao', cap', args', nx', mrk'⟩ := db
      dsimp only at k1 t2 LA LB
      subst k1
      clear h hok har hka hkb hja hjb hda hdb oa ob ga gb aa ab ma mb la lb ia ib link1 done he hc ha hb AA AB IH k2 HJ DONE
      generalize fr a = p at *
      generalize fr b = q at *
      go_enter Tryd.func44, Tryd.ntmps44
      go_wp2_with fail
      refine (unhide FA).mono ?_
      rintro e w2 ⟨rfl, rfl⟩
      unfold intV at FB ⊢
      go_wp2_with fail
      refine (unhide FB).mono ?_
      rintro e w2 ⟨rfl, rfl⟩
      go_wp2_with fail
      refine (unhide LA).mono ?_
      rintro e w3 ⟨rfl, hb3⟩
      have HB3 := hide (hb3.alloc hb3.size (.cells #[.int .i64 1, .int .i64 val, .string tx, .int .i64 (cnt : Int)] 92))
      have z3 := hb3.size
      clear hb3
      go_wp2_with fail
      refine (unhide LB _ (unhide HB3)).mono ?_
      rintro e w4 ⟨rfl, hb4⟩
      have HB4 := hide (((unhide HB3).trans (hb4.mono (by simp; omega))).alloc (by have := hb4.size; simp at this; omega) (.cells #[.int .i64 k', .int .i64 val', .string tx', .int .i64 (cnt' : Int)] 92))
      have f0 := (hb4.cell (p := ⟨w3.heap.size, 0, none⟩) (by simp)).trans (blkA (heap_alloc_new w3 _) 0)
      simp only [List.getElem?_toArray, List.getElem?_cons_zero] at f0
      have z4 : w3.heap.size < w4.heap.size := by have := hb4.size; simp at this; omega
      clear hb4
      go_wp2_with fail
      refine (unhide LK _ (unhide HB4)).mono ?_
      rintro e w5 ⟨rfl, hs5, hf5⟩
      have HFIN := hide (unhide DN _ _ (unhide HB4) hs5 hf5)
      clear hs5 hf5
      go_wp2_with fail
      go_ret
      exact unhide HFIN
  · by_cases k2 : db.k = 1
    · -- another term and a variable
      have LK := hide (fun W (hb : Below w.heap.size w W) => link_g W sb so cs T D no nc (fr b) (fr a) (h.below hb) lb)
      have HJ := hide (show Parl.JoinR (gOf D) fr a b true (Parl.lnk fr (fr b) (fr a)) from .right he (by rw [ga]; exact fun r => k1 (oa.lab.1 r)) (by rw [gb]; exact ob.lab.2 k2))
      have DN := hide (fun W W' (h1 : Below w.heap.size w W) (h2 : StG W' sb so cs T (linkD D (fr b) (fr a)) no nc) (h3 : FrG (rowOf no) (rowOf no) W W') => done (fr b) (fr a) W W' (Or.inr ⟨rfl, rfl⟩) h1 h2 h3 (unhide HJ))
      have t2 : (da.k == 1) = false := by simpa using k1
      obtain ⟨k, val, tx, cnt, ao, cap, args, nx, mrk⟩ := da
      obtain ⟨k', val', tx', cnt', ao', cap', args', nx', mrk'⟩ := db
      dsimp only at k2 t2 LA LB
      subst k2
      clear h hok har hka hkb hja hjb hda hdb oa ob ga gb aa ab ma mb la lb ia ib link1 done he hc ha hb AA AB IH k1 HJ DONE
      generalize fr a = p at *
      generalize fr b = q at *
      go_enter Tryd.func44, Tryd.ntmps44
      go_wp2_with fail
      refine (unhide FA).mono ?_
      rintro e w2 ⟨rfl, rfl⟩
      unfold intV at FB ⊢
      go_wp2_with fail
      refine (unhide FB).mono ?_
      rintro e w2 ⟨rfl, rfl⟩
      go_wp2_with fail
      refine (unhide LA).mono ?_
      rintro e w3 ⟨rfl, hb3⟩
      have HB3 := hide (hb3.alloc hb3.size (.cells #[.int .i64 k, .int .i64 val, .string tx, .int .i64 (cnt : Int)] 92))
      have z3 := hb3.size
      clear hb3
      go_wp2_with fail
      refine (unhide LB _ (unhide HB3)).mono ?_
      rintro e w4 ⟨rfl, hb4⟩
      have HB4 := hide (((unhide HB3).trans (hb4.mono (by simp; omega))).alloc (by have := hb4.size; simp at this; omega) (.cells #[.int .i64 1, .int .i64 val', .string tx', .int .i64 (cnt' : Int)] 92))
      have f0 := (hb4.cell (p := ⟨w3.heap.size, 0, none⟩) (by simp)).trans (blkA (heap_alloc_new w3 _) 0)
      simp only [List.getElem?_toArray, List.getElem?_cons_zero] at f0
      have z4 : w3.heap.size < w4.heap.size := by have := hb4.size; simp at this; omega
      clear hb4
      go_wp2_with fail
      refine (unhide LK _ (unhide HB4)).mono ?_
      rintro e w5 ⟨rfl, hs5, hf5⟩
      have HFIN := hide (unhide DN _ _ (unhide HB4) hs5 hf5)
      clear hs5 hf5
      go_wp2_with fail
      go_ret
      exact unhide HFIN
    · -- two names or numbers
      have t1 : (da.k == 1) = false := by simpa using k1
      have t2 : (db.k == 1) = false := by simpa using k2
      by_cases hs : da.k = db.k ∧ da.val = db.val ∧ da.tx = db.tx ∧ da.cnt = db.cnt
      · have hs3 : Parl.same3 (gOf D) (fr a) (fr b) := by
          have := (lab_iff oa ob k1 k2).2 hs
          exact ⟨by rw [ga, gb]; exact this.1, by rw [aa, ab]; exact this.2⟩
        obtain ⟨o1, n1⟩ := link1 (fr b) (fr a) (Or.inr ⟨rfl, rfl⟩)
        have sm := linkD_same D (fr b) (fr a)
        have hl1 := sm.len
        have LK := hide (fun W (hb : Below w.heap.size w W) => link_g W sb so cs T D no nc (fr b) (fr a) (h.below hb) lb)
        have hlen : da.args.length = db.args.length := by have := hs3.2; rw [aa, ab] at this; exact this
        have JA := hide (fun W W' (hW : Below w.heap.size w W) (hS : StG W' sb so cs T (linkD D (fr b) (fr a)) no nc) (hF : FrG (rowOf no) (rowOf no) W W') => joins_g IH W' sb so cs T (linkD D (fr b) (fr a)) no nc P (Parl.lnk fr (fr b) (fr a)) da.args db.args da.ao db.ao da.cap db.cap hS o1 (((har.below hW).frg (h.below hW) hF).same sm) (by rw [hl1]; omega) (((har.row ma).frg (sb := sb) (so := so) (cs := cs) (T := T) (E := D) (nc := nc) h (FrG.of_below hW)).frg (h.below hW) hF) (((har.row mb).frg (sb := sb) (so := so) (cs := cs) (T := T) (E := D) (nc := nc) h (FrG.of_below hW)).frg (h.below hW) hF) (fun x hx => by rw [hl1]; exact oa.inn x hx) (fun x hx => by rw [hl1]; exact ob.inn x hx) hlen oa.few)
        have FN := hide (fun W W' e W'' (hW : Below w.heap.size w W) (hF : FrG (rowOf no) (rowOf no) W W') (hq : PJn sb so cs T (linkD D (fr b) (fr a)) no nc (fun r fr' => Parl.JoinsR (gOf (linkD D (fr b) (fr a))) (Parl.lnk fr (fr b) (fr a)) da.args db.args r fr') (Parl.nfr (linkD D (fr b) (fr a)).length (Parl.lnk fr (fr b) (fr a))) W' e W'') => show PJn sb so cs T D no nc (fun r fr' => Parl.JoinR (gOf D) fr a b r fr') (Parl.nfr D.length fr) w e W'' from by
          obtain ⟨r, D', fr', e1, e2, e3, e4, e5, e6⟩ := hq
          rw [hl1] at e4
          rw [sm.g] at e5
          refine ⟨r, D', fr', e1, e2, sm.trans e3, fun q => ⟨(e4 q).1, by have := (e4 q).2; omega⟩, ?_, ((FrG.of_below hW).trans hF).trans e6⟩
          exact .args he (by rw [ga]; exact fun r => k1 (oa.lab.1 r)) (by rw [gb]; exact fun r => k2 (ob.lab.1 r)) hs3 (by rw [aa, ab]; exact e5))
        have HL := hide hlen
        obtain ⟨k, val, tx, cnt, ao, cap, args, nx, mrk⟩ := da
        obtain ⟨k', val', tx', cnt', ao', cap', args', nx', mrk'⟩ := db
        dsimp only at hs t1 t2 LA LB AA AB JA FN HL
        obtain ⟨rfl, rfl, rfl, rfl⟩ := hs
        clear h hok har hka hkb hja hjb hda hdb oa ob ga gb aa ab ma mb la lb ia ib link1 done he hc ha hb IH k1 k2 DONE o1 n1 sm hl1 hlen hs3
        generalize hD1 : linkD D (fr b) (fr a) = D1 at *
        generalize hf1 : Parl.lnk fr (fr b) (fr a) = fr1 at *
        clear hD1 hf1
        generalize fr a = p at *
        generalize fr b = q at *
        go_enter Tryd.func44, Tryd.ntmps44
        go_wp2_with fail
        refine (unhide FA).mono ?_
        rintro e w2 ⟨rfl, rfl⟩
        unfold intV at FB ⊢
        go_wp2_with fail
        refine (unhide FB).mono ?_
        rintro e w2 ⟨rfl, rfl⟩
        go_wp2_with fail
        refine (unhide LA).mono ?_
        rintro e w3 ⟨rfl, hb3⟩
        have HB3 := hide (hb3.alloc hb3.size (.cells #[.int .i64 k, .int .i64 val, .string tx, .int .i64 (cnt : Int)] 92))
        have z3 := hb3.size
        clear hb3
        go_wp2_with fail
        refine (unhide LB _ (unhide HB3)).mono ?_
        rintro e w4 ⟨rfl, hb4⟩
        have HB4 := hide (((unhide HB3).trans (hb4.mono (by simp; omega))).alloc (by have := hb4.size; simp at this; omega) (.cells #[.int .i64 k, .int .i64 val, .string tx, .int .i64 (cnt : Int)] 92))
        have f0 := (hb4.cell (p := ⟨w3.heap.size, 0, none⟩) (by simp)).trans (blkA (heap_alloc_new w3 _) 0)
        have f1 := (hb4.cell (p := ⟨w3.heap.size, 1, none⟩) (by simp)).trans (blkA (heap_alloc_new w3 _) 1)
        have f2 := (hb4.cell (p := ⟨w3.heap.size, 2, none⟩) (by simp)).trans (blkA (heap_alloc_new w3 _) 2)
        have f3 := (hb4.cell (p := ⟨w3.heap.size, 3, none⟩) (by simp)).trans (blkA (heap_alloc_new w3 _) 3)
        simp only [List.getElem?_toArray, List.getElem?_cons_zero, List.getElem?_cons_succ] at f0 f1 f2 f3
        have z4 : w3.heap.size < w4.heap.size := by have := hb4.size; simp at this; omega
        clear hb4
        go_wp2_with fail
        refine (unhide AA _ (unhide HB4)).mono ?_
        rintro e w5 ⟨rfl, rfl⟩
        go_wp2_with fail
        refine (unhide AB _ (unhide HB4)).mono ?_
        rintro e w5 ⟨rfl, rfl⟩
        go_wp2_with fail
        refine (unhide LK _ (unhide HB4)).mono ?_
        rintro e w5 ⟨rfl, hs5, hf5⟩
        have HS5 := hide hs5
        have HF5 := hide hf5
        clear hs5 hf5
        go_wp2_with fail
        refine (unhide JA _ _ (unhide HB4) (unhide HS5) (unhide HF5)).mono ?_
        intro e w6 h6
        have HFIN := hide (unhide FN _ _ _ _ (unhide HB4) (unhide HF5) h6)
        obtain ⟨r, D', fr', rfl, -⟩ := h6
        go_wp2_with fail
        go_ret
        exact unhide HFIN
      · have hs3 : ¬ Parl.same3 (gOf D) (fr a) (fr b) := fun q => hs ((lab_iff oa ob k1 k2).1 ⟨by have := q.1; rw [ga, gb] at this; exact this, by have := q.2; rw [aa, ab] at this; exact this⟩)
        have FN := hide (fun W (hW : Below w.heap.size w W) => show PJn sb so cs T D no nc (fun r fr' => Parl.JoinR (gOf D) fr a b r fr') (Parl.nfr D.length fr) w (.returned (.bool false)) W from
          ⟨false, D, fr, rfl, h.below hW, SameN.refl D, (fun q => by cases q), .clash he (by rw [ga]; exact fun r => k1 (oa.lab.1 r)) (by rw [gb]; exact fun r => k2 (ob.lab.1 r)) hs3, FrG.of_below hW⟩)
        obtain ⟨k, val, tx, cnt, ao, cap, args, nx, mrk⟩ := da
        obtain ⟨k', val', tx', cnt', ao', cap', args', nx', mrk'⟩ := db
        dsimp only at hs t1 t2 LA LB
        have hne : k ≠ k' ∨ val ≠ val' ∨ tx.toList ≠ tx'.toList ∨ cnt ≠ cnt' := by
          by_cases q1 : k = k'
          · by_cases q2 : val = val'
            · by_cases q3 : tx = tx'
              · exact Or.inr (Or.inr (Or.inr fun q4 => hs ⟨q1, q2, q3, q4⟩))
              · exact Or.inr (Or.inr (Or.inl fun q => q3 (toList_inj q)))
            · exact Or.inr (Or.inl q2)
          · exact Or.inl q1
        have hN : ((k == k') && ((val == val') && ((tx.toList == tx'.toList) && ((cnt : Int) == (cnt' : Int))))) = false := by
          rw [Bool.and_eq_false_iff, Bool.and_eq_false_iff, Bool.and_eq_false_iff]
          rcases hne with q | q | q | q
          · exact Or.inl (by simpa using q)
          · exact Or.inr (Or.inl (by simpa using q))
          · exact Or.inr (Or.inr (Or.inl (by simpa using q)))
          · exact Or.inr (Or.inr (Or.inr (by simp; omega)))
        have HNE := hide hne
        clear h hok har hka hkb hja hjb hda hdb oa ob ga gb aa ab ma mb la lb ia ib link1 done he hc ha hb IH k1 k2 DONE hs3 hs AA AB hne hN
        generalize fr a = p at *
        generalize fr b = q at *
        go_enter Tryd.func44, Tryd.ntmps44
        go_wp2_with fail
        refine (unhide FA).mono ?_
        rintro e w2 ⟨rfl, rfl⟩
        unfold intV at FB ⊢
        go_wp2_with fail
        refine (unhide FB).mono ?_
        rintro e w2 ⟨rfl, rfl⟩
        go_wp2_with fail
        refine (unhide LA).mono ?_
        rintro e w3 ⟨rfl, hb3⟩
        have HB3 := hide (hb3.alloc hb3.size (.cells #[.int .i64 k, .int .i64 val, .string tx, .int .i64 (cnt : Int)] 92))
        have z3 := hb3.size
        clear hb3
        go_wp2_with fail
        refine (unhide LB _ (unhide HB3)).mono ?_
        rintro e w4 ⟨rfl, hb4⟩
        have HB4 := hide (((unhide HB3).trans (hb4.mono (by simp; omega))).alloc (by have := hb4.size; simp at this; omega) (.cells #[.int .i64 k', .int .i64 val', .string tx', .int .i64 (cnt' : Int)] 92))
        have f0 := (hb4.cell (p := ⟨w3.heap.size, 0, none⟩) (by simp)).trans (blkA (heap_alloc_new w3 _) 0)
        have f1 := (hb4.cell (p := ⟨w3.heap.size, 1, none⟩) (by simp)).trans (blkA (heap_alloc_new w3 _) 1)
        have f2 := (hb4.cell (p := ⟨w3.heap.size, 2, none⟩) (by simp)).trans (blkA (heap_alloc_new w3 _) 2)
        have f3 := (hb4.cell (p := ⟨w3.heap.size, 3, none⟩) (by simp)).trans (blkA (heap_alloc_new w3 _) 3)
        simp only [List.getElem?_toArray, List.getElem?_cons_zero, List.getElem?_cons_succ] at f0 f1 f2 f3
        have z4 : w3.heap.size < w4.heap.size := by have := hb4.size; simp at this; omega
        clear hb4
        rcases unhide HNE with q1 | q1 | q1 | q1
        · have u1 : (k == k') = false := by simpa using q1
          clear q1 HNE
          go_wp2_with fail
          go_ret
          exact unhide FN _ (unhide HB4)
        · have u1 : (val == val') = false := by simpa using q1
          clear q1 HNE
          go_wp2_with fail
          go_ret
          exact unhide FN _ (unhide HB4)
        · have u1 : (tx.toList == tx'.toList) = false := by simpa using q1
          clear q1 HNE
          go_wp2_with fail
          go_ret
          exact unhide FN _ (unhide HB4)
        · have u1 : ((cnt : Int) == (cnt' : Int)) = false := by simp; omega
          clear q1 HNE
          go_wp2_with fail
          go_ret
          exact unhide FN _ (unhide HB4)
theorem join_all : ∀ c, JnSaid c
  | 0 => fun w sb so cs T D no nc P fr a b h hok har hc ha hb => by
    by_cases he : fr a = fr b
    · exact join_same w sb so cs T D no nc fr a b h hok ha hb he
    · have := Parl.nfr_lnk (hok.lt ha) (hok.idem a) (hok.idem b) he
      omega
  | c + 1 => fun w sb so cs T D no nc P fr a b h hok har hc ha hb => by
    by_cases he : fr a = fr b
    · exact join_same w sb so cs T D no nc fr a b h hok ha hb he
    · exact join_diff (join_all c) w sb so cs T D no nc P fr a b h hok har hc ha hb he
end Go.Proofs.YthfjnfcekeknlaaDoor
namespace Go.Proofs.YthfjnfcekeknlaaDoor
open Go.RowKit

/-- But for the marks. -/
def nxN (d : Ng) : Ng := ⟨d.k, d.val, d.tx, d.cnt, d.ao, d.cap, d.args, d.nx, 0⟩
def SameK (D D' : List Ng) : Prop := D.map nxN = D'.map nxN
theorem SameK.refl (D : List Ng) : SameK D D := rfl
theorem SameK.trans {D E F : List Ng} (h : SameK D E) (k : SameK E F) : SameK D F := Eq.trans h k
theorem SameK.len {D E : List Ng} (h : SameK D E) : E.length = D.length := by simpa using (congrArg List.length h).symm
theorem SameK.n {D E : List Ng} (h : SameK D E) : SameN D E := by
  have := congrArg (List.map bareN) h
  rw [List.map_map, List.map_map] at this
  exact this
theorem SameK.nx {D E : List Ng} (h : SameK D E) {n : Nat} (hn : n < D.length) (hn' : n < E.length) : E[n].nx = D[n].nx := by
  have := congrArg (fun l => l[n]?.map Ng.nx) h
  simpa [List.getElem?_eq_getElem hn, List.getElem?_eq_getElem hn', nxN] using this.symm
theorem SameK.set {D : List Ng} {n : Nat} (hn : n < D.length) {d : Ng} (h : nxN d = nxN D[n]) : SameK D (D.set n d) := by
  unfold SameK
  rw [List.map_set]
  apply List.ext_getElem (by simp)
  intro i h1 h2
  rw [List.getElem_set]
  split
  · rename_i e; subst e; simp [h]
  · rfl
theorem SameK.ok {D E : List Ng} (h : SameK D E) {fr : Nat → Nat} (ho : OkD D fr) : OkD E fr := by
  have hl := h.len
  refine ⟨fun n hn => ?_, fun n hn => ?_, fun n hn => ho.out n (by omega)⟩
  · have := (ho.nd n (by omega)).same (h.n.at (by omega) hn)
    rw [hl]
    exact this
  · obtain ⟨k, hk⟩ := ho.hop n (by omega)
    have key : ∀ {n m k}, Hop D n m k → Hop E n m k := by
      intro n m k hk
      induction hk with
      | stop q e => exact .stop (by omega) (by rw [h.nx q (by omega)]; exact e)
      | go q e _ ih => exact .go (by omega) (by rw [h.nx q (by omega)]; exact e) (by rw [h.nx q (by omega)]; exact ih)
    exact ⟨k, key hk⟩
/-- The marks are these. -/
def MkD (D : List Ng) (K : Nat → Nat) : Prop := ∀ n (h : n < D.length), D[n].mrk = K n
def mrkN (d : Ng) (m : Nat) : Ng := ⟨d.k, d.val, d.tx, d.cnt, d.ao, d.cap, d.args, d.nx, m⟩
def markD (D : List Ng) (a m : Nat) : List Ng := if h : a < D.length then D.set a (mrkN D[a] m) else D
theorem markD_same (D : List Ng) (a m : Nat) : SameK D (markD D a m) := by
  unfold markD
  split
  · rename_i h; exact SameK.set h rfl
  · rfl
theorem MkD.upd {D : List Ng} {K : Nat → Nat} (h : MkD D K) {a : Nat} (ha : a < D.length) (m : Nat) : MkD (markD D a m) (Parl.upd K a m) := by
  intro n hn
  have hnD : n < D.length := by rw [(markD_same D a m).len] at hn; exact hn
  unfold markD at hn ⊢
  split
  · rw [List.getElem_set]
    by_cases e : a = n
    · subst e; rw [if_pos rfl, Parl.upd_at]; rfl
    · rw [if_neg e, Parl.upd_ne _ _ (Ne.symm e)]
      exact h n hnD
  · rename_i q; exact absurd ha q
/-- How many are unseen. -/
def nz (D : List Ng) : Nat := D.countP fun d => d.mrk == 0
theorem nz_set {m : Nat} (hm : m ≠ 0) : ∀ {D : List Ng} {a : Nat} (ha : a < D.length), nz (D.set a (mrkN D[a] m)) + (if D[a].mrk = 0 then 1 else 0) = nz D
  | d :: D, 0, _ => by
    unfold nz
    simp only [List.set_cons_zero, List.getElem_cons_zero, List.countP_cons]
    have : ((mrkN d m).mrk == 0) = false := by simpa [mrkN] using hm
    rw [this]
    simp
  | d :: D, a + 1, ha => by
    have := nz_set hm (D := D) (a := a) (by simpa using ha)
    unfold nz at this ⊢
    simp only [List.set_cons_succ, List.getElem_cons_succ, List.countP_cons]
    omega
theorem nz_mark {D : List Ng} {a m : Nat} (ha : a < D.length) (hm : m ≠ 0) : nz (markD D a m) + (if D[a].mrk = 0 then 1 else 0) = nz D := by
  unfold markD
  rw [dif_pos ha]
  exact nz_set hm ha
/-- A mark is laid. -/
theorem StG.mark {w : World} {sb so : Nat} {cs : Array Value} {T : TypeId} {D : List Ng} {g : Nat} {nc : Nat} (h : StG w sb so cs T D (some ⟨g, 0, none⟩) nc) {a m : Nat} (ha : a < D.length) : StG (w.setCell ⟨g, a * 7 + 6, none⟩ (.int .i64 (m : Int))) sb so cs T (markD D a m) (some ⟨g, 0, none⟩) nc ∧ FrG (rowOf (some ⟨g, 0, none⟩)) (rowOf (some ⟨g, 0, none⟩)) w (w.setCell ⟨g, a * 7 + 6, none⟩ (.int .i64 (m : Int))) := by
  obtain ⟨h1, h2⟩ := h.own.stored (a * 7 + 6) (.int .i64 (m : Int))
  have hl := (markD_same D a m).len
  obtain ⟨g', e, gz, gne, -⟩ := h.at ha
  cases e
  refine ⟨⟨?_, by rw [hl]; exact h.cel, ?_, h.ty⟩, ⟨h2.os, h2.tape, h2.output, h2.size, fun k hk hr => h2.block k hk (fun e => hr ⟨⟨g, 0, none⟩, rfl, by simpa using e⟩), fun _ q => Or.inl q⟩⟩
  · exact (h2.block sb (blk_lt h.blk) (by simpa using Ne.symm gne)).trans h.blk
  · rw [hl]
    have : ngsC (markD D a m) = (ngsC D).set (a * 7 + 6) (.int .i64 (m : Int)) := by
      unfold markD
      rw [dif_pos ha]
      exact ngsC_set D a 6 ha (by omega) _ _ rfl
    rw [this]
    exact h1
/-- What 'walk' is to leave. -/
def PWk (sb so : Nat) (cs : Array Value) (T : TypeId) (D : List Ng) (no : Option Addr) (nc : Nat) (J : Bool → (Nat → Nat) → Prop) (w : World) (e : Ending) (w' : World) : Prop :=
  ∃ (r : Bool) (D' : List Ng) (K' : Nat → Nat), e = .returned (.bool r) ∧ StG w' sb so cs T D' no nc ∧ SameK D D' ∧ MkD D' K' ∧ nz D' ≤ nz D ∧ J r K' ∧ FrG (rowOf no) (rowOf no) w w'
def WkSaid (c : Nat) : Prop := ∀ (w : World) (sb so : Nat) (cs : Array Value) (T : TypeId) (D : List Ng) (no : Option Addr) (nc : Nat) (P : Nat → Prop) (fr K : Nat → Nat) (n : Nat), StG w sb so cs T D no nc → OkD D fr → ArgsG w D P → MkD D K → nz D ≤ c → n < D.length →
  Calls Tryd.prog 72 #[.pointer (some ⟨sb, so, none⟩), .int .i64 (n : Int)] w fun e w' => PWk sb so cs T D no nc (fun r K' => Parl.WalkR (gOf D) fr K n r K') w e w'
/-- The loop over the arguments. -/
def LWk (w : World) (sb so : Nat) (cs : Array Value) (T : TypeId) (D : List Ng) (no : Option Addr) (nc : Nat) (P : Nat → Prop) (fr K : Nat → Nat) (xs : List Nat) (k : Nat) (iv : Value) (wr : World) : Prop :=
  ∃ (j : Nat) (D1 : List Ng) (K1 : Nat → Nat), k + j = xs.length ∧ iv = .int .i64 (j : Int) ∧ StG wr sb so cs T D1 no nc ∧ SameK D D1 ∧ MkD D1 K1 ∧ ArgsG wr D1 P ∧ nz D1 ≤ nz D ∧
    (∀ r K', Parl.WalksR (gOf D) fr K1 (xs.drop j) r K' → Parl.WalksR (gOf D) fr K xs r K') ∧ FrG (rowOf no) (rowOf no) w wr

set_option maxHeartbeats 2000000 in
set_option maxRecDepth 100000 in
theorem walk_seen (w : World) (sb so : Nat) (cs : Array Value) (T : TypeId) (D : List Ng) (no : Option Addr) (nc : Nat) (fr K : Nat → Nat) (n : Nat) (h : StG w sb so cs T D no nc) (hok : OkD D fr) (hm : MkD D K) (hn : n < D.length) (hs : K (fr n) ≠ 0) :
    Calls Tryd.prog 72 #[.pointer (some ⟨sb, so, none⟩), .int .i64 (n : Int)] w fun e w' => PWk sb so cs T D no nc (fun r K' => Parl.WalkR (gOf D) fr K n r K') w e w' := by
  obtain ⟨k, hk⟩ := hok.hop n hn
  have hl := hok.lt hn
  have FA := hide (front_g w sb so cs T D no nc n (fr n) k h hk)
  have HH := hide (has_g w sb so cs T D no nc (fr n) h hl)
  obtain ⟨g, rfl, gz, gne, hc, -⟩ := h.at hl
  have f6 := hc 6 (by omega)
  simp only [ngC, List.getElem?_cons_zero, List.getElem?_cons_succ, hm (fr n) hl] at f6
  have s0 := h.cell
  have sz := blk_lt h.blk
  have HFIN := hide (show PWk sb so cs T D (some ⟨g, 0, none⟩) nc (fun r K' => Parl.WalkR (gOf D) fr K n r K') w (.returned (.bool (decide (K (fr n) = 2)))) w from ⟨_, D, K, rfl, h, SameK.refl D, hm, Nat.le_refl _, .seen hs, FrG.of_below (Below.refl _ _)⟩)
  have t0 : (((K (fr n) : Nat) : Int) != 0) = true := by simpa using hs
  have HT := hide (show (((K (fr n) : Nat) : Int) == 2) = decide (K (fr n) = 2) by rw [Bool.eq_iff_iff]; simp; omega)
  have i0 : (0 : Int) ≤ ((fr n : Nat) : Int) := by omega
  have i1 : ((fr n : Nat) : Int) < (D.length : Int) := by omega
  clear h hok hm hs hk hc hn
  generalize K (fr n) = q at *
  generalize fr n = p at *
  go_enter Tryd.func72, Tryd.ntmps72
  go_wp2_with fail
  refine (unhide FA).mono ?_
  rintro e w2 ⟨rfl, rfl⟩
  unfold intV
  go_wp2_with fail
  refine (unhide HH).mono ?_
  rintro e w2 ⟨rfl, rfl⟩
  go_wp2_with fail
  go_ret
  have := unhide HFIN
  rw [← unhide HT] at this
  exact this

set_option maxHeartbeats 4000000 in
set_option maxRecDepth 100000 in
theorem walk_go {c : Nat} (IH : WkSaid c) (w : World) (sb so : Nat) (cs : Array Value) (T : TypeId) (D : List Ng) (no : Option Addr) (nc : Nat) (P : Nat → Prop) (fr K : Nat → Nat) (n : Nat) (h : StG w sb so cs T D no nc) (hok : OkD D fr) (har : ArgsG w D P) (hm : MkD D K) (hc : nz D ≤ c + 1) (hn : n < D.length) (hs : K (fr n) = 0) :
    Calls Tryd.prog 72 #[.pointer (some ⟨sb, so, none⟩), .int .i64 (n : Int)] w fun e w' => PWk sb so cs T D no nc (fun r K' => Parl.WalkR (gOf D) fr K n r K') w e w' := by
  obtain ⟨k, hk⟩ := hok.hop n hn
  obtain ⟨j, hj⟩ := hok.hopF hn
  have hl := hok.lt hn
  obtain ⟨d, hd, od, gd, ad, md⟩ := glF hok hn
  have FA := hide (front_g w sb so cs T D no nc n (fr n) k h hk)
  have HH := hide (has_g w sb so cs T D no nc (fr n) h hl)
  obtain ⟨g, rfl, gz, gne, hc', hx⟩ := h.at hl
  have f6 := hc' 6 (by omega)
  have x6 := hx (fr n * 7 + 6)
  simp only [ngC, List.getElem?_cons_zero, List.getElem?_cons_succ, hm (fr n) hl, hs] at f6
  have s0 := h.cell
  have sz := blk_lt h.blk
  obtain ⟨m1, m2⟩ := h.mark (m := 1) hl
  have sm := markD_same D (fr n) 1
  have hl1 := sm.len
  have nz1 := nz_mark (m := 1) hl (by omega)
  rw [if_pos (by rw [hm (fr n) hl, hs])] at nz1
  have hd1 : ∃ d1, (markD D (fr n) 1)[fr n]? = some d1 ∧ d1.ao = d.ao ∧ d1.args = d.args ∧ d1.cap = d.cap := by
    refine ⟨(markD D (fr n) 1)[fr n]'(by omega), List.getElem?_eq_getElem _, ?_⟩
    have e := sm.n.at hl (by omega)
    rw [List.getElem?_eq_getElem hl] at hd
    obtain rfl := Option.some.inj hd
    generalize (markD D (fr n) 1)[fr n]'(by omega) = y at *
    generalize D[fr n] = z at *
    unfold bareN at e
    simp only [Ng.mk.injEq] at e
    obtain ⟨_, _, _, _, e1, e2, e3, _⟩ := e
    exact ⟨e1.symm, e3.symm, e2.symm⟩
  obtain ⟨d1, hd1, q1, q2, q3⟩ := hd1
  have o1 := sm.ok hok
  have hj1 : ∃ j1, Hop (markD D (fr n) 1) (fr n) (fr n) j1 := by
    have := o1.hop (fr n) (by omega)
    rwa [hok.idem] at this
  obtain ⟨j1, hj1⟩ := hj1
  have AG := hide (args_g (w.setCell ⟨g, fr n * 7 + 6, none⟩ (.int .i64 1)) sb so cs T (markD D (fr n) 1) (some ⟨g, 0, none⟩) nc (fr n) (fr n) j1 d1 m1 hj1 hd1)
  rw [q1, q2, q3] at AG
  have HST := hide (show LWk w sb so cs T (markD D (fr n) 1) (some ⟨g, 0, none⟩) nc P fr (Parl.upd K (fr n) 1) d.args d.args.length (.int .i64 0) (w.setCell ⟨g, fr n * 7 + 6, none⟩ (.int .i64 1)) from
    ⟨0, markD D (fr n) 1, Parl.upd K (fr n) 1, by omega, rfl, m1, SameK.refl _, hm.upd hl 1, (har.frg h m2).same sm.n, Nat.le_refl _, (fun r K' q => by simpa using q), m2⟩)
  have HR := hide (show RowG w d.ao d.args from har.row md)
  have HS0 := hide h
  have I := hide IH
  have HC1 := hide (show nz (markD D (fr n) 1) ≤ c by omega)
  have HNZ := hide (show nz (markD D (fr n) 1) ≤ nz D by omega)
  have HIN := hide od.inn
  have HO1 := hide o1
  have HSM := hide sm
  have HL1 := hide hl1
  have HG1 := hide sm.n.g
  have HAD := hide ad
  have HKS := hide hs
  have hfew := od.few
  have i0 : (0 : Int) ≤ ((fr n : Nat) : Int) := by omega
  have i1 : ((fr n : Nat) : Int) < (D.length : Int) := by omega
  have HL := hide hl
  clear h hok har hm hc hn hs hk hj gd ad md hc' hx m1 m2 sm hl1 nz1 hd1 q1 q2 q3 o1 hj1 od hd IH hl
  obtain ⟨dk, dval, dtx, dcnt, ao, dcap, xs, dnx, dmrk⟩ := d
  dsimp only at HST HR AG hfew HIN HAD
  go_enter Tryd.func72, Tryd.ntmps72
  go_wp2_with fail
  refine (unhide FA).mono ?_
  rintro e w2 ⟨rfl, rfl⟩
  unfold intV
  go_wp2_with fail
  refine (unhide HH).mono ?_
  rintro e w2 ⟨rfl, rfl⟩
  go_wp2_with fail
  refine (unhide AG).mono ?_
  rintro e w3 ⟨rfl, rfl⟩
  go_wp2_with fail
  go_loopg [44] xs.length (fun k iv wr => LWk w2 sb so cs T (markD D (fr n) 1) (some ⟨g, 0, none⟩) nc P fr (Parl.upd K (fr n) 1) xs k iv wr)
  case atStart => exact unhide HST
  case round =>
    clear HST AG
    obtain ⟨j, D1, K1, hkj, rfl, hst, hsm, hmk, har, hnz, hcont, hfr⟩ := hrel
    have hl2 : D1.length = D.length := by rw [hsm.len, unhide HL1]
    by_cases hlt : j < xs.length
    · obtain ⟨gx, ex, zx, cx⟩ := ((unhide HR).frg (unhide HS0) hfr).at hlt
      subst ex
      have IC := hide (unhide I wr sb so cs T D1 (some ⟨g, 0, none⟩) nc P fr K1 xs[j] hst (hsm.ok (unhide HO1)) har hmk (by have := unhide HC1; omega) (by rw [hl2]; exact unhide HIN _ (List.getElem_mem hlt)))
      have HDX := hide (show xs.drop j = xs[j] :: xs.drop (j + 1) from List.drop_eq_getElem_cons hlt)
      have HFR := hide hfr
      have HSM1 := hide hsm
      have HST1 := hide hst
      have HAR := hide har
      have HNZ1 := hide hnz
      have HCO := hide hcont
      have HKJ := hide hkj
      have HLT := hide hlt
      have HGG := hide hsm.n.g
      generalize xs[j] = na at *
      have j0 : (0 : Int) ≤ (j : Int) := by omega
      have j1 : (j : Int) < (xs.length : Int) := by omega
      clear hst hsm hmk har hnz hcont hfr hkj hlt hl2 f6 x6 s0 sz gz gne
      go_wp2_with fail
      refine (unhide IC).mono ?_
      rintro e w8 ⟨r, D8, K8, rfl, h8, s8, k8, z8, j8, f8⟩
      have HFR8 := hide ((unhide HFR).trans f8)
      have H8 := hide h8
      have S8 := hide s8
      have K8' := hide k8
      have Z8 := hide z8
      have J8 := hide j8
      have HA8 := hide ((unhide HAR).frg (unhide HST1) f8)
      clear h8 s8 k8 z8 j8 f8
      cases r
      · go_wp2_with fail
        go_ret
        refine ⟨false, D8, K8, rfl, unhide H8, (unhide HSM).trans ((unhide HSM1).trans (unhide S8)), unhide K8', by have := unhide Z8; have := unhide HNZ1; have := unhide HNZ; omega, ?_, unhide HFR8⟩
        refine .no (unhide HKS) ?_
        rw [unhide HAD, ← unhide HG1]
        refine unhide HCO _ _ ?_
        rw [unhide HDX]
        have := unhide J8
        rw [unhide HGG] at this
        exact .no this
      · go_wp2_with fail
        go_roundg (gk - 1)
        case measure => have := unhide HKJ; have := unhide HLT; omega
        case rel =>
          refine ⟨j + 1, D8, K8, by have := unhide HKJ; have := unhide HLT; omega, by go_num, unhide H8, (unhide HSM1).trans (unhide S8), unhide K8', (unhide HA8).same (unhide S8).n, by have := unhide Z8; have := unhide HNZ1; omega, fun r K' q => ?_, unhide HFR8⟩
          refine unhide HCO _ _ ?_
          rw [unhide HDX]
          have := unhide J8
          rw [unhide HGG] at this
          exact .cons this q
    · obtain rfl : j = xs.length := by omega
      have hlD : fr n < D1.length := by rw [hl2]; exact unhide HL
      obtain ⟨g', e', gz', gne', hc', hx'⟩ := hst.at hlD
      cases e'
      have c6 := hc' 6 (by omega)
      have x6' := hx' (fr n * 7 + 6)
      simp only [ngC, List.getElem?_cons_zero, List.getElem?_cons_succ] at c6
      have s0' := hst.cell
      have sz' := blk_lt hst.blk
      obtain ⟨m1, m2⟩ := hst.mark (m := 2) hlD
      have sm2 := markD_same D1 (fr n) 2
      have nz2 := nz_mark (m := 2) hlD (by omega)
      have i1' : ((fr n : Nat) : Int) < (D1.length : Int) := by omega
      have HFIN := hide (show PWk sb so cs T D (some ⟨g, 0, none⟩) nc (fun r K' => Parl.WalkR (gOf D) fr K n r K') w2 (.returned (.bool true)) (wr.setCell ⟨g, fr n * 7 + 6, none⟩ (.int .i64 2)) from by
        refine ⟨true, markD D1 (fr n) 2, Parl.upd K1 (fr n) 2, rfl, m1, (unhide HSM).trans (hsm.trans sm2), hmk.upd hlD 2, by have := unhide HNZ; split at nz2 <;> omega, ?_, hfr.trans m2⟩
        refine .go (unhide HKS) ?_
        rw [unhide HAD, ← unhide HG1]
        exact hcont _ _ (by rw [List.drop_length]; exact .nil))
      generalize D1[fr n].mrk = om at *
      clear hst hsm hmk har hnz hcont hfr hkj hc' hx' m1 m2 sm2 nz2 hl2 f6 x6 s0 sz gz gne i1
      go_wp2_with fail
      go_ret
      exact unhide HFIN
theorem walk_all : ∀ c, WkSaid c
  | 0 => fun w sb so cs T D no nc P fr K n h hok har hm hc hn => by
    by_cases hs : K (fr n) = 0
    · have hl := hok.lt hn
      have := nz_mark (m := 1) hl (by omega)
      rw [if_pos (by rw [hm (fr n) hl, hs])] at this
      omega
    · exact walk_seen w sb so cs T D no nc fr K n h hok hm hn hs
  | c + 1 => fun w sb so cs T D no nc P fr K n h hok har hm hc hn => by
    by_cases hs : K (fr n) = 0
    · exact walk_go (walk_all c) w sb so cs T D no nc P fr K n h hok har hm hc hn hs
    · exact walk_seen w sb so cs T D no nc fr K n h hok hm hn hs
end Go.Proofs.YthfjnfcekeknlaaDoor
namespace Go.Proofs.YthfjnfcekeknlaaDoor
open Go.RowKit

/-- The loop that strikes the marks. -/
def LFi (w : World) (sb so : Nat) (cs : Array Value) (T : TypeId) (D : List Ng) (no : Option Addr) (nc : Nat) (k : Nat) (iv : Value) (wr : World) : Prop :=
  ∃ (j : Nat) (D1 : List Ng), k + j = D.length ∧ iv = .int .i64 (j : Int) ∧ StG wr sb so cs T D1 no nc ∧ SameK D D1 ∧ (∀ n (h : n < D1.length), n < j → D1[n].mrk = 0) ∧ FrG (rowOf no) (rowOf no) w wr
theorem mark_at {D : List Ng} {a m n : Nat} (ha : a < D.length) (hn : n < D.length) (hn' : n < (markD D a m).length) : (markD D a m)[n].mrk = if n = a then m else D[n].mrk := by
  have h : MkD D (fun i => (D[i]?.map Ng.mrk).getD 0) := fun i hi => by simp [List.getElem?_eq_getElem hi]
  have := h.upd ha m n hn'
  rw [this]
  by_cases e : n = a
  · rw [if_pos e, e, Parl.upd_at]
  · rw [if_neg e, Parl.upd_ne _ _ e]
    simp [List.getElem?_eq_getElem hn]

set_option maxHeartbeats 4000000 in
set_option maxRecDepth 100000 in
theorem finite_g (w : World) (sb so : Nat) (cs : Array Value) (T : TypeId) (D : List Ng) (no : Option Addr) (nc : Nat) (P : Nat → Prop) (fr : Nat → Nat) (n : Nat) (h : StG w sb so cs T D no nc) (hok : OkD D fr) (har : ArgsG w D P) (hn : n < D.length) (hD : D.length ≤ 1000000000) :
    Calls Tryd.prog 45 #[.pointer (some ⟨sb, so, none⟩), .int .i64 (n : Int)] w fun e w' => ∃ (r : Bool) (D' : List Ng) (K' : Nat → Nat), e = .returned (.bool r) ∧ StG w' sb so cs T D' no nc ∧ SameK D D' ∧ Parl.WalkR (gOf D) fr (fun _ => 0) n r K' ∧ FrG (rowOf no) (rowOf no) w w' := by
  have HST := hide (show LFi w sb so cs T D no nc D.length (.int .i64 0) w from ⟨0, D, by omega, rfl, h, SameK.refl D, (fun n _ q => by omega), FrG.of_below (Below.refl _ _)⟩)
  have s0 := h.cell
  have sz := blk_lt h.blk
  have H := hide h
  have HOK := hide hok
  have HAR := hide har
  have HN := hide hn
  clear h hok har hn
  go_enter Tryd.func45, Tryd.ntmps45
  go_wp2_with fail
  go_loopg [11] D.length (fun k iv wr => LFi w sb so cs T D no nc k iv wr)
  case atStart => exact unhide HST
  case round =>
    clear HST
    obtain ⟨j, D1, hkj, rfl, hst, hsm, hmk, hfr⟩ := hrel
    have hl := hsm.len
    by_cases hlt : j < D.length
    · have hlD : j < D1.length := by omega
      obtain ⟨g, rfl, gz, gne, hc, hx⟩ := hst.at hlD
      have c6 := hc 6 (by omega)
      have x6 := hx (j * 7 + 6)
      simp only [ngC, List.getElem?_cons_zero, List.getElem?_cons_succ] at c6
      have s1 := hst.cell
      have z1 := blk_lt hst.blk
      obtain ⟨m1, m2⟩ := hst.mark (m := 0) hlD
      have HFIN := hide (show LFi w sb so cs T D (some ⟨g, 0, none⟩) nc (gk - 1) (.int .i64 ((j : Int) + 1)) (wr.setCell ⟨g, j * 7 + 6, none⟩ (.int .i64 0)) from
        ⟨j + 1, markD D1 j 0, by omega, by go_num, m1, hsm.trans (markD_same D1 j 0), (fun n hn q => by
          have hn1 : n < D1.length := by rw [(markD_same D1 j 0).len] at hn; exact hn
          rw [mark_at hlD hn1 hn]
          by_cases e : n = j
          · rw [if_pos e]
          · rw [if_neg e]; exact hmk n hn1 (by omega)), hfr.trans m2⟩)
      have j0 : (0 : Int) ≤ (j : Int) := by omega
      have j1 : (j : Int) < (D.length : Int) := by omega
      have j2 : (j : Int) < (D1.length : Int) := by omega
      generalize D1[j].mrk = om at *
      have HKJ := hide hkj
      clear hst hsm hmk hfr hkj hc hx m1 m2 hl
      go_wp2_with fail
      go_roundg (gk - 1)
      case measure => have := unhide HKJ; omega
      case rel => exact unhide HFIN
    · obtain rfl : j = D.length := by omega
      have hmk0 : MkD D1 (fun _ => 0) := fun n hn => hmk n hn (by omega)
      have IC := hide (walk_all (nz D1) wr sb so cs T D1 no nc P fr (fun _ => 0) n hst (hsm.ok (unhide HOK)) (((unhide HAR).frg (unhide H) hfr).same hsm.n) hmk0 (Nat.le_refl _) (by have := unhide HN; omega))
      have HFR := hide hfr
      have HSM := hide hsm
      clear hst hsm hmk hfr hkj hmk0 hl
      go_wp2_with fail
      refine (unhide IC).mono ?_
      rintro e w8 ⟨r, D8, K8, rfl, h8, s8, k8, z8, j8, f8⟩
      have HFIN := hide (show ∃ (r' : Bool) (D' : List Ng) (K' : Nat → Nat), Ending.returned (.bool r) = .returned (.bool r') ∧ StG w8 sb so cs T D' no nc ∧ SameK D D' ∧ Parl.WalkR (gOf D) fr (fun _ => 0) n r' K' ∧ FrG (rowOf no) (rowOf no) w w8 from
        ⟨r, D8, K8, rfl, h8, (unhide HSM).trans s8, by rw [(unhide HSM).n.g] at j8; exact j8, (unhide HFR).trans f8⟩)
      clear h8 s8 k8 z8 j8 f8
      go_wp2_with fail
      go_ret
      exact unhide HFIN
/-- What 'Unify' is to leave. -/
def PUn (sb so : Nat) (cs : Array Value) (T : TypeId) (D : List Ng) (no : Option Addr) (nc : Nat) (fr : Nat → Nat) (a b : Nat) (w : World) (e : Ending) (w' : World) : Prop :=
  ∃ (r : Bool) (D' : List Ng), e = .returned (.bool r) ∧ StG w' sb so cs T D' no nc ∧ SameN D D' ∧ FrG (rowOf no) (rowOf no) w w' ∧
    (r = true → ∃ fr' K', OkD D' fr' ∧ Parl.JoinR (gOf D) fr a b true fr' ∧ Parl.WalkR (gOf D) fr' (fun _ => 0) a true K') ∧
    (r = false → (∃ fr', Parl.JoinR (gOf D) fr a b false fr') ∨ ∃ fr' K', Parl.JoinR (gOf D) fr a b true fr' ∧ Parl.WalkR (gOf D) fr' (fun _ => 0) a false K')

set_option maxHeartbeats 2000000 in
set_option maxRecDepth 100000 in
theorem unify_g (w : World) (sb so : Nat) (cs : Array Value) (T : TypeId) (D : List Ng) (no : Option Addr) (nc : Nat) (P : Nat → Prop) (fr : Nat → Nat) (a b : Nat) (h : StG w sb so cs T D no nc) (hok : OkD D fr) (har : ArgsG w D P) (ha : a < D.length) (hb : b < D.length) (hD : D.length ≤ 1000000000) :
    Calls Tryd.prog 26 #[.pointer (some ⟨sb, so, none⟩), .int .i64 (a : Int), .int .i64 (b : Int)] w fun e w' => PUn sb so cs T D no nc fr a b w e w' := by
  have IJ := hide (join_all (Parl.nfr D.length fr) w sb so cs T D no nc P fr a b h hok har (Nat.le_refl _) ha hb)
  have H := hide h
  have HAR := hide har
  have HA := hide ha
  clear h hok har ha hb
  go_enter Tryd.func26, Tryd.ntmps26
  go_wp2_with fail
  refine (unhide IJ).mono ?_
  rintro e w8 ⟨r, D8, fr8, rfl, h8, s8, o8, j8, f8⟩
  cases r
  · have HFIN := hide (show PUn sb so cs T D no nc fr a b w (.returned (.bool false)) w8 from ⟨false, D8, rfl, h8, s8, f8, (fun q => by cases q), fun _ => Or.inl ⟨fr8, j8⟩⟩)
    clear h8 s8 o8 j8 f8
    go_wp2_with fail
    go_ret
    exact unhide HFIN
  · obtain ⟨o1, o2⟩ := o8 rfl
    have IF := hide (finite_g w8 sb so cs T D8 no nc P fr8 a h8 o1 (((unhide HAR).frg (unhide H) f8).same s8) (by rw [s8.len]; exact unhide HA) (by rw [s8.len]; exact hD))
    have S8 := hide s8
    have O1 := hide o1
    have J8 := hide j8
    have F8 := hide f8
    clear h8 s8 o8 j8 f8 o1 o2
    go_wp2_with fail
    refine (unhide IF).mono ?_
    rintro e w9 ⟨r, D9, K9, rfl, h9, s9, k9, f9⟩
    have hg := (unhide S8).g
    rw [hg] at k9
    have HFIN := hide (show PUn sb so cs T D no nc fr a b w (.returned (.bool r)) w9 from ⟨r, D9, rfl, h9, (unhide S8).trans s9.n, (unhide F8).trans f9, (fun q => ⟨fr8, K9, s9.ok (unhide O1), unhide J8, by rw [q] at k9; exact k9⟩), fun q => Or.inr ⟨fr8, K9, unhide J8, by rw [q] at k9; exact k9⟩⟩)
    clear h9 s9 k9 f9 hg
    go_wp2_with fail
    go_ret
    exact unhide HFIN
/-- What 'Unify' does to a store whose nodes stand for terms. -/
theorem PUn.says {sb so : Nat} {cs : Array Value} {T : TypeId} {D : List Ng} {no : Option Addr} {nc : Nat} {fr : Nat → Nat} {a b : Nat} {w : World} {e : Ending} {w' : World} (h : PUn sb so cs T D no nc fr a b w e w') {t : Nat → Parl.U} (ht : Parl.Sto (gOf D) fr t) :
    ∃ (r : Bool) (D' : List Ng), e = .returned (.bool r) ∧ StG w' sb so cs T D' no nc ∧ SameN D D' ∧ FrG (rowOf no) (rowOf no) w w' ∧
      (r = true → ∃ fr' σ t', OkD D' fr' ∧ Parl.Made (gOf D) fr fr' t t' (t a) (t b) σ) ∧ (r = false → ∀ θ, Parl.sub θ (t a) ≠ Parl.sub θ (t b)) := by
  obtain ⟨r, D', h1, h2, h3, h4, h5, h6⟩ := h
  refine ⟨r, D', h1, h2, h3, h4, fun q => ?_, fun q => ?_⟩
  · obtain ⟨fr', K', o, j, k⟩ := h5 q
    obtain ⟨σ, t', hm⟩ := (ht.join j).2.2 rfl K' k
    exact ⟨fr', σ, t', o, hm⟩
  · rcases h6 q with ⟨fr', j⟩ | ⟨fr', K', j, k⟩
    · exact (ht.join j).1 rfl
    · exact (ht.join j).2.1 rfl K' k
end Go.Proofs.YthfjnfcekeknlaaDoor
namespace Go.Proofs.YthfjnfcekeknlaaDoor
open Go.RowKit

/-- What a node's term has for its arguments. -/
theorem tr_parts {D : List Ng} {fr : Nat → Nat} (hok : OkD D fr) {n : Nat} {u : Parl.U} (hn : n < D.length) (h : Parl.Tr (gOf D) fr n u) : ∃ d us, D[fr n]? = some d ∧ NdOk D.length d ∧ d ∈ D ∧ d.args.length = us.length ∧ (∀ (i a : Nat) (v : Parl.U), d.args[i]? = some a → us[i]? = some v → Parl.Tr (gOf D) fr a v) ∧
    ((d.k = 1 ∧ u = .v ([], fr n) ∧ us = []) ∨ (d.k = 2 ∧ u = .n 3 [] d.val [] ∧ us = []) ∨ (d.k = 3 ∧ u = .n 1 d.tx.toList 0 us)) := by
  obtain ⟨d, hd, od, gd, ad, md⟩ := glF hok hn
  cases h with
  | var hg ha =>
    rw [gd] at hg
    rw [ad] at ha
    exact ⟨d, [], hd, od, md, by rw [ha]; rfl, fun i a v _ hv => by simp at hv, Or.inl ⟨od.lab.1 hg, rfl, rfl⟩⟩
  | @node _ k tx num us hg hl ht =>
    rw [gd] at hg
    rw [ad] at hl ht
    refine ⟨d, us, hd, od, md, hl, ht, Or.inr ?_⟩
    unfold labN at hg
    rcases od.ks with q | q | q
    · rw [if_pos q] at hg; cases hg
    · rw [if_neg (by omega), if_pos q] at hg
      cases hg
      have : us = [] := by rw [(od.m q).2.2] at hl; exact List.length_eq_zero_iff.1 hl.symm
      subst this
      exact Or.inl ⟨q, rfl, rfl⟩
    · rw [if_neg (by omega), if_neg (by omega)] at hg
      cases hg
      exact Or.inr ⟨q, rfl⟩
theorem tr_size {u : Parl.U} {us : List Parl.U} {d : Ng} {n : Nat} (h : (d.k = 1 ∧ u = .v ([], n) ∧ us = []) ∨ (d.k = 2 ∧ u = .n 3 [] d.val [] ∧ us = []) ∨ (d.k = 3 ∧ u = .n 1 d.tx.toList 0 us)) : Parl.size u = 1 + Parl.sizeL us := by
  rcases h with ⟨_, rfl, rfl⟩ | ⟨_, rfl, rfl⟩ | ⟨_, rfl⟩
  · simp [Parl.size, Parl.sizeL]
  · simp [Parl.size, Parl.sizeL]
  · rw [Parl.size]
theorem sizeL_snoc : ∀ (us : List Parl.U) (u : Parl.U), Parl.sizeL (us ++ [u]) = Parl.sizeL us + Parl.size u
  | [], u => by simp [Parl.sizeL]
  | v :: us, u => by rw [List.cons_append, Parl.sizeL, Parl.sizeL, sizeL_snoc us u]; omega
theorem sizeL_take (us : List Parl.U) (j : Nat) : Parl.sizeL (us.take j) ≤ Parl.sizeL us := by
  induction us generalizing j with
  | nil => simp [Parl.sizeL]
  | cons u us ih =>
    cases j with
    | zero => simp [Parl.sizeL]
    | succ j => rw [List.take_succ_cons, Parl.sizeL, Parl.sizeL]; have := ih j; omega
def SzSaid (s : Nat) : Prop := ∀ (w : World) (sb so : Nat) (cs : Array Value) (T : TypeId) (D : List Ng) (no : Option Addr) (nc : Nat) (P : Nat → Prop) (fr : Nat → Nat) (n : Nat) (u : Parl.U) (most : Nat), StG w sb so cs T D no nc → OkD D fr → ArgsG w D P → n < D.length → Parl.Tr (gOf D) fr n u → Parl.size u ≤ s → most ≤ 1000 →
  Calls Tryd.prog 27 #[.pointer (some ⟨sb, so, none⟩), .int .i64 (n : Int), .int .i64 (most : Int)] w fun e w' => e = .returned (.int .i64 ((min (Parl.size u) (most + 1) : Nat) : Int)) ∧ w' = w

set_option maxHeartbeats 4000000 in
set_option maxRecDepth 100000 in
theorem size_step {s : Nat} (IH : SzSaid s) : SzSaid (s + 1) := by
  intro w sb so cs T D no nc P fr n u most h hok har hn ht hs hm
  obtain ⟨k, hk⟩ := hok.hop n hn
  obtain ⟨d, us, hd, od, md, hl, hts, hu⟩ := tr_parts hok hn ht
  have hsz := tr_size hu
  have AG := hide (args_g w sb so cs T D no nc n (fr n) k d h hk hd)
  have HR := hide (show RowG w d.ao d.args from har.row md)
  have H := hide h
  have HOK := hide hok
  have HAR := hide har
  have HIN := hide od.inn
  have HTS := hide hts
  have HSZ := hide hsz
  have HS := hide hs
  have I := hide IH
  have hfew := od.few
  obtain ⟨dk, dval, dtx, dcnt, ao, dcap, xs, dnx, dmrk⟩ := d
  dsimp only at AG HR HIN HTS hl hfew
  clear h hok har hn ht hs hk hd od md hts hu hsz IH
  have HL := hide hl
  go_enter Tryd.func27, Tryd.ntmps27
  go_wp2_with fail
  refine (unhide AG).mono ?_
  rintro e w2 ⟨rfl, rfl⟩
  clear hl
  go_wp2_with fail
  go_loopg [7, 14] xs.length (fun k sv iv wr => ∃ j : Nat, k + j = xs.length ∧ iv = .int .i64 (j : Int) ∧ sv = .int .i64 ((min (1 + Parl.sizeL (us.take j)) (most + 1) : Nat) : Int) ∧ wr = w2)
  case atStart => exact ⟨0, by omega, rfl, by simp [Parl.sizeL], rfl⟩
  case round =>
    obtain ⟨j, hkj, rfl, rfl, rfl⟩ := hrel
    by_cases hlt : j < xs.length
    · obtain ⟨gx, ex, zx, cx⟩ := (unhide HR).at hlt
      subst ex
      have hju : j < us.length := by have := unhide HL; omega
      have hsn : Parl.sizeL (us.take (j + 1)) = Parl.sizeL (us.take j) + Parl.size us[j] := by
        rw [List.take_add_one, List.getElem?_eq_getElem hju]
        exact sizeL_snoc _ _
      have hle := sizeL_take us (j + 1)
      have hsum := unhide HSZ
      have hbound := unhide HS
      have j0 : (0 : Int) ≤ (j : Int) := by omega
      have j1 : (j : Int) < (xs.length : Int) := by omega
      by_cases hbig : most < 1 + Parl.sizeL (us.take j)
      · have e1 : min (1 + Parl.sizeL (us.take j)) (most + 1) = most + 1 := by omega
        have e2 : min (Parl.size u) (most + 1) = most + 1 := by omega
        have HE2 := hide e2
        rw [e1]
        have t1 : decide (((most + 1 : Nat) : Int) > (most : Int)) = true := by simp; omega
        generalize xs[j] = na at *
        clear hsn hle hsum hbound hkj e1 e2 hbig
        generalize hmm : ((most + 1 : Nat) : Int) = mm at *
        have HMM := hide hmm
        clear hmm
        go_wp2_with fail
        go_ret
        exact ⟨by rw [unhide HE2, unhide HMM]; rfl, rfl⟩
      · have e1 : min (1 + Parl.sizeL (us.take j)) (most + 1) = 1 + Parl.sizeL (us.take j) := by omega
        have hp := Parl.size_pos us[j]
        have IC := hide (unhide I wr sb so cs T D no nc P fr xs[j] us[j] (most - (1 + Parl.sizeL (us.take j))) (unhide H) (unhide HOK) (unhide HAR) (unhide HIN _ (List.getElem_mem hlt)) (unhide HTS j _ _ (List.getElem?_eq_getElem hlt) (List.getElem?_eq_getElem hju)) (by omega) (by omega))
        have HNEW := hide (show (1 + Parl.sizeL (us.take j)) + min (Parl.size us[j]) (most - (1 + Parl.sizeL (us.take j)) + 1) = min (1 + Parl.sizeL (us.take (j + 1))) (most + 1) by omega)
        rw [e1]
        generalize hA : 1 + Parl.sizeL (us.take j) = A at *
        generalize hB : min (Parl.size us[j]) (most - A + 1) = B at *
        have hB1 : B ≤ most - A + 1 := by omega
        have hsub : ((most - A : Nat) : Int) = (most : Int) - (A : Int) := by omega
        rw [hsub] at IC
        have t1 : decide ((A : Int) > (most : Int)) = false := by simp; omega
        have t2 : decide (most < A) = false := by simp; omega
        have HKJ := hide hkj
        have hAm : (A : Int) ≤ 1000 := by omega
        have hA0 : (0 : Int) ≤ (A : Int) := by omega
        have hm0 : (most : Int) ≤ 1000 := by omega
        have hm1 : (0 : Int) ≤ (most : Int) := by omega
        have hBm : (B : Int) ≤ 2000 := by omega
        have hB0 : (0 : Int) ≤ (B : Int) := by omega
        generalize xs[j] = na at *
        clear hsn hle hsum hbound e1 hbig hA hB hB1 hsub hkj hp
        go_wp2_with fail
        refine (unhide IC).mono ?_
        rintro e w3 ⟨rfl, rfl⟩
        go_wp2_with fail
        go_roundg (gk - 1)
        case measure => have := unhide HKJ; omega
        case rel => exact ⟨j + 1, by have := unhide HKJ; omega, by go_num, by rw [← unhide HNEW]; go_num, rfl⟩
    · obtain rfl : j = xs.length := by omega
      have HFIN := hide (show min (1 + Parl.sizeL (us.take xs.length)) (most + 1) = min (Parl.size u) (most + 1) by rw [unhide HSZ, List.take_of_length_le (by have := unhide HL; omega)])
      clear hkj
      generalize hA : min (1 + Parl.sizeL (us.take xs.length)) (most + 1) = A at *
      clear hA
      go_wp2_with fail
      go_ret
      exact ⟨by rw [unhide HFIN]; rfl, rfl⟩
theorem size_all : ∀ s, SzSaid s
  | 0 => fun _ _ _ _ _ _ _ _ _ _ _ u _ _ _ _ _ _ hs _ => absurd hs (by have := Parl.size_pos u; omega)
  | s + 1 => size_step (size_all s)
end Go.Proofs.YthfjnfcekeknlaaDoor
