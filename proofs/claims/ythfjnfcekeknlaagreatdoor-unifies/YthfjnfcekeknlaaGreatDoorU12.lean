import Derived.Test.YthfjnfcekeknlaaGreatDoorU01
import Derived.Test.YthfjnfcekeknlaaGreatDoorU02
import Derived.Test.YthfjnfcekeknlaaGreatDoorU04
import Derived.Test.YthfjnfcekeknlaaGreatDoorU11
import Derived.Deep.LoopGhost
namespace Go.Proofs.YthfjnfcekeknlaaGreatDoor
open Go.RowKit

/-- An item lies there, ahead of block xb. -/
structure ItemX (xb : Nat) (w : World) (v : IV) (x : Parl.Itm) : Prop where
  left : RB 8 (fun g => g < xb) w v.a x.left
  op : v.op.toList = x.sign
  right : ∀ r, x.right = some r → RB 8 (fun g => g < xb) w v.b r
  sg : v.sg.toList = x.op
  last : ∀ z, x.last = some z → RB 8 (fun g => g < xb) w v.c z
theorem ItemX.ok {xb : Nat} {w : World} {v : IV} {x : Parl.Itm} (h : ItemX xb w v x) : Parl.okI x := ⟨h.left.ok3, fun r q => (h.right r q).ok3, fun z q => (h.last z q).ok3⟩
theorem RB.blw {f xb : Nat} {w w' : World} {a : BV} {t : Parl.Tm} (h : RB f (fun g => g < xb) w a t) (hb : Below xb w w') : RB f (fun g => g < xb) w' a t := h.keep fun g _ hp hc _ => ⟨(hb.block g hp).trans hc, hp⟩
theorem ItemX.blw {xb : Nat} {w w' : World} {v : IV} {x : Parl.Itm} (h : ItemX xb w v x) (hb : Below xb w w') : ItemX xb w' v x := ⟨h.left.blw hb, h.op, fun r q => (h.right r q).blw hb, h.sg, fun z q => (h.last z q).blw hb⟩
end Go.Proofs.YthfjnfcekeknlaaGreatDoor
namespace Go.Proofs.YthfjnfcekeknlaaGreatDoor
open Go.RowKit

/-- The items lie there, ahead of block xb. -/
def ItemsX (xb : Nat) (w : World) (lo : Option Addr) (n : Nat) (ys : List Parl.Itm) : Prop := n = ys.length ∧ (ys ≠ [] → ∃ (g : Nat) (vs : List IV) (cs : Array Value), lo = some ⟨g, 0, none⟩ ∧ g < xb ∧ w.heap[g]? = some (.cells cs 173 (0, 0)) ∧ cs.toList.take (vs.length * 14) = vs.flatMap ivC ∧ All2 (ItemX xb w) vs ys)
theorem ItemsX.blw {xb : Nat} {w w' : World} {lo : Option Addr} {n : Nat} {ys : List Parl.Itm} (h : ItemsX xb w lo n ys) (hb : Below xb w w') : ItemsX xb w' lo n ys :=
  ⟨h.1, fun q => by
    obtain ⟨g, vs, cs, h1, h2, h3, h4, h5⟩ := h.2 q
    exact ⟨g, vs, cs, h1, h2, (hb.block g h2).trans h3, h4, h5.imp fun _ _ q => q.blw hb⟩⟩
end Go.Proofs.YthfjnfcekeknlaaGreatDoor
namespace Go.Proofs.YthfjnfcekeknlaaGreatDoor
open Go.RowKit

theorem VB.top {w : World} {a : BV} {t : Parl.Tm} (h : VB anyB w a t) (hw : Parl.wfD 8 t) : RB 8 (fun g => g < w.heap.size) w a t := by
  obtain ⟨f, hf⟩ := h.imp (Q := fun g => g < w.heap.size) fun _ _ q => q
  exact hf.cut hw
theorem ItemX.of {w : World} {v : IV} {x : Parl.Itm} (h : ItemR w v x) (hw : Parl.wfI x) : ItemX w.heap.size w v x := by
  obtain ⟨h1, h2, h3, h4, h5⟩ := h
  exact ⟨h1.top hw.1.1, h2, fun r q => (h3 r q).top (hw.1.2.1 r q), h4, fun z q => (h5 z q).top (hw.1.2.2 z q)⟩
theorem ItemsX.of {w : World} {o : Option Addr} {n : Nat} {ys : List Parl.Itm} (h : ItemsB w o n ys) (hw : ∀ x ∈ ys, Parl.wfI x) : ItemsX w.heap.size w o n ys :=
  ⟨h.1, fun q => by
    obtain ⟨g, vs, cs, h1, h2, h3, h4⟩ := h.2 q
    exact ⟨g, vs, cs, h1, blk_lt' h2, h2, h3, h4.impM fun _ b hb q => ItemX.of q (hw b hb)⟩⟩
theorem RB.mono {f xb yb : Nat} {w : World} {a : BV} {t : Parl.Tm} (h : RB f (fun g => g < xb) w a t) (hx : xb ≤ yb) : RB f (fun g => g < yb) w a t := h.keep fun _ _ hp hc _ => ⟨hc, Nat.lt_of_lt_of_le hp hx⟩
theorem ItemX.mono {xb yb : Nat} {w : World} {v : IV} {x : Parl.Itm} (h : ItemX xb w v x) (hx : xb ≤ yb) : ItemX yb w v x := ⟨h.left.mono hx, h.op, fun r q => (h.right r q).mono hx, h.sg, fun z q => (h.last z q).mono hx⟩
theorem ItemsX.mono {xb yb : Nat} {w : World} {lo : Option Addr} {n : Nat} {ys : List Parl.Itm} (h : ItemsX xb w lo n ys) (hx : xb ≤ yb) : ItemsX yb w lo n ys :=
  ⟨h.1, fun q => by
    obtain ⟨g, vs, cs, h1, h2, h3, h4, h5⟩ := h.2 q
    exact ⟨g, vs, cs, h1, Nat.lt_of_lt_of_le h2 hx, h3, h4, h5.imp fun _ _ q => q.mono hx⟩⟩
theorem ItemsX.ok {xb : Nat} {w : World} {lo : Option Addr} {n : Nat} {ys : List Parl.Itm} (h : ItemsX xb w lo n ys) : ∀ x ∈ ys, Parl.okI x := fun x hx => by
  obtain ⟨g, vs, cs, h1, h2, h3, h4, h5⟩ := h.2 (fun e => by rw [e] at hx; cases hx)
  obtain ⟨i, hi, rfl⟩ := List.getElem_of_mem hx
  exact (h5.at i (by have := h5.length; omega) hi).ok
/-- A clause lies there, ahead of block xb. -/
structure ClauseX (xb : Nat) (w : World) (v : CV) (c : Parl.Cls) : Prop where
  head : RB 8 (fun g => g < xb) w v.a c.head
  tests : ItemsX xb w v.o1 v.n1 c.tests
  goals : ItemsX xb w v.o2 v.n2 c.goals
theorem ClauseX.of {w : World} {v : CV} {c : Parl.Cls} (h : ClauseR w v c) (hw : Parl.wfC c) : ClauseX w.heap.size w v c :=
  ⟨h.1.top hw.1, ItemsX.of h.2.1 hw.2.1, ItemsX.of h.2.2 hw.2.2.2.1⟩
theorem ClauseX.blw {xb yb : Nat} {w w' : World} {v : CV} {c : Parl.Cls} (h : ClauseX xb w v c) (hb : Below xb w w') (hx : xb ≤ yb) : ClauseX yb w' v c :=
  ⟨(h.head.blw hb).mono hx, (h.tests.blw hb).mono hx, (h.goals.blw hb).mono hx⟩
theorem ClauseX.ok {xb : Nat} {w : World} {v : CV} {c : Parl.Cls} (h : ClauseX xb w v c) : Parl.okC c := ⟨h.head.ok3, h.tests.ok, h.goals.ok⟩
/-- The list as it stands first. -/
theorem XL.first (w : World) : XL (w.alloc (.cells #[.slice none 0 0] 106)) w.heap.size [] none 0 := by
  have hb := heap_alloc_new w (.cells #[.slice none 0 0] 106)
  exact ⟨by rw [blkA' hb]; rfl, blkX' hb 0, World.ownsRow_nil _ _ _ _, by simp, by simp⟩
end Go.Proofs.YthfjnfcekeknlaaGreatDoor
namespace Go.Proofs.YthfjnfcekeknlaaGreatDoor
open Go.RowKit

theorem sd_start (w : World) (sd : Int) (f : Nat) (a : BV) (t : Parl.Tm) : LSd w sd f a t t.args.length (.int .i64 0) (((w.alloc (.cells #[.int .i64 a.k, .string a.nm, .int .i64 a.num, .slice a.ao a.n a.cap] 109)).alloc (.cells #[.int .i64 0, .string ⟨#[]⟩, .int .i64 0, .slice none 0 0] 109)).alloc (.cells #[.int .i64 a.k, .string a.nm, .int .i64 (numS sd a), .slice none 0 0] 109)) := by
  refine ⟨0, _, [], by omega, rfl, (((Below.refl _ _).alloc (Nat.le_refl _) _).alloc (by simp) _).alloc (by simp; omega) _, blk_alloc' (blk_alloc' (heap_alloc_new w _) _) _, ?_, ?_, World.ownsRow_nil _ _ _ _, trivial⟩
  · have := heap_alloc_new (w.alloc (.cells #[.int .i64 a.k, .string a.nm, .int .i64 a.num, .slice a.ao a.n a.cap] 109)) (.cells #[.int .i64 0, .string ⟨#[]⟩, .int .i64 0, .slice none 0 0] 109)
    rw [World.size_alloc] at this
    exact blk_alloc' this _
  · have := heap_alloc_new ((w.alloc (.cells #[.int .i64 a.k, .string a.nm, .int .i64 a.num, .slice a.ao a.n a.cap] 109)).alloc (.cells #[.int .i64 0, .string ⟨#[]⟩, .int .i64 0, .slice none 0 0] 109)) (.cells #[.int .i64 a.k, .string a.nm, .int .i64 (numS sd a), .slice none 0 0] 109)
    rw [World.size_alloc, World.size_alloc] at this
    exact this

set_option maxHeartbeats 4000000 in
set_option maxRecDepth 100000 in
theorem sided_step {sd : Int} {f : Nat} (IH : SdSaid sd f) : SdSaid sd (f + 1) := by
  intro w a t hr
  obtain ⟨hlf, hrow⟩ := hr
  have HLF := hide hlf
  have HROW := hide hrow
  have h8 := hlf.few
  have hn := hlf.n
  have HST := hide (sd_start w sd f a t)
  obtain ⟨ti, hi, hz0', hz1', hz2'⟩ := info_parts Tryz.info109
  have I := hide IH
  clear hlf hrow IH
  obtain ⟨ki, nm, num, ao, n, cap⟩ := a
  dsimp only at hn HST HLF HROW ⊢
  subst hn
  have hnum : (ki == 2) = true → numS sd ⟨ki, nm, num, ao, t.args.length, cap⟩ = sd := fun q => by unfold numS; rw [if_pos (by simpa using q)]
  have hnum' : (ki == 2) = false → numS sd ⟨ki, nm, num, ao, t.args.length, cap⟩ = num := fun q => by unfold numS; rw [if_neg (by simpa using q)]
  cases hkk : (ki == 2)
  · have hq := hnum' hkk
    have HSQ := hide hq
    clear hnum hnum' hq
    go_enter Tryz.func60, Tryz.ntmps60
    go_wp2_with fail
    go_loopg [6] t.args.length (fun k iv wr => LSd w sd f ⟨ki, nm, num, ao, t.args.length, cap⟩ t k iv wr)
    case atStart => have := unhide HST; rw [unhide HSQ] at this; exact this
    case round =>
      clear HST
      obtain ⟨j, av, us, hkj, rfl, hB, hb0, hb1, hb2, ho, hall⟩ := hrel
      obtain ⟨oo, cp, rfl⟩ := own_shapeS ho
      have hz := hB.size
      have HB := hide hB
      have HB0 := hide hb0
      have HB1 := hide hb1
      have HB2 := hide hb2
      have HO := hide ho
      have HALL := hide hall
      have r0 := blkA' hb0
      have z0 := blk_lt' hb0
      have r1 := blkA' hb1
      have x1 := blkX' hb1
      have z1 := blk_lt' hb1
      have r2 := blkA' hb2
      have x2 := blkX' hb2
      have z2 := blk_lt' hb2
      by_cases hlt' : j < t.args.length
      · have hne : t.args ≠ [] := fun q => by rw [q] at hlt'; simp at hlt'
        obtain ⟨g, vs, cs, hao, -, hcs, htk, hargs⟩ := unhide HROW hne
        subst hao
        have hjv : j < vs.length := by have := hargs.length; omega
        have hgw : g < w.heap.size := blk_lt' hcs
        have hcw : wr.heap[g]? = some (.cells cs 109 (0, 0)) := (hB.block g hgw).trans hcs
        have fc : ∀ i, i < 4 → wr.cell? ⟨g, j * 4 + i, none⟩ = (bvC vs[j])[i]? := fun i hi => by
          rw [blkA' hcw, ← Array.getElem?_toList, ← bvC_at hjv i hi, ← htk, List.getElem?_take_of_lt (by omega)]
        have f0 := fc 0 (by omega)
        have f1 := fc 1 (by omega)
        have f2 := fc 2 (by omega)
        have f3 := fc 3 (by omega)
        simp only [bvC, List.getElem?_cons_zero, List.getElem?_cons_succ, Nat.add_zero] at f0 f1 f2 f3
        have hgr : g < wr.heap.size := by omega
        have IC := hide (unhide I wr vs[j] t.args[j] ((hargs.at j hjv hlt').keep fun g cs _ hc => ⟨(hB.block g (Array.getElem?_eq_some_iff.1 hc).1).trans hc, trivial⟩))
        have i0 : (0 : Int) ≤ (j : Int) := by omega
        have i1 : (j : Int) < (t.args.length : Int) := by omega
        have HTK := hide (show t.args.take (j + 1) = t.args.take j ++ [t.args[j]] by rw [List.take_add_one, List.getElem?_eq_getElem hlt']; rfl)
        have HLT := hide hlt'
        have HKJ := hide hkj
        have hj3 : j ≤ 3 := by omega
        clear hB hb0 hb1 hb2 ho hall hcs htk hargs hcw fc hkj hne
        go_wp2_with fail
        refine (unhide IC).mono ?_
        rintro e w2 ⟨a2, rfl, hrs, hbb⟩
        have HRS := hide hrs
        have HBB := hide hbb
        have q2 := (hbb.block (w.heap.size + 2) z2).trans (unhide HB2)
        have HQ0 := hide ((hbb.block w.heap.size z0).trans (unhide HB0))
        have HQ1 := hide ((hbb.block (w.heap.size + 1) z1).trans (unhide HB1))
        have HQ2 := hide q2
        have y2 := blkA' q2
        have yz2 := blk_lt' q2
        have HO2 := hide (own_below (unhide HO) hbb)
        have hzz := hbb.size
        clear hrs hbb q2 IC f0 f1 f2 f3 r0 z0 r1 x1 z1 r2 x2
        go_wp2_with (first | (at_builtin; go_must (refine wpList_append_own_at _ rfl (.tmp 30) (.tmp 32) 104 rfl (w.heap.size + 3) 109 ti (.agg #[.int .i64 0, .string ⟨#[]⟩, .int .i64 0, .slice none 0 0]) 4 56 Tryz.underlying104 hi hz0' hz1' hz2' rfl (by decide) _ j (us.flatMap bvC) rfl (((unhide HO2).alloc _).alloc _) ⟨w2.heap.size + 1, 0, none⟩ 1 1 [.int .i64 a2.k, .string a2.nm, .int .i64 a2.num, .slice a2.ao a2.n a2.cap] rfl rfl (new4 _ _ _ _ _ _ _) (one4 _ _ _ _ _ _) (by unfold maxLen; omega) (by omega) (by simp; omega) ?_); go_must (intro v' w7 hown' hgrow _ hat; obtain ⟨g', cap', hv, hcm⟩ := ownB_some hown'; subst hv; have HAT := hide hat; have HG := hide hgrow; have HOWN7 := hide hown'; have HB7 := hide ((((Below.refl (w.heap.size + 3) w2).alloc (by omega) (.cells #[.int .i64 a2.k, .string a2.nm, .int .i64 a2.num, .slice a2.ao a2.n a2.cap] 109)).alloc (by simp; omega) (.cells #[.int .i64 a2.k, .string a2.nm, .int .i64 a2.num, .slice a2.ao a2.n a2.cap] 109)).grown hgrow (by simp; omega) (fun k q => ((unhide HO2).lt k q).1)); have q7 := ((unhide HB7).block (w.heap.size + 2) (by omega)).trans (unhide HQ2); have HQ7 := hide q7; have z7 := blkA' q7; have zx7 := blkX' q7; have zz7 := blk_lt' q7; clear hown' hgrow hat q7)))
        have HR7 := hide (sd_next (b2 := w.heap.size + 2) (unhide HALL) (unhide HRS) (unhide HBB) (by omega) (fun k q => ((unhide HO).lt k q).2) (unhide HG) (unhide HAT) (by omega) (.slice (some ⟨g', 0, none⟩) (j + 1) cap'))
        go_roundg (gk - 1)
        case measure => have := unhide HKJ; have := unhide HLT; omega
        case rel =>
          have hB7 := unhide HB7
          refine ⟨j + 1, .slice (some ⟨g', 0, none⟩) (j + 1) cap', us ++ [a2], by have := unhide HKJ; have := unhide HLT; omega, by go_num, ?_, ?_, ?_, ?_, ?_, ?_⟩
          · exact (((unhide HB).trans ((unhide HBB).mono hz)).trans (hB7.mono (by omega))).setCell (p := ⟨w.heap.size + 2, 3, none⟩) (by show w.heap.size ≤ w.heap.size + 2; omega) _
          · exact blk_other ((hB7.block _ (by omega)).trans (unhide HQ0)) (by omega) _ _
          · exact blk_other ((hB7.block _ (by omega)).trans (unhide HQ1)) (by omega) _ _
          · have := blk_set (unhide HQ7) 3 (.slice (some ⟨g', 0, none⟩) (j + 1) cap')
            simpa using this
          · have := own_at (unhide HOWN7) (w' := w7.setCell ⟨w.heap.size + 2, 3, none⟩ (.slice (some ⟨g', 0, none⟩) (j + 1) cap')) (fun k h1 _ => heap_set _ _ _ _ (by omega))
            rw [List.flatMap_append]
            simpa [bvC] using this
          · rw [unhide HTK]
            exact unhide HR7
      · obtain rfl : j = t.args.length := by omega
        rw [List.take_length] at hall
        have HALL := hide hall
        have HLF2 := HLF
        clear hB hb0 hb1 hb2 ho hall hkj
        go_wp2_with fail
        refine bodyPost_ret (v := .agg #[.int .i64 ki, .string nm, .int .i64 (numS sd ⟨ki, nm, num, ao, t.args.length, cap⟩), .slice oo t.args.length cp]) (by simp [results, Tryz.results60, go_sem, r1]) rfl ?_
        obtain ⟨ao', cap', he, hrs⟩ := sd_end (w := w) (unhide HLF2) (unhide HALL) (unhide HO) (by omega) (w' := ((((wr.setCell ⟨w.heap.size + 1, 0, none⟩ (.int .i64 ki)).setCell ⟨w.heap.size + 1, 1, none⟩ (.string nm)).setCell ⟨w.heap.size + 1, 2, none⟩ (.int .i64 (numS sd ⟨ki, nm, num, ao, t.args.length, cap⟩))).setCell ⟨w.heap.size + 1, 3, none⟩ (.slice oo t.args.length cp))) (fun g hg => by rw [heap_set _ _ _ _ hg, heap_set _ _ _ _ hg, heap_set _ _ _ _ hg, heap_set _ _ _ _ hg])
        simp only [Value.slice.injEq, true_and] at he
        obtain ⟨rfl, rfl⟩ := he
        refine ⟨⟨ki, nm, _, oo, t.args.length, cp⟩, rfl, hrs, ?_⟩
        exact (((((unhide HB).setCell (p := ⟨w.heap.size + 1, 0, none⟩) (by show w.heap.size ≤ w.heap.size + 1; omega) _).setCell (p := ⟨w.heap.size + 1, 1, none⟩) (by show w.heap.size ≤ w.heap.size + 1; omega) _).setCell (p := ⟨w.heap.size + 1, 2, none⟩) (by show w.heap.size ≤ w.heap.size + 1; omega) _).setCell (p := ⟨w.heap.size + 1, 3, none⟩) (by show w.heap.size ≤ w.heap.size + 1; omega) _)
  · obtain rfl : ki = 2 := by simpa using hkk
    have hq := hnum hkk
    have HSQ := hide hq
    clear hnum hnum' hq hkk
    go_enter Tryz.func60, Tryz.ntmps60
    go_wp2_with fail
    go_loopg [6] t.args.length (fun k iv wr => LSd w sd f ⟨2, nm, num, ao, t.args.length, cap⟩ t k iv wr)
    case atStart => have := unhide HST; rw [unhide HSQ] at this; exact this
    case round =>
      clear HST
      obtain ⟨j, av, us, hkj, rfl, hB, hb0, hb1, hb2, ho, hall⟩ := hrel
      obtain ⟨oo, cp, rfl⟩ := own_shapeS ho
      have hz := hB.size
      have HB := hide hB
      have HB0 := hide hb0
      have HB1 := hide hb1
      have HB2 := hide hb2
      have HO := hide ho
      have HALL := hide hall
      have r0 := blkA' hb0
      have z0 := blk_lt' hb0
      have r1 := blkA' hb1
      have x1 := blkX' hb1
      have z1 := blk_lt' hb1
      have r2 := blkA' hb2
      have x2 := blkX' hb2
      have z2 := blk_lt' hb2
      by_cases hlt' : j < t.args.length
      · have hne : t.args ≠ [] := fun q => by rw [q] at hlt'; simp at hlt'
        obtain ⟨g, vs, cs, hao, -, hcs, htk, hargs⟩ := unhide HROW hne
        subst hao
        have hjv : j < vs.length := by have := hargs.length; omega
        have hgw : g < w.heap.size := blk_lt' hcs
        have hcw : wr.heap[g]? = some (.cells cs 109 (0, 0)) := (hB.block g hgw).trans hcs
        have fc : ∀ i, i < 4 → wr.cell? ⟨g, j * 4 + i, none⟩ = (bvC vs[j])[i]? := fun i hi => by
          rw [blkA' hcw, ← Array.getElem?_toList, ← bvC_at hjv i hi, ← htk, List.getElem?_take_of_lt (by omega)]
        have f0 := fc 0 (by omega)
        have f1 := fc 1 (by omega)
        have f2 := fc 2 (by omega)
        have f3 := fc 3 (by omega)
        simp only [bvC, List.getElem?_cons_zero, List.getElem?_cons_succ, Nat.add_zero] at f0 f1 f2 f3
        have hgr : g < wr.heap.size := by omega
        have IC := hide (unhide I wr vs[j] t.args[j] ((hargs.at j hjv hlt').keep fun g cs _ hc => ⟨(hB.block g (Array.getElem?_eq_some_iff.1 hc).1).trans hc, trivial⟩))
        have i0 : (0 : Int) ≤ (j : Int) := by omega
        have i1 : (j : Int) < (t.args.length : Int) := by omega
        have HTK := hide (show t.args.take (j + 1) = t.args.take j ++ [t.args[j]] by rw [List.take_add_one, List.getElem?_eq_getElem hlt']; rfl)
        have HLT := hide hlt'
        have HKJ := hide hkj
        have hj3 : j ≤ 3 := by omega
        clear hB hb0 hb1 hb2 ho hall hcs htk hargs hcw fc hkj hne
        go_wp2_with fail
        refine (unhide IC).mono ?_
        rintro e w2 ⟨a2, rfl, hrs, hbb⟩
        have HRS := hide hrs
        have HBB := hide hbb
        have q2 := (hbb.block (w.heap.size + 2) z2).trans (unhide HB2)
        have HQ0 := hide ((hbb.block w.heap.size z0).trans (unhide HB0))
        have HQ1 := hide ((hbb.block (w.heap.size + 1) z1).trans (unhide HB1))
        have HQ2 := hide q2
        have y2 := blkA' q2
        have yz2 := blk_lt' q2
        have HO2 := hide (own_below (unhide HO) hbb)
        have hzz := hbb.size
        clear hrs hbb q2 IC f0 f1 f2 f3 r0 z0 r1 x1 z1 r2 x2
        go_wp2_with (first | (at_builtin; go_must (refine wpList_append_own_at _ rfl (.tmp 30) (.tmp 32) 104 rfl (w.heap.size + 3) 109 ti (.agg #[.int .i64 0, .string ⟨#[]⟩, .int .i64 0, .slice none 0 0]) 4 56 Tryz.underlying104 hi hz0' hz1' hz2' rfl (by decide) _ j (us.flatMap bvC) rfl (((unhide HO2).alloc _).alloc _) ⟨w2.heap.size + 1, 0, none⟩ 1 1 [.int .i64 a2.k, .string a2.nm, .int .i64 a2.num, .slice a2.ao a2.n a2.cap] rfl rfl (new4 _ _ _ _ _ _ _) (one4 _ _ _ _ _ _) (by unfold maxLen; omega) (by omega) (by simp; omega) ?_); go_must (intro v' w7 hown' hgrow _ hat; obtain ⟨g', cap', hv, hcm⟩ := ownB_some hown'; subst hv; have HAT := hide hat; have HG := hide hgrow; have HOWN7 := hide hown'; have HB7 := hide ((((Below.refl (w.heap.size + 3) w2).alloc (by omega) (.cells #[.int .i64 a2.k, .string a2.nm, .int .i64 a2.num, .slice a2.ao a2.n a2.cap] 109)).alloc (by simp; omega) (.cells #[.int .i64 a2.k, .string a2.nm, .int .i64 a2.num, .slice a2.ao a2.n a2.cap] 109)).grown hgrow (by simp; omega) (fun k q => ((unhide HO2).lt k q).1)); have q7 := ((unhide HB7).block (w.heap.size + 2) (by omega)).trans (unhide HQ2); have HQ7 := hide q7; have z7 := blkA' q7; have zx7 := blkX' q7; have zz7 := blk_lt' q7; clear hown' hgrow hat q7)))
        have HR7 := hide (sd_next (b2 := w.heap.size + 2) (unhide HALL) (unhide HRS) (unhide HBB) (by omega) (fun k q => ((unhide HO).lt k q).2) (unhide HG) (unhide HAT) (by omega) (.slice (some ⟨g', 0, none⟩) (j + 1) cap'))
        go_roundg (gk - 1)
        case measure => have := unhide HKJ; have := unhide HLT; omega
        case rel =>
          have hB7 := unhide HB7
          refine ⟨j + 1, .slice (some ⟨g', 0, none⟩) (j + 1) cap', us ++ [a2], by have := unhide HKJ; have := unhide HLT; omega, by go_num, ?_, ?_, ?_, ?_, ?_, ?_⟩
          · exact (((unhide HB).trans ((unhide HBB).mono hz)).trans (hB7.mono (by omega))).setCell (p := ⟨w.heap.size + 2, 3, none⟩) (by show w.heap.size ≤ w.heap.size + 2; omega) _
          · exact blk_other ((hB7.block _ (by omega)).trans (unhide HQ0)) (by omega) _ _
          · exact blk_other ((hB7.block _ (by omega)).trans (unhide HQ1)) (by omega) _ _
          · have := blk_set (unhide HQ7) 3 (.slice (some ⟨g', 0, none⟩) (j + 1) cap')
            simpa using this
          · have := own_at (unhide HOWN7) (w' := w7.setCell ⟨w.heap.size + 2, 3, none⟩ (.slice (some ⟨g', 0, none⟩) (j + 1) cap')) (fun k h1 _ => heap_set _ _ _ _ (by omega))
            rw [List.flatMap_append]
            simpa [bvC] using this
          · rw [unhide HTK]
            exact unhide HR7
      · obtain rfl : j = t.args.length := by omega
        rw [List.take_length] at hall
        have HALL := hide hall
        have HLF2 := HLF
        clear hB hb0 hb1 hb2 ho hall hkj
        go_wp2_with fail
        refine bodyPost_ret (v := .agg #[.int .i64 2, .string nm, .int .i64 (numS sd ⟨2, nm, num, ao, t.args.length, cap⟩), .slice oo t.args.length cp]) (by simp [results, Tryz.results60, go_sem, r1]) rfl ?_
        obtain ⟨ao', cap', he, hrs⟩ := sd_end (w := w) (unhide HLF2) (unhide HALL) (unhide HO) (by omega) (w' := ((((wr.setCell ⟨w.heap.size + 1, 0, none⟩ (.int .i64 2)).setCell ⟨w.heap.size + 1, 1, none⟩ (.string nm)).setCell ⟨w.heap.size + 1, 2, none⟩ (.int .i64 (numS sd ⟨2, nm, num, ao, t.args.length, cap⟩))).setCell ⟨w.heap.size + 1, 3, none⟩ (.slice oo t.args.length cp))) (fun g hg => by rw [heap_set _ _ _ _ hg, heap_set _ _ _ _ hg, heap_set _ _ _ _ hg, heap_set _ _ _ _ hg])
        simp only [Value.slice.injEq, true_and] at he
        obtain ⟨rfl, rfl⟩ := he
        refine ⟨⟨2, nm, _, oo, t.args.length, cp⟩, rfl, hrs, ?_⟩
        exact (((((unhide HB).setCell (p := ⟨w.heap.size + 1, 0, none⟩) (by show w.heap.size ≤ w.heap.size + 1; omega) _).setCell (p := ⟨w.heap.size + 1, 1, none⟩) (by show w.heap.size ≤ w.heap.size + 1; omega) _).setCell (p := ⟨w.heap.size + 1, 2, none⟩) (by show w.heap.size ≤ w.heap.size + 1; omega) _).setCell (p := ⟨w.heap.size + 1, 3, none⟩) (by show w.heap.size ≤ w.heap.size + 1; omega) _)
theorem sided_all (sd : Int) : ∀ f, SdSaid sd f
  | 0 => fun _ _ _ hr => hr.elim
  | f + 1 => sided_step (sided_all sd f)
end Go.Proofs.YthfjnfcekeknlaaGreatDoor
