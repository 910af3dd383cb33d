import Derived.Test.YthfjnfcekeknlaaGreatDoorU26
import Derived.Deep.RegionHeld3
import Derived.Deep.LoopGhost
namespace Parl
theorem puts_step (u : U) (out : List (Vr × U)) {j : Nat} (h : j < out.length) : puts u (out.take (j + 1)) = put (puts u (out.take j)) out[j].1 out[j].2 := by
  unfold puts
  rw [List.take_add_one, List.getElem?_eq_getElem h, List.foldl_append]
  rfl
theorem sizeL_take : ∀ (ss : List U) {j : Nat} (h : j < ss.length), sizeL (ss.take (j + 1)) = sizeL (ss.take j) + size ss[j]
  | a :: ss, 0, h => by simp [sizeL]
  | a :: ss, j + 1, h => by
    rw [List.take_succ_cons, List.take_succ_cons, sizeL, sizeL, sizeL_take ss (by simpa using h)]
    simp
    omega
theorem sizeL_take_le : ∀ (ss : List U) (j : Nat), sizeL (ss.take j) ≤ sizeL ss
  | [], j => by simp
  | a :: ss, 0 => by simp [sizeL]
  | a :: ss, j + 1 => by
    rw [List.take_succ_cons, sizeL, sizeL]
    have := sizeL_take_le ss j
    omega
theorem size_uargs (u : U) : size u = 1 + sizeL (uargs u) := by
  cases u with
  | v x => simp [size, uargs, sizeL]
  | n k tx num ss => simp [size, uargs]; try omega
end Parl
namespace Go.Proofs.YthfjnfcekeknlaaGreatDoor
open Go.RowKit

/-- The rows of what puts holds. -/
def QPs (w : World) (g : Nat) : Prop := g < w.heap.size ∨ w.heap.size + 2 ≤ g
def LPs (w : World) (u : Parl.U) (out : List (Parl.Vr × Parl.U)) (k : Nat) (iv : Value) (wr : World) : Prop :=
  ∃ (j : Nat) (a : BV), k + j = out.length ∧ iv = .int .i64 (j : Int) ∧ Below w.heap.size w wr ∧
    wr.heap[w.heap.size]? = some (.cells #[.int .i64 a.k, .string a.nm, .int .i64 a.num, .slice a.ao a.n a.cap] 109 (0, 0)) ∧
    wr.heap[w.heap.size + 1]? = some (.cells #[.int .i64 0, .string ⟨#[]⟩, .int .i64 0, .slice none 0 0] 109 (0, 0)) ∧
    VU (QPs w) wr a (Parl.puts u (out.take j))
/-- One round's end. -/
theorem ps_next {w w2 : World} {a1 a2 : BV} {u : Parl.U} (hb : Below w.heap.size w w2) (h0 : w2.heap[w.heap.size]? = some (.cells #[.int .i64 a1.k, .string a1.nm, .int .i64 a1.num, .slice a1.ao a1.n a1.cap] 109 (0, 0))) (h1 : w2.heap[w.heap.size + 1]? = some (.cells #[.int .i64 0, .string ⟨#[]⟩, .int .i64 0, .slice none 0 0] 109 (0, 0))) (hv : VU (QPs w) w2 a2 u) {w' : World} (hw : w' = (((w2.setCell ⟨w.heap.size, 0, none⟩ (.int .i64 a2.k)).setCell ⟨w.heap.size, 1, none⟩ (.string a2.nm)).setCell ⟨w.heap.size, 2, none⟩ (.int .i64 a2.num)).setCell ⟨w.heap.size, 3, none⟩ (.slice a2.ao a2.n a2.cap)) :
    Below w.heap.size w w' ∧ w'.heap[w.heap.size]? = some (.cells #[.int .i64 a2.k, .string a2.nm, .int .i64 a2.num, .slice a2.ao a2.n a2.cap] 109 (0, 0)) ∧ w'.heap[w.heap.size + 1]? = some (.cells #[.int .i64 0, .string ⟨#[]⟩, .int .i64 0, .slice none 0 0] 109 (0, 0)) ∧ VU (QPs w) w' a2 u := by
  subst hw
  have hk : ∀ g, g ≠ w.heap.size → ((((w2.setCell ⟨w.heap.size, 0, none⟩ (.int .i64 a2.k)).setCell ⟨w.heap.size, 1, none⟩ (.string a2.nm)).setCell ⟨w.heap.size, 2, none⟩ (.int .i64 a2.num)).setCell ⟨w.heap.size, 3, none⟩ (.slice a2.ao a2.n a2.cap)).heap[g]? = w2.heap[g]? := fun g hg => by rw [heap_set _ _ _ _ hg, heap_set _ _ _ _ hg, heap_set _ _ _ _ hg, heap_set _ _ _ _ hg]
  refine ⟨(((hb.setCell (p := ⟨w.heap.size, 0, none⟩) (Nat.le_refl _) _).setCell (p := ⟨w.heap.size, 1, none⟩) (Nat.le_refl _) _).setCell (p := ⟨w.heap.size, 2, none⟩) (Nat.le_refl _) _).setCell (p := ⟨w.heap.size, 3, none⟩) (Nat.le_refl _) _, ?_, (hk _ (by omega)).trans h1, hv.keep fun g cs hp hc => ⟨(hk g (by rcases hp with p | p <;> omega)).trans hc, hp⟩⟩
  have := blk_set (blk_set (blk_set (blk_set h0 0 (.int .i64 a2.k)) 1 (.string a2.nm)) 2 (.int .i64 a2.num)) 3 (.slice a2.ao a2.n a2.cap)
  simpa using this

set_option maxHeartbeats 4000000 in
set_option maxRecDepth 100000 in
theorem puts_any (w : World) (a : BV) (u : Parl.U) (b0 : Nat) (oo : Option Addr) (oc : Nat) (bo : List (BV × BV)) (out : List (Parl.Vr × Parl.U)) (ha : VU anyU w a u) (ho : w.ownsRow b0 132 8 (.slice oo out.length oc) out.length (bo.flatMap buC)) (hall : All2 (BdU w) bo out) (hl : out.length ≤ 1000000) :
    Calls Tryz.prog 62 #[.agg #[.int .i64 a.k, .string a.nm, .int .i64 a.num, .slice a.ao a.n a.cap], .slice oo out.length oc] w fun e w' => ∃ a' : BV, e = .returned (.agg #[.int .i64 a'.k, .string a'.nm, .int .i64 a'.num, .slice a'.ao a'.n a'.cap]) ∧ VU anyU w' a' (Parl.puts u out) ∧ Below w.heap.size w w' := by
  have HST := hide (show LPs w u out out.length (.int .i64 0) ((w.alloc (.cells #[.int .i64 a.k, .string a.nm, .int .i64 a.num, .slice a.ao a.n a.cap] 109)).alloc (.cells #[.int .i64 0, .string ⟨#[]⟩, .int .i64 0, .slice none 0 0] 109)) by
    have e1 := heap_alloc_new (w.alloc (.cells #[.int .i64 a.k, .string a.nm, .int .i64 a.num, .slice a.ao a.n a.cap] 109)) (.cells #[.int .i64 0, .string ⟨#[]⟩, .int .i64 0, .slice none 0 0] 109)
    rw [World.size_alloc] at e1
    have hb : Below w.heap.size w ((w.alloc (.cells #[.int .i64 a.k, .string a.nm, .int .i64 a.num, .slice a.ao a.n a.cap] 109)).alloc (.cells #[.int .i64 0, .string ⟨#[]⟩, .int .i64 0, .slice none 0 0] 109)) := ((Below.refl _ _).alloc (Nat.le_refl _) _).alloc (by simp) _
    exact ⟨0, a, by omega, rfl, hb, blk_alloc' (heap_alloc_new w _) _, e1, ha.keep fun g cs _ hc => ⟨(hb.block g (blk_lt' hc)).trans hc, Or.inl (blk_lt' hc)⟩⟩)
  have HO := hide ho
  have HALL := hide hall
  clear ha ho hall
  go_enter Tryz.func62, Tryz.ntmps62
  go_wp2_with fail
  go_loopg [5] out.length (fun k iv wr => LPs w u out k iv wr)
  case atStart => exact unhide HST
  case round =>
    clear HST
    obtain ⟨j, a1, hkj, rfl, hB, hb0, hb1, hv⟩ := hrel
    have hz := hB.size
    have HB := hide hB
    have HB0 := hide hb0
    have HB1 := hide hb1
    have HV := hide hv
    have r0 := blkA' hb0
    have x0 := blkX' hb0
    have z0 := blk_lt' hb0
    have r1 := blkA' hb1
    have x1 := blkX' hb1
    have z1 := blk_lt' hb1
    have HKJ := hide hkj
    by_cases hlt : j < out.length
    · obtain ⟨g, hg⟩ : ∃ g, oo = some ⟨g, 0, none⟩ := by
        rcases (unhide HO).2 with ⟨q, q2⟩ | ⟨g, cp, cur, q, _⟩
        · omega
        · simp only [Value.slice.injEq] at q
          exact ⟨g, q.1⟩
      subst hg
      have hjb : j < bo.length := by have := (unhide HALL).length; omega
      have hgw : g < w.heap.size := ((unhide HO).lt g rfl).2
      have fc : ∀ i, i < 8 → wr.cell? ⟨g, j * 8 + i, none⟩ = (buC bo[j])[i]? := fun i hi => by
        rw [hB.cell (p := ⟨g, j * 8 + i, none⟩) hgw, (unhide HO).cellAt _ (by omega), buC_at hjb i hi]
      have f0 := fc 0 (by omega)
      have f1 := fc 1 (by omega)
      have f2 := fc 2 (by omega)
      have f3 := fc 3 (by omega)
      have f4 := fc 4 (by omega)
      have f5 := fc 5 (by omega)
      have f6 := fc 6 (by omega)
      have f7 := fc 7 (by omega)
      simp only [buC, bvC, List.cons_append, List.nil_append, List.getElem?_cons_zero, List.getElem?_cons_succ, Nat.add_zero] at f0 f1 f2 f3 f4 f5 f6 f7
      have hbd := (unhide HALL).at j hjb hlt
      have hgr : g < wr.heap.size := by omega
      have HPT := hide (Parl.puts_step u out hlt)
      have IC := hide (show ∀ W, Below wr.heap.size wr W → Calls Tryz.prog 108 #[.agg #[.int .i64 a1.k, .string a1.nm, .int .i64 a1.num, .slice a1.ao a1.n a1.cap], .agg #[.int .i64 bo[j].1.k, .string bo[j].1.nm, .int .i64 bo[j].1.num, .slice bo[j].1.ao bo[j].1.n bo[j].1.cap], .agg #[.int .i64 bo[j].2.k, .string bo[j].2.nm, .int .i64 bo[j].2.num, .slice bo[j].2.ao bo[j].2.n bo[j].2.cap]] W fun e w' => ∃ a' : BV, e = .returned (.agg #[.int .i64 a'.k, .string a'.nm, .int .i64 a'.num, .slice a'.ao a'.n a'.cap]) ∧ VU (QPs w) w' a' (Parl.puts u (out.take (j + 1))) ∧ Below wr.heap.size wr w' from fun W hW => by
        refine (put_any W (QPs w) a1 bo[j].1 bo[j].2 (Parl.puts u (out.take j)) out[j].1 out[j].2 ((unhide HV).below hW) hbd.1 (hbd.2.keep fun g cs _ hc => ⟨(hW.block g (by have := blk_lt' hc; omega)).trans ((hB.block g (blk_lt' hc)).trans hc), Or.inl (blk_lt' hc)⟩)).mono ?_
        rintro e w' ⟨a', h1, h2, h3⟩
        refine ⟨a', h1, ?_, hW.trans (h3.mono hW.size)⟩
        rw [unhide HPT]
        exact h2.imp fun g hg _ => by
          rcases hg with q | q
          · exact q
          · exact Or.inr (by have := hW.size; omega))
      have hKW := hide (fun w' (hb : Below wr.heap.size wr w') => (⟨(hb.cell (p := ⟨w.heap.size, 0, none⟩) z0).trans (r0 0), (hb.cell (p := ⟨w.heap.size, 1, none⟩) z0).trans (r0 1), (hb.cell (p := ⟨w.heap.size, 2, none⟩) z0).trans (r0 2), (hb.cell (p := ⟨w.heap.size, 3, none⟩) z0).trans (r0 3), (hb.cell (p := ⟨g, j * 8, none⟩) hgr).trans f0, (hb.cell (p := ⟨g, j * 8 + 1, none⟩) hgr).trans f1, (hb.cell (p := ⟨g, j * 8 + 2, none⟩) hgr).trans f2, (hb.cell (p := ⟨g, j * 8 + 3, none⟩) hgr).trans f3, (hb.cell (p := ⟨g, j * 8 + 4, none⟩) hgr).trans f4, (hb.cell (p := ⟨g, j * 8 + 5, none⟩) hgr).trans f5, (hb.cell (p := ⟨g, j * 8 + 6, none⟩) hgr).trans f6, (hb.cell (p := ⟨g, j * 8 + 7, none⟩) hgr).trans f7, (hb.frozen (p := ⟨w.heap.size, 0, none⟩) z0).trans (x0 0), (hb.frozen (p := ⟨w.heap.size, 1, none⟩) z0).trans (x0 1), (hb.frozen (p := ⟨w.heap.size, 2, none⟩) z0).trans (x0 2), (hb.frozen (p := ⟨w.heap.size, 3, none⟩) z0).trans (x0 3)⟩ :
        w'.cell? ⟨w.heap.size, 0, none⟩ = some (.int .i64 a1.k) ∧ w'.cell? ⟨w.heap.size, 1, none⟩ = some (.string a1.nm) ∧ w'.cell? ⟨w.heap.size, 2, none⟩ = some (.int .i64 a1.num) ∧ w'.cell? ⟨w.heap.size, 3, none⟩ = some (.slice a1.ao a1.n a1.cap) ∧ w'.cell? ⟨g, j * 8, none⟩ = some (.int .i64 bo[j].1.k) ∧ w'.cell? ⟨g, j * 8 + 1, none⟩ = some (.string bo[j].1.nm) ∧ w'.cell? ⟨g, j * 8 + 2, none⟩ = some (.int .i64 bo[j].1.num) ∧ w'.cell? ⟨g, j * 8 + 3, none⟩ = some (.slice bo[j].1.ao bo[j].1.n bo[j].1.cap) ∧ w'.cell? ⟨g, j * 8 + 4, none⟩ = some (.int .i64 bo[j].2.k) ∧ w'.cell? ⟨g, j * 8 + 5, none⟩ = some (.string bo[j].2.nm) ∧ w'.cell? ⟨g, j * 8 + 6, none⟩ = some (.int .i64 bo[j].2.num) ∧ w'.cell? ⟨g, j * 8 + 7, none⟩ = some (.slice bo[j].2.ao bo[j].2.n bo[j].2.cap) ∧ w'.frozen? ⟨w.heap.size, 0, none⟩ = false ∧ w'.frozen? ⟨w.heap.size, 1, none⟩ = false ∧ w'.frozen? ⟨w.heap.size, 2, none⟩ = false ∧ w'.frozen? ⟨w.heap.size, 3, none⟩ = false))
      have i0 : (0 : Int) ≤ (j : Int) := by omega
      have i1 : (j : Int) < (out.length : Int) := by omega
      have HLT := hide hlt
      generalize bo[j].1 = pa at *
      generalize bo[j].2 = pb at *
      clear hB hb0 hb1 hv hkj hlt fc f0 f1 f2 f3 f4 f5 f6 f7 r0 r1 x0 x1 hbd HPT hjb
      obtain ⟨c0, c1, c2, c3, c4, c5, c6, c7, c8, c9, c10, c11, y0, y1, y2, y3⟩ := unhide hKW wr (Below.refl _ _)
      go_wp2_with fail
      go_region_with (go_at_call 108; refine (unhide IC _ (by first | exact Below.refl _ _ | exact (Below.refl _ _).drew)).mono ?_; rintro e w2 ⟨a2, rfl, hrs, hbb⟩; have HRS := hide hrs; have HW2 := hide hbb; obtain ⟨d0, d1, d2, d3, -, -, -, -, -, -, -, -, e0, e1, e2, e3⟩ := unhide hKW _ hbb; have zz0 := Nat.lt_of_lt_of_le z0 hbb.size; clear hrs hbb)
      all_goals
        clear c0 c1 c2 c3 c4 c5 c6 c7 c8 c9 c10 c11 y0 y1 y2 y3
        have HNX := hide (ps_next ((unhide HB).trans ((unhide HW2).mono hz)) (((unhide HW2).block _ z0).trans (unhide HB0)) (((unhide HW2).block _ z1).trans (unhide HB1)) (unhide HRS) rfl)
        go_wp2_with fail
        go_roundg (gk - 1)
        case measure => have := unhide HKJ; have := unhide HLT; omega
        case rel => exact ⟨j + 1, a2, by have := unhide HKJ; have := unhide HLT; omega, by go_num, (unhide HNX).1, (unhide HNX).2.1, (unhide HNX).2.2.1, (unhide HNX).2.2.2⟩
    · obtain rfl : j = out.length := by omega
      rw [List.take_length] at HV
      have HFIN := hide (show ∀ w', (∀ g, g ≠ w.heap.size + 1 → w'.heap[g]? = wr.heap[g]?) → VU anyU w' a1 (Parl.puts u out) from fun w' hk => (unhide HV).keep fun g cs hp hc => ⟨(hk g (by rcases hp with p | p <;> omega)).trans hc, trivial⟩)
      clear hB hb0 hb1 hv hkj
      go_wp2_with fail
      refine bodyPost_ret (v := .agg #[.int .i64 a1.k, .string a1.nm, .int .i64 a1.num, .slice a1.ao a1.n a1.cap]) (by simp [results, Tryz.results62, go_sem, r1]) rfl ?_
      exact ⟨a1, rfl, unhide HFIN _ (fun g hg => by rw [heap_set _ _ _ _ hg, heap_set _ _ _ _ hg, heap_set _ _ _ _ hg, heap_set _ _ _ _ hg]), ((((unhide HB).setCell (p := ⟨w.heap.size + 1, 0, none⟩) (by show w.heap.size ≤ w.heap.size + 1; omega) _).setCell (p := ⟨w.heap.size + 1, 1, none⟩) (by show w.heap.size ≤ w.heap.size + 1; omega) _).setCell (p := ⟨w.heap.size + 1, 2, none⟩) (by show w.heap.size ≤ w.heap.size + 1; omega) _).setCell (p := ⟨w.heap.size + 1, 3, none⟩) (by show w.heap.size ≤ w.heap.size + 1; omega) _⟩
end Go.Proofs.YthfjnfcekeknlaaGreatDoor
namespace Go.Proofs.YthfjnfcekeknlaaGreatDoor
open Go.RowKit

def SizeSaid (f : Nat) : Prop := ∀ (w : World) (P : Nat → Prop) (a : BV) (u : Parl.U), RU f P w a u → Parl.size u ≤ 1000000000000 →
  Calls Tryz.prog 63 #[.agg #[.int .i64 a.k, .string a.nm, .int .i64 a.num, .slice a.ao a.n a.cap]] w fun e w' => e = .returned (.int .i64 (Parl.size u : Int)) ∧ Below w.heap.size w w'

set_option maxHeartbeats 4000000 in
set_option maxRecDepth 100000 in
theorem szU_step {f : Nat} (IH : SizeSaid f) : SizeSaid (f + 1) := by
  intro w P a u hr hsz
  obtain ⟨hlf, hrow⟩ := hr
  have hn := hlf.n
  have HSU := hide (Parl.size_uargs u)
  have HSZ := hide hsz
  generalize hss : Parl.uargs u = ss at *
  have HROW := hide hrow
  have I := hide IH
  obtain ⟨ki, nm, nu, ao, n, cap⟩ := a
  dsimp only at hn HROW ⊢
  obtain ⟨h5, h6⟩ := hn
  subst h5
  clear hrow IH hlf hsz hss
  have HB := hide (show Below w.heap.size w (w.alloc (.cells #[.int .i64 ki, .string nm, .int .i64 nu, .slice ao ss.length cap] 109)) from (Below.refl _ _).alloc (Nat.le_refl _) _)
  have H0 := hide (heap_alloc_new w (.cells #[.int .i64 ki, .string nm, .int .i64 nu, .slice ao ss.length cap] 109))
  go_enter Tryz.func63, Tryz.ntmps63
  go_wp2_with fail
  go_loopg [3, 4] ss.length (fun k nv iv wr => ∃ j : Nat, k + j = ss.length ∧ nv = .int .i64 ((1 + Parl.sizeL (ss.take j) : Nat) : Int) ∧ iv = .int .i64 (j : Int) ∧ Below w.heap.size w wr ∧ wr.heap[w.heap.size]? = some (.cells #[.int .i64 ki, .string nm, .int .i64 nu, .slice ao ss.length cap] 109 (0, 0)))
  case atStart => exact ⟨0, by omega, rfl, rfl, unhide HB, unhide H0⟩
  case round =>
    obtain ⟨j, hkj, rfl, rfl, hB, hb0⟩ := hrel
    have hz := hB.size
    have r0 := blkA' hb0
    have z0 := blk_lt' hb0
    have HBB := hide hB
    have HB0 := hide hb0
    by_cases hlt : j < ss.length
    · obtain ⟨g, vs, cs, hao, -, hcs, htk, hargs⟩ := unhide HROW (fun q => by rw [q] at hlt; simp at hlt)
      subst hao
      have hjv : j < vs.length := by have := hargs.length; omega
      have hgw : g < w.heap.size := blk_lt' hcs
      have hcw : wr.heap[g]? = some (.cells cs 109 (0, 0)) := (hB.block g hgw).trans hcs
      have fc : ∀ i, i < 4 → wr.cell? ⟨g, j * 4 + i, none⟩ = (bvC vs[j])[i]? := fun i hi => by
        rw [blkA' hcw, ← Array.getElem?_toList, ← bvC_at hjv i hi, ← htk, List.getElem?_take_of_lt (by omega)]
      have f0 := fc 0 (by omega)
      have f1 := fc 1 (by omega)
      have f2 := fc 2 (by omega)
      have f3 := fc 3 (by omega)
      simp only [bvC, List.getElem?_cons_zero, List.getElem?_cons_succ, Nat.add_zero] at f0 f1 f2 f3
      have hgr : g < wr.heap.size := by omega
      have hst := Parl.sizeL_take ss hlt
      have hle : 1 + Parl.sizeL (ss.take (j + 1)) ≤ 1000000000000 := by have := Parl.sizeL_take_le ss (j + 1); have := unhide HSU; have := unhide HSZ; omega
      have hpos := Parl.size_pos ss[j]
      have IC := hide (fun W (hW : Below wr.heap.size wr W) => unhide I W P vs[j] ss[j] ((hargs.at j hjv hlt).keep (w' := W) fun g cs hp hc => ⟨(hW.block g (by have := blk_lt' hc; omega)).trans ((hB.block g (blk_lt' hc)).trans hc), hp⟩) (by omega))
      have i0 : (0 : Int) ≤ (j : Int) := by omega
      have i1 : (j : Int) < (ss.length : Int) := by omega
      have HKJ := hide hkj
      have HLT := hide hlt
      have HST := hide hst
      have e1 : (0 : Int) ≤ ((1 + Parl.sizeL (ss.take j) : Nat) : Int) + (Parl.size ss[j] : Int) := by omega
      have e2 : ((1 + Parl.sizeL (ss.take j) : Nat) : Int) + (Parl.size ss[j] : Int) ≤ 1000000000000 := by omega
      generalize vs[j] = vj at *
      generalize Parl.size ss[j] = sj at *
      generalize hS : 1 + Parl.sizeL (ss.take j) = S at *
      have HS := hide hS
      clear hB hb0 hcs htk hargs hcw fc hkj hlt hst hle hpos hS
      go_wp2_with fail
      refine (unhide IC _ (Below.refl _ _)).mono ?_
      rintro e w2 ⟨rfl, hb2⟩
      have HB2 := hide hb2
      clear hb2 r0 f0 f1 f2 f3
      go_wp2_with fail
      go_roundg (gk - 1)
      case measure => have := unhide HKJ; have := unhide HLT; omega
      case rel => exact ⟨j + 1, by have := unhide HKJ; have := unhide HLT; omega, by rw [unhide HST, ← Nat.add_assoc, unhide HS]; go_num, by go_num, (unhide HBB).trans ((unhide HB2).mono hz), ((unhide HB2).block _ z0).trans (unhide HB0)⟩
    · obtain rfl : j = ss.length := by omega
      rw [List.take_length]
      have HX := hide (show (1 + Parl.sizeL ss : Nat) = Parl.size u from (unhide HSU).symm)
      rw [unhide HX]
      clear hB hb0 hkj
      go_wp2_with fail
      go_ret
      exact ⟨rfl, unhide HBB⟩
theorem szU_all : ∀ f, SizeSaid f
  | 0 => fun _ _ _ _ hr => hr.elim
  | f + 1 => szU_step (szU_all f)
theorem sizeU (w : World) (P : Nat → Prop) (a : BV) (u : Parl.U) (ha : VU P w a u) (hs : Parl.size u ≤ 1000000000000) :
    Calls Tryz.prog 63 #[.agg #[.int .i64 a.k, .string a.nm, .int .i64 a.num, .slice a.ao a.n a.cap]] w fun e w' => e = .returned (.int .i64 (Parl.size u : Int)) ∧ Below w.heap.size w w' := by
  obtain ⟨f, hf⟩ := ha
  exact szU_all f w P a u hf hs
end Go.Proofs.YthfjnfcekeknlaaGreatDoor
