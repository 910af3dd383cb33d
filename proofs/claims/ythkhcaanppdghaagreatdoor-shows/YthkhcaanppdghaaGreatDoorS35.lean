import Derived.Test.YthkhcaanppdghaaGreatDoorS29
import Derived.Test.YthkhcaanppdghaaGreatDoorS34
import Derived.Deep.RegionWith
namespace Go.Proofs.YthkhcaanppdghaaGreatDoor
open Go.RowKit

set_option maxHeartbeats 4000000 in
set_option maxRecDepth 100000 in
theorem showA_gen (w : World) (s : ByteArray) (er : Int) (X : ByteArray)
    (hA : Calls Tryz.prog 17 #[.string s] w fun e w1 => ∃ (o : Option Addr) (n c : Nat) (ps : Int), e = .returned (.agg #[.slice o n c, .int .i64 er, .int .i64 ps]) ∧
      (∀ W, Below w1.heap.size w1 W → Calls Tryz.prog 19 #[.slice o n c] W fun e w2 => e = .returned (.string X) ∧ Below W.heap.size W w2) ∧ Below w.heap.size w w1) :
    Calls Tryz.prog 11 #[.string s] w fun e w' => e = .returned (.tuple #[.string X, .int .i64 er]) ∧ Below w.heap.size w w' := by
  have IA := hide hA
  clear hA
  go_enter Tryz.func11, Tryz.ntmps11
  go_wp2_with fail
  refine (unhide IA).mono ?_
  rintro e w1 ⟨o, n, c, ps, rfl, hS, hB⟩
  have SP := hide hS
  have HB := hide hB
  have hz := hB.size
  clear hS hB IA
  go_wp2_with fail
  go_region_with (go_at_call 19; refine (unhide SP _ (((Below.refl _ _).alloc (Nat.le_refl _) _).drew)).mono ?_; rintro e w2 ⟨rfl, hb2⟩; have q2 := (hb2.block w1.heap.size (by simp)).trans (heap_alloc_new w1 (.cells #[.slice o n c, .int .i64 er, .int .i64 ps] 38)); have r2 := blkA q2; have z2 := blk_lt q2; have HB2 := hide hb2; clear hb2 q2)
  all_goals
    go_wp2_with fail
    go_ret2
    exact ⟨rfl, (((unhide HB).alloc hz (.cells #[.slice o n c, .int .i64 er, .int .i64 ps] 38)).drew).trans ((unhide HB2).mono (by simp; omega))⟩

theorem prA_short {w : World} {s : ByteArray} {L : List Parl.Tok} (hs : s.size ≤ 240) (hL : Parl.Chain s L) (hh : Parl.hd L = Parl.next s 0) (hl : L.length ≤ 1000) (hsg : Signs w) (h0 : 0 < w.heap.size) (hp : Pow w) :
    Calls Tryz.prog 11 #[.string s] w fun e w' => e = .returned (.tuple #[.string ⟨(Parl.shS s L).toArray⟩, .int .i64 (Parl.ckE s L : Int)]) ∧ Below w.heap.size w w' := by
  have e1 : Parl.ckE s L = Parl.errOf (Parl.prog 12 L) := by unfold Parl.ckE; rw [if_neg (by omega)]
  rw [e1]
  refine showA_gen w s _ _ ((prA_any w s L hs hL hh hl hsg h0).mono ?_)
  rintro e w1 ⟨o, n, c, rfl, hv, hB⟩
  refine ⟨o, n, c, _, rfl, fun W hW => ?_, hB⟩
  have hpW : Pow W := (hp.below hB).below hW
  rcases hr : Parl.prog 12 L with ⟨er, ps⟩ | ⟨ys, l1⟩
  · rw [hr] at hv
    have hn : n = 0 := hv
    rw [hn, show Parl.shS s L = [] by unfold Parl.shS; rw [if_neg (by omega), hr]]
    exact spA_none W o c
  · rw [hr] at hv
    have hc : ClausesA w1 o n ys := hv
    have hwf := Parl.wf_prog 12 L ys l1 hr
    rw [show Parl.shS s L = Parl.strP ys by unfold Parl.shS; rw [if_neg (by omega), hr]]
    exact spA_any W o n c ys (hc.below hW) hwf.1 hwf.2 hpW
theorem shA_any (w : World) (s : ByteArray) (L : List Parl.Tok) (hL : Parl.Chain s L) (hh : Parl.hd L = Parl.next s 0) (hl : s.size ≤ 240 → L.length ≤ 1000) (hsg : Signs w) (h0 : 0 < w.heap.size) (hp : Pow w) :
    Calls Tryz.prog 11 #[.string s] w fun e w' => e = .returned (.tuple #[.string ⟨(Parl.shS s L).toArray⟩, .int .i64 (Parl.ckE s L : Int)]) ∧ Below w.heap.size w w' := by
  by_cases hs : 240 < s.size
  · rw [show Parl.ckE s L = 1 by unfold Parl.ckE; rw [if_pos hs], show Parl.shS s L = [] by unfold Parl.shS; rw [if_pos hs]]
    refine showA_gen w s _ _ ((prA_long w s hs).mono ?_)
    rintro e w1 ⟨rfl, hB⟩
    exact ⟨none, 0, 0, _, rfl, fun W _ => spA_none W none 0, hB⟩
  · exact prA_short (by omega) hL hh (hl (by omega)) hsg h0 hp
end Go.Proofs.YthkhcaanppdghaaGreatDoor
namespace Go.Proofs.YthkhcaanppdghaaGreatDoor
open Go.RowKit

/-- What every call finds: the tables. -/
structure Env (w : World) : Prop where
  sg : Signs w
  pos : 0 < w.heap.size
  pow : Pow w
theorem Env.below {w w' : World} (h : Env w) (hb : Below w.heap.size w w') : Env w' := ⟨h.sg.below hb h.pos, Nat.lt_of_lt_of_le h.pos hb.size, h.pow.below hb⟩
theorem Env.alloc {w : World} (h : Env w) (o : Obj) : Env (w.alloc o) := h.below ((Below.refl _ _).alloc (Nat.le_refl _) o)

/-- A step of the kind K is as the document says. -/
def PlaysSaid (K : Int) : Prop := ∀ (w : World) (a b : ByteArray) (o : Option Addr) (n c : Nat), Env w →
  Calls Tryz.prog 8 #[.agg #[.int .i64 K, .string a, .string b, .slice o n c]] w fun e w' => e = .returned (.bool true) ∧ Below w.heap.size w w'

set_option maxHeartbeats 4000000 in
set_option maxRecDepth 100000 in
theorem upTo_kind (K : Int) (PL : PlaysSaid K) (w : World) (b off len cap : Nat) (hops : Ops w b off len) (hb : b < w.heap.size) (hlen : len ≤ maxLen) (he : Env w) :
    Calls Tryz.prog 7 #[.slice (some ⟨b, off, none⟩) len cap, .int .i64 K, .int .i64 K] w fun e w' => e = .returned (.int .i64 (-1)) ∧ Below w.heap.size w w' := by
  have HOPS := hide hops
  have HE := hide he
  have HPL := hide PL
  clear hops he PL
  unfold maxLen at hlen
  go_enter Tryz.func7, Tryz.ntmps7
  go_wp2_with fail
  go_loopw [7] (fun i wr => ∃ k : Nat, k ≤ len ∧ i = .int .i64 k ∧ Below w.heap.size w wr) (fun i _ => len - (intOf i).toNat)
  case atStart => exact ⟨0, by omega, rfl, Below.refl _ _⟩
  case round =>
    obtain ⟨k, hk, rfl, hB⟩ := hrel
    have HB := hide hB
    have hz := hB.size
    by_cases hlt : k < len
    · obtain ⟨q, x, y, o, n, c, e0, e1, e2, e3⟩ := unhide HOPS k hlt
      have d0 := (hB.cell (p := ⟨b, off + k * 4, none⟩) hb).trans e0
      have d1 := (hB.cell (p := ⟨b, off + k * 4 + 1, none⟩) hb).trans e1
      have d2 := (hB.cell (p := ⟨b, off + k * 4 + 2, none⟩) hb).trans e2
      have d3 := (hB.cell (p := ⟨b, off + k * 4 + 3, none⟩) hb).trans e3
      clear e0 e1 e2 e3
      have HEW := hide ((unhide HE).below hB)
      clear hB
      by_cases hq : q = K
      · subst hq
        have g1 : decide (q ≤ q) = true := by simp
        go_wp2_with fail
        refine (unhide HPL _ x y o n c ((unhide HEW).alloc _)).mono ?_
        rintro e w2 ⟨rfl, hb2⟩
        have HB2 := hide hb2
        clear hb2 d0 d1 d2 d3 g1
        go_wp2_with fail
        go_roundw
        case rel => exact ⟨k + 1, by omega, by go_num, ((unhide HB).alloc hz _).trans ((unhide HB2).mono (by simp; omega))⟩
        case measure => simp [intOf]; omega
      · by_cases hq1 : K ≤ q
        · have g1 : decide (K ≤ q) = true := by simpa using hq1
          have g2 : decide (q ≤ K) = false := by simp; omega
          clear hq hq1
          go_wp2_with fail
          go_roundw
          case rel => exact ⟨k + 1, by omega, by go_num, (unhide HB).alloc hz _⟩
          case measure => simp [intOf]; omega
        · have g1 : decide (K ≤ q) = false := by simpa using hq1
          clear hq hq1
          go_wp2_with fail
          go_roundw
          case rel => exact ⟨k + 1, by omega, by go_num, (unhide HB).alloc hz _⟩
          case measure => simp [intOf]; omega
    · have hkl : k = len := by omega
      subst hkl
      clear hB
      go_wp2_with fail
      go_ret
      exact ⟨rfl, unhide HB⟩

set_option maxHeartbeats 4000000 in
set_option maxRecDepth 100000 in
theorem plays_show : PlaysSaid 2 := by
  intro w a b o n c he
  obtain ⟨L, hL, hh, hl⟩ := Parl.toks_of a
  have IA := hide (fun W (q : Env W) => shA_any W a L hL hh hl q.sg q.pos q.pow)
  have IB := hide (fun W => shB_any W a L hL hh)
  have HE := hide he
  clear he hL hh hl
  generalize Parl.ckE a L = ve at *
  generalize (⟨(Parl.shS a L).toArray⟩ : ByteArray) = vs at *
  go_enter Tryz.func8, Tryz.ntmps8
  go_wp2_with fail
  refine (unhide IA _ ((unhide HE).alloc _)).mono ?_
  rintro e w1 ⟨rfl, hb1⟩
  have HB1 := hide hb1
  have c1 := (hb1.cell (p := ⟨w.heap.size, 1, none⟩) (by simp)).trans (show (w.alloc (.cells #[.int .i64 2, .string a, .string b, .slice o n c] 27)).cell? ⟨w.heap.size, 1, none⟩ = some (.string a) by rw [blkA (heap_alloc_new w _)]; rfl)
  have hz1 : w.heap.size < w1.heap.size := by have := hb1.size; simp at this; omega
  clear hb1
  go_wp2_with fail
  refine (unhide IB w1).mono ?_
  rintro e w2 ⟨rfl, hb2⟩
  have HB2 := hide hb2
  clear hb2 c1
  go_wp2_with fail
  go_ret
  exact ⟨rfl, (((Below.refl _ _).alloc (Nat.le_refl _) _).trans ((unhide HB1).mono (by simp))).trans ((unhide HB2).mono (by omega))⟩

set_option maxHeartbeats 1000000 in
theorem shows_walk (w : World) (v : Value) (h : Calls Tryz.prog 7 #[v, .int .i64 2, .int .i64 2] w fun e w' => e = .returned (.int .i64 (-1)) ∧ Below w.heap.size w w') :
    Calls Tryz.prog 4 #[v] w fun e w' => e = .returned (.bool true) ∧ Below w.heap.size w w' := by
  have H := hide h
  clear h
  go_enter Tryz.func4, Tryz.ntmps4
  go_wp2_with fail
  refine (unhide H).mono ?_
  rintro e w1 ⟨rfl, hb⟩
  have HB := hide hb
  clear hb
  go_wp2_with fail
  go_ret
  exact ⟨rfl, unhide HB⟩
end Go.Proofs.YthkhcaanppdghaaGreatDoor
namespace Go.Proofs.YthkhcaanppdghaaGreatDoor
open Go.ChangeShapes Go.WideShapes Go.ChangeAt Go.RowKit

theorem gPow : Tryz.prog.globalNamed "internal/strconv.uint64pow10" = some 1 := by kernel_rfl
theorem gPowType : (Tryz.prog.globals[1]?).map (·.type) = some 227 := by kernel_rfl
theorem cellsPow : Tryz.prog.cellsOf 227 = 20 := by kernel_rfl
theorem cellsU64 : Tryz.prog.cellsOf 217 = 1 := by kernel_rfl

set_option maxRecDepth 100000 in
/-- What the row's list gives: the powers of ten. -/
theorem pow_of {W : World} (h : laidMetH Tryz.prog Rows.checksRow.laid W) : Pow W := by
  have h' : laidMet Tryz.prog Rows.checksRow.laid W := h
  obtain ⟨ps, ⟨_, _, _, _, _, _, _, _, _, _, ⟨_, _, _, _, _, _, _, _, _, _, ⟨g, t, cs, fuel, p, q, hg, ht, hvar, hd, _, _⟩, _⟩, _⟩, _⟩ := h'
  obtain rfl := Option.some.inj (gPow.symm.trans hg)
  obtain rfl := Option.some.inj (gPowType.symm.trans ht)
  unfold Pow Lib.TabIs
  rw [hvar, ← Lib.cells_of_tab (zs := Lib.pow10Tab) Tryz.underlying227 Tryz.underlying217 cellsU64 cellsPow hd]
theorem env_of {W : World} (h : laidMetH Tryz.prog Rows.checksRow.laid W) : Env W := ⟨(signs_of h).1, (signs_of h).2, pow_of h⟩
end Go.Proofs.YthkhcaanppdghaaGreatDoor
