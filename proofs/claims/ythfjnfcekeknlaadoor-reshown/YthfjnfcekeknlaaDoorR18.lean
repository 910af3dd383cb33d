import Derived.Test.YthfjnfcekeknlaaDoorR02
import Derived.Test.YthfjnfcekeknlaaDoorR17
import Derived.Deep.RegionWith
import Derived.Test.YthfjnfcekeknlaaDoorCards
import Derived.Test.YthfjnfcekeknlaaDoorTie
import Derived.WalkKit
import Derived.ProofKit
import Derived.OpenShut
import Derived.Carry
import Derived.Deep.DeepHandedRow
import Derived.Deep.Slices
import Derived.Lib.LaidTab
import Derived.Lib.SmallJoins
namespace Parl
/-- A clause as it is written, its line end left out; N: its variables. -/
def strCN (N : List (List UInt8)) (c : Cls) : List UInt8 := strF 8 N c.head ++ midC c ++ guardC N c ++ strL N c.goals ++ [46]
def strC0 (c : Cls) : List UInt8 := strCN (NG c) c
theorem strC_end (c : Cls) : strC c = strC0 c ++ [10] := by unfold strC strC0 strCN; simp
theorem NG_len (c : Cls) (h : okC c) (hw : wfC c) : (NG c).length ≤ 1000000 := by
  have n1 : (NH c).length ≤ 6561 := by
    obtain ⟨M, hM, hl⟩ := namesF_ext 8 c.head h.1 []
    unfold NH
    rw [hM]
    simpa using hl
  have n2 : (NT c).length ≤ (NH c).length + 120000 := namesL_len _ h.2.1 hw.2.2.1 _
  have n3 : (NG c).length ≤ (NT c).length + 120000 := namesL_len _ h.2.2 hw.2.2.2.2 _
  omega
end Parl
namespace Go.Proofs.YthfjnfcekeknlaaDoor
open Go.RowKit

theorem ClauseA.ok {w : World} {a : TV} {o1 : Option Addr} {n1 : Nat} {o2 : Option Addr} {n2 : Nat} {c : Parl.Cls} (h : ClauseA w a o1 n1 o2 n2 c) : Parl.okC c := ⟨h.head.ok3, h.tests.ok, h.goals.ok⟩
theorem sq_00 (A1 A3 : List UInt8) : (⟨A1.toArray⟩ : ByteArray) ++ ⟨A3.toArray⟩ ++ ⟨#[46]⟩ = ⟨(A1 ++ [] ++ [] ++ A3 ++ [46]).toArray⟩ := by
  rw [ba_lit, ba_app, ba_app]; simp
theorem sq_10 (A1 A3 : List UInt8) : (⟨A1.toArray⟩ : ByteArray) ++ ⟨#[32, 58, 45, 32]⟩ ++ ⟨A3.toArray⟩ ++ ⟨#[46]⟩ = ⟨(A1 ++ [32, 58, 45, 32] ++ [] ++ A3 ++ [46]).toArray⟩ := by
  rw [ba_lit, show (⟨#[32, 58, 45, 32]⟩ : ByteArray) = ⟨[32, 58, 45, 32].toArray⟩ from rfl, ba_app, ba_app, ba_app]; simp
theorem sq_01 (A1 A2 A3 : List UInt8) : (⟨A1.toArray⟩ : ByteArray) ++ ⟨A2.toArray⟩ ++ ⟨#[32, 124, 32]⟩ ++ ⟨A3.toArray⟩ ++ ⟨#[46]⟩ = ⟨(A1 ++ [] ++ (A2 ++ [32, 124, 32]) ++ A3 ++ [46]).toArray⟩ := by
  rw [ba_lit, show (⟨#[32, 124, 32]⟩ : ByteArray) = ⟨[32, 124, 32].toArray⟩ from rfl, ba_app, ba_app, ba_app, ba_app]; simp
theorem sq_11 (A1 A2 A3 : List UInt8) : (⟨A1.toArray⟩ : ByteArray) ++ ⟨#[32, 58, 45, 32]⟩ ++ ⟨A2.toArray⟩ ++ ⟨#[32, 124, 32]⟩ ++ ⟨A3.toArray⟩ ++ ⟨#[46]⟩ = ⟨(A1 ++ [32, 58, 45, 32] ++ (A2 ++ [32, 124, 32]) ++ A3 ++ [46]).toArray⟩ := by
  rw [ba_lit, show (⟨#[32, 124, 32]⟩ : ByteArray) = ⟨[32, 124, 32].toArray⟩ from rfl, show (⟨#[32, 58, 45, 32]⟩ : ByteArray) = ⟨[32, 58, 45, 32].toArray⟩ from rfl, ba_app, ba_app, ba_app, ba_app, ba_app]; simp
/-- A clause lies there; N: its variables. -/
structure ClauseN (N : List (List UInt8)) (w : World) (v : QV) (c : Parl.Cls) : Prop where
  head : RA 8 N anyA w v.a c.head
  tests : ItemsA N w v.o1 v.n1 c.tests
  goals : ItemsA N w v.o2 v.n2 c.goals
theorem ClauseN.keep {N : List (List UInt8)} {w w' : World} {v : QV} {c : Parl.Cls} (h : ClauseN N w v c) (hk : KeepAJ w w') : ClauseN N w' v c := ⟨hk.a.ra h.head, h.tests.keep hk, h.goals.keep hk⟩
theorem ClauseN.ok {N : List (List UInt8)} {w : World} {v : QV} {c : Parl.Cls} (h : ClauseN N w v c) : Parl.okC c := ⟨h.head.ok3, h.tests.ok, h.goals.ok⟩
def PStrN (N : List (List UInt8)) (c : Parl.Cls) (w : World) (e : Ending) (w' : World) : Prop := e = .returned (.string ⟨(Parl.strCN N c).toArray⟩) ∧ Below w.heap.size w w'
def PStrC (c : Parl.Cls) (w : World) (e : Ending) (w' : World) : Prop := e = .returned (.string ⟨(Parl.strC0 c).toArray⟩) ∧ Below w.heap.size w w'

set_option maxHeartbeats 4000000 in
set_option maxRecDepth 100000 in
theorem scA_00 (w : World) (N : List (List UInt8)) (v : QV) (c : Parl.Cls) (hc : ClauseN N w v c) (hw : Parl.wfC c) (hp : Pow w) (hN : N.length ≤ 1000000) (hg : c.goals.length = 0) (ht : c.tests.length = 0) :
    Calls Tryd.prog 39 #[.agg #[.int .i64 v.a.k, .int .i64 v.a.val, .string v.a.tx, .slice v.a.ao v.a.n v.a.cap, .slice v.o1 v.n1 v.c1, .slice v.o2 v.n2 v.c2]] w fun e w' => PStrN N c w e w' := by
  have hok := hc.ok
  have hn1 := hc.tests.1
  have hn2 := hc.goals.1
  obtain ⟨va, vo1, vn1, vc1, vo2, vn2, vc2⟩ := v
  dsimp only at hn1 hn2 ⊢
  obtain rfl : vn2 = 0 := by omega
  obtain rfl : vn1 = 0 := by omega
  have HF := hide (show Parl.strCN N c = Parl.strF 8 N c.head ++ [] ++ [] ++ Parl.strL N c.goals ++ [46] by unfold Parl.strCN Parl.midC Parl.guardC; rw [if_pos hg, if_pos ht])
  have HP0 := hide (hp.alloc (.cells #[.int .i64 va.k, .int .i64 va.val, .string va.tx, .slice va.ao va.n va.cap, .slice vo1 0 vc1, .slice vo2 0 vc2] 84))
  have HC0 := hide (hc.keep (KeepAJ.alloc _ (.cells #[.int .i64 va.k, .int .i64 va.val, .string va.tx, .slice va.ao va.n va.cap, .slice vo1 0 vc1, .slice vo2 0 vc2] 84)))
  have HBX0 := hide (heap_alloc_new w (.cells #[.int .i64 va.k, .int .i64 va.val, .string va.tx, .slice va.ao va.n va.cap, .slice vo1 0 vc1, .slice vo2 0 vc2] 84))
  have HOK := hide hok
  have HWC := hide hw
  clear hc hok hw hp hn1 hn2 hg ht
  go_enter Tryd.func39, Tryd.ntmps39
  go_wp2_with fail
  refine (stA_all 8 _ N va c.head (unhide HC0).head (unhide HP0) hN (by omega)).mono ?_
  unfold PStrT
  rintro e w1 ⟨rfl, hb⟩
  have hA1 := str_all hN c.head (unhide HOK).1
  have HP1 := hide ((unhide HP0).below hb)
  have HC1 := hide ((unhide HC0).keep (KeepAJ.below hb))
  have HBX1 := hide ((hb.block w.heap.size (blk_lt (unhide HBX0))).trans (unhide HBX0))
  have HB1 := hide (((Below.refl w.heap.size w).alloc (Nat.le_refl _) (.cells #[.int .i64 va.k, .int .i64 va.val, .string va.tx, .slice va.ao va.n va.cap, .slice vo1 0 vc1, .slice vo2 0 vc2] 84)).trans (hb.mono (by simp)))
  have r1 := blkA (unhide HBX1)
  have z1 := blk_lt (unhide HBX1)
  clear hb
  generalize hAA1 : Parl.strF 8 N c.head = A1 at *
  have HA1 := hide hAA1
  clear hAA1
  go_wp2_with fail
  refine (smA_any _ N vo2 0 vc2 c.goals (unhide HC1).goals (unhide HWC).2.2.2.1 (unhide HWC).2.2.2.2 (unhide HP1) hN).mono ?_
  unfold PStrM
  rintro e w2 ⟨rfl, hb⟩
  have hA2 := Parl.strL_len c.goals N (unhide HOK).2.2 (unhide HWC).2.2.2.1 (unhide HWC).2.2.2.2 (fun t ht => str_all hN t ht)
  have HP2 := hide ((unhide HP1).below hb)
  have HC2 := hide ((unhide HC1).keep (KeepAJ.below hb))
  have HBX2 := hide ((hb.block w.heap.size (blk_lt (unhide HBX1))).trans (unhide HBX1))
  have HB2 := hide ((unhide HB1).trans (hb.mono (unhide HB1).size))
  have r2 := blkA (unhide HBX2)
  have z2 := blk_lt (unhide HBX2)
  clear hb r1 z1
  generalize hAA2 : Parl.strL N c.goals = A2 at *
  have HA2 := hide hAA2
  clear hAA2
  go_wp2_with fail
  go_ret
  refine ⟨?_, unhide HB2⟩
  rw [unhide HF, ← sq_00]
  rfl

set_option maxHeartbeats 4000000 in
set_option maxRecDepth 100000 in
theorem scA_01 (w : World) (N : List (List UInt8)) (v : QV) (c : Parl.Cls) (hc : ClauseN N w v c) (hw : Parl.wfC c) (hp : Pow w) (hN : N.length ≤ 1000000) (hg : c.goals.length = 0) (ht : c.tests.length ≠ 0) :
    Calls Tryd.prog 39 #[.agg #[.int .i64 v.a.k, .int .i64 v.a.val, .string v.a.tx, .slice v.a.ao v.a.n v.a.cap, .slice v.o1 v.n1 v.c1, .slice v.o2 v.n2 v.c2]] w fun e w' => PStrN N c w e w' := by
  have hok := hc.ok
  have hn1 := hc.tests.1
  have hn2 := hc.goals.1
  obtain ⟨va, vo1, vn1, vc1, vo2, vn2, vc2⟩ := v
  dsimp only at hn1 hn2 ⊢
  obtain rfl : vn2 = 0 := by omega
  have t2 : decide (0 < vn1) = true := by simp; omega
  have HF := hide (show Parl.strCN N c = Parl.strF 8 N c.head ++ [] ++ (Parl.strL N c.tests ++ [32, 124, 32]) ++ Parl.strL N c.goals ++ [46] by unfold Parl.strCN Parl.midC Parl.guardC; rw [if_pos hg, if_neg ht])
  have HP0 := hide (hp.alloc (.cells #[.int .i64 va.k, .int .i64 va.val, .string va.tx, .slice va.ao va.n va.cap, .slice vo1 vn1 vc1, .slice vo2 0 vc2] 84))
  have HC0 := hide (hc.keep (KeepAJ.alloc _ (.cells #[.int .i64 va.k, .int .i64 va.val, .string va.tx, .slice va.ao va.n va.cap, .slice vo1 vn1 vc1, .slice vo2 0 vc2] 84)))
  have HBX0 := hide (heap_alloc_new w (.cells #[.int .i64 va.k, .int .i64 va.val, .string va.tx, .slice va.ao va.n va.cap, .slice vo1 vn1 vc1, .slice vo2 0 vc2] 84))
  have HOK := hide hok
  have HWC := hide hw
  clear hc hok hw hp hn1 hn2 hg ht
  go_enter Tryd.func39, Tryd.ntmps39
  go_wp2_with fail
  refine (stA_all 8 _ N va c.head (unhide HC0).head (unhide HP0) hN (by omega)).mono ?_
  unfold PStrT
  rintro e w1 ⟨rfl, hb⟩
  have hA1 := str_all hN c.head (unhide HOK).1
  have HP1 := hide ((unhide HP0).below hb)
  have HC1 := hide ((unhide HC0).keep (KeepAJ.below hb))
  have HBX1 := hide ((hb.block w.heap.size (blk_lt (unhide HBX0))).trans (unhide HBX0))
  have HB1 := hide (((Below.refl w.heap.size w).alloc (Nat.le_refl _) (.cells #[.int .i64 va.k, .int .i64 va.val, .string va.tx, .slice va.ao va.n va.cap, .slice vo1 vn1 vc1, .slice vo2 0 vc2] 84)).trans (hb.mono (by simp)))
  have r1 := blkA (unhide HBX1)
  have z1 := blk_lt (unhide HBX1)
  clear hb
  generalize hAA1 : Parl.strF 8 N c.head = A1 at *
  have HA1 := hide hAA1
  clear hAA1
  go_wp2_with fail
  refine (smA_any _ N vo1 vn1 vc1 c.tests (unhide HC1).tests (unhide HWC).2.1 (unhide HWC).2.2.1 (unhide HP1) hN).mono ?_
  unfold PStrM
  rintro e w2 ⟨rfl, hb⟩
  have hA2 := Parl.strL_len c.tests N (unhide HOK).2.1 (unhide HWC).2.1 (unhide HWC).2.2.1 (fun t ht => str_all hN t ht)
  have HP2 := hide ((unhide HP1).below hb)
  have HC2 := hide ((unhide HC1).keep (KeepAJ.below hb))
  have HBX2 := hide ((hb.block w.heap.size (blk_lt (unhide HBX1))).trans (unhide HBX1))
  have HB2 := hide ((unhide HB1).trans (hb.mono (unhide HB1).size))
  have r2 := blkA (unhide HBX2)
  have z2 := blk_lt (unhide HBX2)
  clear hb r1 z1
  generalize hAA2 : Parl.strL N c.tests = A2 at *
  have HA2 := hide hAA2
  clear hAA2
  go_wp2_with fail
  refine (smA_any _ N vo2 0 vc2 c.goals (unhide HC2).goals (unhide HWC).2.2.2.1 (unhide HWC).2.2.2.2 (unhide HP2) hN).mono ?_
  unfold PStrM
  rintro e w3 ⟨rfl, hb⟩
  have hA3 := Parl.strL_len c.goals N (unhide HOK).2.2 (unhide HWC).2.2.2.1 (unhide HWC).2.2.2.2 (fun t ht => str_all hN t ht)
  have HP3 := hide ((unhide HP2).below hb)
  have HC3 := hide ((unhide HC2).keep (KeepAJ.below hb))
  have HBX3 := hide ((hb.block w.heap.size (blk_lt (unhide HBX2))).trans (unhide HBX2))
  have HB3 := hide ((unhide HB2).trans (hb.mono (unhide HB2).size))
  have r3 := blkA (unhide HBX3)
  have z3 := blk_lt (unhide HBX3)
  clear hb r2 z2
  generalize hAA3 : Parl.strL N c.goals = A3 at *
  have HA3 := hide hAA3
  clear hAA3
  go_wp2_with fail
  go_ret
  refine ⟨?_, unhide HB3⟩
  rw [unhide HF, ← sq_01]
  rfl

set_option maxHeartbeats 4000000 in
set_option maxRecDepth 100000 in
theorem scA_10 (w : World) (N : List (List UInt8)) (v : QV) (c : Parl.Cls) (hc : ClauseN N w v c) (hw : Parl.wfC c) (hp : Pow w) (hN : N.length ≤ 1000000) (hg : c.goals.length ≠ 0) (ht : c.tests.length = 0) :
    Calls Tryd.prog 39 #[.agg #[.int .i64 v.a.k, .int .i64 v.a.val, .string v.a.tx, .slice v.a.ao v.a.n v.a.cap, .slice v.o1 v.n1 v.c1, .slice v.o2 v.n2 v.c2]] w fun e w' => PStrN N c w e w' := by
  have hok := hc.ok
  have hn1 := hc.tests.1
  have hn2 := hc.goals.1
  obtain ⟨va, vo1, vn1, vc1, vo2, vn2, vc2⟩ := v
  dsimp only at hn1 hn2 ⊢
  have g2 : decide (0 < vn2) = true := by simp; omega
  obtain rfl : vn1 = 0 := by omega
  have HF := hide (show Parl.strCN N c = Parl.strF 8 N c.head ++ [32, 58, 45, 32] ++ [] ++ Parl.strL N c.goals ++ [46] by unfold Parl.strCN Parl.midC Parl.guardC; rw [if_neg hg, if_pos ht])
  have HP0 := hide (hp.alloc (.cells #[.int .i64 va.k, .int .i64 va.val, .string va.tx, .slice va.ao va.n va.cap, .slice vo1 0 vc1, .slice vo2 vn2 vc2] 84))
  have HC0 := hide (hc.keep (KeepAJ.alloc _ (.cells #[.int .i64 va.k, .int .i64 va.val, .string va.tx, .slice va.ao va.n va.cap, .slice vo1 0 vc1, .slice vo2 vn2 vc2] 84)))
  have HBX0 := hide (heap_alloc_new w (.cells #[.int .i64 va.k, .int .i64 va.val, .string va.tx, .slice va.ao va.n va.cap, .slice vo1 0 vc1, .slice vo2 vn2 vc2] 84))
  have HOK := hide hok
  have HWC := hide hw
  clear hc hok hw hp hn1 hn2 hg ht
  go_enter Tryd.func39, Tryd.ntmps39
  go_wp2_with fail
  refine (stA_all 8 _ N va c.head (unhide HC0).head (unhide HP0) hN (by omega)).mono ?_
  unfold PStrT
  rintro e w1 ⟨rfl, hb⟩
  have hA1 := str_all hN c.head (unhide HOK).1
  have HP1 := hide ((unhide HP0).below hb)
  have HC1 := hide ((unhide HC0).keep (KeepAJ.below hb))
  have HBX1 := hide ((hb.block w.heap.size (blk_lt (unhide HBX0))).trans (unhide HBX0))
  have HB1 := hide (((Below.refl w.heap.size w).alloc (Nat.le_refl _) (.cells #[.int .i64 va.k, .int .i64 va.val, .string va.tx, .slice va.ao va.n va.cap, .slice vo1 0 vc1, .slice vo2 vn2 vc2] 84)).trans (hb.mono (by simp)))
  have r1 := blkA (unhide HBX1)
  have z1 := blk_lt (unhide HBX1)
  clear hb
  generalize hAA1 : Parl.strF 8 N c.head = A1 at *
  have HA1 := hide hAA1
  clear hAA1
  go_wp2_with fail
  refine (smA_any _ N vo2 vn2 vc2 c.goals (unhide HC1).goals (unhide HWC).2.2.2.1 (unhide HWC).2.2.2.2 (unhide HP1) hN).mono ?_
  unfold PStrM
  rintro e w2 ⟨rfl, hb⟩
  have hA2 := Parl.strL_len c.goals N (unhide HOK).2.2 (unhide HWC).2.2.2.1 (unhide HWC).2.2.2.2 (fun t ht => str_all hN t ht)
  have HP2 := hide ((unhide HP1).below hb)
  have HC2 := hide ((unhide HC1).keep (KeepAJ.below hb))
  have HBX2 := hide ((hb.block w.heap.size (blk_lt (unhide HBX1))).trans (unhide HBX1))
  have HB2 := hide ((unhide HB1).trans (hb.mono (unhide HB1).size))
  have r2 := blkA (unhide HBX2)
  have z2 := blk_lt (unhide HBX2)
  clear hb r1 z1
  generalize hAA2 : Parl.strL N c.goals = A2 at *
  have HA2 := hide hAA2
  clear hAA2
  go_wp2_with fail
  go_ret
  refine ⟨?_, unhide HB2⟩
  rw [unhide HF, ← sq_10]
  rfl

set_option maxHeartbeats 4000000 in
set_option maxRecDepth 100000 in
theorem scA_11 (w : World) (N : List (List UInt8)) (v : QV) (c : Parl.Cls) (hc : ClauseN N w v c) (hw : Parl.wfC c) (hp : Pow w) (hN : N.length ≤ 1000000) (hg : c.goals.length ≠ 0) (ht : c.tests.length ≠ 0) :
    Calls Tryd.prog 39 #[.agg #[.int .i64 v.a.k, .int .i64 v.a.val, .string v.a.tx, .slice v.a.ao v.a.n v.a.cap, .slice v.o1 v.n1 v.c1, .slice v.o2 v.n2 v.c2]] w fun e w' => PStrN N c w e w' := by
  have hok := hc.ok
  have hn1 := hc.tests.1
  have hn2 := hc.goals.1
  obtain ⟨va, vo1, vn1, vc1, vo2, vn2, vc2⟩ := v
  dsimp only at hn1 hn2 ⊢
  have g2 : decide (0 < vn2) = true := by simp; omega
  have t2 : decide (0 < vn1) = true := by simp; omega
  have HF := hide (show Parl.strCN N c = Parl.strF 8 N c.head ++ [32, 58, 45, 32] ++ (Parl.strL N c.tests ++ [32, 124, 32]) ++ Parl.strL N c.goals ++ [46] by unfold Parl.strCN Parl.midC Parl.guardC; rw [if_neg hg, if_neg ht])
  have HP0 := hide (hp.alloc (.cells #[.int .i64 va.k, .int .i64 va.val, .string va.tx, .slice va.ao va.n va.cap, .slice vo1 vn1 vc1, .slice vo2 vn2 vc2] 84))
  have HC0 := hide (hc.keep (KeepAJ.alloc _ (.cells #[.int .i64 va.k, .int .i64 va.val, .string va.tx, .slice va.ao va.n va.cap, .slice vo1 vn1 vc1, .slice vo2 vn2 vc2] 84)))
  have HBX0 := hide (heap_alloc_new w (.cells #[.int .i64 va.k, .int .i64 va.val, .string va.tx, .slice va.ao va.n va.cap, .slice vo1 vn1 vc1, .slice vo2 vn2 vc2] 84))
  have HOK := hide hok
  have HWC := hide hw
  clear hc hok hw hp hn1 hn2 hg ht
  go_enter Tryd.func39, Tryd.ntmps39
  go_wp2_with fail
  refine (stA_all 8 _ N va c.head (unhide HC0).head (unhide HP0) hN (by omega)).mono ?_
  unfold PStrT
  rintro e w1 ⟨rfl, hb⟩
  have hA1 := str_all hN c.head (unhide HOK).1
  have HP1 := hide ((unhide HP0).below hb)
  have HC1 := hide ((unhide HC0).keep (KeepAJ.below hb))
  have HBX1 := hide ((hb.block w.heap.size (blk_lt (unhide HBX0))).trans (unhide HBX0))
  have HB1 := hide (((Below.refl w.heap.size w).alloc (Nat.le_refl _) (.cells #[.int .i64 va.k, .int .i64 va.val, .string va.tx, .slice va.ao va.n va.cap, .slice vo1 vn1 vc1, .slice vo2 vn2 vc2] 84)).trans (hb.mono (by simp)))
  have r1 := blkA (unhide HBX1)
  have z1 := blk_lt (unhide HBX1)
  clear hb
  generalize hAA1 : Parl.strF 8 N c.head = A1 at *
  have HA1 := hide hAA1
  clear hAA1
  go_wp2_with fail
  refine (smA_any _ N vo1 vn1 vc1 c.tests (unhide HC1).tests (unhide HWC).2.1 (unhide HWC).2.2.1 (unhide HP1) hN).mono ?_
  unfold PStrM
  rintro e w2 ⟨rfl, hb⟩
  have hA2 := Parl.strL_len c.tests N (unhide HOK).2.1 (unhide HWC).2.1 (unhide HWC).2.2.1 (fun t ht => str_all hN t ht)
  have HP2 := hide ((unhide HP1).below hb)
  have HC2 := hide ((unhide HC1).keep (KeepAJ.below hb))
  have HBX2 := hide ((hb.block w.heap.size (blk_lt (unhide HBX1))).trans (unhide HBX1))
  have HB2 := hide ((unhide HB1).trans (hb.mono (unhide HB1).size))
  have r2 := blkA (unhide HBX2)
  have z2 := blk_lt (unhide HBX2)
  clear hb r1 z1
  generalize hAA2 : Parl.strL N c.tests = A2 at *
  have HA2 := hide hAA2
  clear hAA2
  go_wp2_with fail
  refine (smA_any _ N vo2 vn2 vc2 c.goals (unhide HC2).goals (unhide HWC).2.2.2.1 (unhide HWC).2.2.2.2 (unhide HP2) hN).mono ?_
  unfold PStrM
  rintro e w3 ⟨rfl, hb⟩
  have hA3 := Parl.strL_len c.goals N (unhide HOK).2.2 (unhide HWC).2.2.2.1 (unhide HWC).2.2.2.2 (fun t ht => str_all hN t ht)
  have HP3 := hide ((unhide HP2).below hb)
  have HC3 := hide ((unhide HC2).keep (KeepAJ.below hb))
  have HBX3 := hide ((hb.block w.heap.size (blk_lt (unhide HBX2))).trans (unhide HBX2))
  have HB3 := hide ((unhide HB2).trans (hb.mono (unhide HB2).size))
  have r3 := blkA (unhide HBX3)
  have z3 := blk_lt (unhide HBX3)
  clear hb r2 z2
  generalize hAA3 : Parl.strL N c.goals = A3 at *
  have HA3 := hide hAA3
  clear hAA3
  go_wp2_with fail
  go_ret
  refine ⟨?_, unhide HB3⟩
  rw [unhide HF, ← sq_11]
  rfl

theorem scA_any (w : World) (v : QV) (c : Parl.Cls) (hc : ClauseA w v.a v.o1 v.n1 v.o2 v.n2 c) (hw : Parl.wfC c) (hp : Pow w) :
    Calls Tryd.prog 39 #[.agg #[.int .i64 v.a.k, .int .i64 v.a.val, .string v.a.tx, .slice v.a.ao v.a.n v.a.cap, .slice v.o1 v.n1 v.c1, .slice v.o2 v.n2 v.c2]] w fun e w' => PStrC c w e w' := by
  have hn : ClauseN (Parl.NG c) w v c := ⟨hc.head, hc.tests, hc.goals⟩
  have hN := Parl.NG_len c hn.ok hw
  by_cases hg : c.goals.length = 0
  · by_cases ht : c.tests.length = 0
    · exact scA_00 w _ v c hn hw hp hN hg ht
    · exact scA_01 w _ v c hn hw hp hN hg ht
  · by_cases ht : c.tests.length = 0
    · exact scA_10 w _ v c hn hw hp hN hg ht
    · exact scA_11 w _ v c hn hw hp hN hg ht

theorem strC0_len (c : Parl.Cls) (h : Parl.okC c) (hw : Parl.wfC c) : (Parl.strC0 c).length ≤ 70000000 := by
  have := Parl.strC_len c h hw (fun N hN t ht => str_all hN t ht)
  rw [Parl.strC_end, List.length_append] at this
  omega
theorem sp_more (S A : List UInt8) : (⟨S.toArray⟩ : ByteArray) ++ ⟨A.toArray⟩ ++ ⟨#[10]⟩ = ⟨(S ++ (A ++ [10])).toArray⟩ := by
  rw [ba_lit, ba_app, ba_app]; simp

set_option maxHeartbeats 4000000 in
set_option maxRecDepth 100000 in
theorem spA_some (w : World) (lo : Option Addr) (n cp : Nat) (ys : List Parl.Cls) (hy : ClausesA w lo n ys) (hne : ys ≠ []) (hw : ∀ c ∈ ys, Parl.wfC c) (h13 : ys.length ≤ 13) (hp : Pow w) :
    Calls Tryd.prog 20 #[.slice lo n cp] w fun e w' => e = .returned (.string ⟨(Parl.strP ys).toArray⟩) ∧ Below w.heap.size w w' := by
  obtain ⟨rfl, hy2⟩ := hy
  obtain ⟨g, vs, cs, rfl, hcs, htk, hall⟩ := hy2 hne
  have HWF := hide hw
  have HL := hide (show LS w ys ys.length (.string ⟨#[]⟩) (.int .i64 0) w from ⟨0, by omega, rfl, by simp [Parl.strP], Below.refl _ _⟩)
  have HCS := hide hcs
  have HTK := hide htk
  have HALL := hide hall
  have HVL := hide hall.length
  have H13 := hide h13
  have HPW := hide hp
  clear hcs htk hall hy2 hw h13 hne hp
  go_enter Tryd.func20, Tryd.ntmps20
  go_wp2_with fail
  go_loopg [3, 8] ys.length (fun k s i wr => LS w ys k s i wr)
  case atStart => exact unhide HL
  case round =>
    clear HL
    obtain ⟨j, hkj, rfl, rfl, hB⟩ := hrel
    have h13 := unhide H13
    have hz := hB.size
    have HB := hide hB
    have hSl : (Parl.strP (ys.take j)).length ≤ 910000000 := by
      have h1 := Parl.strP_len (ys.take j) (fun c hc => by
        have hm := List.mem_of_mem_take hc
        obtain ⟨i, hi, rfl⟩ := List.getElem_of_mem hm
        exact Parl.strC_len _ (ClauseA.ok ((unhide HALL).at i (by have := unhide HVL; omega) hi)) (unhide HWF ys[i] hm) (fun N hN t ht => str_all hN t ht))
      have h2 : (ys.take j).length ≤ 13 := by simp; omega
      have h3 := Nat.mul_le_mul_right 70000000 h2
      omega
    by_cases hlt' : j < ys.length
    · have hjv : j < vs.length := by have := unhide HVL; omega
      have hcw : wr.heap[g]? = some (.cells cs 84 (0, 0)) := (hB.block g (Array.getElem?_eq_some_iff.1 (unhide HCS)).1).trans (unhide HCS)
      have fc : ∀ i, i < 6 → wr.cell? ⟨g, j * 6 + i, none⟩ = (qvC vs[j])[i]? := fun i hi => by
        rw [blkA hcw, ← Array.getElem?_toList, ← qvC_at hjv i hi, ← unhide HTK, List.getElem?_take_of_lt (by omega)]
      have f0 := fc 0 (by omega)
      have f1 := fc 1 (by omega)
      have f2 := fc 2 (by omega)
      have f3 := fc 3 (by omega)
      have f4 := fc 4 (by omega)
      have f5 := fc 5 (by omega)
      simp only [qvC, List.getElem?_cons_zero, List.getElem?_cons_succ, Nat.add_zero] at f0 f1 f2 f3 f4 f5
      have hit : ClauseA wr vs[j].a vs[j].o1 vs[j].n1 vs[j].o2 vs[j].n2 ys[j] := ClauseA.keep ((unhide HALL).at j hjv hlt') (KeepAJ.below hB)
      have IC := hide (scA_any (wr.alloc (.cells #[.int .i64 vs[j].a.k, .int .i64 vs[j].a.val, .string vs[j].a.tx, .slice vs[j].a.ao vs[j].a.n vs[j].a.cap, .slice vs[j].o1 vs[j].n1 vs[j].c1, .slice vs[j].o2 vs[j].n2 vs[j].c2] 84)) vs[j] ys[j] (hit.keep (KeepAJ.alloc _ _)) (unhide HWF _ (List.getElem_mem hlt')) (((unhide HPW).below hB).alloc _))
      have hgw : g < wr.heap.size := blk_lt hcw
      have i0 : (0 : Int) ≤ (j : Int) := by omega
      have i1 : (j : Int) < (ys.length : Int) := by omega
      have hA : (Parl.strC0 ys[j]).length ≤ 70000000 := strC0_len _ hit.ok (unhide HWF _ (List.getElem_mem hlt'))
      have HMORE := hide (Parl.strP_more hlt')
      rw [Parl.strC_end] at HMORE
      have HKJ := hide hkj
      have HLT := hide hlt'
      have hj13 : j ≤ 13 := by omega
      clear hit fc hcw hkj h13 hB
      generalize hSS : Parl.strP (ys.take j) = S at *
      clear hSS
      unfold PStrC at IC
      generalize hAA : Parl.strC0 ys[j] = A at *
      clear hAA
      go_wp2_with fail
      refine (unhide IC).mono ?_
      rintro e w2 ⟨rfl, hb2⟩
      have HB2 := hide ((unhide HB).trans (((Below.refl _ _).alloc hz _).trans (hb2.mono (by simp; omega))))
      clear hb2 IC f0 f1 f2 f3 f4 f5
      go_wp2_with fail
      go_roundg (gk - 1)
      case measure => have := unhide HKJ; have := unhide HLT; omega
      case rel => exact ⟨j + 1, by have := unhide HKJ; have := unhide HLT; omega, by go_num, by rw [unhide HMORE]; exact congrArg Value.string (sp_more _ _), unhide HB2⟩
    · obtain rfl : j = ys.length := by omega
      rw [List.take_length]
      generalize hSS : Parl.strP ys = S at *
      have HSS := hide hSS
      clear hSS hkj h13 hB
      go_wp2_with fail
      go_ret
      exact ⟨by rw [unhide HSS]; rfl, unhide HB⟩

set_option maxHeartbeats 1000000 in
theorem spA_none (w : World) (lo : Option Addr) (cp : Nat) :
    Calls Tryd.prog 20 #[.slice lo 0 cp] w fun e w' => e = .returned (.string ⟨#[]⟩) ∧ Below w.heap.size w w' := by
  go_enter Tryd.func20, Tryd.ntmps20
  go_wp2_with fail
  refine wp_loop_rounds 1 ?_
  rw [rounds_succ]
  go_wp2_with fail
  go_ret
  exact ⟨rfl, Below.refl _ _⟩
theorem spA_any (w : World) (lo : Option Addr) (n cp : Nat) (ys : List Parl.Cls) (hy : ClausesA w lo n ys) (hw : ∀ c ∈ ys, Parl.wfC c) (h13 : ys.length ≤ 13) (hp : Pow w) :
    Calls Tryd.prog 20 #[.slice lo n cp] w fun e w' => e = .returned (.string ⟨(Parl.strP ys).toArray⟩) ∧ Below w.heap.size w w' := by
  by_cases hne : ys = []
  · subst hne
    obtain ⟨rfl, _⟩ := hy
    exact spA_none w lo cp
  · exact spA_some w lo n cp ys hy hne hw h13 hp
end Go.Proofs.YthfjnfcekeknlaaDoor
namespace Go.Proofs.YthfjnfcekeknlaaDoor
open Go.RowKit

set_option maxHeartbeats 4000000 in
set_option maxRecDepth 100000 in
theorem showA_gen (w : World) (s : ByteArray) (er : Int) (X : ByteArray)
    (hA : Calls Tryd.prog 19 #[.string s] w fun e w1 => ∃ (o : Option Addr) (n c : Nat) (ps : Int), e = .returned (.agg #[.slice o n c, .int .i64 er, .int .i64 ps]) ∧
      (∀ W, Below w1.heap.size w1 W → Calls Tryd.prog 20 #[.slice o n c] W fun e w2 => e = .returned (.string X) ∧ Below W.heap.size W w2) ∧ Below w.heap.size w w1) :
    Calls Tryd.prog 9 #[.string s] w fun e w' => e = .returned (.tuple #[.string X, .int .i64 er]) ∧ Below w.heap.size w w' := by
  have IA := hide hA
  clear hA
  go_enter Tryd.func9, Tryd.ntmps9
  go_wp2_with fail
  refine (unhide IA).mono ?_
  rintro e w1 ⟨o, n, c, ps, rfl, hS, hB⟩
  have SP := hide hS
  have HB := hide hB
  have hz := hB.size
  clear hS hB IA
  go_wp2_with fail
  go_region_with (go_at_call 20; refine (unhide SP _ (((Below.refl _ _).alloc (Nat.le_refl _) _).drew)).mono ?_; rintro e w2 ⟨rfl, hb2⟩; have q2 := (hb2.block w1.heap.size (by simp)).trans (heap_alloc_new w1 (.cells #[.slice o n c, .int .i64 er, .int .i64 ps] 46)); have r2 := blkA q2; have z2 := blk_lt q2; have HB2 := hide hb2; clear hb2 q2)
  all_goals
    go_wp2_with fail
    go_ret2
    exact ⟨rfl, (((unhide HB).alloc hz (.cells #[.slice o n c, .int .i64 er, .int .i64 ps] 46)).drew).trans ((unhide HB2).mono (by simp; omega))⟩

theorem prA_short {w : World} {s : ByteArray} {L : List Parl.Tok} (hs : s.size ≤ 240) (hL : Parl.Chain s L) (hh : Parl.hd L = Parl.next s 0) (hl : L.length ≤ 1000) (hsg : Signs w) (h0 : 0 < w.heap.size) (hp : Pow w) :
    Calls Tryd.prog 9 #[.string s] w fun e w' => e = .returned (.tuple #[.string ⟨(Parl.shS s L).toArray⟩, .int .i64 (Parl.ckE s L : Int)]) ∧ Below w.heap.size w w' := by
  have e1 : Parl.ckE s L = Parl.errOf (Parl.prog 12 L) := by unfold Parl.ckE; rw [if_neg (by omega)]
  rw [e1]
  refine showA_gen w s _ _ ((prA_any w s L hs hL hh hl hsg h0).mono ?_)
  rintro e w1 ⟨o, n, c, rfl, hv, hB⟩
  refine ⟨o, n, c, _, rfl, fun W hW => ?_, hB⟩
  have hpW : Pow W := (hp.below hB).below hW
  rcases hr : Parl.prog 12 L with ⟨er, ps⟩ | ⟨ys, l1⟩
  · rw [hr] at hv
    have hn : n = 0 := hv
    rw [hn, show Parl.shS s L = [] by unfold Parl.shS; rw [if_neg (by omega), hr]]
    exact spA_none W o c
  · rw [hr] at hv
    have hc : ClausesA w1 o n ys := hv
    have hwf := Parl.wf_prog 12 L ys l1 hr
    rw [show Parl.shS s L = Parl.strP ys by unfold Parl.shS; rw [if_neg (by omega), hr]]
    exact spA_any W o n c ys (hc.below hW) hwf.1 hwf.2 hpW
theorem shA_any (w : World) (s : ByteArray) (L : List Parl.Tok) (hL : Parl.Chain s L) (hh : Parl.hd L = Parl.next s 0) (hl : s.size ≤ 240 → L.length ≤ 1000) (hsg : Signs w) (h0 : 0 < w.heap.size) (hp : Pow w) :
    Calls Tryd.prog 9 #[.string s] w fun e w' => e = .returned (.tuple #[.string ⟨(Parl.shS s L).toArray⟩, .int .i64 (Parl.ckE s L : Int)]) ∧ Below w.heap.size w w' := by
  by_cases hs : 240 < s.size
  · rw [show Parl.ckE s L = 1 by unfold Parl.ckE; rw [if_pos hs], show Parl.shS s L = [] by unfold Parl.shS; rw [if_pos hs]]
    refine showA_gen w s _ _ ((prA_long w s hs).mono ?_)
    rintro e w1 ⟨rfl, hB⟩
    exact ⟨none, 0, 0, _, rfl, fun W _ => spA_none W none 0, hB⟩
  · exact prA_short (by omega) hL hh (hl (by omega)) hsg h0 hp
end Go.Proofs.YthfjnfcekeknlaaDoor
namespace Go.Proofs.YthfjnfcekeknlaaDoor
open Go.RowKit
/-- What every call finds: the tables. -/
structure Env (w : World) : Prop where
  sg : Signs w
  pos : 0 < w.heap.size
  pow : Pow w
theorem Env.below {w w' : World} (h : Env w) (hb : Below w.heap.size w w') : Env w' := ⟨h.sg.below hb h.pos, Nat.lt_of_lt_of_le h.pos hb.size, h.pow.below hb⟩
theorem Env.alloc {w : World} (h : Env w) (o : Obj) : Env (w.alloc o) := h.below ((Below.refl _ _).alloc (Nat.le_refl _) o)
end Go.Proofs.YthfjnfcekeknlaaDoor
namespace Go.Proofs.YthfjnfcekeknlaaDoor
open Go.ChangeShapes Go.WideShapes Go.ChangeAt Go.RowKit

theorem lawOwn : ownKnob Tryd.prog.godebug = Option.none := by kernel_rfl
theorem lawLaid : laidOutB Tryd.prog = true := by kernel_rfl
theorem gSigns : Tryd.prog.globalNamed "parley/scan.longSigns" = some 0 := by kernel_rfl
theorem gSignsType : (Tryd.prog.globals[0]?).map (·.type) = some 126 := by kernel_rfl
theorem cellsSigns : Tryd.prog.cellsOf 126 = 5 := by kernel_rfl
theorem cellsStr : Tryd.prog.cellsOf 9 = 1 := by kernel_rfl
theorem cellsInt : Tryd.prog.cellsOf 3 = 1 := by kernel_rfl
/-- An array of texts that reads so holds them, cell for cell. -/
theorem cells_of_strs {H : Type} {enc : TypeId × Value → H} {P : Program} {w : World} {base : Nat} {sp : Nat → Bool} {held : Bool} {fuel : Nat} {t e : TypeId} {n : Nat} {cs : List Value} {zs : List (List UInt8)} {p : List MemPlace}
    (ht : P.underlying t = some (.array n e)) (he : P.underlying e = some .string) (hce : P.cellsOf e = 1) (hct : P.cellsOf t = n)
    (h : DataW.trod enc P w base sp held fuel t cs = some (.agg (zs.map fun z => .lit (.string z)), p)) : cs = zs.map fun z => Value.string ⟨z.toArray⟩ := by
  cases fuel with
  | zero => simp [DataW.trod] at h
  | succ fuel =>
    simp only [DataW.trod, ht, hce, hct, Nat.mul_one] at h
    split at h
    · rename_i hl
      obtain ⟨xs, hm, hx⟩ := Option.map_eq_some_iff.1 h
      have hxs : xs.map (·.1) = zs.map fun z => (DataW.lit (.string z) : DataW H) := by
        have := congrArg Prod.fst hx
        simpa using this
      have hxl : xs.length = n := by simpa using Lib.mapM_length hm
      have hzl : zs.length = n := by
        have := congrArg List.length hxs
        simp at this
        omega
      apply List.ext_getElem?
      intro i
      by_cases hi : i < n
      · obtain ⟨b, hb, hf⟩ := Lib.mapM_at hm i i (by simp [hi])
        obtain ⟨z, hc, rfl, _⟩ := DataW.trod_string he hf
        have h1 : cs[i]? = some (.string z) := by
          have := congrArg (·[0]?) hc
          simpa [List.getElem?_take, List.getElem?_drop] using this
        have h2 : (xs.map (·.1))[i]? = some (DataW.lit (.string z.data.toList) : DataW H) := by simp [hb]
        rw [hxs] at h2
        simp only [List.getElem?_map, Option.map_eq_some_iff, DataW.lit.injEq, Lit.string.injEq] at h2
        obtain ⟨z', hz', hzz⟩ := h2
        rw [h1, List.getElem?_map, hz', hzz]
        rfl
      · rw [List.getElem?_eq_none (by omega), List.getElem?_eq_none (by simp; omega)]
    · cases h

set_option maxRecDepth 100000 in
/-- What the row's list gives: the signs of two letters. -/
theorem signs_of {W : World} (h : laidMetH Tryd.prog Rows.reshownRow.laid W) : Signs W ∧ 0 < W.heap.size := by
  have h' : laidMet Tryd.prog Rows.reshownRow.laid W := h
  obtain ⟨ps, ⟨_, _, _, _, _, _, _, _, _, _, ⟨_, _, _, _, _, _, _, _, _, _, ⟨_, _, _, _, _, _, _, _, _, _, ⟨g, t, cs, fuel, p, q, hg, ht, hvar, hd, _, _⟩, _⟩, _⟩, _⟩, _⟩ := h'
  obtain rfl := Option.some.inj (gSigns.symm.trans hg)
  obtain rfl := Option.some.inj (gSignsType.symm.trans ht)
  have e := cells_of_strs (zs := [[58, 45], [58, 61], [61, 61], [92, 61], [61, 60]]) Tryd.underlying126 Tryd.underlying9 cellsStr cellsSigns hd
  have c := World.var?_cell gSigns hvar
  obtain rfl : cs = #[.string ⟨#[58, 45]⟩, .string ⟨#[58, 61]⟩, .string ⟨#[61, 61]⟩, .string ⟨#[92, 61]⟩, .string ⟨#[61, 60]⟩] := by
    apply Array.toList_inj.1
    rw [e]; rfl
  refine ⟨⟨c 0, c 1, c 2, c 3, c 4⟩, ?_⟩
  rcases Nat.eq_zero_or_pos W.heap.size with hz | hz
  · have := c 0
    simp [World.cell?, Array.size_eq_zero_iff.1 hz] at this
  · exact hz

theorem gPow : Tryd.prog.globalNamed "internal/strconv.uint64pow10" = some 1 := by kernel_rfl
theorem gPowType : (Tryd.prog.globals[1]?).map (·.type) = some 141 := by kernel_rfl
theorem cellsPow : Tryd.prog.cellsOf 141 = 20 := by kernel_rfl
theorem cellsU64 : Tryd.prog.cellsOf 132 = 1 := by kernel_rfl

set_option maxRecDepth 100000 in
/-- What the row's list gives: the powers of ten. -/
theorem pow_of {W : World} (h : laidMetH Tryd.prog Rows.reshownRow.laid W) : Pow W := by
  have h' : laidMet Tryd.prog Rows.reshownRow.laid W := h
  obtain ⟨ps, ⟨_, _, _, _, _, _, _, _, _, _, ⟨_, _, _, _, _, _, _, _, _, _, ⟨g, t, cs, fuel, p, q, hg, ht, hvar, hd, _, _⟩, _⟩, _⟩, _⟩ := h'
  obtain rfl := Option.some.inj (gPow.symm.trans hg)
  obtain rfl := Option.some.inj (gPowType.symm.trans ht)
  unfold Pow Lib.TabIs
  rw [hvar, ← Lib.cells_of_tab (zs := Lib.pow10Tab) Tryd.underlying141 Tryd.underlying132 cellsU64 cellsPow hd]
theorem env_of {W : World} (h : laidMetH Tryd.prog Rows.reshownRow.laid W) : Env W := ⟨(signs_of h).1, (signs_of h).2, pow_of h⟩

/-- The raw numbers as they come in. -/
theorem raw_of {H : Type} {enc : TypeId × Value → H} {W : World} {fuel : Nat} {a0 : Option Addr} {len cap : Nat} {x : DataW H × List MemPlace}
    (h : DataW.trod enc Tryd.prog W 0 (fun _ => true) true fuel 22 [.slice a0 len cap] = some x) (hlt : ∀ q ∈ x.2, q.block < W.heap.size) : RawA W W.heap.size a0 len := by
  rcases Deep.open_slice Tryd.underlying22 h with ⟨hcs, _⟩ | ⟨a, len', cap', m, n, D, Pl, hcs, _, hl, hm, hmm, hx, hel⟩
  · simp at hcs
    refine ⟨by rw [hcs.2.1]; exact Nat.zero_le _, Or.inl hcs.2.1⟩
  · simp at hcs
    obtain ⟨rfl, rfl, rfl⟩ := hcs
    refine ⟨by omega, ?_⟩
    rcases Nat.eq_zero_or_pos len with h0 | h0
    · exact Or.inl h0
    · right
      simp only [if_true] at hmm
      subst hmm
      rw [cellsInt] at hel hx
      have ce : ∀ i, i < len → ∃ k : Int, W.cell? (a.add (i + 0)) = some (.int .i64 k) ∧ -9223372036854775808 ≤ k ∧ k ≤ 9223372036854775807 := by
        intro i hi
        obtain ⟨cs', h1, h2⟩ := hel i (by omega)
        obtain ⟨k, rfl, _, hw⟩ := DataW.trod_int Tryd.underlying3 h2
        obtain ⟨_, _, hc⟩ := World.cells?_some h1
        have e0 := hc 0 (by omega)
        rw [Deep.add_add, Nat.mul_one] at e0
        simp only [Lit.wf, Bool.and_eq_true, decide_eq_true_eq] at hw
        exact ⟨k, e0, hw.1, hw.2⟩
      obtain ⟨b, off, spot⟩ := a
      have hspot : spot = Option.none := by
        obtain ⟨_, e0, _⟩ := ce 0 h0
        simpa [Addr.add] using World.cell?_spot e0
      subst hspot
      have hb : b < W.heap.size := by
        refine hlt (.cell b off) ?_
        rw [hx]
        exact List.mem_append_left _ (MemPlace.mem_row.2 ⟨0, by omega, by simp⟩)
      refine ⟨b, off, rfl, hb, fun i hi => ?_⟩
      obtain ⟨k, e0, e1⟩ := ce i hi
      rw [add_plain] at e0
      exact ⟨k, e0, e1⟩

/-- What a variable's block holds. -/
def putIn (cs : Array Value) : Obj → Obj
  | .cells _ t frozen => .cells cs t frozen
  | o => o
/-- A world for the witness: the settled one, the four tables holding what their initialisers lay. -/
noncomputable def laidWorld (os : Os) : World :=
  { World.holding Tryd.prog os ⟨#[], #[], []⟩ with heap := ((((World.holding Tryd.prog os ⟨#[], #[], []⟩).heap.modify 0 (putIn #[.string ⟨#[58, 45]⟩, .string ⟨#[58, 61]⟩, .string ⟨#[61, 61]⟩, .string ⟨#[92, 61]⟩, .string ⟨#[61, 60]⟩])).modify 1 (putIn #[.int .u64 1, .int .u64 10, .int .u64 100, .int .u64 1000, .int .u64 10000, .int .u64 100000, .int .u64 1000000, .int .u64 10000000, .int .u64 100000000, .int .u64 1000000000, .int .u64 10000000000, .int .u64 100000000000, .int .u64 1000000000000, .int .u64 10000000000000, .int .u64 100000000000000, .int .u64 1000000000000000, .int .u64 10000000000000000, .int .u64 100000000000000000, .int .u64 1000000000000000000, .int .u64 10000000000000000000])).modify 2 (putIn #[.int .u8 0, .int .u8 1, .int .u8 28, .int .u8 2, .int .u8 29, .int .u8 14, .int .u8 24, .int .u8 3, .int .u8 30, .int .u8 22, .int .u8 20, .int .u8 15, .int .u8 25, .int .u8 17, .int .u8 4, .int .u8 8, .int .u8 31, .int .u8 27, .int .u8 13, .int .u8 23, .int .u8 21, .int .u8 19, .int .u8 16, .int .u8 7, .int .u8 26, .int .u8 12, .int .u8 18, .int .u8 6, .int .u8 11, .int .u8 5, .int .u8 10, .int .u8 9])).modify 3 (putIn #[.int .u8 0, .int .u8 1, .int .u8 56, .int .u8 2, .int .u8 57, .int .u8 49, .int .u8 28, .int .u8 3, .int .u8 61, .int .u8 58, .int .u8 42, .int .u8 50, .int .u8 38, .int .u8 29, .int .u8 17, .int .u8 4, .int .u8 62, .int .u8 47, .int .u8 59, .int .u8 36, .int .u8 45, .int .u8 43, .int .u8 51, .int .u8 22, .int .u8 53, .int .u8 39, .int .u8 33, .int .u8 30, .int .u8 24, .int .u8 18, .int .u8 12, .int .u8 5, .int .u8 63, .int .u8 55, .int .u8 48, .int .u8 27, .int .u8 60, .int .u8 41, .int .u8 37, .int .u8 16, .int .u8 46, .int .u8 35, .int .u8 44, .int .u8 21, .int .u8 52, .int .u8 32, .int .u8 23, .int .u8 11, .int .u8 54, .int .u8 26, .int .u8 40, .int .u8 15, .int .u8 34, .int .u8 20, .int .u8 31, .int .u8 10, .int .u8 25, .int .u8 14, .int .u8 19, .int .u8 9, .int .u8 13, .int .u8 8, .int .u8 7, .int .u8 6]) }
theorem laid_met (os : Os) : laidMet Tryd.prog Rows.reshownRow.laid ((laidWorld os).forCall (fun _ _ => 0) ⟨#[], #[.slice Option.none 0 0], []⟩).memory :=
  laidMet_of_run' 8 (by kernel_rfl) (by kernel_rfl)

end Go.Proofs.YthfjnfcekeknlaaDoor
