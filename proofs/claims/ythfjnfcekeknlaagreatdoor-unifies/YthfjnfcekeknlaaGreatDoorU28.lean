import Derived.Test.YthfjnfcekeknlaaGreatDoorU01
import Derived.Test.YthfjnfcekeknlaaGreatDoorU11
import Derived.Test.YthfjnfcekeknlaaGreatDoorU21
import Derived.Test.YthfjnfcekeknlaaGreatDoorU27
import Derived.Deep.LoopGhost
namespace Go.Proofs.YthfjnfcekeknlaaGreatDoor
open Go.RowKit

set_option maxHeartbeats 1000000 in
set_option maxRecDepth 100000 in
theorem dec_big : ∀ (n : Nat) (w : World), n < 1000000000000 →
    Calls Tryz.prog 92 #[.int .i64 (n : Int)] w fun e w' => e = .returned (.string ⟨(Lib.decDigits n).toArray⟩) ∧ Below w.heap.size w w' := by
  intro n
  induction n using Nat.strongRecOn with
  | _ n ih =>
    intro w hn
    have hcv := dec_conv w n
    by_cases h10 : n < 10
    · have HD := hide (show Lib.decDigits n = [UInt8.ofNat (48 + n % 10)] by rw [Lib.decDigits, dif_pos h10, Nat.mod_eq_of_lt h10])
      clear ih
      generalize UInt8.ofNat (48 + n % 10) = d at hcv HD
      go_enter Tryz.func92, Tryz.ntmps92
      go_wp2_with fail
      go_ret
      rw [unhide HD]
      exact ⟨rfl, (Below.refl _ _).alloc (Nat.le_refl _) _⟩
    · have HD := hide (show Lib.decDigits n = Lib.decDigits (n / 10) ++ [UInt8.ofNat (48 + n % 10)] by rw [Lib.decDigits, dif_neg h10])
      have I := hide (fun W => ih (n / 10) (by omega) W (by omega))
      have hdl : (Lib.decDigits (n / 10)).length ≤ 12 := dec_len 11 _ (by omega)
      clear ih
      generalize UInt8.ofNat (48 + n % 10) = d at hcv HD
      go_enter Tryz.func92, Tryz.ntmps92
      go_wp2_with fail
      rw [show ((n : Int) / 10) = ((n / 10 : Nat) : Int) by omega]
      refine (unhide I _).mono ?_
      rintro e w1 ⟨rfl, hb⟩
      have HB := hide hb
      clear hb
      go_wp2_with fail
      go_ret
      rw [unhide HD]
      exact ⟨rfl, ((Below.refl _ _).alloc (Nat.le_refl _) _).trans ((unhide HB).mono (by simp))⟩

set_option maxHeartbeats 1000000 in
set_option maxRecDepth 100000 in
theorem decI (n : Int) (w : World) (h1 : -100000000000 ≤ n) (h2 : n ≤ 100000000000) :
    Calls Tryz.prog 92 #[.int .i64 n] w fun e w' => e = .returned (.string ⟨(Lib.itoa n).toArray⟩) ∧ Below w.heap.size w w' := by
  by_cases h0 : n < 0
  · obtain ⟨m, hm⟩ : ∃ m : Nat, n = -(m : Int) := ⟨n.natAbs, by omega⟩
    subst hm
    rw [Lib.itoa_neg m (by omega)]
    have hdl : (Lib.decDigits m).length ≤ 12 := dec_len 11 _ (by omega)
    have t0 : decide (-(m : Int) < 0) = true := decide_eq_true h0
    have I := hide (fun W => dec_big m W (by omega))
    go_enter Tryz.func92, Tryz.ntmps92
    go_wp2_with fail
    try simp only [Int.neg_neg]
    refine (unhide I _).mono ?_
    rintro e w1 ⟨rfl, hb⟩
    have HB := hide hb
    clear hb
    go_wp2_with fail
    go_ret
    exact ⟨rfl, unhide HB⟩
  · obtain ⟨m, rfl⟩ : ∃ m : Nat, n = (m : Int) := ⟨n.toNat, by omega⟩
    rw [Lib.itoa_nonneg]
    exact dec_big m w (by omega)

/-- What 'list.term' leaves. -/
def PTu (xb : Nat) (o : Option Addr) (S : List UInt8) (N : List Parl.Vr) (w : World) (e : Ending) (w' : World) : Prop :=
  ∃ cs' us' o' cap', e = .returned (.string ⟨S.toArray⟩) ∧ XV w' xb 0 106 cs' N us' o' cap' ∧ FrX xb o o' w w'
def TuSaid (f : Nat) : Prop := ∀ (w : World) (xb : Nat) (cs : Array Value) (N : List Parl.Vr) (us : List BV) (o : Option Addr) (cap : Nat) (a : BV) (u : Parl.U), XV w xb 0 106 cs N us o cap → RU f (fun g => g < xb) w a u → Parl.gdU u → N.length + Parl.size u ≤ 1000000 →
  Calls Tryz.prog 50 #[.pointer (some ⟨xb, 0, none⟩), .agg #[.int .i64 a.k, .string a.nm, .int .i64 a.num, .slice a.ao a.n a.cap]] w fun e w' => PTu xb o (Parl.strU Lib.itoa (Parl.namesU N u) u) (Parl.namesU N u) w e w'

set_option maxHeartbeats 2000000 in
set_option maxRecDepth 100000 in
theorem tu_var (w : World) (xb : Nat) (cs : Array Value) (N : List Parl.Vr) (us : List BV) (o : Option Addr) (cap : Nat) (a : BV) (x : Parl.Vr) (h : XV w xb 0 106 cs N us o cap) (hr : LeafU a (.v x)) (hl : N.length ≤ 1000000) :
    Calls Tryz.prog 50 #[.pointer (some ⟨xb, 0, none⟩), .agg #[.int .i64 a.k, .string a.nm, .int .i64 a.num, .slice a.ao a.n a.cap]] w fun e w' => PTu xb o (Parl.strU Lib.itoa (Parl.namesU N (.v x)) (.v x)) (Parl.namesU N (.v x)) w e w' := by
  obtain ⟨k, nm, num, ao, n, cp⟩ := a
  obtain ⟨h1, h2, h3, h4⟩ := hr
  dsimp only at h1 h2 h3 h4 ⊢
  subst h1
  have HIV := hide (show IsVr ⟨2, nm, num, ao, n, cp⟩ x from ⟨h2, h3⟩)
  have hidx : N.idxOf x ≤ N.length := List.idxOf_le_length
  have hNl := h.vr.length
  have HS := hide (show Parl.strU Lib.itoa (Parl.namesU N (.v x)) (.v x) = 86 :: Lib.itoa (N.idxOf x : Int) by rw [Parl.namesU, Parl.strU, Parl.idx_addU])
  have HN := hide (show Parl.namesU N (.v x) = Parl.addU N x by rw [Parl.namesU])
  have hil := Lib.itoa_length_le (N.idxOf x : Int) (by omega) (by omega)
  have HP := hide (placeV (w.alloc (.cells #[.int .i64 2, .string nm, .int .i64 num, .slice ao n cp] 109)) xb 0 106 cs N us o cap ⟨2, nm, num, ao, n, cp⟩ x (h.below ((Below.refl _ _).alloc (Nat.le_refl _) _)) (unhide HIV) (by omega))
  have DI := hide (fun W => decI (N.idxOf x : Int) W (by omega) (by omega))
  have hlt := h.lt
  rw [unhide HS, unhide HN]
  clear h h2 h3 h4 hidx hNl HS HN HIV
  generalize N.idxOf x = ix at *
  generalize Parl.addU N x = N' at *
  generalize hII : Lib.itoa (ix : Int) = II at *
  clear hII
  go_enter Tryz.func50, Tryz.ntmps50
  go_wp2_with fail
  refine (unhide HP).mono ?_
  rintro e w1 ⟨cs', us', o', cap', rfl, hxl, -, hfr⟩
  have HXL := hide hxl
  have HFR := hide hfr
  clear hxl hfr
  go_wp2_with fail
  refine (unhide DI w1).mono ?_
  rintro e w2 ⟨rfl, hb⟩
  have HB := hide hb
  clear hb
  go_wp2_with fail
  go_ret
  exact ⟨cs', us', o', cap', rfl, (unhide HXL).below (unhide HB), ((FrX.of_below ((Below.refl _ _).alloc (Nat.le_refl _) _)).trans (unhide HFR)).trans (FrX.of_below (unhide HB))⟩

set_option maxHeartbeats 2000000 in
set_option maxRecDepth 100000 in
theorem tu_num (w : World) (xb : Nat) (cs : Array Value) (N : List Parl.Vr) (us : List BV) (o : Option Addr) (cap : Nat) (a : BV) (tx : List UInt8) (nu : Int) (h : XV w xb 0 106 cs N us o cap) (hr : LeafU a (.n 3 tx nu [])) (h1 : -1000000000 ≤ nu) (h2 : nu ≤ 1000000000) :
    Calls Tryz.prog 50 #[.pointer (some ⟨xb, 0, none⟩), .agg #[.int .i64 a.k, .string a.nm, .int .i64 a.num, .slice a.ao a.n a.cap]] w fun e w' => PTu xb o (Parl.strU Lib.itoa (Parl.namesU N (.n 3 tx nu [])) (.n 3 tx nu [])) (Parl.namesU N (.n 3 tx nu [])) w e w' := by
  obtain ⟨k, nm, num, ao, n, cp⟩ := a
  obtain ⟨q1, -, -, q4, -, -⟩ := hr
  dsimp only at q1 q4 ⊢
  subst q4
  have e3 : k = 3 := q1
  subst e3
  have HS := hide (show ∀ M, Parl.strU Lib.itoa M (.n 3 tx num []) = Lib.itoa num from fun M => by rw [Parl.strU_n, if_pos rfl])
  have HN := hide (show Parl.namesU N (.n 3 tx num []) = N by rw [Parl.namesU_n]; rfl)
  have DI := hide (fun W => decI num W (by omega) (by omega))
  rw [unhide HN, unhide HS]
  have HX := hide h
  have hlt := h.lt
  clear h HS HN q1
  generalize hII : Lib.itoa num = II at *
  clear hII
  go_enter Tryz.func50, Tryz.ntmps50
  go_wp2_with fail
  refine (unhide DI _).mono ?_
  rintro e w2 ⟨rfl, hb⟩
  have HB := hide hb
  clear hb
  go_wp2_with fail
  go_ret
  exact ⟨cs, us, o, cap, rfl, ((unhide HX).below ((Below.refl _ _).alloc (Nat.le_refl _) _)).below (unhide HB), (FrX.of_below ((Below.refl _ _).alloc (Nat.le_refl _) _)).trans (FrX.of_below (unhide HB))⟩

set_option maxHeartbeats 2000000 in
set_option maxRecDepth 100000 in
theorem tu_atom (w : World) (xb : Nat) (cs : Array Value) (N : List Parl.Vr) (us : List BV) (o : Option Addr) (cap : Nat) (a : BV) (tx : List UInt8) (nu : Int) (h : XV w xb 0 106 cs N us o cap) (hr : LeafU a (.n 1 tx nu [])) :
    Calls Tryz.prog 50 #[.pointer (some ⟨xb, 0, none⟩), .agg #[.int .i64 a.k, .string a.nm, .int .i64 a.num, .slice a.ao a.n a.cap]] w fun e w' => PTu xb o (Parl.strU Lib.itoa (Parl.namesU N (.n 1 tx nu [])) (.n 1 tx nu [])) (Parl.namesU N (.n 1 tx nu [])) w e w' := by
  obtain ⟨k, nm, num, ao, n, cp⟩ := a
  obtain ⟨q1, -, q3, q4, q5, -⟩ := hr
  dsimp only at q1 q3 q4 q5 ⊢
  have e1 : k = 1 := q1
  have e5 : n = 0 := q5
  subst q4 e1 e5
  have HS := hide (show ∀ M, Parl.strU Lib.itoa M (.n 1 tx num []) = nm.toList from fun M => by rw [Parl.strU_n, if_neg (by decide), q3]; simp [Parl.argS])
  have HN := hide (show Parl.namesU N (.n 1 tx num []) = N by rw [Parl.namesU_n]; rfl)
  rw [unhide HN, unhide HS]
  have HX := hide h
  have hlt := h.lt
  clear h HS HN q1 q3 q5
  go_enter Tryz.func50, Tryz.ntmps50
  go_wp2_with fail
  refine wp_loop_rounds 1 ?_
  rw [rounds_succ]
  go_wp2_with fail
  go_ret
  exact ⟨cs, us, o, cap, by rw [ba_self]; rfl, (unhide HX).below ((Below.refl _ _).alloc (Nat.le_refl _) _), FrX.of_below ((Below.refl _ _).alloc (Nat.le_refl _) _)⟩
end Go.Proofs.YthfjnfcekeknlaaGreatDoor
