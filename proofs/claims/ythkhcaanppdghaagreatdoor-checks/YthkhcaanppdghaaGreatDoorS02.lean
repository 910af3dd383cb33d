import Derived.Test.YthkhcaanppdghaaGreatDoorS01
import Derived.Deep.QuietTactic
import Derived.BigQuiet
import Derived.Deep.RegionWith
import Derived.OpenShut
namespace Go.Proofs.YthkhcaanppdghaaGreatDoor
open Go.RowKit

/-- The table of the signs of two bytes lies where the program lays it. -/
structure Signs (w : World) : Prop where
  s0 : w.cell? ⟨0, 0, none⟩ = some (.string ⟨#[58, 45]⟩)
  s1 : w.cell? ⟨0, 1, none⟩ = some (.string ⟨#[58, 61]⟩)
  s2 : w.cell? ⟨0, 2, none⟩ = some (.string ⟨#[61, 61]⟩)
  s3 : w.cell? ⟨0, 3, none⟩ = some (.string ⟨#[92, 61]⟩)
  s4 : w.cell? ⟨0, 4, none⟩ = some (.string ⟨#[61, 60]⟩)

theorem signLen_two {r : ByteArray} (h : 2 ≤ r.size) (hl : Parl.longSign (Parl.bAt r 0) (Parl.bAt r 1) = true) : Parl.signLen r 0 = 2 := by
  unfold Parl.signLen; rw [if_pos ⟨by omega, hl⟩]
theorem signLen_one {r : ByteArray} (h : 0 < r.size) (hl : 2 ≤ r.size → Parl.longSign (Parl.bAt r 0) (Parl.bAt r 1) = false) (hs : Parl.shortSign (Parl.bAt r 0) = true) : Parl.signLen r 0 = 1 := by
  unfold Parl.signLen; rw [if_neg (by rintro ⟨a, b⟩; rw [hl (by omega)] at b; cases b), if_pos ⟨h, hs⟩]
theorem signLen_none {r : ByteArray} (hl : 2 ≤ r.size → Parl.longSign (Parl.bAt r 0) (Parl.bAt r 1) = false) (hs : 0 < r.size → Parl.shortSign (Parl.bAt r 0) = false) : Parl.signLen r 0 = 0 := by
  unfold Parl.signLen; rw [if_neg (by rintro ⟨a, b⟩; rw [hl (by omega)] at b; cases b), if_neg (by rintro ⟨a, b⟩; rw [hs a] at b; cases b)]

def shortB : ByteArray := ⟨#[61, 60, 43, 45, 42, 40, 41, 44, 124, 46]⟩
theorem shorts_at (k : Nat) (h : k < shortB.size) : Parl.shorts[k]? = some (shortB[k]'h).toNat := by
  have h' : k < 10 := h
  rcases (show k = 0 ∨ k = 1 ∨ k = 2 ∨ k = 3 ∨ k = 4 ∨ k = 5 ∨ k = 6 ∨ k = 7 ∨ k = 8 ∨ k = 9 by omega) with rfl | rfl | rfl | rfl | rfl | rfl | rfl | rfl | rfl | rfl <;> rfl
theorem short_hit {r : ByteArray} {k : Nat} (h0 : 0 < r.size) (hk : k < shortB.size) (h : (((r[0]'h0).toNat : Int) == ((shortB[k]'hk).toNat : Int)) = true) : Parl.shortSign (Parl.bAt r 0) = true := by
  rw [Parl.shortSign_in]
  refine ⟨k, hk, ?_⟩
  rw [shorts_at k hk, Parl.bAt_lt h0]
  have : ((r[0]'h0).toNat : Int) = ((shortB[k]'hk).toNat : Int) := by simpa using h
  rw [show (r[0]'h0).toNat = (shortB[k]'hk).toNat by omega]
theorem short_miss {r : ByteArray} {k : Nat} (h0 : 0 < r.size) (hk : k < shortB.size) (h : (((r[0]'h0).toNat : Int) == ((shortB[k]'hk).toNat : Int)) = false) (ho : ∀ j, j < k → Parl.shorts[j]? ≠ some (Parl.bAt r 0)) : ∀ j, j < k + 1 → Parl.shorts[j]? ≠ some (Parl.bAt r 0) := by
  intro j hj e
  by_cases hjk : j < k
  · exact ho j hjk e
  · obtain rfl : j = k := by omega
    rw [shorts_at j hk, Parl.bAt_lt h0] at e
    have e' := Option.some.inj e
    simp [e'] at h
theorem short_none {c k : Nat} (h : ¬ k < 10) (ho : ∀ j, j < k → Parl.shorts[j]? ≠ some c) : Parl.shortSign c = false := by
  cases hs : Parl.shortSign c with
  | false => rfl
  | true =>
    obtain ⟨j, hj, e⟩ := (Parl.shortSign_in c).1 hs
    exact absurd e (ho j (by omega))
theorem not_empty {r : ByteArray} (h : 0 < r.size) : r.toList.isEmpty = false := by
  rw [ByteArray.toList_eq]
  cases hx : r.data.toList with
  | nil => have := Parl.len_eq r; rw [hx] at this; simp at this; omega
  | cons => rfl

set_option maxHeartbeats 2000000 in
theorem signLength_any (r : ByteArray) (w : World) (hr : r.size ≤ maxLen) (h : Signs w) : Calls Tryz.prog 129 #[.string r] w fun e w' => e = .returned (.int .i64 ((Parl.signLen r 0 : Nat) : Int)) ∧ ∃ n, w' = w.drewN n := by
  obtain ⟨s0, s1, s2, s3, s4⟩ := h
  unfold maxLen at hr
  have i0 : ∀ w, (Instr.index 210 (.agg #[.string ⟨#[58, 45]⟩, .string ⟨#[58, 61]⟩, .string ⟨#[61, 61]⟩, .string ⟨#[92, 61]⟩, .string ⟨#[61, 60]⟩]) (.int .i64 0)).run Tryz.prog w = .ok (.string ⟨#[58, 45]⟩) w := fun _ => by kernel_rfl
  have i1 : ∀ w, (Instr.index 210 (.agg #[.string ⟨#[58, 45]⟩, .string ⟨#[58, 61]⟩, .string ⟨#[61, 61]⟩, .string ⟨#[92, 61]⟩, .string ⟨#[61, 60]⟩]) (.int .i64 1)).run Tryz.prog w = .ok (.string ⟨#[58, 61]⟩) w := fun _ => by kernel_rfl
  have i2 : ∀ w, (Instr.index 210 (.agg #[.string ⟨#[58, 45]⟩, .string ⟨#[58, 61]⟩, .string ⟨#[61, 61]⟩, .string ⟨#[92, 61]⟩, .string ⟨#[61, 60]⟩]) (.int .i64 2)).run Tryz.prog w = .ok (.string ⟨#[61, 61]⟩) w := fun _ => by kernel_rfl
  have i3 : ∀ w, (Instr.index 210 (.agg #[.string ⟨#[58, 45]⟩, .string ⟨#[58, 61]⟩, .string ⟨#[61, 61]⟩, .string ⟨#[92, 61]⟩, .string ⟨#[61, 60]⟩]) (.int .i64 3)).run Tryz.prog w = .ok (.string ⟨#[92, 61]⟩) w := fun _ => by kernel_rfl
  have i4 : ∀ w, (Instr.index 210 (.agg #[.string ⟨#[58, 45]⟩, .string ⟨#[58, 61]⟩, .string ⟨#[61, 61]⟩, .string ⟨#[92, 61]⟩, .string ⟨#[61, 60]⟩]) (.int .i64 4)).run Tryz.prog w = .ok (.string ⟨#[61, 60]⟩) w := fun _ => by kernel_rfl
  have LS : Hid (2 ≤ r.size → Parl.longSign (Parl.bAt r 0) (Parl.bAt r 1) = (((r.extract 0 2).toList == [58, 45]) || ((r.extract 0 2).toList == [58, 61]) || ((r.extract 0 2).toList == [61, 61]) || ((r.extract 0 2).toList == [92, 61]) || ((r.extract 0 2).toList == [61, 60]))) := fun h => Parl.longSign_two (i := 0) (by omega)
  by_cases h2 : 2 ≤ r.size
  · cases b0 : ((r.extract 0 2).toList == [58, 45])
    · cases b1 : ((r.extract 0 2).toList == [58, 61])
      · cases b2 : ((r.extract 0 2).toList == [61, 61])
        · cases b3 : ((r.extract 0 2).toList == [92, 61])
          · cases b4 : ((r.extract 0 2).toList == [61, 60])
            · have LN : Hid (Parl.longSign (Parl.bAt r 0) (Parl.bAt r 1) = false) := by rw [Hid, LS.out h2, b0, b1, b2, b3, b4]; rfl
              go_enter Tryz.func129, Tryz.ntmps129
              go_wp2
              refine wp_loop_rounds 6 ?_
              rw [rounds_succ]
              go_wp2
              rw [rounds_succ]
              go_wp2
              rw [rounds_succ]
              go_wp2
              rw [rounds_succ]
              go_wp2
              rw [rounds_succ]
              go_wp2
              rw [rounds_succ]
              go_wp2
              clear i0 i1 i2 i3 i4 b0 b1 b2 b3 b4
              go_loopw [5] (fun i wr => ∃ k n : Nat, k ≤ 10 ∧ i = .int .i64 k ∧ wr = w.drewN n ∧ Hid (∀ j, j < k → Parl.shorts[j]? ≠ some (Parl.bAt r 0))) (fun i _ => 10 - (intOf i).toNat)
              case atStart => exact ⟨0, 0, by omega, rfl, rfl, fun j h => absurd h (Nat.not_lt_zero _)⟩
              case round =>
                obtain ⟨k, n, hk, rfl, rfl, hno⟩ := hrel
                by_cases hlt : k < 10
                · by_cases h0 : 0 < r.size
                  · have hE := not_empty h0
                    have HM : Hid (∀ hk : k < shortB.size, (((r[0]'h0).toNat : Int) == ((shortB[k]'hk).toNat : Int)) = false → ∀ j, j < k + 1 → Parl.shorts[j]? ≠ some (Parl.bAt r 0)) := fun hk h => short_miss h0 hk h hno.out
                    go_wp2
                    go_big_region
                    go_wp2
                    · go_ret
                      exact ⟨ret_int (by rw [signLen_one h0 (fun _ => LN.out) (short_hit (k := k) h0 hlt (by assumption))]; rfl), n + 1, rfl⟩
                    · go_roundw
                      case rel => exact ⟨k + 1, n + 1, by omega, by go_num, rfl, HM.out hlt (by assumption)⟩
                      case measure => simp [intOf]; omega
                  · exact absurd (show 0 < r.size by omega) h0
                · have hS : Hid (Parl.shortSign (Parl.bAt r 0) = false) := short_none hlt hno.out
                  go_wp2
                  go_ret
                  exact ⟨ret_int (by rw [signLen_none (fun _ => LN.out) (fun _ => hS.out)]; rfl), n, rfl⟩
            · have LN : Hid (Parl.longSign (Parl.bAt r 0) (Parl.bAt r 1) = true) := by rw [Hid, LS.out h2, b0, b1, b2, b3, b4]; simp
              go_enter Tryz.func129, Tryz.ntmps129
              go_wp2
              refine wp_loop_rounds 6 ?_
              rw [rounds_succ]
              go_wp2
              rw [rounds_succ]
              go_wp2
              rw [rounds_succ]
              go_wp2
              rw [rounds_succ]
              go_wp2
              rw [rounds_succ]
              go_wp2
              go_ret
              exact ⟨ret_int (by rw [signLen_two h2 LN.out]; rfl), 0, rfl⟩
          · have LN : Hid (Parl.longSign (Parl.bAt r 0) (Parl.bAt r 1) = true) := by rw [Hid, LS.out h2, b0, b1, b2, b3]; simp
            go_enter Tryz.func129, Tryz.ntmps129
            go_wp2
            refine wp_loop_rounds 6 ?_
            rw [rounds_succ]
            go_wp2
            rw [rounds_succ]
            go_wp2
            rw [rounds_succ]
            go_wp2
            rw [rounds_succ]
            go_wp2
            go_ret
            exact ⟨ret_int (by rw [signLen_two h2 LN.out]; rfl), 0, rfl⟩
        · have LN : Hid (Parl.longSign (Parl.bAt r 0) (Parl.bAt r 1) = true) := by rw [Hid, LS.out h2, b0, b1, b2]; simp
          go_enter Tryz.func129, Tryz.ntmps129
          go_wp2
          refine wp_loop_rounds 6 ?_
          rw [rounds_succ]
          go_wp2
          rw [rounds_succ]
          go_wp2
          rw [rounds_succ]
          go_wp2
          go_ret
          exact ⟨ret_int (by rw [signLen_two h2 LN.out]; rfl), 0, rfl⟩
      · have LN : Hid (Parl.longSign (Parl.bAt r 0) (Parl.bAt r 1) = true) := by rw [Hid, LS.out h2, b0, b1]; simp
        go_enter Tryz.func129, Tryz.ntmps129
        go_wp2
        refine wp_loop_rounds 6 ?_
        rw [rounds_succ]
        go_wp2
        rw [rounds_succ]
        go_wp2
        go_ret
        exact ⟨ret_int (by rw [signLen_two h2 LN.out]; rfl), 0, rfl⟩
    · have LN : Hid (Parl.longSign (Parl.bAt r 0) (Parl.bAt r 1) = true) := by rw [Hid, LS.out h2, b0]; simp
      go_enter Tryz.func129, Tryz.ntmps129
      go_wp2
      refine wp_loop_rounds 6 ?_
      rw [rounds_succ]
      go_wp2
      go_ret
      exact ⟨ret_int (by rw [signLen_two h2 LN.out]; rfl), 0, rfl⟩
  · have LN : Hid (2 ≤ r.size → Parl.longSign (Parl.bAt r 0) (Parl.bAt r 1) = false) := fun h => absurd h h2
    go_enter Tryz.func129, Tryz.ntmps129
    go_wp2
    refine wp_loop_rounds 6 ?_
    rw [rounds_succ]
    go_wp2
    rw [rounds_succ]
    go_wp2
    rw [rounds_succ]
    go_wp2
    rw [rounds_succ]
    go_wp2
    rw [rounds_succ]
    go_wp2
    rw [rounds_succ]
    go_wp2
    clear i0 i1 i2 i3 i4 LS
    go_loopw [5] (fun i wr => ∃ k n : Nat, k ≤ 10 ∧ i = .int .i64 k ∧ wr = w.drewN n ∧ Hid (∀ j, j < k → Parl.shorts[j]? ≠ some (Parl.bAt r 0))) (fun i _ => 10 - (intOf i).toNat)
    case atStart => exact ⟨0, 0, by omega, rfl, rfl, fun j h => absurd h (Nat.not_lt_zero _)⟩
    case round =>
      obtain ⟨k, n, hk, rfl, rfl, hno⟩ := hrel
      by_cases hlt : k < 10
      · by_cases h0 : 0 < r.size
        · have hE := not_empty h0
          have HM : Hid (∀ hk : k < shortB.size, (((r[0]'h0).toNat : Int) == ((shortB[k]'hk).toNat : Int)) = false → ∀ j, j < k + 1 → Parl.shorts[j]? ≠ some (Parl.bAt r 0)) := fun hk h => short_miss h0 hk h hno.out
          go_wp2
          go_big_region
          go_wp2
          · go_ret
            exact ⟨ret_int (by rw [signLen_one h0 LN.out (short_hit (k := k) h0 hlt (by assumption))]; rfl), n + 1, rfl⟩
          · go_roundw
            case rel => exact ⟨k + 1, n + 1, by omega, by go_num, rfl, HM.out hlt (by assumption)⟩
            case measure => simp [intOf]; omega
        · have hE : r.toList.isEmpty = true := by rw [ByteArray.toList_eq]; have := Parl.len_eq r; cases hx : r.data.toList with
              | nil => rfl
              | cons a l => rw [hx] at this; simp at this; omega
          have HM : Hid (∀ j, j < k + 1 → Parl.shorts[j]? ≠ some (Parl.bAt r 0)) := fun j hj e => by
              have e0 : Parl.bAt r 0 = 0 := by unfold Parl.bAt; rw [dif_neg h0]
              rw [e0] at e
              have hm := List.mem_of_getElem? e
              simp [Parl.shorts] at hm
          go_wp2
          go_big_region
          go_wp2
          go_roundw
          case rel => exact ⟨k + 1, n + 1, by omega, by go_num, rfl, HM.out⟩
          case measure => simp [intOf]; omega
      · have hS : Hid (Parl.shortSign (Parl.bAt r 0) = false) := short_none hlt hno.out
        go_wp2
        go_ret
        exact ⟨ret_int (by rw [signLen_none LN.out (fun _ => hS.out)]; rfl), n, rfl⟩
end Go.Proofs.YthkhcaanppdghaaGreatDoor
namespace Go.Proofs.YthkhcaanppdghaaGreatDoor
open Go.RowKit

theorem Signs.below {B : Nat} {w w' : World} (h : Signs w) (hb : Below B w w') (h0 : 0 < B) : Signs w' :=
  ⟨(hb.cell (p := ⟨0, 0, none⟩) h0).trans h.s0, (hb.cell (p := ⟨0, 1, none⟩) h0).trans h.s1, (hb.cell (p := ⟨0, 2, none⟩) h0).trans h.s2, (hb.cell (p := ⟨0, 3, none⟩) h0).trans h.s3, (hb.cell (p := ⟨0, 4, none⟩) h0).trans h.s4⟩
theorem Signs.draws {w : World} (h : Signs w) (n : Nat) : Signs (w.drewN n) := ⟨h.s0, h.s1, h.s2, h.s3, h.s4⟩

theorem kindAt0 {r : ByteArray} (h : r.size = 0) : Parl.kindAt r 0 = 0 := by unfold Parl.kindAt; rw [if_pos (by omega)]
theorem kindAt2 {r : ByteArray} (h : 0 < r.size) (a : Parl.low (r[0].toNat) = true) : Parl.kindAt r 0 = 2 := by unfold Parl.kindAt; rw [if_neg (by omega), Parl.bAt_lt h, if_pos a]
theorem kindAt3 {r : ByteArray} (h : 0 < r.size) (a : Parl.low (r[0].toNat) = false) (b : Parl.upp (r[0].toNat) = true) : Parl.kindAt r 0 = 3 := by unfold Parl.kindAt; rw [if_neg (by omega), Parl.bAt_lt h, if_neg (by simp [a]), if_pos b]
theorem kindAt4 {r : ByteArray} (h : 0 < r.size) (a : Parl.low (r[0].toNat) = false) (b : Parl.upp (r[0].toNat) = false) (c : Parl.dig (r[0].toNat) = true) : Parl.kindAt r 0 = 4 := by unfold Parl.kindAt; rw [if_neg (by omega), Parl.bAt_lt h, if_neg (by simp [a]), if_neg (by simp [b]), if_pos c]
theorem kindAt5 {r : ByteArray} (h : 0 < r.size) (a : Parl.low (r[0].toNat) = false) (b : Parl.upp (r[0].toNat) = false) (c : Parl.dig (r[0].toNat) = false) (d : 0 < Parl.signLen r 0) : Parl.kindAt r 0 = 5 := by unfold Parl.kindAt; rw [if_neg (by omega), Parl.bAt_lt h, if_neg (by simp [a]), if_neg (by simp [b]), if_neg (by simp [c]), if_pos d]
theorem kindAt1 {r : ByteArray} (h : 0 < r.size) (a : Parl.low (r[0].toNat) = false) (b : Parl.upp (r[0].toNat) = false) (c : Parl.dig (r[0].toNat) = false) (d : ¬ 0 < Parl.signLen r 0) : Parl.kindAt r 0 = 1 := by unfold Parl.kindAt; rw [if_neg (by omega), Parl.bAt_lt h, if_neg (by simp [a]), if_neg (by simp [b]), if_neg (by simp [c]), if_neg d]
theorem is_empty {r : ByteArray} (h : r.size = 0) : r.toList.isEmpty = true := by
  rw [ByteArray.toList_eq]
  have := Parl.len_eq r
  cases hx : r.data.toList with
  | nil => rfl
  | cons a l => rw [hx] at this; simp at this; omega

set_option maxHeartbeats 1000000 in
theorem kindOf_any (r : ByteArray) (w : World) (hr : r.size ≤ maxLen) (h : Signs w) : Calls Tryz.prog 82 #[.string r] w fun e w' => e = .returned (.int .i64 ((Parl.kindAt r 0 : Nat) : Int)) ∧ ∃ n, w' = w.drewN n := by
  have hr' := hr
  unfold maxLen at hr'
  have H := h
  by_cases h0 : 0 < r.size
  · have hE := not_empty h0
    cases a : Parl.low (r[0].toNat)
    · cases b : Parl.upp (r[0].toNat)
      · cases c : Parl.dig (r[0].toNat)
        · by_cases d : 0 < Parl.signLen r 0
          · have K := hide (kindAt5 h0 a b c d)
            go_enter Tryz.func82, Tryz.ntmps82
            go_wp2_with (first | (go_at_call 126; refine (isSmall_any _ _).mono ?_; rintro e w' ⟨rfl, rfl⟩) | (go_at_call 128; refine (isDigit_any _ _).mono ?_; rintro e w' ⟨rfl, rfl⟩) | (go_at_call 127; refine (isCapital_any _ _).mono ?_; rintro e w' ⟨rfl, rfl⟩) | (go_at_call 129; refine (signLength_any _ _ hr H).mono ?_; rintro e w' ⟨rfl, n, rfl⟩))
            go_ret
            exact ⟨ret_int (by rw [unhide K]; rfl), n, rfl⟩
          · have K := hide (kindAt1 h0 a b c d)
            go_enter Tryz.func82, Tryz.ntmps82
            go_wp2_with (first | (go_at_call 126; refine (isSmall_any _ _).mono ?_; rintro e w' ⟨rfl, rfl⟩) | (go_at_call 128; refine (isDigit_any _ _).mono ?_; rintro e w' ⟨rfl, rfl⟩) | (go_at_call 127; refine (isCapital_any _ _).mono ?_; rintro e w' ⟨rfl, rfl⟩) | (go_at_call 129; refine (signLength_any _ _ hr H).mono ?_; rintro e w' ⟨rfl, n, rfl⟩))
            go_ret
            exact ⟨ret_int (by rw [unhide K]; rfl), n, rfl⟩
        · have K := hide (kindAt4 h0 a b c)
          go_enter Tryz.func82, Tryz.ntmps82
          go_wp2_with (first | (go_at_call 126; refine (isSmall_any _ _).mono ?_; rintro e w' ⟨rfl, rfl⟩) | (go_at_call 128; refine (isDigit_any _ _).mono ?_; rintro e w' ⟨rfl, rfl⟩) | (go_at_call 127; refine (isCapital_any _ _).mono ?_; rintro e w' ⟨rfl, rfl⟩))
          go_ret
          exact ⟨ret_int (by rw [unhide K]; rfl), 0, rfl⟩
      · have K := hide (kindAt3 h0 a b)
        go_enter Tryz.func82, Tryz.ntmps82
        go_wp2_with (first | (go_at_call 126; refine (isSmall_any _ _).mono ?_; rintro e w' ⟨rfl, rfl⟩) | (go_at_call 127; refine (isCapital_any _ _).mono ?_; rintro e w' ⟨rfl, rfl⟩))
        go_ret
        exact ⟨ret_int (by rw [unhide K]; rfl), 0, rfl⟩
    · have K := hide (kindAt2 h0 a)
      go_enter Tryz.func82, Tryz.ntmps82
      go_wp2_with (first | (go_at_call 126; refine (isSmall_any _ _).mono ?_; rintro e w' ⟨rfl, rfl⟩))
      go_ret
      exact ⟨ret_int (by rw [unhide K]; rfl), 0, rfl⟩
  · have hE := is_empty (r := r) (by omega)
    have K := hide (kindAt0 (r := r) (by omega))
    go_enter Tryz.func82, Tryz.ntmps82
    go_wp2
    go_ret
    exact ⟨ret_int (by rw [unhide K]; rfl), 0, rfl⟩

set_option maxHeartbeats 1000000 in
theorem lengthOf_any (r : ByteArray) (w : World) (hr : r.size ≤ maxLen) (h : Signs w) : Calls Tryz.prog 83 #[.int .i64 ((Parl.kindAt r 0 : Nat) : Int), .string r] w fun e w' => e = .returned (.int .i64 ((Parl.endAt r 0 : Nat) : Int)) ∧ ∃ n, w' = w.drewN n := by
  have hk := Parl.kindAt_le r 0
  have KE : Hid (Parl.endAt r 0 = if Parl.kindAt r 0 = 0 then 0 else if Parl.kindAt r 0 = 1 then 0 + 1 else if Parl.kindAt r 0 = 5 then 0 + Parl.signLen r 0 else Parl.wordEnd r (Parl.kindAt r 0) 0) := rfl
  generalize Parl.kindAt r 0 = k at *
  rcases (show k = 0 ∨ k = 1 ∨ k = 2 ∨ k = 3 ∨ k = 4 ∨ k = 5 by omega) with rfl | rfl | rfl | rfl | rfl | rfl
  · go_enter Tryz.func83, Tryz.ntmps83
    go_wp2_with fail
    go_ret
    exact ⟨ret_int (by rw [KE.out]; rfl), 0, rfl⟩
  · go_enter Tryz.func83, Tryz.ntmps83
    go_wp2_with fail
    go_ret
    exact ⟨ret_int (by rw [KE.out]; rfl), 0, rfl⟩
  · go_enter Tryz.func83, Tryz.ntmps83
    go_wp2_with (go_at_call 130; refine (wordLength_any 2 _ _ hr).mono ?_; rintro e w' ⟨rfl, rfl⟩)
    go_ret
    exact ⟨ret_int (by rw [KE.out]; rfl), 0, rfl⟩
  · go_enter Tryz.func83, Tryz.ntmps83
    go_wp2_with (go_at_call 130; refine (wordLength_any 3 _ _ hr).mono ?_; rintro e w' ⟨rfl, rfl⟩)
    go_ret
    exact ⟨ret_int (by rw [KE.out]; rfl), 0, rfl⟩
  · go_enter Tryz.func83, Tryz.ntmps83
    go_wp2_with (go_at_call 130; refine (wordLength_any 4 _ _ hr).mono ?_; rintro e w' ⟨rfl, rfl⟩)
    go_ret
    exact ⟨ret_int (by rw [KE.out]; rfl), 0, rfl⟩
  · go_enter Tryz.func83, Tryz.ntmps83
    go_wp2_with (go_at_call 129; refine (signLength_any _ _ hr h).mono ?_; rintro e w' ⟨rfl, n, rfl⟩)
    go_ret
    exact ⟨ret_int (by rw [KE.out]; simp), n, rfl⟩


set_option maxHeartbeats 1000000 in
theorem next_any (s : ByteArray) (p : Nat) (w : World) (hs : s.size ≤ maxLen) (hp : p ≤ s.size) (h : Signs w) (hz : 0 < w.heap.size) :
    Calls Tryz.prog 42 #[.string s, .int .i64 (p : Int)] w fun e w' => e = .returned (.agg #[.int .i64 ((Parl.next s p).kind : Int), .int .i64 ((Parl.next s p).pos : Int), .string (Parl.next s p).text]) ∧ Below w.heap.size w w' := by
  have hs' := hs
  unfold maxLen at hs'
  have hle := Parl.skip_le hp
  have hge := Parl.skip_ge s p
  by_cases he : Parl.skip s p < s.size
  · have hS : ∀ o, Signs (w.alloc o) := fun o => h.below ((Below.refl _ _).alloc (Nat.le_refl _) o) hz
    have hsz : (s.extract (Parl.skip s p) s.size).size ≤ maxLen := by rw [← Parl.from_, Parl.size_from]; omega
    have hN := hide (Parl.next_tok he)
    have hK := hide (@Parl.kindAt_from s (Parl.skip s p))
    have hE := hide (@Parl.endAt_from s (Parl.skip s p))
    have hEl := Parl.endAt_le he
    have hEg := Parl.endAt_gt he
    have hX : Hid (∀ n : Nat, Parl.skip s p + n ≤ s.size → (Parl.from_ s (Parl.skip s p)).extract 0 n = s.extract (Parl.skip s p) (Parl.skip s p + n)) := fun n h => Parl.extract_from h
    unfold Parl.from_ at hK hE hX
    go_enter Tryz.func42, Tryz.ntmps42
    go_wp2_with fail
    refine (skipBlanks_any s p _ hs hp).mono ?_
    rintro e w' ⟨rfl, rfl⟩
    go_wp2_with fail
    refine (kindOf_any (s.extract (Parl.skip s p) s.size) _ hsz (hS _)).mono ?_
    rintro e w' ⟨rfl, n, rfl⟩
    go_wp2_with fail
    refine (lengthOf_any (s.extract (Parl.skip s p) s.size) _ hsz ((hS _).draws _)).mono ?_
    rintro e w' ⟨rfl, m, rfl⟩
    have hb : Parl.endAt (s.extract (Parl.skip s p) s.size) 0 + Parl.skip s p = Parl.endAt s (Parl.skip s p) := unhide hE
    have hb2 : Parl.endAt (s.extract (Parl.skip s p) s.size) 0 ≤ (s.extract (Parl.skip s p) s.size).size := by rw [ByteArray.size_extract]; omega
    generalize hg : Parl.endAt (s.extract (Parl.skip s p) s.size) 0 = q at *
    have hg' := hide hg
    clear hg
    have hb' := hide hb
    clear hb
    go_wp2_with fail
    refine bodyPost_ret (v := .agg #[.int .i64 (Parl.kindAt (s.extract (Parl.skip s p) s.size) 0 : Int), .int .i64 (Parl.skip s p : Int), .string ((s.extract (Parl.skip s p) s.size).extract 0 q)]) (by simp [results, Tryz.results42, go_sem]) rfl ⟨?_, ?_⟩
    · rw [unhide hN, unhide hK, unhide hX q (by rw [ByteArray.size_extract] at hb2; omega), Nat.add_comm, unhide hb']
    · exact (((below_drewN ((Below.refl _ _).alloc (Nat.le_refl _) _) _).setCell (Nat.le_refl _) _).setCell (Nat.le_refl _) _).setCell (Nat.le_refl _) _
  · have hN := hide (Parl.next_end (s := s) (p := p) (by omega))
    go_enter Tryz.func42, Tryz.ntmps42
    go_wp2_with fail
    refine (skipBlanks_any s p _ hs hp).mono ?_
    rintro e w' ⟨rfl, rfl⟩
    go_wp2_with fail
    refine bodyPost_ret (v := .agg #[.int .i64 0, .int .i64 (s.size : Int), .string ByteArray.empty]) (by simp [results, Tryz.results42, go_sem]; rfl) rfl ⟨?_, ?_⟩
    · rw [unhide hN]; rfl
    · exact (Below.refl _ _).alloc (Nat.le_refl _) _
end Go.Proofs.YthkhcaanppdghaaGreatDoor
namespace Go.Proofs.YthkhcaanppdghaaGreatDoor
open Go.RowKit

/-- The type of a block's cells. -/
def tyAt (w : World) (k : Nat) : Option TypeId := match w.heap[k]? with
  | some (.cells _ t _) => some t
  | _ => none

/-- All blocks stay but those of X and rows of texts from b on. -/
structure KA (b : Nat) (X : List Nat) (w w' : World) : Prop where
  os : w'.os = w.os
  tape : w'.tape = w.tape
  output : w'.output = w.output
  size : w.heap.size ≤ w'.heap.size
  block : ∀ k, k < w.heap.size → k ∉ X → (k < b ∨ tyAt w k ≠ some 9) → w'.heap[k]? = w.heap[k]?

theorem KA.refl (b : Nat) (X : List Nat) (w : World) : KA b X w w := ⟨rfl, rfl, rfl, Nat.le_refl _, fun _ _ _ _ => rfl⟩
theorem KA.trans {b : Nat} {X : List Nat} {u v w : World} (h : KA b X u v) (k : KA b X v w) : KA b X u w :=
  ⟨k.os.trans h.os, k.tape.trans h.tape, k.output.trans h.output, Nat.le_trans h.size k.size, fun i hi hX ht => by
    have e := h.block i hi hX ht
    rw [k.block i (Nat.lt_of_lt_of_le hi h.size) hX (by unfold tyAt at ht ⊢; rw [e]; exact ht), e]⟩
theorem KA.of_below {b : Nat} {X : List Nat} {w w' : World} (h : Below w.heap.size w w') : KA b X w w' := ⟨h.os, h.tape, h.output, h.size, fun k hk _ _ => h.block k hk⟩
theorem KA.drewN {b : Nat} {X : List Nat} {u w : World} (h : KA b X u w) (n : Nat) : KA b X u (w.drewN n) := h.trans (KA.of_below (below_drewN (Below.refl _ _) n))
theorem KA.drew {b : Nat} {X : List Nat} {u w : World} (h : KA b X u w) : KA b X u w.drew := h.trans (KA.of_below (Below.refl _ _).drew)
theorem KA.alloc {b : Nat} {X : List Nat} {u w : World} (h : KA b X u w) (o : Obj) : KA b X u (w.alloc o) := h.trans (KA.of_below ((Below.refl _ _).alloc (Nat.le_refl _) o))
theorem KA.setIn {b : Nat} {X : List Nat} {u w : World} (h : KA b X u w) {p : Addr} (hp : p.block ∈ X) (v : Value) : KA b X u (w.setCell p v) :=
  h.trans ⟨rfl, rfl, rfl, by simp [World.setCell], fun k hk hX _ => Below.heap_setCell _ _ _ _ (fun e => hX (e ▸ hp))⟩
theorem KA.setNew {b : Nat} {X : List Nat} {u w : World} (h : KA b X u w) {p : Addr} (hp : u.heap.size ≤ p.block) (v : Value) : KA b X u (w.setCell p v) :=
  ⟨h.os, h.tape, h.output, by have := h.size; simp [World.setCell]; omega, fun k hk hX ht => (Below.heap_setCell _ _ _ _ (by omega)).trans (h.block k hk hX ht)⟩
theorem KA.mono {b : Nat} {X Y : List Nat} {u w : World} (h : KA b X u w) (hs : ∀ x ∈ X, x ∈ Y) : KA b Y u w :=
  ⟨h.os, h.tape, h.output, h.size, fun k hk hY ht => h.block k hk (fun e => hY (hs k e)) ht⟩
/-- What is new in the first world may be let go. -/
theorem KA.forget {b : Nat} {X Y : List Nat} {u w : World} (h : KA b Y u w) (hs : ∀ x ∈ Y, x ∈ X ∨ u.heap.size ≤ x) : KA b X u w :=
  ⟨h.os, h.tape, h.output, h.size, fun k hk hX ht => h.block k hk (fun e => (hs k e).elim hX (fun q => by omega)) ht⟩
theorem KA.cell {b : Nat} {X : List Nat} {w w' : World} (h : KA b X w w') {p : Addr} (hp : p.block < w.heap.size) (hX : p.block ∉ X) (ht : p.block < b ∨ tyAt w p.block ≠ some 9) : w'.cell? p = w.cell? p := World.cell?_of_block (w := w) (h.block p.block hp hX ht)
theorem KA.frozen {b : Nat} {X : List Nat} {w w' : World} (h : KA b X w w') {p : Addr} (hp : p.block < w.heap.size) (hX : p.block ∉ X) (ht : p.block < b ∨ tyAt w p.block ≠ some 9) : w'.frozen? p = w.frozen? p := World.frozen?_of_block (w := w) (h.block p.block hp hX ht)
theorem KA.below {b : Nat} {X : List Nat} {w w' : World} (h : KA b X w w') {B : Nat} (hB : B ≤ w.heap.size) (hb : B ≤ b) (hX : ∀ x ∈ X, B ≤ x) : Below B w w' :=
  ⟨h.os, h.tape, h.output, h.size, fun k hk => h.block k (by omega) (fun e => by have := hX k e; omega) (Or.inl (by omega))⟩
theorem KA.grown {b : Nat} {X : List Nat} {u w w' : World} {row : Option Nat} (h : KA b X u w) (hg : w.grownBy w' row) (hr : ∀ k, row = some k → u.heap.size ≤ k ∨ k ∈ X ∨ (b ≤ k ∧ tyAt w k = some 9)) : KA b X u w' :=
  ⟨hg.os.trans h.os, hg.tape.trans h.tape, hg.output.trans h.output, Nat.le_trans h.size hg.size, fun k hk hX ht => by
    have e := h.block k hk hX ht
    rw [hg.block k (Nat.lt_of_lt_of_le hk h.size) (fun q => ?_), e]
    rcases hr k q.symm with a | a | ⟨a, c⟩
    · omega
    · exact hX a
    · rcases ht with t | t
      · omega
      · apply t; unfold tyAt at c ⊢; rw [← e]; exact c⟩

theorem Signs.ka {b : Nat} {X : List Nat} {w w' : World} (h : Signs w) (hk : KA b X w w') (h0 : 0 < w.heap.size) (hX : 0 ∉ X) (hb : 0 < b) : Signs w' :=
  ⟨(hk.cell (p := ⟨0, 0, none⟩) h0 hX (Or.inl hb)).trans h.s0, (hk.cell (p := ⟨0, 1, none⟩) h0 hX (Or.inl hb)).trans h.s1, (hk.cell (p := ⟨0, 2, none⟩) h0 hX (Or.inl hb)).trans h.s2, (hk.cell (p := ⟨0, 3, none⟩) h0 hX (Or.inl hb)).trans h.s3, (hk.cell (p := ⟨0, 4, none⟩) h0 hX (Or.inl hb)).trans h.s4⟩

/-- The reader's six cells. -/
structure Rd (w : World) (rb : Nat) (s : ByteArray) (t : Parl.Tok) (nv : Value) (e : Int) : Prop where
  c0 : w.cell? ⟨rb, 0, none⟩ = some (.string s)
  c1 : w.cell? ⟨rb, 1, none⟩ = some (.int .i64 (t.kind : Int))
  c2 : w.cell? ⟨rb, 2, none⟩ = some (.int .i64 (t.pos : Int))
  c3 : w.cell? ⟨rb, 3, none⟩ = some (.string t.text)
  c4 : w.cell? ⟨rb, 4, none⟩ = some nv
  c5 : w.cell? ⟨rb, 5, none⟩ = some (.int .i64 e)
  f1 : w.frozen? ⟨rb, 1, none⟩ = false
  f2 : w.frozen? ⟨rb, 2, none⟩ = false
  f3 : w.frozen? ⟨rb, 3, none⟩ = false
  f4 : w.frozen? ⟨rb, 4, none⟩ = false
  f5 : w.frozen? ⟨rb, 5, none⟩ = false

theorem Rd.below {B : Nat} {w w' : World} {rb : Nat} {s : ByteArray} {t : Parl.Tok} {nv : Value} {e : Int} (h : Rd w rb s t nv e) (hb : Below B w w') (hr : rb < B) : Rd w' rb s t nv e :=
  ⟨(hb.cell (p := ⟨rb, 0, none⟩) hr).trans h.c0, (hb.cell (p := ⟨rb, 1, none⟩) hr).trans h.c1, (hb.cell (p := ⟨rb, 2, none⟩) hr).trans h.c2, (hb.cell (p := ⟨rb, 3, none⟩) hr).trans h.c3, (hb.cell (p := ⟨rb, 4, none⟩) hr).trans h.c4, (hb.cell (p := ⟨rb, 5, none⟩) hr).trans h.c5,
   (hb.frozen (p := ⟨rb, 1, none⟩) hr).trans h.f1, (hb.frozen (p := ⟨rb, 2, none⟩) hr).trans h.f2, (hb.frozen (p := ⟨rb, 3, none⟩) hr).trans h.f3, (hb.frozen (p := ⟨rb, 4, none⟩) hr).trans h.f4, (hb.frozen (p := ⟨rb, 5, none⟩) hr).trans h.f5⟩

/-- What the reader stands at: the tokens l are left, ns are the clause's variables so far. -/
structure St (w : World) (rb : Nat) (s : ByteArray) (l : List Parl.Tok) (ns : List ByteArray) (nv : Value) (e : Int) : Prop where
  rd : Rd w rb s (Parl.hd l) nv e
  own : w.ownsRow (rb + 1) 9 1 nv ns.length (ns.map Value.string)
  chain : Parl.Chain s l
  isNext : ∃ p, Parl.hd l = Parl.next s p
  few : ns.length + l.length ≤ 1000
  short : s.size ≤ 240
  signs : Signs w
  pos : 0 < rb
  lt : rb < w.heap.size

theorem St.below {w w' : World} {rb : Nat} {s : ByteArray} {l : List Parl.Tok} {ns : List ByteArray} {nv : Value} {e : Int} (h : St w rb s l ns nv e) (hb : Below w.heap.size w w') : St w' rb s l ns nv e :=
  ⟨h.rd.below hb h.lt, ⟨h.own.1, h.own.2.imp id fun ⟨g, cap, cur, a, b, c, d⟩ => ⟨g, cap, cur, a, b, (hb.block g (by
      have := Array.getElem?_eq_some_iff.1 c; exact this.1)).trans c, d⟩⟩, h.chain, h.isNext, h.few, h.short, h.signs.below hb (by have := h.lt; omega), h.pos, by have := hb.size; have := h.lt; omega⟩

/-- A store into the reader's own block: what does not hang on its cells stays. -/
theorem own_setCell {w : World} {rb : Nat} {T : TypeId} {sz : Nat} {nv : Value} {n : Nat} {xs : List Value} (h : w.ownsRow (rb + 1) T sz nv n xs) (o : Nat) (v : Value) : (w.setCell ⟨rb, o, none⟩ v).ownsRow (rb + 1) T sz nv n xs :=
  ownsRow_setCell_below h (by show rb < rb + 1; omega) v

theorem Signs.setCell {w : World} (h : Signs w) {p : Addr} (hp : p.block ≠ 0) (v : Value) : Signs (w.setCell p v) := by
  have k : ∀ o, (w.setCell p v).cell? ⟨0, o, none⟩ = w.cell? ⟨0, o, none⟩ := fun o => World.cell?_of_block (Below.heap_setCell _ _ _ _ (fun e => hp e.symm))
  exact ⟨(k 0).trans h.s0, (k 1).trans h.s1, (k 2).trans h.s2, (k 3).trans h.s3, (k 4).trans h.s4⟩
end Go.Proofs.YthkhcaanppdghaaGreatDoor
namespace Go.Proofs.YthkhcaanppdghaaGreatDoor
open Go.RowKit

theorem refuse_any (w : World) (rb : Nat) (s : ByteArray) (l : List Parl.Tok) (ns : List ByteArray) (nv : Value) (e0 : Int) (c : Int) (h : St w rb s l ns nv e0) :
    Calls Tryz.prog 51 #[.pointer (some ⟨rb, 0, none⟩), .int .i64 c] w fun e w' => e = .returned (.tuple #[]) ∧ St w' rb s l ns nv c ∧ KA rb [rb] w w' := by
  obtain ⟨⟨c0, c1, c2, c3, c4, c5, f1, f2, f3, f4, f5⟩, own, chain, isn, few, short, signs, pos, lt⟩ := h
  go_enter Tryz.func51, Tryz.ntmps51
  go_wp2
  go_end0
  refine ⟨rfl, ⟨⟨?_, ?_, ?_, ?_, ?_, ?_, ?_, ?_, ?_, ?_, ?_⟩, own_setCell own _ _, chain, isn, few, short, signs.setCell (by show rb ≠ 0; omega) _, pos, by simpa using lt⟩, (KA.refl _ _ _).setIn (by simp) _⟩
  all_goals first | go_cell | (simp [go_sem, *]; done)

theorem sees_any (w : World) (rb : Nat) (s : ByteArray) (l : List Parl.Tok) (ns : List ByteArray) (nv : Value) (e0 : Int) (g : ByteArray) (h : St w rb s l ns nv e0) :
    Calls Tryz.prog 85 #[.pointer (some ⟨rb, 0, none⟩), .string g] w fun e w' => e = .returned (.bool (Parl.sees l g.toList)) ∧ w' = w := by
  obtain ⟨⟨c0, c1, c2, c3, c4, c5, f1, f2, f3, f4, f5⟩, own, chain, isn, few, short, signs, pos, lt⟩ := h
  clear own chain isn few signs
  by_cases hk : (Parl.hd l).kind = 5
  · have hk' : (((Parl.hd l).kind : Int) == 5) = true := by simp; omega
    have HS := hide (show Parl.sees l g.toList = ((Parl.hd l).text.toList == g.toList) by simp [Parl.sees, hk])
    clear hk
    go_enter Tryz.func85, Tryz.ntmps85
    go_wp2
    go_ret
    exact ⟨ret_bool (by rw [unhide HS]), rfl⟩
  · have hk' : (((Parl.hd l).kind : Int) == 5) = false := by simp; omega
    have HS := hide (show Parl.sees l g.toList = false by simp [Parl.sees, hk])
    clear hk
    go_enter Tryz.func85, Tryz.ntmps85
    go_wp2
    go_ret
    exact ⟨ret_bool (by rw [unhide HS]), rfl⟩

theorem take_end {w w1 : World} {rb : Nat} {s : ByteArray} {l : List Parl.Tok} {ns : List ByteArray} {nv : Value} {e0 : Int} (h : St w rb s l ns nv e0) (h0 : (Parl.hd l).kind ≠ 0) (hb : Below w.heap.size w w1) :
    St (((w1.setCell ⟨rb, 1, none⟩ (.int .i64 ((Parl.next s ((Parl.hd l).pos + (Parl.hd l).text.size)).kind : Int))).setCell ⟨rb, 2, none⟩ (.int .i64 ((Parl.next s ((Parl.hd l).pos + (Parl.hd l).text.size)).pos : Int))).setCell ⟨rb, 3, none⟩ (.string (Parl.next s ((Parl.hd l).pos + (Parl.hd l).text.size)).text)) rb s l.tail ns nv e0 ∧
    KA rb [rb] w (((w1.setCell ⟨rb, 1, none⟩ (.int .i64 ((Parl.next s ((Parl.hd l).pos + (Parl.hd l).text.size)).kind : Int))).setCell ⟨rb, 2, none⟩ (.int .i64 ((Parl.next s ((Parl.hd l).pos + (Parl.hd l).text.size)).pos : Int))).setCell ⟨rb, 3, none⟩ (.string (Parl.next s ((Parl.hd l).pos + (Parl.hd l).text.size)).text)) := by
  have hk := h.chain.tail h0
  have h1 := h.below hb
  have few := h.few
  have hl : l.length = l.tail.length + 1 := by
    rcases l with _ | ⟨a, r⟩
    · exact absurd h.chain (by simp [Parl.Chain])
    · rfl
  obtain ⟨⟨d0, d1, d2, d3, d4, d5, g1, g2, g3, g4, g5⟩, own, chain, isn, few1, short, signs, pos, lt⟩ := h1
  have z : rb ≠ 0 := by omega
  refine ⟨⟨?_, own_setCell (own_setCell (own_setCell own _ _) _ _) _ _, hk.1, ⟨_, hk.2.1⟩, by omega, short, ((signs.setCell (by exact z) _).setCell (by exact z) _).setCell (by exact z) _, pos, by simpa using lt⟩, (((KA.of_below hb).setIn (by simp) _).setIn (by simp) _).setIn (by simp) _⟩
  rw [hk.2.1]
  generalize Parl.next s ((Parl.hd l).pos + (Parl.hd l).text.size) = t
  exact ⟨by go_cell, by go_cell, by go_cell, by go_cell, by go_cell, by go_cell, by go_cell, by go_cell, by go_cell, by go_cell, by go_cell⟩

end Go.Proofs.YthkhcaanppdghaaGreatDoor
namespace Go.Proofs.YthkhcaanppdghaaGreatDoor
open Go.RowKit

set_option maxHeartbeats 1000000 in
theorem take_any (w : World) (rb : Nat) (s : ByteArray) (l : List Parl.Tok) (ns : List ByteArray) (nv : Value) (e0 : Int) (h : St w rb s l ns nv e0) (h0 : (Parl.hd l).kind ≠ 0) :
    Calls Tryz.prog 86 #[.pointer (some ⟨rb, 0, none⟩)] w fun e w' => e = .returned (.tuple #[]) ∧ St w' rb s l.tail ns nv e0 ∧ KA rb [rb] w w' := by
  have HS := hide h
  obtain ⟨⟨c0, c1, c2, c3, c4, c5, f1, f2, f3, f4, f5⟩, own, chain, ⟨p, isn⟩, few, short, signs, pos, lt⟩ := h
  have hfit : (Parl.hd l).pos + (Parl.hd l).text.size ≤ s.size := by rw [isn]; exact Parl.next_fits
  have hmx : s.size ≤ maxLen := by unfold maxLen; omega
  have hz : 0 < w.heap.size := by omega
  have hC := hide chain
  have HG := hide signs
  have hw : IntKind.i64.wrap (((Parl.hd l).pos : Int) + ((Parl.hd l).text.size : Int)) = ((Parl.hd l).pos : Int) + ((Parl.hd l).text.size : Int) := by rw [IntWalk.i64_in _ ⟨by omega, by omega⟩]
  have HP := hide (show ((Parl.hd l).pos : Int) + ((Parl.hd l).text.size : Int) = (((Parl.hd l).pos + (Parl.hd l).text.size : Nat) : Int) by omega)
  clear chain own isn few signs
  go_enter Tryz.func86, Tryz.ntmps86
  go_wp2
  go_region_with (go_at_call 42; rw [unhide HP]; refine (next_any s ((Parl.hd l).pos + (Parl.hd l).text.size) _ hmx hfit ((unhide HG).draws 1) hz).mono ?_; rintro e w1 ⟨rfl, hb⟩; obtain ⟨d0, d1, d2, d3, d4, d5, g1, g2, g3, g4, g5⟩ := (unhide HS).rd.below (Below.trans (Below.refl _ _).drew hb) lt)
  all_goals
    go_wp2
    go_end0
    exact ⟨rfl, take_end (unhide HS) h0 (Below.trans (Below.refl _ _).drew hb)⟩
end Go.Proofs.YthkhcaanppdghaaGreatDoor
namespace Go.Proofs.YthkhcaanppdghaaGreatDoor
open Go.RowKit

theorem takeIf_any (w : World) (rb : Nat) (s : ByteArray) (l : List Parl.Tok) (ns : List ByteArray) (nv : Value) (e0 : Int) (f : Bool) (h : St w rb s l ns nv e0) (h0 : f = true → (Parl.hd l).kind ≠ 0) :
    Calls Tryz.prog 88 #[.pointer (some ⟨rb, 0, none⟩), .bool f] w fun e w' => e = .returned (.bool f) ∧ St w' rb s (if f then l.tail else l) ns nv (if f then e0 else 2) ∧ KA rb [rb] w w' := by
  have H := hide h
  clear h
  cases f
  · go_enter Tryz.func88, Tryz.ntmps88
    go_wp2_with (go_at_call 51; refine (refuse_any _ _ _ _ _ _ _ 2 (unhide H)).mono ?_; rintro e w1 ⟨rfl, hs, hk⟩; have HS := hide hs; have HK := hide hk; clear hs hk)
    go_ret
    exact ⟨rfl, unhide HS, unhide HK⟩
  · have h0' := hide (h0 rfl)
    clear h0
    go_enter Tryz.func88, Tryz.ntmps88
    go_wp2_with (go_at_call 86; refine (take_any _ _ _ _ _ _ _ (unhide H) (unhide h0')).mono ?_; rintro e w1 ⟨rfl, hs, hk⟩; have HS := hide hs; have HK := hide hk; clear hs hk)
    go_ret
    exact ⟨rfl, unhide HS, unhide HK⟩

theorem comma_any (w : World) (rb : Nat) (s : ByteArray) (l : List Parl.Tok) (ns : List ByteArray) (nv : Value) (e0 : Int) (c m : Nat) (h : St w rb s l ns nv e0) (h0 : (Parl.hd l).kind ≠ 0) :
    Calls Tryz.prog 136 #[.pointer (some ⟨rb, 0, none⟩), .int .i64 (c : Int), .int .i64 (m : Int)] w fun e w' => e = .returned (.bool (decide (c < m))) ∧ St w' rb s (if c < m then l.tail else l) ns nv (if c < m then e0 else 3) ∧ KA rb [rb] w w' := by
  have H := hide h
  have h0' := hide h0
  clear h h0
  by_cases hc : c < m
  · rw [if_pos hc, if_pos hc]
    go_enter Tryz.func136, Tryz.ntmps136
    go_wp2_with (go_at_call 86; refine (take_any _ _ _ _ _ _ _ (unhide H) (unhide h0')).mono ?_; rintro e w1 ⟨rfl, hs, hk⟩; have HS := hide hs; have HK := hide hk; clear hs hk)
    go_ret
    exact ⟨ret_bool (by simp [hc]), unhide HS, unhide HK⟩
  · rw [if_neg hc, if_neg hc]
    go_enter Tryz.func136, Tryz.ntmps136
    go_wp2_with (go_at_call 51; refine (refuse_any _ _ _ _ _ _ _ 3 (unhide H)).mono ?_; rintro e w1 ⟨rfl, hs, hk⟩; have HS := hide hs; have HK := hide hk; clear hs hk)
    go_ret
    exact ⟨ret_bool (by simp; omega), unhide HS, unhide HK⟩

end Go.Proofs.YthkhcaanppdghaaGreatDoor
namespace Go.Proofs.YthkhcaanppdghaaGreatDoor
open Go.RowKit

/-- What mayBegin says: 0 it may; else the error. -/
def mayB (d : Nat) (t : Parl.Tok) : Nat := if Parl.begins t = true then (if t.kind = 4 ∧ 6 < t.text.size ∨ 8 < d then 3 else 0) else 2

theorem mayB_two {d : Nat} {t : Parl.Tok} (h : ¬ (t.kind = 2 ∨ t.kind = 3 ∨ t.kind = 4)) : mayB d t = 2 := by
  unfold mayB Parl.begins; rw [if_neg]; simp; omega
theorem mayB_three {d : Nat} {t : Parl.Tok} (h : t.kind = 2 ∨ t.kind = 3 ∨ t.kind = 4) (b : t.kind = 4 ∧ 6 < t.text.size ∨ 8 < d) : mayB d t = 3 := by
  unfold mayB Parl.begins; rw [if_pos, if_pos b]; simp; omega
theorem mayB_none {d : Nat} {t : Parl.Tok} (h : t.kind = 2 ∨ t.kind = 3 ∨ t.kind = 4) (b : ¬ (t.kind = 4 ∧ 6 < t.text.size ∨ 8 < d)) : mayB d t = 0 := by
  unfold mayB Parl.begins; rw [if_pos, if_neg b]; simp; omega

set_option maxHeartbeats 1000000 in
/-- It may not begin here. -/
theorem may_no (w : World) (rb : Nat) (s : ByteArray) (l : List Parl.Tok) (ns : List ByteArray) (nv : Value) (e0 : Int) (d k z : Nat) (h : St w rb s l ns nv e0) (hkk : (Parl.hd l).kind = k) (hzz : (Parl.hd l).text.size = z) (hz : z ≤ 240) (m : Nat)
    (hm : (m = 2 ∧ ¬ (k = 2 ∨ k = 3 ∨ k = 4)) ∨ (m = 3 ∧ (k = 2 ∨ k = 3 ∨ k = 4) ∧ (k = 4 ∧ 6 < z ∨ 8 < d))) :
    Calls Tryz.prog 101 #[.pointer (some ⟨rb, 0, none⟩), .int .i64 (d : Int)] w fun e w' => e = .returned (.bool false) ∧ St w' rb s l ns nv (m : Int) ∧ KA rb [rb] w w' := by
  have H := hide h
  obtain ⟨⟨c0, c1, c2, c3, c4, c5, f1, f2, f3, f4, f5⟩, own, chain, isn, few, short, signs, pos, lt⟩ := h
  clear own chain isn few short signs pos lt c0 c2 c4 c5 f1 f2 f3 f4 f5
  rw [hkk] at c1
  generalize (Parl.hd l).text = tx at c3 hzz
  clear hkk
  subst hzz
  rcases hm with ⟨rfl, hn⟩ | ⟨rfl, hk, hb⟩
  · have n2 : ((k : Int) != 2) = true := by simp; omega
    have n3 : ((k : Int) != 3) = true := by simp; omega
    have n4 : ((k : Int) != 4) = true := by simp; omega
    clear hn
    go_enter Tryz.func101, Tryz.ntmps101
    go_wp2_with (go_at_call 51; refine (refuse_any _ _ _ _ _ _ _ 2 (unhide H)).mono ?_; rintro e w1 ⟨rfl, hs, hk⟩; have HS := hide hs; have HK := hide hk; clear hs hk)
    go_ret
    exact ⟨rfl, unhide HS, unhide HK⟩
  · rcases hk with rfl | rfl | rfl
    · have hd8 : 8 < d := by omega
      clear hb
      go_enter Tryz.func101, Tryz.ntmps101
      go_wp2_with (go_at_call 51; refine (refuse_any _ _ _ _ _ _ _ 3 (unhide H)).mono ?_; rintro e w1 ⟨rfl, hs, hk⟩; have HS := hide hs; have HK := hide hk; clear hs hk)
      go_ret
      exact ⟨rfl, unhide HS, unhide HK⟩
    · have hd8 : 8 < d := by omega
      clear hb
      go_enter Tryz.func101, Tryz.ntmps101
      go_wp2_with (go_at_call 51; refine (refuse_any _ _ _ _ _ _ _ 3 (unhide H)).mono ?_; rintro e w1 ⟨rfl, hs, hk⟩; have HS := hide hs; have HK := hide hk; clear hs hk)
      go_ret
      exact ⟨rfl, unhide HS, unhide HK⟩
    · by_cases h6 : 6 < tx.size
      · clear hb
        go_enter Tryz.func101, Tryz.ntmps101
        go_wp2_with (go_at_call 51; refine (refuse_any _ _ _ _ _ _ _ 3 (unhide H)).mono ?_; rintro e w1 ⟨rfl, hs, hk⟩; have HS := hide hs; have HK := hide hk; clear hs hk)
        go_ret
        exact ⟨rfl, unhide HS, unhide HK⟩
      · have hd8 : 8 < d := by omega
        clear hb
        go_enter Tryz.func101, Tryz.ntmps101
        go_wp2_with (go_at_call 51; refine (refuse_any _ _ _ _ _ _ _ 3 (unhide H)).mono ?_; rintro e w1 ⟨rfl, hs, hk⟩; have HS := hide hs; have HK := hide hk; clear hs hk)
        go_ret
        exact ⟨rfl, unhide HS, unhide HK⟩

set_option maxHeartbeats 1000000 in
/-- It may. -/
theorem may_yes (w : World) (rb : Nat) (s : ByteArray) (l : List Parl.Tok) (ns : List ByteArray) (nv : Value) (e0 : Int) (d k z : Nat) (h : St w rb s l ns nv e0) (hkk : (Parl.hd l).kind = k) (hzz : (Parl.hd l).text.size = z) (hz : z ≤ 240)
    (hk : k = 2 ∨ k = 3 ∨ k = 4) (hn : ¬ (k = 4 ∧ 6 < z ∨ 8 < d)) :
    Calls Tryz.prog 101 #[.pointer (some ⟨rb, 0, none⟩), .int .i64 (d : Int)] w fun e w' => e = .returned (.bool true) ∧ w' = w := by
  obtain ⟨⟨c0, c1, c2, c3, c4, c5, f1, f2, f3, f4, f5⟩, own, chain, isn, few, short, signs, pos, lt⟩ := h
  clear own chain isn few short signs pos lt c0 c2 c4 c5 f1 f2 f3 f4 f5
  rw [hkk] at c1
  generalize (Parl.hd l).text = tx at c3 hzz
  clear hkk
  subst hzz
  have hd8 : d ≤ 8 := by omega
  rcases hk with rfl | rfl | rfl
  · clear hn
    go_enter Tryz.func101, Tryz.ntmps101
    go_wp2_with fail
    go_ret
    exact ⟨rfl, rfl⟩
  · clear hn
    go_enter Tryz.func101, Tryz.ntmps101
    go_wp2_with fail
    go_ret
    exact ⟨rfl, rfl⟩
  · have h6 : tx.size ≤ 6 := by omega
    clear hn
    go_enter Tryz.func101, Tryz.ntmps101
    go_wp2_with fail
    go_ret
    exact ⟨rfl, rfl⟩

theorem mayBegin_any (w : World) (rb : Nat) (s : ByteArray) (l : List Parl.Tok) (ns : List ByteArray) (nv : Value) (e0 : Int) (d : Nat) (h : St w rb s l ns nv e0) :
    Calls Tryz.prog 101 #[.pointer (some ⟨rb, 0, none⟩), .int .i64 (d : Int)] w fun e w' => e = .returned (.bool (mayB d (Parl.hd l) == 0)) ∧ St w' rb s l ns nv (if mayB d (Parl.hd l) = 0 then e0 else (mayB d (Parl.hd l) : Int)) ∧ KA rb [rb] w w' := by
  have hz : (Parl.hd l).text.size ≤ 240 := by obtain ⟨p, e⟩ := h.isNext; have h1 := h.short; have h2 := @Parl.next_fits s p; rw [e]; omega
  by_cases hk : (Parl.hd l).kind = 2 ∨ (Parl.hd l).kind = 3 ∨ (Parl.hd l).kind = 4
  · by_cases hb : (Parl.hd l).kind = 4 ∧ 6 < (Parl.hd l).text.size ∨ 8 < d
    · rw [mayB_three hk hb]
      exact may_no w rb s l ns nv e0 d _ _ h rfl rfl hz 3 (Or.inr ⟨rfl, hk, hb⟩)
    · rw [mayB_none hk hb]
      refine (may_yes w rb s l ns nv e0 d _ _ h rfl rfl hz hk hb).mono ?_
      rintro e w' ⟨rfl, rfl⟩
      exact ⟨rfl, h, KA.refl _ _ _⟩
  · rw [mayB_two hk]
    exact may_no w rb s l ns nv e0 d _ _ h rfl rfl hz 2 (Or.inl ⟨rfl, hk⟩)
end Go.Proofs.YthkhcaanppdghaaGreatDoor
namespace Go.Proofs.YthkhcaanppdghaaGreatDoor
open Go.RowKit

/-- The names as lists. -/
def nmsA (ns : List ByteArray) : List (List UInt8) := ns.map fun b => b.toList
theorem nmA_idx {ns : List ByteArray} {k : Nat} {x : List UInt8} (h : k < ns.length) (he : ns[k].toList = x) (hno : ∀ j (hj : j < ns.length), j < k → ns[j].toList ≠ x) : (nmsA ns).idxOf x = k := by
  unfold nmsA
  induction ns generalizing k with
  | nil => simp at h
  | cons u us ih =>
    rw [List.map_cons]
    cases k with
    | zero => rw [List.idxOf_cons]; simp at he; simp [he]
    | succ k =>
      have h0 : u.toList ≠ x := hno 0 (by simp) (by omega)
      rw [List.idxOf_cons]
      simp only [beq_iff_eq, h0, cond_eq_ite, if_false]
      have := ih (k := k) (by simpa using h) (by simpa using he) (fun j hj q => by have := hno (j + 1) (by simpa using hj) (by omega); simpa using this)
      rw [this]
theorem nmA_in {ns : List ByteArray} {k : Nat} {x : List UInt8} (h : k < ns.length) (he : ns[k].toList = x) : Parl.addN (nmsA ns) x = nmsA ns := by
  unfold Parl.addN
  rw [if_pos]
  subst he
  exact List.mem_map.2 ⟨ns[k], by simp, rfl⟩
theorem nmA_out {ns : List ByteArray} {x : List UInt8} (hno : ∀ j (hj : j < ns.length), ns[j].toList ≠ x) : x ∉ nmsA ns := by
  intro q
  obtain ⟨u, hu, rfl⟩ := List.mem_map.1 q
  obtain ⟨i, hi, rfl⟩ := List.getElem_of_mem hu
  exact hno i hi rfl
theorem nmA_new {ns : List ByteArray} {g : ByteArray} (h : g.toList ∉ nmsA ns) : nmsA (ns ++ [g]) = Parl.addN (nmsA ns) g.toList ∧ (nmsA ns).idxOf g.toList = ns.length := by
  unfold Parl.addN
  rw [if_neg h, List.idxOf_eq_length h]
  simp [nmsA]
theorem nmA_len (ns : List ByteArray) : (nmsA ns).length = ns.length := by simp [nmsA]

/-- A term's four cells, as the program lays them. -/
structure AV where
  k : Int
  val : Int
  tx : ByteArray
  ao : Option Addr
  n : Nat
  cap : Nat
def avC (a : AV) : List Value := [.int .i64 a.k, .int .i64 a.val, .string a.tx, .slice a.ao a.n a.cap]
theorem avC_length (us : List AV) : (us.flatMap avC).length = us.length * 4 := by
  induction us with
  | nil => rfl
  | cons a r ih => rw [List.flatMap_cons, List.length_append, ih]; simp [avC]; omega
/-- The kinds of terms, as the program numbers them. -/
def ak (k : Nat) : Int := if k = 3 then 1 else if k = 4 then 2 else 3
/-- What a term's own cells say; N: the variables met so far. -/
def LeafA (N : List (List UInt8)) (a : AV) (t : Parl.Tm) : Prop := a.k = ak t.kind ∧ a.n = t.args.length ∧ (t.kind = 3 → t.text.toList ∈ N ∧ a.val = (N.idxOf t.text.toList : Int)) ∧ (t.kind = 4 → a.val = (Parl.numOf t.text : Int) ∧ t.text.size ≤ 6) ∧ (t.kind = 2 → a.tx = t.text) ∧ (t.kind = 2 ∨ t.kind = 3 ∨ t.kind = 4) ∧ t.text.size ≤ 240 ∧ t.args.length ≤ 3
def RA : Nat → List (List UInt8) → (Nat → Prop) → World → AV → Parl.Tm → Prop
  | 0, _, _, _, _, _ => False
  | f + 1, N, P, w, a, t => LeafA N a t ∧ (t.args ≠ [] → ∃ (g : Nat) (us : List AV) (cs : Array Value), a.ao = some ⟨g, 0, none⟩ ∧ P g ∧ w.heap[g]? = some (.cells cs 57 (0, 0)) ∧ cs.toList.take (us.length * 4) = us.flatMap avC ∧ All2 (RA f N P w) us t.args)
theorem RA.keep {N : List (List UInt8)} {P Q : Nat → Prop} {w w' : World} (hk : ∀ (g : Nat) (cs : Array Value), P g → w.heap[g]? = some (.cells cs 57 (0, 0)) → (∃ k r, cs.toList = .int .i64 k :: r) → w'.heap[g]? = some (.cells cs 57 (0, 0)) ∧ Q g) : ∀ {f : Nat} {a : AV} {t : Parl.Tm}, RA f N P w a t → RA f N Q w' a t
  | f + 1, _, _, ⟨h, q⟩ => ⟨h, fun n => by
    obtain ⟨g, us, cs, h1, h2, h3, h4, h5⟩ := q n
    have hi : ∃ k r, cs.toList = .int .i64 k :: r := by
      cases us with
      | nil => have := h5.length; simp at this; exact absurd (List.length_eq_zero_iff.1 this.symm) n
      | cons u us =>
        cases hc : cs.toList with
        | nil => rw [hc] at h4; simp [avC] at h4
        | cons c r =>
          rw [hc] at h4
          simp only [List.length_cons, Nat.add_mul, Nat.one_mul, List.flatMap_cons, avC, List.cons_append, List.take_succ_cons] at h4
          injection h4 with h4 _
          exact ⟨_, r, by rw [h4]⟩
    obtain ⟨r1, r2⟩ := hk g cs h2 h3 hi
    exact ⟨g, us, cs, h1, r2, r1, h4, h5.imp fun _ _ => RA.keep hk⟩⟩
theorem RA.imp {N : List (List UInt8)} {P Q : Nat → Prop} {w : World} {f : Nat} {a : AV} {t : Parl.Tm} (h : RA f N P w a t) (hk : ∀ g, P g → g < w.heap.size → Q g) : RA f N Q w a t :=
  h.keep fun g _ hp hg _ => ⟨hg, hk g hp (Array.getElem?_eq_some_iff.1 hg).1⟩
theorem RA.set {N : List (List UInt8)} {P : Nat → Prop} {w : World} {f : Nat} {a : AV} {t : Parl.Tm} (h : RA f N P w a t) {b : Nat} (hP : ∀ g, P g → g ≠ b) (o : Nat) (v : Value) : RA f N P (w.setCell ⟨b, o, none⟩ v) a t :=
  h.keep fun g _ hp hg _ => ⟨(Below.heap_setCell _ _ _ _ (fun e => hP g hp e)).trans hg, hp⟩
theorem LeafA.more {N : List (List UInt8)} {a : AV} {t : Parl.Tm} (h : LeafA N a t) (M : List (List UInt8)) : LeafA (N ++ M) a t :=
  ⟨h.1, h.2.1, fun k => ⟨List.mem_append_left _ (h.2.2.1 k).1, by rw [(h.2.2.1 k).2, List.idxOf_append, if_pos (h.2.2.1 k).1]⟩, h.2.2.2⟩
theorem RA.more {P : Nat → Prop} {w : World} {N : List (List UInt8)} (M : List (List UInt8)) : ∀ {f : Nat} {a : AV} {t : Parl.Tm}, RA f N P w a t → RA f (N ++ M) P w a t
  | f + 1, _, _, ⟨h, q⟩ => ⟨h.more M, fun n => by
    obtain ⟨g, us, cs, h1, h2, h3, h4, h5⟩ := q n
    exact ⟨g, us, cs, h1, h2, h3, h4, h5.imp fun _ _ => RA.more M⟩⟩
theorem RA.ok3 {P : Nat → Prop} {w : World} {N : List (List UInt8)} : ∀ {f : Nat} {a : AV} {t : Parl.Tm}, RA f N P w a t → Parl.ok3 f t
  | f + 1, a, t, ⟨h, q⟩ => by
    obtain ⟨h1, h2, h3, h4, h5, h6, h7, h8⟩ := h
    refine ⟨h7, h8, fun k => (h4 k).2, ?_⟩
    intro u hu
    obtain ⟨g, us, cs, _, _, _, _, ha⟩ := q (fun e => by rw [e] at hu; cases hu)
    have : ∀ (us : List AV) (ts : List Parl.Tm), All2 (RA f N P w) us ts → ∀ u ∈ ts, Parl.ok3 f u := by
      intro us
      induction us with
      | nil => intro ts ha u hu; cases ts with
        | nil => cases hu
        | cons t ts => exact ha.elim
      | cons v us ih => intro ts ha u hu; cases ts with
        | nil => cases hu
        | cons t ts =>
          rcases List.mem_cons.1 hu with rfl | hu
          · exact RA.ok3 ha.1
          · exact ih ts ha.2 u hu
    exact this us t.args ha u hu
/-- What 'term' says of its answer: rows new since w. -/
structure TA (f : Nat) (ns ns' : List ByteArray) (w w' : World) (val : Int) (tx : ByteArray) (ao : Option Addr) (cap : Nat) (t : Parl.Tm) : Prop where
  rep : RA f (nmsA ns') (fun g => w.heap.size ≤ g) w' ⟨ak t.kind, val, tx, ao, t.args.length, cap⟩ t
  nms : nmsA ns' = Parl.namesF f (nmsA ns) t
theorem RA.leaf {f : Nat} {N : List (List UInt8)} {P : Nat → Prop} {w : World} {a : AV} {t : Parl.Tm} (h : RA f N P w a t) : LeafA N a t := by
  cases f with
  | zero => exact h.elim
  | succ f => exact h.1
theorem TA.txt {f : Nat} {ns ns' : List ByteArray} {w w' : World} {val : Int} {tx : ByteArray} {ao : Option Addr} {cap : Nat} {t : Parl.Tm} (h : TA f ns ns' w w' val tx ao cap t) : t.kind = 2 → tx = t.text := h.rep.leaf.2.2.2.2.1
theorem RA.one {f : Nat} {N : List (List UInt8)} {P : Nat → Prop} {w : World} {a : AV} {t : Parl.Tm} (h : LeafA N a t) (h0 : t.args = []) : RA (f + 1) N P w a t := ⟨h, fun q => absurd h0 q⟩
/-- What 'arguments' says of its answer. -/
structure AA (f : Nat) (ns ns' : List ByteArray) (w w' : World) (ao : Option Addr) (ts : List Parl.Tm) : Prop where
  rows : ts ≠ [] → ∃ (g : Nat) (us : List AV) (cs : Array Value), ao = some ⟨g, 0, none⟩ ∧ w.heap.size ≤ g ∧ w'.heap[g]? = some (.cells cs 57 (0, 0)) ∧ cs.toList.take (us.length * 4) = us.flatMap avC ∧ All2 (RA f (nmsA ns') (fun g => w.heap.size ≤ g) w') us ts
  nms : nmsA ns' = ts.foldl (Parl.namesF f) (nmsA ns)
  few : ts.length ≤ 3
/-- Rows of the program's terms stay. -/
def KeepA (w w' : World) : Prop := ∀ (g : Nat) (cs : Array Value), w.heap[g]? = some (.cells cs 57 (0, 0)) → (∃ k r, cs.toList = .int .i64 k :: r) → w'.heap[g]? = some (.cells cs 57 (0, 0))
theorem KeepA.trans {u v w : World} (h : KeepA u v) (k : KeepA v w) : KeepA u w := fun g cs a b => k g cs (h g cs a b) b
theorem KeepA.below {w w' : World} (h : Below w.heap.size w w') : KeepA w w' := fun g _ a _ => (h.block g (Array.getElem?_eq_some_iff.1 a).1).trans a
theorem KeepA.ka {w w' : World} {rb : Nat} {s : ByteArray} {l : List Parl.Tok} {ns : List ByteArray} {nv : Value} {e : Int} (hs : St w rb s l ns nv e) (hk : KA rb [rb] w w') : KeepA w w' := fun g cs hg hi => (hk.block g (Array.getElem?_eq_some_iff.1 hg).1 (fun q => by
    obtain rfl : g = rb := by simpa using q
    obtain ⟨k, r, hc⟩ := hi
    have := hs.rd.c0
    simp [World.cell?, hg] at this
    rw [← Array.getElem?_toList, hc] at this
    simp at this) (Or.inr (by unfold tyAt; rw [hg]; simp))).trans hg
theorem KeepA.grown {w w' : World} {b0 : Nat} {T : TypeId} {sz : Nat} {av : Value} {n : Nat} {xs : List Value} (ho : w.ownsRow b0 T sz av n xs) (hg : w.grownBy w' av.ownBlock) (hT : T ≠ 57 := by decide) : KeepA w w' := fun g cs hc _ => (hg.block g (Array.getElem?_eq_some_iff.1 hc).1 (fun q => by
    rcases ho.2 with ⟨rfl, _⟩ | ⟨g', cap, cur, rfl, _, c, _⟩
    · simp [Value.ownBlock] at q
    · simp [Value.ownBlock] at q
      subst q
      rw [c] at hc; simp at hc; exact hT hc.2)).trans hc
end Go.Proofs.YthkhcaanppdghaaGreatDoor
