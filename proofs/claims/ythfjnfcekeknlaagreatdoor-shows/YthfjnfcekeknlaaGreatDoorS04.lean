import Derived.Test.YthfjnfcekeknlaaGreatDoorS01
import Derived.Deep.QuietTactic
import Derived.BigQuiet
import Derived.Deep.RegionWith
import Derived.OpenShut
namespace Go.Proofs.YthfjnfcekeknlaaGreatDoor
open Go.RowKit

theorem blk_set {w : World} {b : Nat} {cs : Array Value} {T : TypeId} (h : w.heap[b]? = some (.cells cs T (0, 0))) (i : Nat) (v : Value) : (w.setCell ⟨b, i, none⟩ v).heap[b]? = some (.cells (cs.setIfInBounds i v) T (0, 0)) := by
  simp [World.setCell, Array.getElem?_modify, h]
theorem blk_other {w : World} {b : Nat} {x : Obj} (h : w.heap[b]? = some x) {b' : Nat} (hne : b ≠ b') (i : Nat) (v : Value) : (w.setCell ⟨b', i, none⟩ v).heap[b]? = some x := (Below.heap_setCell _ _ _ _ hne).trans h
theorem blk_set5 {w : World} {b : Nat} {T : TypeId} {c0 c1 c2 c3 c4 c5 c6 c7 c8 c9 c10 c11 c12 c13 : Value} (v5 v6 v7 v8 v9 : Value) (h : w.heap[b]? = some (.cells #[c0, c1, c2, c3, c4, c5, c6, c7, c8, c9, c10, c11, c12, c13] T (0, 0))) : (((((w.setCell ⟨b, 5, none⟩ v5).setCell ⟨b, 6, none⟩ v6).setCell ⟨b, 7, none⟩ v7).setCell ⟨b, 8, none⟩ v8).setCell ⟨b, 9, none⟩ v9).heap[b]? = some (.cells #[c0, c1, c2, c3, c4, v5, v6, v7, v8, v9, c10, c11, c12, c13] T (0, 0)) := by
  have := blk_set (blk_set (blk_set (blk_set (blk_set h 5 v5) 6 v6) 7 v7) 8 v8) 9 v9
  simpa using this
theorem blk_other5 {w : World} {b b' : Nat} {x : Obj} (v5 v6 v7 v8 v9 : Value) (h : w.heap[b']? = some x) (hne : b' ≠ b) : (((((w.setCell ⟨b, 5, none⟩ v5).setCell ⟨b, 6, none⟩ v6).setCell ⟨b, 7, none⟩ v7).setCell ⟨b, 8, none⟩ v8).setCell ⟨b, 9, none⟩ v9).heap[b']? = some x :=
  blk_other (blk_other (blk_other (blk_other (blk_other h hne 5 v5) hne 6 v6) hne 7 v7) hne 8 v8) hne 9 v9
end Go.Proofs.YthfjnfcekeknlaaGreatDoor
namespace Go.Proofs.YthfjnfcekeknlaaGreatDoor
open Go.RowKit

/-- The table of the signs of two bytes lies where the program lays it. -/
structure Signs (w : World) : Prop where
  s0 : w.cell? ⟨0, 0, none⟩ = some (.string ⟨#[58, 45]⟩)
  s1 : w.cell? ⟨0, 1, none⟩ = some (.string ⟨#[58, 61]⟩)
  s2 : w.cell? ⟨0, 2, none⟩ = some (.string ⟨#[61, 61]⟩)
  s3 : w.cell? ⟨0, 3, none⟩ = some (.string ⟨#[92, 61]⟩)
  s4 : w.cell? ⟨0, 4, none⟩ = some (.string ⟨#[61, 60]⟩)

theorem signLen_two {r : ByteArray} (h : 2 ≤ r.size) (hl : Parl.longSign (Parl.bAt r 0) (Parl.bAt r 1) = true) : Parl.signLen r 0 = 2 := by
  unfold Parl.signLen; rw [if_pos ⟨by omega, hl⟩]
theorem signLen_one {r : ByteArray} (h : 0 < r.size) (hl : 2 ≤ r.size → Parl.longSign (Parl.bAt r 0) (Parl.bAt r 1) = false) (hs : Parl.shortSign (Parl.bAt r 0) = true) : Parl.signLen r 0 = 1 := by
  unfold Parl.signLen; rw [if_neg (by rintro ⟨a, b⟩; rw [hl (by omega)] at b; cases b), if_pos ⟨h, hs⟩]
theorem signLen_none {r : ByteArray} (hl : 2 ≤ r.size → Parl.longSign (Parl.bAt r 0) (Parl.bAt r 1) = false) (hs : 0 < r.size → Parl.shortSign (Parl.bAt r 0) = false) : Parl.signLen r 0 = 0 := by
  unfold Parl.signLen; rw [if_neg (by rintro ⟨a, b⟩; rw [hl (by omega)] at b; cases b), if_neg (by rintro ⟨a, b⟩; rw [hs a] at b; cases b)]

def shortB : ByteArray := ⟨#[61, 60, 43, 45, 42, 40, 41, 44, 124, 46]⟩
theorem shorts_at (k : Nat) (h : k < shortB.size) : Parl.shorts[k]? = some (shortB[k]'h).toNat := by
  have h' : k < 10 := h
  rcases (show k = 0 ∨ k = 1 ∨ k = 2 ∨ k = 3 ∨ k = 4 ∨ k = 5 ∨ k = 6 ∨ k = 7 ∨ k = 8 ∨ k = 9 by omega) with rfl | rfl | rfl | rfl | rfl | rfl | rfl | rfl | rfl | rfl <;> rfl
theorem short_hit {r : ByteArray} {k : Nat} (h0 : 0 < r.size) (hk : k < shortB.size) (h : (((r[0]'h0).toNat : Int) == ((shortB[k]'hk).toNat : Int)) = true) : Parl.shortSign (Parl.bAt r 0) = true := by
  rw [Parl.shortSign_in]
  refine ⟨k, hk, ?_⟩
  rw [shorts_at k hk, Parl.bAt_lt h0]
  have : ((r[0]'h0).toNat : Int) = ((shortB[k]'hk).toNat : Int) := by simpa using h
  rw [show (r[0]'h0).toNat = (shortB[k]'hk).toNat by omega]
theorem short_miss {r : ByteArray} {k : Nat} (h0 : 0 < r.size) (hk : k < shortB.size) (h : (((r[0]'h0).toNat : Int) == ((shortB[k]'hk).toNat : Int)) = false) (ho : ∀ j, j < k → Parl.shorts[j]? ≠ some (Parl.bAt r 0)) : ∀ j, j < k + 1 → Parl.shorts[j]? ≠ some (Parl.bAt r 0) := by
  intro j hj e
  by_cases hjk : j < k
  · exact ho j hjk e
  · obtain rfl : j = k := by omega
    rw [shorts_at j hk, Parl.bAt_lt h0] at e
    have e' := Option.some.inj e
    simp [e'] at h
theorem short_none {c k : Nat} (h : ¬ k < 10) (ho : ∀ j, j < k → Parl.shorts[j]? ≠ some c) : Parl.shortSign c = false := by
  cases hs : Parl.shortSign c with
  | false => rfl
  | true =>
    obtain ⟨j, hj, e⟩ := (Parl.shortSign_in c).1 hs
    exact absurd e (ho j (by omega))
theorem not_empty {r : ByteArray} (h : 0 < r.size) : r.toList.isEmpty = false := by
  rw [ByteArray.toList_eq]
  cases hx : r.data.toList with
  | nil => have := Parl.len_eq r; rw [hx] at this; simp at this; omega
  | cons => rfl

set_option maxHeartbeats 2000000 in
theorem signLength_any (r : ByteArray) (w : World) (hr : r.size ≤ maxLen) (h : Signs w) : Calls Tryz.prog 127 #[.string r] w fun e w' => e = .returned (.int .i64 ((Parl.signLen r 0 : Nat) : Int)) ∧ ∃ n, w' = w.drewN n := by
  obtain ⟨s0, s1, s2, s3, s4⟩ := h
  unfold maxLen at hr
  have i0 : ∀ w, (Instr.index 238 (.agg #[.string ⟨#[58, 45]⟩, .string ⟨#[58, 61]⟩, .string ⟨#[61, 61]⟩, .string ⟨#[92, 61]⟩, .string ⟨#[61, 60]⟩]) (.int .i64 0)).run Tryz.prog w = .ok (.string ⟨#[58, 45]⟩) w := fun _ => by kernel_rfl
  have i1 : ∀ w, (Instr.index 238 (.agg #[.string ⟨#[58, 45]⟩, .string ⟨#[58, 61]⟩, .string ⟨#[61, 61]⟩, .string ⟨#[92, 61]⟩, .string ⟨#[61, 60]⟩]) (.int .i64 1)).run Tryz.prog w = .ok (.string ⟨#[58, 61]⟩) w := fun _ => by kernel_rfl
  have i2 : ∀ w, (Instr.index 238 (.agg #[.string ⟨#[58, 45]⟩, .string ⟨#[58, 61]⟩, .string ⟨#[61, 61]⟩, .string ⟨#[92, 61]⟩, .string ⟨#[61, 60]⟩]) (.int .i64 2)).run Tryz.prog w = .ok (.string ⟨#[61, 61]⟩) w := fun _ => by kernel_rfl
  have i3 : ∀ w, (Instr.index 238 (.agg #[.string ⟨#[58, 45]⟩, .string ⟨#[58, 61]⟩, .string ⟨#[61, 61]⟩, .string ⟨#[92, 61]⟩, .string ⟨#[61, 60]⟩]) (.int .i64 3)).run Tryz.prog w = .ok (.string ⟨#[92, 61]⟩) w := fun _ => by kernel_rfl
  have i4 : ∀ w, (Instr.index 238 (.agg #[.string ⟨#[58, 45]⟩, .string ⟨#[58, 61]⟩, .string ⟨#[61, 61]⟩, .string ⟨#[92, 61]⟩, .string ⟨#[61, 60]⟩]) (.int .i64 4)).run Tryz.prog w = .ok (.string ⟨#[61, 60]⟩) w := fun _ => by kernel_rfl
  have LS : Hid (2 ≤ r.size → Parl.longSign (Parl.bAt r 0) (Parl.bAt r 1) = (((r.extract 0 2).toList == [58, 45]) || ((r.extract 0 2).toList == [58, 61]) || ((r.extract 0 2).toList == [61, 61]) || ((r.extract 0 2).toList == [92, 61]) || ((r.extract 0 2).toList == [61, 60]))) := fun h => Parl.longSign_two (i := 0) (by omega)
  by_cases h2 : 2 ≤ r.size
  · cases b0 : ((r.extract 0 2).toList == [58, 45])
    · cases b1 : ((r.extract 0 2).toList == [58, 61])
      · cases b2 : ((r.extract 0 2).toList == [61, 61])
        · cases b3 : ((r.extract 0 2).toList == [92, 61])
          · cases b4 : ((r.extract 0 2).toList == [61, 60])
            · have LN : Hid (Parl.longSign (Parl.bAt r 0) (Parl.bAt r 1) = false) := by rw [Hid, LS.out h2, b0, b1, b2, b3, b4]; rfl
              go_enter Tryz.func127, Tryz.ntmps127
              go_wp2
              refine wp_loop_rounds 6 ?_
              rw [rounds_succ]
              go_wp2
              rw [rounds_succ]
              go_wp2
              rw [rounds_succ]
              go_wp2
              rw [rounds_succ]
              go_wp2
              rw [rounds_succ]
              go_wp2
              rw [rounds_succ]
              go_wp2
              clear i0 i1 i2 i3 i4 b0 b1 b2 b3 b4
              go_loopw [5] (fun i wr => ∃ k n : Nat, k ≤ 10 ∧ i = .int .i64 k ∧ wr = w.drewN n ∧ Hid (∀ j, j < k → Parl.shorts[j]? ≠ some (Parl.bAt r 0))) (fun i _ => 10 - (intOf i).toNat)
              case atStart => exact ⟨0, 0, by omega, rfl, rfl, fun j h => absurd h (Nat.not_lt_zero _)⟩
              case round =>
                obtain ⟨k, n, hk, rfl, rfl, hno⟩ := hrel
                by_cases hlt : k < 10
                · by_cases h0 : 0 < r.size
                  · have hE := not_empty h0
                    have HM : Hid (∀ hk : k < shortB.size, (((r[0]'h0).toNat : Int) == ((shortB[k]'hk).toNat : Int)) = false → ∀ j, j < k + 1 → Parl.shorts[j]? ≠ some (Parl.bAt r 0)) := fun hk h => short_miss h0 hk h hno.out
                    go_wp2
                    go_big_region
                    go_wp2
                    · go_ret
                      exact ⟨ret_int (by rw [signLen_one h0 (fun _ => LN.out) (short_hit (k := k) h0 hlt (by assumption))]; rfl), n + 1, rfl⟩
                    · go_roundw
                      case rel => exact ⟨k + 1, n + 1, by omega, by go_num, rfl, HM.out hlt (by assumption)⟩
                      case measure => simp [intOf]; omega
                  · exact absurd (show 0 < r.size by omega) h0
                · have hS : Hid (Parl.shortSign (Parl.bAt r 0) = false) := short_none hlt hno.out
                  go_wp2
                  go_ret
                  exact ⟨ret_int (by rw [signLen_none (fun _ => LN.out) (fun _ => hS.out)]; rfl), n, rfl⟩
            · have LN : Hid (Parl.longSign (Parl.bAt r 0) (Parl.bAt r 1) = true) := by rw [Hid, LS.out h2, b0, b1, b2, b3, b4]; simp
              go_enter Tryz.func127, Tryz.ntmps127
              go_wp2
              refine wp_loop_rounds 6 ?_
              rw [rounds_succ]
              go_wp2
              rw [rounds_succ]
              go_wp2
              rw [rounds_succ]
              go_wp2
              rw [rounds_succ]
              go_wp2
              rw [rounds_succ]
              go_wp2
              go_ret
              exact ⟨ret_int (by rw [signLen_two h2 LN.out]; rfl), 0, rfl⟩
          · have LN : Hid (Parl.longSign (Parl.bAt r 0) (Parl.bAt r 1) = true) := by rw [Hid, LS.out h2, b0, b1, b2, b3]; simp
            go_enter Tryz.func127, Tryz.ntmps127
            go_wp2
            refine wp_loop_rounds 6 ?_
            rw [rounds_succ]
            go_wp2
            rw [rounds_succ]
            go_wp2
            rw [rounds_succ]
            go_wp2
            rw [rounds_succ]
            go_wp2
            go_ret
            exact ⟨ret_int (by rw [signLen_two h2 LN.out]; rfl), 0, rfl⟩
        · have LN : Hid (Parl.longSign (Parl.bAt r 0) (Parl.bAt r 1) = true) := by rw [Hid, LS.out h2, b0, b1, b2]; simp
          go_enter Tryz.func127, Tryz.ntmps127
          go_wp2
          refine wp_loop_rounds 6 ?_
          rw [rounds_succ]
          go_wp2
          rw [rounds_succ]
          go_wp2
          rw [rounds_succ]
          go_wp2
          go_ret
          exact ⟨ret_int (by rw [signLen_two h2 LN.out]; rfl), 0, rfl⟩
      · have LN : Hid (Parl.longSign (Parl.bAt r 0) (Parl.bAt r 1) = true) := by rw [Hid, LS.out h2, b0, b1]; simp
        go_enter Tryz.func127, Tryz.ntmps127
        go_wp2
        refine wp_loop_rounds 6 ?_
        rw [rounds_succ]
        go_wp2
        rw [rounds_succ]
        go_wp2
        go_ret
        exact ⟨ret_int (by rw [signLen_two h2 LN.out]; rfl), 0, rfl⟩
    · have LN : Hid (Parl.longSign (Parl.bAt r 0) (Parl.bAt r 1) = true) := by rw [Hid, LS.out h2, b0]; simp
      go_enter Tryz.func127, Tryz.ntmps127
      go_wp2
      refine wp_loop_rounds 6 ?_
      rw [rounds_succ]
      go_wp2
      go_ret
      exact ⟨ret_int (by rw [signLen_two h2 LN.out]; rfl), 0, rfl⟩
  · have LN : Hid (2 ≤ r.size → Parl.longSign (Parl.bAt r 0) (Parl.bAt r 1) = false) := fun h => absurd h h2
    go_enter Tryz.func127, Tryz.ntmps127
    go_wp2
    refine wp_loop_rounds 6 ?_
    rw [rounds_succ]
    go_wp2
    rw [rounds_succ]
    go_wp2
    rw [rounds_succ]
    go_wp2
    rw [rounds_succ]
    go_wp2
    rw [rounds_succ]
    go_wp2
    rw [rounds_succ]
    go_wp2
    clear i0 i1 i2 i3 i4 LS
    go_loopw [5] (fun i wr => ∃ k n : Nat, k ≤ 10 ∧ i = .int .i64 k ∧ wr = w.drewN n ∧ Hid (∀ j, j < k → Parl.shorts[j]? ≠ some (Parl.bAt r 0))) (fun i _ => 10 - (intOf i).toNat)
    case atStart => exact ⟨0, 0, by omega, rfl, rfl, fun j h => absurd h (Nat.not_lt_zero _)⟩
    case round =>
      obtain ⟨k, n, hk, rfl, rfl, hno⟩ := hrel
      by_cases hlt : k < 10
      · by_cases h0 : 0 < r.size
        · have hE := not_empty h0
          have HM : Hid (∀ hk : k < shortB.size, (((r[0]'h0).toNat : Int) == ((shortB[k]'hk).toNat : Int)) = false → ∀ j, j < k + 1 → Parl.shorts[j]? ≠ some (Parl.bAt r 0)) := fun hk h => short_miss h0 hk h hno.out
          go_wp2
          go_big_region
          go_wp2
          · go_ret
            exact ⟨ret_int (by rw [signLen_one h0 LN.out (short_hit (k := k) h0 hlt (by assumption))]; rfl), n + 1, rfl⟩
          · go_roundw
            case rel => exact ⟨k + 1, n + 1, by omega, by go_num, rfl, HM.out hlt (by assumption)⟩
            case measure => simp [intOf]; omega
        · have hE : r.toList.isEmpty = true := by rw [ByteArray.toList_eq]; have := Parl.len_eq r; cases hx : r.data.toList with
              | nil => rfl
              | cons a l => rw [hx] at this; simp at this; omega
          have HM : Hid (∀ j, j < k + 1 → Parl.shorts[j]? ≠ some (Parl.bAt r 0)) := fun j hj e => by
              have e0 : Parl.bAt r 0 = 0 := by unfold Parl.bAt; rw [dif_neg h0]
              rw [e0] at e
              have hm := List.mem_of_getElem? e
              simp [Parl.shorts] at hm
          go_wp2
          go_big_region
          go_wp2
          go_roundw
          case rel => exact ⟨k + 1, n + 1, by omega, by go_num, rfl, HM.out⟩
          case measure => simp [intOf]; omega
      · have hS : Hid (Parl.shortSign (Parl.bAt r 0) = false) := short_none hlt hno.out
        go_wp2
        go_ret
        exact ⟨ret_int (by rw [signLen_none LN.out (fun _ => hS.out)]; rfl), n, rfl⟩
end Go.Proofs.YthfjnfcekeknlaaGreatDoor
namespace Go.Proofs.YthfjnfcekeknlaaGreatDoor
open Go.RowKit

theorem Signs.below {B : Nat} {w w' : World} (h : Signs w) (hb : Below B w w') (h0 : 0 < B) : Signs w' :=
  ⟨(hb.cell (p := ⟨0, 0, none⟩) h0).trans h.s0, (hb.cell (p := ⟨0, 1, none⟩) h0).trans h.s1, (hb.cell (p := ⟨0, 2, none⟩) h0).trans h.s2, (hb.cell (p := ⟨0, 3, none⟩) h0).trans h.s3, (hb.cell (p := ⟨0, 4, none⟩) h0).trans h.s4⟩
theorem Signs.draws {w : World} (h : Signs w) (n : Nat) : Signs (w.drewN n) := ⟨h.s0, h.s1, h.s2, h.s3, h.s4⟩

theorem kindAt0 {r : ByteArray} (h : r.size = 0) : Parl.kindAt r 0 = 0 := by unfold Parl.kindAt; rw [if_pos (by omega)]
theorem kindAt2 {r : ByteArray} (h : 0 < r.size) (a : Parl.low (r[0].toNat) = true) : Parl.kindAt r 0 = 2 := by unfold Parl.kindAt; rw [if_neg (by omega), Parl.bAt_lt h, if_pos a]
theorem kindAt3 {r : ByteArray} (h : 0 < r.size) (a : Parl.low (r[0].toNat) = false) (b : Parl.upp (r[0].toNat) = true) : Parl.kindAt r 0 = 3 := by unfold Parl.kindAt; rw [if_neg (by omega), Parl.bAt_lt h, if_neg (by simp [a]), if_pos b]
theorem kindAt4 {r : ByteArray} (h : 0 < r.size) (a : Parl.low (r[0].toNat) = false) (b : Parl.upp (r[0].toNat) = false) (c : Parl.dig (r[0].toNat) = true) : Parl.kindAt r 0 = 4 := by unfold Parl.kindAt; rw [if_neg (by omega), Parl.bAt_lt h, if_neg (by simp [a]), if_neg (by simp [b]), if_pos c]
theorem kindAt5 {r : ByteArray} (h : 0 < r.size) (a : Parl.low (r[0].toNat) = false) (b : Parl.upp (r[0].toNat) = false) (c : Parl.dig (r[0].toNat) = false) (d : 0 < Parl.signLen r 0) : Parl.kindAt r 0 = 5 := by unfold Parl.kindAt; rw [if_neg (by omega), Parl.bAt_lt h, if_neg (by simp [a]), if_neg (by simp [b]), if_neg (by simp [c]), if_pos d]
theorem kindAt1 {r : ByteArray} (h : 0 < r.size) (a : Parl.low (r[0].toNat) = false) (b : Parl.upp (r[0].toNat) = false) (c : Parl.dig (r[0].toNat) = false) (d : ¬ 0 < Parl.signLen r 0) : Parl.kindAt r 0 = 1 := by unfold Parl.kindAt; rw [if_neg (by omega), Parl.bAt_lt h, if_neg (by simp [a]), if_neg (by simp [b]), if_neg (by simp [c]), if_neg d]
theorem is_empty {r : ByteArray} (h : r.size = 0) : r.toList.isEmpty = true := by
  rw [ByteArray.toList_eq]
  have := Parl.len_eq r
  cases hx : r.data.toList with
  | nil => rfl
  | cons a l => rw [hx] at this; simp at this; omega

set_option maxHeartbeats 1000000 in
theorem kindOf_any (r : ByteArray) (w : World) (hr : r.size ≤ maxLen) (h : Signs w) : Calls Tryz.prog 72 #[.string r] w fun e w' => e = .returned (.int .i64 ((Parl.kindAt r 0 : Nat) : Int)) ∧ ∃ n, w' = w.drewN n := by
  have hr' := hr
  unfold maxLen at hr'
  have H := h
  by_cases h0 : 0 < r.size
  · have hE := not_empty h0
    cases a : Parl.low (r[0].toNat)
    · cases b : Parl.upp (r[0].toNat)
      · cases c : Parl.dig (r[0].toNat)
        · by_cases d : 0 < Parl.signLen r 0
          · have K := hide (kindAt5 h0 a b c d)
            go_enter Tryz.func72, Tryz.ntmps72
            go_wp2_with (first | (go_at_call 124; refine (isSmall_any _ _).mono ?_; rintro e w' ⟨rfl, rfl⟩) | (go_at_call 126; refine (isDigit_any _ _).mono ?_; rintro e w' ⟨rfl, rfl⟩) | (go_at_call 125; refine (isCapital_any _ _).mono ?_; rintro e w' ⟨rfl, rfl⟩) | (go_at_call 127; refine (signLength_any _ _ hr H).mono ?_; rintro e w' ⟨rfl, n, rfl⟩))
            go_ret
            exact ⟨ret_int (by rw [unhide K]; rfl), n, rfl⟩
          · have K := hide (kindAt1 h0 a b c d)
            go_enter Tryz.func72, Tryz.ntmps72
            go_wp2_with (first | (go_at_call 124; refine (isSmall_any _ _).mono ?_; rintro e w' ⟨rfl, rfl⟩) | (go_at_call 126; refine (isDigit_any _ _).mono ?_; rintro e w' ⟨rfl, rfl⟩) | (go_at_call 125; refine (isCapital_any _ _).mono ?_; rintro e w' ⟨rfl, rfl⟩) | (go_at_call 127; refine (signLength_any _ _ hr H).mono ?_; rintro e w' ⟨rfl, n, rfl⟩))
            go_ret
            exact ⟨ret_int (by rw [unhide K]; rfl), n, rfl⟩
        · have K := hide (kindAt4 h0 a b c)
          go_enter Tryz.func72, Tryz.ntmps72
          go_wp2_with (first | (go_at_call 124; refine (isSmall_any _ _).mono ?_; rintro e w' ⟨rfl, rfl⟩) | (go_at_call 126; refine (isDigit_any _ _).mono ?_; rintro e w' ⟨rfl, rfl⟩) | (go_at_call 125; refine (isCapital_any _ _).mono ?_; rintro e w' ⟨rfl, rfl⟩))
          go_ret
          exact ⟨ret_int (by rw [unhide K]; rfl), 0, rfl⟩
      · have K := hide (kindAt3 h0 a b)
        go_enter Tryz.func72, Tryz.ntmps72
        go_wp2_with (first | (go_at_call 124; refine (isSmall_any _ _).mono ?_; rintro e w' ⟨rfl, rfl⟩) | (go_at_call 125; refine (isCapital_any _ _).mono ?_; rintro e w' ⟨rfl, rfl⟩))
        go_ret
        exact ⟨ret_int (by rw [unhide K]; rfl), 0, rfl⟩
    · have K := hide (kindAt2 h0 a)
      go_enter Tryz.func72, Tryz.ntmps72
      go_wp2_with (first | (go_at_call 124; refine (isSmall_any _ _).mono ?_; rintro e w' ⟨rfl, rfl⟩))
      go_ret
      exact ⟨ret_int (by rw [unhide K]; rfl), 0, rfl⟩
  · have hE := is_empty (r := r) (by omega)
    have K := hide (kindAt0 (r := r) (by omega))
    go_enter Tryz.func72, Tryz.ntmps72
    go_wp2
    go_ret
    exact ⟨ret_int (by rw [unhide K]; rfl), 0, rfl⟩

set_option maxHeartbeats 1000000 in
theorem lengthOf_any (r : ByteArray) (w : World) (hr : r.size ≤ maxLen) (h : Signs w) : Calls Tryz.prog 73 #[.int .i64 ((Parl.kindAt r 0 : Nat) : Int), .string r] w fun e w' => e = .returned (.int .i64 ((Parl.endAt r 0 : Nat) : Int)) ∧ ∃ n, w' = w.drewN n := by
  have hk := Parl.kindAt_le r 0
  have KE : Hid (Parl.endAt r 0 = if Parl.kindAt r 0 = 0 then 0 else if Parl.kindAt r 0 = 1 then 0 + 1 else if Parl.kindAt r 0 = 5 then 0 + Parl.signLen r 0 else Parl.wordEnd r (Parl.kindAt r 0) 0) := rfl
  generalize Parl.kindAt r 0 = k at *
  rcases (show k = 0 ∨ k = 1 ∨ k = 2 ∨ k = 3 ∨ k = 4 ∨ k = 5 by omega) with rfl | rfl | rfl | rfl | rfl | rfl
  · go_enter Tryz.func73, Tryz.ntmps73
    go_wp2_with fail
    go_ret
    exact ⟨ret_int (by rw [KE.out]; rfl), 0, rfl⟩
  · go_enter Tryz.func73, Tryz.ntmps73
    go_wp2_with fail
    go_ret
    exact ⟨ret_int (by rw [KE.out]; rfl), 0, rfl⟩
  · go_enter Tryz.func73, Tryz.ntmps73
    go_wp2_with (go_at_call 128; refine (wordLength_any 2 _ _ hr).mono ?_; rintro e w' ⟨rfl, rfl⟩)
    go_ret
    exact ⟨ret_int (by rw [KE.out]; rfl), 0, rfl⟩
  · go_enter Tryz.func73, Tryz.ntmps73
    go_wp2_with (go_at_call 128; refine (wordLength_any 3 _ _ hr).mono ?_; rintro e w' ⟨rfl, rfl⟩)
    go_ret
    exact ⟨ret_int (by rw [KE.out]; rfl), 0, rfl⟩
  · go_enter Tryz.func73, Tryz.ntmps73
    go_wp2_with (go_at_call 128; refine (wordLength_any 4 _ _ hr).mono ?_; rintro e w' ⟨rfl, rfl⟩)
    go_ret
    exact ⟨ret_int (by rw [KE.out]; rfl), 0, rfl⟩
  · go_enter Tryz.func73, Tryz.ntmps73
    go_wp2_with (go_at_call 127; refine (signLength_any _ _ hr h).mono ?_; rintro e w' ⟨rfl, n, rfl⟩)
    go_ret
    exact ⟨ret_int (by rw [KE.out]; simp), n, rfl⟩


set_option maxHeartbeats 1000000 in
theorem next_any (s : ByteArray) (p : Nat) (w : World) (hs : s.size ≤ maxLen) (hp : p ≤ s.size) (h : Signs w) (hz : 0 < w.heap.size) :
    Calls Tryz.prog 38 #[.string s, .int .i64 (p : Int)] w fun e w' => e = .returned (.agg #[.int .i64 ((Parl.next s p).kind : Int), .int .i64 ((Parl.next s p).pos : Int), .string (Parl.next s p).text]) ∧ Below w.heap.size w w' := by
  have hs' := hs
  unfold maxLen at hs'
  have hle := Parl.skip_le hp
  have hge := Parl.skip_ge s p
  by_cases he : Parl.skip s p < s.size
  · have hS : ∀ o, Signs (w.alloc o) := fun o => h.below ((Below.refl _ _).alloc (Nat.le_refl _) o) hz
    have hsz : (s.extract (Parl.skip s p) s.size).size ≤ maxLen := by rw [← Parl.from_, Parl.size_from]; omega
    have hN := hide (Parl.next_tok he)
    have hK := hide (@Parl.kindAt_from s (Parl.skip s p))
    have hE := hide (@Parl.endAt_from s (Parl.skip s p))
    have hEl := Parl.endAt_le he
    have hEg := Parl.endAt_gt he
    have hX : Hid (∀ n : Nat, Parl.skip s p + n ≤ s.size → (Parl.from_ s (Parl.skip s p)).extract 0 n = s.extract (Parl.skip s p) (Parl.skip s p + n)) := fun n h => Parl.extract_from h
    unfold Parl.from_ at hK hE hX
    go_enter Tryz.func38, Tryz.ntmps38
    go_wp2_with fail
    refine (skipBlanks_any s p _ hs hp).mono ?_
    rintro e w' ⟨rfl, rfl⟩
    go_wp2_with fail
    refine (kindOf_any (s.extract (Parl.skip s p) s.size) _ hsz (hS _)).mono ?_
    rintro e w' ⟨rfl, n, rfl⟩
    go_wp2_with fail
    refine (lengthOf_any (s.extract (Parl.skip s p) s.size) _ hsz ((hS _).draws _)).mono ?_
    rintro e w' ⟨rfl, m, rfl⟩
    have hb : Parl.endAt (s.extract (Parl.skip s p) s.size) 0 + Parl.skip s p = Parl.endAt s (Parl.skip s p) := unhide hE
    have hb2 : Parl.endAt (s.extract (Parl.skip s p) s.size) 0 ≤ (s.extract (Parl.skip s p) s.size).size := by rw [ByteArray.size_extract]; omega
    generalize hg : Parl.endAt (s.extract (Parl.skip s p) s.size) 0 = q at *
    have hg' := hide hg
    clear hg
    have hb' := hide hb
    clear hb
    go_wp2_with fail
    refine bodyPost_ret (v := .agg #[.int .i64 (Parl.kindAt (s.extract (Parl.skip s p) s.size) 0 : Int), .int .i64 (Parl.skip s p : Int), .string ((s.extract (Parl.skip s p) s.size).extract 0 q)]) (by simp [results, Tryz.results38, go_sem]) rfl ⟨?_, ?_⟩
    · rw [unhide hN, unhide hK, unhide hX q (by rw [ByteArray.size_extract] at hb2; omega), Nat.add_comm, unhide hb']
    · exact (((below_drewN ((Below.refl _ _).alloc (Nat.le_refl _) _) _).setCell (Nat.le_refl _) _).setCell (Nat.le_refl _) _).setCell (Nat.le_refl _) _
  · have hN := hide (Parl.next_end (s := s) (p := p) (by omega))
    go_enter Tryz.func38, Tryz.ntmps38
    go_wp2_with fail
    refine (skipBlanks_any s p _ hs hp).mono ?_
    rintro e w' ⟨rfl, rfl⟩
    go_wp2_with fail
    refine bodyPost_ret (v := .agg #[.int .i64 0, .int .i64 (s.size : Int), .string ByteArray.empty]) (by simp [results, Tryz.results38, go_sem]; rfl) rfl ⟨?_, ?_⟩
    · rw [unhide hN]; rfl
    · exact (Below.refl _ _).alloc (Nat.le_refl _) _
end Go.Proofs.YthfjnfcekeknlaaGreatDoor
namespace Go.Proofs.YthfjnfcekeknlaaGreatDoor
open Go.RowKit

/-- The type of a block's cells. -/
def tyAt (w : World) (k : Nat) : Option TypeId := match w.heap[k]? with
  | some (.cells _ t _) => some t
  | _ => none

/-- All blocks stay but those of X and rows of texts from b on. -/
structure KA (b : Nat) (X : List Nat) (w w' : World) : Prop where
  os : w'.os = w.os
  tape : w'.tape = w.tape
  output : w'.output = w.output
  size : w.heap.size ≤ w'.heap.size
  block : ∀ k, k < w.heap.size → k ∉ X → (k < b ∨ tyAt w k ≠ some 9) → w'.heap[k]? = w.heap[k]?

theorem KA.refl (b : Nat) (X : List Nat) (w : World) : KA b X w w := ⟨rfl, rfl, rfl, Nat.le_refl _, fun _ _ _ _ => rfl⟩
theorem KA.trans {b : Nat} {X : List Nat} {u v w : World} (h : KA b X u v) (k : KA b X v w) : KA b X u w :=
  ⟨k.os.trans h.os, k.tape.trans h.tape, k.output.trans h.output, Nat.le_trans h.size k.size, fun i hi hX ht => by
    have e := h.block i hi hX ht
    rw [k.block i (Nat.lt_of_lt_of_le hi h.size) hX (by unfold tyAt at ht ⊢; rw [e]; exact ht), e]⟩
theorem KA.of_below {b : Nat} {X : List Nat} {w w' : World} (h : Below w.heap.size w w') : KA b X w w' := ⟨h.os, h.tape, h.output, h.size, fun k hk _ _ => h.block k hk⟩
theorem KA.drewN {b : Nat} {X : List Nat} {u w : World} (h : KA b X u w) (n : Nat) : KA b X u (w.drewN n) := h.trans (KA.of_below (below_drewN (Below.refl _ _) n))
theorem KA.drew {b : Nat} {X : List Nat} {u w : World} (h : KA b X u w) : KA b X u w.drew := h.trans (KA.of_below (Below.refl _ _).drew)
theorem KA.alloc {b : Nat} {X : List Nat} {u w : World} (h : KA b X u w) (o : Obj) : KA b X u (w.alloc o) := h.trans (KA.of_below ((Below.refl _ _).alloc (Nat.le_refl _) o))
theorem KA.setIn {b : Nat} {X : List Nat} {u w : World} (h : KA b X u w) {p : Addr} (hp : p.block ∈ X) (v : Value) : KA b X u (w.setCell p v) :=
  h.trans ⟨rfl, rfl, rfl, by simp [World.setCell], fun k hk hX _ => Below.heap_setCell _ _ _ _ (fun e => hX (e ▸ hp))⟩
theorem KA.setNew {b : Nat} {X : List Nat} {u w : World} (h : KA b X u w) {p : Addr} (hp : u.heap.size ≤ p.block) (v : Value) : KA b X u (w.setCell p v) :=
  ⟨h.os, h.tape, h.output, by have := h.size; simp [World.setCell]; omega, fun k hk hX ht => (Below.heap_setCell _ _ _ _ (by omega)).trans (h.block k hk hX ht)⟩
theorem KA.mono {b : Nat} {X Y : List Nat} {u w : World} (h : KA b X u w) (hs : ∀ x ∈ X, x ∈ Y) : KA b Y u w :=
  ⟨h.os, h.tape, h.output, h.size, fun k hk hY ht => h.block k hk (fun e => hY (hs k e)) ht⟩
/-- What is new in the first world may be let go. -/
theorem KA.forget {b : Nat} {X Y : List Nat} {u w : World} (h : KA b Y u w) (hs : ∀ x ∈ Y, x ∈ X ∨ u.heap.size ≤ x) : KA b X u w :=
  ⟨h.os, h.tape, h.output, h.size, fun k hk hX ht => h.block k hk (fun e => (hs k e).elim hX (fun q => by omega)) ht⟩
theorem KA.cell {b : Nat} {X : List Nat} {w w' : World} (h : KA b X w w') {p : Addr} (hp : p.block < w.heap.size) (hX : p.block ∉ X) (ht : p.block < b ∨ tyAt w p.block ≠ some 9) : w'.cell? p = w.cell? p := World.cell?_of_block (w := w) (h.block p.block hp hX ht)
theorem KA.frozen {b : Nat} {X : List Nat} {w w' : World} (h : KA b X w w') {p : Addr} (hp : p.block < w.heap.size) (hX : p.block ∉ X) (ht : p.block < b ∨ tyAt w p.block ≠ some 9) : w'.frozen? p = w.frozen? p := World.frozen?_of_block (w := w) (h.block p.block hp hX ht)
theorem KA.below {b : Nat} {X : List Nat} {w w' : World} (h : KA b X w w') {B : Nat} (hB : B ≤ w.heap.size) (hb : B ≤ b) (hX : ∀ x ∈ X, B ≤ x) : Below B w w' :=
  ⟨h.os, h.tape, h.output, h.size, fun k hk => h.block k (by omega) (fun e => by have := hX k e; omega) (Or.inl (by omega))⟩
theorem KA.grown {b : Nat} {X : List Nat} {u w w' : World} {row : Option Nat} (h : KA b X u w) (hg : w.grownBy w' row) (hr : ∀ k, row = some k → u.heap.size ≤ k ∨ k ∈ X ∨ (b ≤ k ∧ tyAt w k = some 9)) : KA b X u w' :=
  ⟨hg.os.trans h.os, hg.tape.trans h.tape, hg.output.trans h.output, Nat.le_trans h.size hg.size, fun k hk hX ht => by
    have e := h.block k hk hX ht
    rw [hg.block k (Nat.lt_of_lt_of_le hk h.size) (fun q => ?_), e]
    rcases hr k q.symm with a | a | ⟨a, c⟩
    · omega
    · exact hX a
    · rcases ht with t | t
      · omega
      · apply t; unfold tyAt at c ⊢; rw [← e]; exact c⟩

theorem Signs.ka {b : Nat} {X : List Nat} {w w' : World} (h : Signs w) (hk : KA b X w w') (h0 : 0 < w.heap.size) (hX : 0 ∉ X) (hb : 0 < b) : Signs w' :=
  ⟨(hk.cell (p := ⟨0, 0, none⟩) h0 hX (Or.inl hb)).trans h.s0, (hk.cell (p := ⟨0, 1, none⟩) h0 hX (Or.inl hb)).trans h.s1, (hk.cell (p := ⟨0, 2, none⟩) h0 hX (Or.inl hb)).trans h.s2, (hk.cell (p := ⟨0, 3, none⟩) h0 hX (Or.inl hb)).trans h.s3, (hk.cell (p := ⟨0, 4, none⟩) h0 hX (Or.inl hb)).trans h.s4⟩

/-- The reader's six cells. -/
structure Rd (w : World) (rb : Nat) (s : ByteArray) (t : Parl.Tok) (nv : Value) (e : Int) : Prop where
  c0 : w.cell? ⟨rb, 0, none⟩ = some (.string s)
  c1 : w.cell? ⟨rb, 1, none⟩ = some (.int .i64 (t.kind : Int))
  c2 : w.cell? ⟨rb, 2, none⟩ = some (.int .i64 (t.pos : Int))
  c3 : w.cell? ⟨rb, 3, none⟩ = some (.string t.text)
  c4 : w.cell? ⟨rb, 4, none⟩ = some nv
  c5 : w.cell? ⟨rb, 5, none⟩ = some (.int .i64 e)
  f1 : w.frozen? ⟨rb, 1, none⟩ = false
  f2 : w.frozen? ⟨rb, 2, none⟩ = false
  f3 : w.frozen? ⟨rb, 3, none⟩ = false
  f4 : w.frozen? ⟨rb, 4, none⟩ = false
  f5 : w.frozen? ⟨rb, 5, none⟩ = false

theorem Rd.below {B : Nat} {w w' : World} {rb : Nat} {s : ByteArray} {t : Parl.Tok} {nv : Value} {e : Int} (h : Rd w rb s t nv e) (hb : Below B w w') (hr : rb < B) : Rd w' rb s t nv e :=
  ⟨(hb.cell (p := ⟨rb, 0, none⟩) hr).trans h.c0, (hb.cell (p := ⟨rb, 1, none⟩) hr).trans h.c1, (hb.cell (p := ⟨rb, 2, none⟩) hr).trans h.c2, (hb.cell (p := ⟨rb, 3, none⟩) hr).trans h.c3, (hb.cell (p := ⟨rb, 4, none⟩) hr).trans h.c4, (hb.cell (p := ⟨rb, 5, none⟩) hr).trans h.c5,
   (hb.frozen (p := ⟨rb, 1, none⟩) hr).trans h.f1, (hb.frozen (p := ⟨rb, 2, none⟩) hr).trans h.f2, (hb.frozen (p := ⟨rb, 3, none⟩) hr).trans h.f3, (hb.frozen (p := ⟨rb, 4, none⟩) hr).trans h.f4, (hb.frozen (p := ⟨rb, 5, none⟩) hr).trans h.f5⟩

/-- What the reader stands at: the tokens l are left, ns are the clause's variables so far. -/
structure St (w : World) (rb : Nat) (s : ByteArray) (l : List Parl.Tok) (ns : List ByteArray) (nv : Value) (e : Int) : Prop where
  rd : Rd w rb s (Parl.hd l) nv e
  own : w.ownsRow (rb + 1) 9 1 nv ns.length (ns.map Value.string)
  chain : Parl.Chain s l
  isNext : ∃ p, Parl.hd l = Parl.next s p
  few : ns.length + l.length ≤ 1000
  short : s.size ≤ 240
  signs : Signs w
  pos : 0 < rb
  lt : rb < w.heap.size

theorem St.below {w w' : World} {rb : Nat} {s : ByteArray} {l : List Parl.Tok} {ns : List ByteArray} {nv : Value} {e : Int} (h : St w rb s l ns nv e) (hb : Below w.heap.size w w') : St w' rb s l ns nv e :=
  ⟨h.rd.below hb h.lt, ⟨h.own.1, h.own.2.imp id fun ⟨g, cap, cur, a, b, c, d⟩ => ⟨g, cap, cur, a, b, (hb.block g (by
      have := Array.getElem?_eq_some_iff.1 c; exact this.1)).trans c, d⟩⟩, h.chain, h.isNext, h.few, h.short, h.signs.below hb (by have := h.lt; omega), h.pos, by have := hb.size; have := h.lt; omega⟩

/-- A store into the reader's own block: what does not hang on its cells stays. -/
theorem own_setCell {w : World} {rb : Nat} {T : TypeId} {sz : Nat} {nv : Value} {n : Nat} {xs : List Value} (h : w.ownsRow (rb + 1) T sz nv n xs) (o : Nat) (v : Value) : (w.setCell ⟨rb, o, none⟩ v).ownsRow (rb + 1) T sz nv n xs :=
  ownsRow_setCell_below h (by show rb < rb + 1; omega) v

theorem Signs.setCell {w : World} (h : Signs w) {p : Addr} (hp : p.block ≠ 0) (v : Value) : Signs (w.setCell p v) := by
  have k : ∀ o, (w.setCell p v).cell? ⟨0, o, none⟩ = w.cell? ⟨0, o, none⟩ := fun o => World.cell?_of_block (Below.heap_setCell _ _ _ _ (fun e => hp e.symm))
  exact ⟨(k 0).trans h.s0, (k 1).trans h.s1, (k 2).trans h.s2, (k 3).trans h.s3, (k 4).trans h.s4⟩
end Go.Proofs.YthfjnfcekeknlaaGreatDoor
namespace Go.Proofs.YthfjnfcekeknlaaGreatDoor
open Go.RowKit

theorem refuse_any (w : World) (rb : Nat) (s : ByteArray) (l : List Parl.Tok) (ns : List ByteArray) (nv : Value) (e0 : Int) (c : Int) (h : St w rb s l ns nv e0) :
    Calls Tryz.prog 82 #[.pointer (some ⟨rb, 0, none⟩), .int .i64 c] w fun e w' => e = .returned (.tuple #[]) ∧ St w' rb s l ns nv c ∧ KA rb [rb] w w' := by
  obtain ⟨⟨c0, c1, c2, c3, c4, c5, f1, f2, f3, f4, f5⟩, own, chain, isn, few, short, signs, pos, lt⟩ := h
  go_enter Tryz.func82, Tryz.ntmps82
  go_wp2
  go_end0
  refine ⟨rfl, ⟨⟨?_, ?_, ?_, ?_, ?_, ?_, ?_, ?_, ?_, ?_, ?_⟩, own_setCell own _ _, chain, isn, few, short, signs.setCell (by show rb ≠ 0; omega) _, pos, by simpa using lt⟩, (KA.refl _ _ _).setIn (by simp) _⟩
  all_goals first | go_cell | (simp [go_sem, *]; done)

theorem sees_any (w : World) (rb : Nat) (s : ByteArray) (l : List Parl.Tok) (ns : List ByteArray) (nv : Value) (e0 : Int) (g : ByteArray) (h : St w rb s l ns nv e0) :
    Calls Tryz.prog 76 #[.pointer (some ⟨rb, 0, none⟩), .string g] w fun e w' => e = .returned (.bool (Parl.sees l g.toList)) ∧ w' = w := by
  obtain ⟨⟨c0, c1, c2, c3, c4, c5, f1, f2, f3, f4, f5⟩, own, chain, isn, few, short, signs, pos, lt⟩ := h
  clear own chain isn few signs
  by_cases hk : (Parl.hd l).kind = 5
  · have hk' : (((Parl.hd l).kind : Int) == 5) = true := by simp; omega
    have HS := hide (show Parl.sees l g.toList = ((Parl.hd l).text.toList == g.toList) by simp [Parl.sees, hk])
    clear hk
    go_enter Tryz.func76, Tryz.ntmps76
    go_wp2
    go_ret
    exact ⟨ret_bool (by rw [unhide HS]), rfl⟩
  · have hk' : (((Parl.hd l).kind : Int) == 5) = false := by simp; omega
    have HS := hide (show Parl.sees l g.toList = false by simp [Parl.sees, hk])
    clear hk
    go_enter Tryz.func76, Tryz.ntmps76
    go_wp2
    go_ret
    exact ⟨ret_bool (by rw [unhide HS]), rfl⟩

theorem take_end {w w1 : World} {rb : Nat} {s : ByteArray} {l : List Parl.Tok} {ns : List ByteArray} {nv : Value} {e0 : Int} (h : St w rb s l ns nv e0) (h0 : (Parl.hd l).kind ≠ 0) (hb : Below w.heap.size w w1) :
    St (((w1.setCell ⟨rb, 1, none⟩ (.int .i64 ((Parl.next s ((Parl.hd l).pos + (Parl.hd l).text.size)).kind : Int))).setCell ⟨rb, 2, none⟩ (.int .i64 ((Parl.next s ((Parl.hd l).pos + (Parl.hd l).text.size)).pos : Int))).setCell ⟨rb, 3, none⟩ (.string (Parl.next s ((Parl.hd l).pos + (Parl.hd l).text.size)).text)) rb s l.tail ns nv e0 ∧
    KA rb [rb] w (((w1.setCell ⟨rb, 1, none⟩ (.int .i64 ((Parl.next s ((Parl.hd l).pos + (Parl.hd l).text.size)).kind : Int))).setCell ⟨rb, 2, none⟩ (.int .i64 ((Parl.next s ((Parl.hd l).pos + (Parl.hd l).text.size)).pos : Int))).setCell ⟨rb, 3, none⟩ (.string (Parl.next s ((Parl.hd l).pos + (Parl.hd l).text.size)).text)) := by
  have hk := h.chain.tail h0
  have h1 := h.below hb
  have few := h.few
  have hl : l.length = l.tail.length + 1 := by
    rcases l with _ | ⟨a, r⟩
    · exact absurd h.chain (by simp [Parl.Chain])
    · rfl
  obtain ⟨⟨d0, d1, d2, d3, d4, d5, g1, g2, g3, g4, g5⟩, own, chain, isn, few1, short, signs, pos, lt⟩ := h1
  have z : rb ≠ 0 := by omega
  refine ⟨⟨?_, own_setCell (own_setCell (own_setCell own _ _) _ _) _ _, hk.1, ⟨_, hk.2.1⟩, by omega, short, ((signs.setCell (by exact z) _).setCell (by exact z) _).setCell (by exact z) _, pos, by simpa using lt⟩, (((KA.of_below hb).setIn (by simp) _).setIn (by simp) _).setIn (by simp) _⟩
  rw [hk.2.1]
  generalize Parl.next s ((Parl.hd l).pos + (Parl.hd l).text.size) = t
  exact ⟨by go_cell, by go_cell, by go_cell, by go_cell, by go_cell, by go_cell, by go_cell, by go_cell, by go_cell, by go_cell, by go_cell⟩

end Go.Proofs.YthfjnfcekeknlaaGreatDoor
namespace Parl
/-- What a match has found so far: what the pattern's variables stand for, who is waited for, whether there was a No. -/
structure Lk where
  st : List (List UInt8 × Tm)
  wt : List (List UInt8)
  no : Bool
def Lk.wait (l : Lk) (x : List UInt8) : Lk := ⟨l.st, addN l.wt x, l.no⟩
def Lk.bad (l : Lk) : Lk := ⟨l.st, l.wt, true⟩
def Lk.none : Lk := ⟨[], [], false⟩
/-- The same number, or the same name with as many arguments. -/
def alike (a b : Tm) : Bool := a.kind == b.kind && ((if a.kind = 4 then numOf a.text == numOf b.text else a.text.toList == b.text.toList) && a.args.length == b.args.length)
/-- Two lists of terms, one by one. -/
def two (g : Tm → Tm → Lk → Lk) : List Tm → List Tm → Lk → Lk
  | a :: ps, b :: qs, l => two g ps qs (g a b l)
  | _, _, l => l
def cmpF : Nat → Tm → Tm → Lk → Lk
  | 0, _, _, l => l
  | f + 1, a, b, l =>
    if a.kind = 3 then
      (if b.kind = 3 then (if a.text.toList = b.text.toList then l else (l.wait a.text.toList).wait b.text.toList) else l.wait a.text.toList)
    else if b.kind = 3 then l.wait b.text.toList
    else if alike a b = true then two (cmpF f) a.args b.args l else l.bad
def Lk.meet (l : Lk) (x : List UInt8) (t : Tm) : Lk := match l.st.find? (fun q => q.1 == x) with
  | some q => cmpF 8 q.2 t l
  | Option.none => ⟨l.st ++ [(x, t)], l.wt, l.no⟩
def matF : Nat → Tm → Tm → Lk → Lk
  | 0, _, _, l => l
  | f + 1, p, t, l =>
    if p.kind = 3 then l.meet p.text.toList t
    else if t.kind = 3 then l.wait t.text.toList
    else if alike p t = true then two (matF f) p.args t.args l else l.bad
def Lk.says (l : Lk) : Nat := if l.no = true then 2 else if l.wt = [] then 1 else 3
def Lk.waits (l : Lk) (t : Tm) : List (List UInt8) := (namesF 8 [] t).filter fun x => decide (x ∈ l.wt)
/-- A text as one term. -/
def whole (l : List Tok) : Res Tm := match term 8 l with
  | .inl e => .inl e
  | .inr (t, l1) => if (hd l1).kind = 0 then .inr (t, l1) else bad 2 l1
def erT (r : Res Tm) : Nat := match r with
  | .inl e => e.1
  | .inr _ => 0
/-- The error of two texts as terms. -/
def bothE (a b : ByteArray) (la lb : List Tok) : Nat := if 64 < a.size ∨ 64 < b.size then 1 else match whole la with
  | .inl (e, _) => e
  | .inr _ => erT (whole lb)
/-- Match's answer. -/
def mtE (a b : ByteArray) (la lb : List Tok) : Nat := bothE a b la lb
def mtL (a b : ByteArray) (la lb : List Tok) : Option (Lk × Tm) := if 64 < a.size ∨ 64 < b.size then Option.none else match whole la, whole lb with
  | .inr (p, _), .inr (t, _) => some (matF 8 p t Lk.none, t)
  | _, _ => Option.none
def mtN (a b : ByteArray) (la lb : List Tok) : Nat := match mtL a b la lb with
  | some (l, _) => l.says
  | Option.none => 0
def mtW (a b : ByteArray) (la lb : List Tok) : List (List UInt8) := match mtL a b la lb with
  | some (l, t) => if l.says = 3 then l.waits t else []
  | Option.none => []
/-- The kinds that terms have; a name alone has arguments. -/
def wfK : Nat → Tm → Prop
  | 0, _ => False
  | f + 1, t => (t.kind = 2 ∨ t.kind = 3 ∨ t.kind = 4) ∧ (t.kind ≠ 2 → t.args = []) ∧ t.args.length ≤ 3 ∧ ∀ a ∈ t.args, wfK f a
theorem args_all {Q : Tm → Prop} {p : List Tok → Res Tm} (hp : ∀ l t l1, p l = .inr (t, l1) → Q t) : ∀ (k : Nat) (l : List Tok) (ts : List Tm) (l2 : List Tok), argsOf p k l = .inr (ts, l2) → (∀ t ∈ ts, Q t) ∧ ts.length ≤ k + 1 := by
  intro k
  induction k with
  | zero =>
    intro l ts l2 h
    unfold argsOf at h
    rcases hq : p l with e | ⟨t, l1⟩
    · rw [hq] at h; cases h
    · rw [hq] at h
      dsimp only at h
      by_cases h1 : sees l1 [44] = true
      · rw [if_pos h1] at h; cases h
      · rw [if_neg h1] at h
        by_cases h2 : sees l1 [41] = true
        · rw [if_pos h2] at h
          cases h
          refine ⟨fun x hx => ?_, by simp⟩
          obtain rfl : x = t := by simpa using hx
          exact hp _ _ _ hq
        · rw [if_neg h2] at h; cases h
  | succ k ih =>
    intro l ts l2 h
    rw [argsOf] at h
    rcases hq : p l with e | ⟨t, l1⟩
    · rw [hq] at h; cases h
    · rw [hq] at h
      dsimp only at h
      by_cases h1 : sees l1 [44] = true
      · rw [if_pos h1] at h
        rcases hr : argsOf p k l1.tail with e | ⟨us, l3⟩
        · rw [hr] at h; cases h
        · rw [hr] at h
          cases h
          obtain ⟨i1, i2⟩ := ih _ _ _ hr
          refine ⟨fun x hx => ?_, by simpa using i2⟩
          rcases List.mem_cons.1 hx with rfl | hx
          · exact hp _ _ _ hq
          · exact i1 x hx
      · rw [if_neg h1] at h
        by_cases h2 : sees l1 [41] = true
        · rw [if_pos h2] at h
          cases h
          refine ⟨fun x hx => ?_, by simp⟩
          obtain rfl : x = t := by simpa using hx
          exact hp _ _ _ hq
        · rw [if_neg h2] at h; cases h
theorem wfK_term : ∀ (f : Nat) (l : List Tok) (t : Tm) (l1 : List Tok), term f l = .inr (t, l1) → wfK f t := by
  intro f
  induction f with
  | zero => intro l t l1 h; rw [term] at h; split at h <;> cases h
  | succ f ih =>
    intro l t l1 h
    rw [term] at h
    by_cases hb : begins (hd l) = true
    · rw [if_pos hb] at h
      by_cases hc : (hd l).kind = 4 ∧ 6 < (hd l).text.size
      · rw [if_pos hc] at h; cases h
      · rw [if_neg hc] at h
        by_cases h2 : (hd l).kind = 2
        · rw [if_pos h2] at h
          by_cases hs : sees l.tail [40] = true
          · rw [if_pos hs] at h
            rcases hq : argsOf (term f) 2 l.tail.tail with x | ⟨us, l2⟩
            · rw [hq] at h; cases h
            · rw [hq] at h; cases h
              obtain ⟨i1, i2⟩ := args_all ih _ _ _ _ hq
              exact ⟨Or.inl rfl, fun q => absurd rfl q, i2, i1⟩
          · rw [if_neg hs] at h; cases h
            exact ⟨Or.inl rfl, fun q => absurd rfl q, by simp, fun a ha => by cases ha⟩
        · rw [if_neg h2] at h; cases h
          refine ⟨?_, fun _ => rfl, by simp, fun a ha => by cases ha⟩
          unfold begins at hb
          simp at hb
          rcases hb with (h3 | h3) | h3
          · exact Or.inl h3
          · exact Or.inr (Or.inl h3)
          · exact Or.inr (Or.inr h3)
    · rw [if_neg hb] at h; cases h
theorem whole_is {l : List Tok} {t : Tm} {l1 : List Tok} (h : whole l = .inr (t, l1)) : term 8 l = .inr (t, l1) ∧ (hd l1).kind = 0 := by
  unfold whole at h
  rcases hq : term 8 l with e | ⟨u, l2⟩
  · rw [hq] at h; cases h
  · rw [hq] at h
    dsimp only at h
    by_cases hk : (hd l2).kind = 0
    · rw [if_pos hk] at h; cases h; exact ⟨rfl, hk⟩
    · rw [if_neg hk] at h; cases h
end Parl
namespace Parl
theorem addN_len (l : List (List UInt8)) (x : List UInt8) : (addN l x).length ≤ l.length + 1 := by
  unfold addN; split <;> simp
theorem two_len {g : Tm → Tm → Lk → Lk} {c : Nat} : ∀ (ps qs : List Tm) (l : Lk), (∀ a ∈ ps, ∀ b l, (g a b l).wt.length ≤ l.wt.length + c) → (two g ps qs l).wt.length ≤ l.wt.length + ps.length * c
  | [], _, l, _ => by simp [two]
  | a :: ps, [], l, _ => by simp only [two]; omega
  | a :: ps, b :: qs, l, h => by
    have h1 := h a (by simp) b l
    have h2 := two_len (g := g) ps qs (g a b l) (fun u hu => h u (by simp [hu]))
    simp only [two, List.length_cons, Nat.add_mul]
    omega
theorem two_st {g : Tm → Tm → Lk → Lk} {c : Nat} : ∀ (ps qs : List Tm) (l : Lk), (∀ a ∈ ps, ∀ b l, (g a b l).st.length ≤ l.st.length + c) → (two g ps qs l).st.length ≤ l.st.length + ps.length * c
  | [], _, l, _ => by simp [two]
  | a :: ps, [], l, _ => by simp only [two]; omega
  | a :: ps, b :: qs, l, h => by
    have h1 := h a (by simp) b l
    have h2 := two_st (g := g) ps qs (g a b l) (fun u hu => h u (by simp [hu]))
    simp only [two, List.length_cons, Nat.add_mul]
    omega
theorem two_step {g : Tm → Tm → Lk → Lk} : ∀ (ps qs : List Tm) (j : Nat) (h : j < ps.length) (h' : j < qs.length) (l : Lk), two g (ps.take (j + 1)) (qs.take (j + 1)) l = g ps[j] qs[j] (two g (ps.take j) (qs.take j) l)
  | [], _, _, h, _, _ => by simp at h
  | _ :: _, [], _, _, h, _ => by simp at h
  | a :: ps, b :: qs, 0, _, _, l => by simp [two]
  | a :: ps, b :: qs, j + 1, h, h', l => by
    have := two_step (g := g) ps qs j (by simpa using h) (by simpa using h') (g a b l)
    simpa [two] using this
theorem cmpF_len : ∀ (f : Nat) (a b : Tm) (l : Lk), wfK f a → (cmpF f a b l).wt.length ≤ l.wt.length + 2 * 3 ^ f
  | 0, _, _, _, h => h.elim
  | f + 1, a, b, l, ⟨_, _, h3, h4⟩ => by
    have hp : 1 ≤ 3 ^ f := Nat.one_le_pow _ _ (by omega)
    have hq : 3 ^ (f + 1) = 3 * 3 ^ f := by rw [Nat.pow_succ, Nat.mul_comm]
    unfold cmpF
    have w1 := fun (l : Lk) x => (show (l.wait x).wt.length ≤ l.wt.length + 1 from addN_len _ _)
    by_cases ha : a.kind = 3
    · rw [if_pos ha]
      by_cases hb : b.kind = 3
      · rw [if_pos hb]
        by_cases he : a.text.toList = b.text.toList
        · rw [if_pos he]; omega
        · rw [if_neg he]
          have q1 := w1 l a.text.toList
          have q2 := w1 (l.wait a.text.toList) b.text.toList
          omega
      · rw [if_neg hb]
        have q1 := w1 l a.text.toList
        omega
    · rw [if_neg ha]
      by_cases hb : b.kind = 3
      · rw [if_pos hb]
        have q1 := w1 l b.text.toList
        omega
      · rw [if_neg hb]
        by_cases hk : alike a b = true
        · rw [if_pos hk]
          have := two_len (g := cmpF f) (c := 2 * 3 ^ f) a.args b.args l (fun u hu v m => cmpF_len f u v m (h4 u hu))
          have h5 := Nat.mul_le_mul_right (2 * 3 ^ f) h3
          omega
        · rw [if_neg hk]
          show l.wt.length ≤ _
          omega
theorem cmpF_st : ∀ (f : Nat) (a b : Tm) (l : Lk), (cmpF f a b l).st = l.st
  | 0, _, _, _ => rfl
  | f + 1, a, b, l => by
    unfold cmpF
    have : ∀ (ps qs : List Tm) (l : Lk), (two (cmpF f) ps qs l).st = l.st := by
      intro ps
      induction ps with
      | nil => intro qs l; simp [two]
      | cons a ps ih =>
        intro qs l
        cases qs with
        | nil => simp [two]
        | cons b qs => rw [two, ih, cmpF_st f]
    split
    · split
      · split <;> rfl
      · rfl
    · split
      · rfl
      · split
        · exact this _ _ _
        · rfl
theorem alike_args {a b : Tm} (h : alike a b = true) : a.args.length = b.args.length := by
  unfold alike at h
  simp only [Bool.and_eq_true, beq_iff_eq] at h
  exact h.2.2
end Parl
namespace Parl
theorem two_lenR {g : Tm → Tm → Lk → Lk} {c : Nat} : ∀ (ps qs : List Tm) (l : Lk), (∀ b ∈ qs, ∀ a l, (g a b l).wt.length ≤ l.wt.length + c) → (two g ps qs l).wt.length ≤ l.wt.length + qs.length * c
  | [], _, l, _ => by simp [two]
  | a :: ps, [], l, _ => by simp [two]
  | a :: ps, b :: qs, l, h => by
    have h1 := h b (by simp) a l
    have h2 := two_lenR (g := g) ps qs (g a b l) (fun u hu => h u (by simp [hu]))
    simp only [two, List.length_cons, Nat.add_mul]
    omega
theorem two_stR {g : Tm → Tm → Lk → Lk} {c : Nat} : ∀ (ps qs : List Tm) (l : Lk), (∀ b ∈ qs, ∀ a l, (g a b l).st.length ≤ l.st.length + c) → (two g ps qs l).st.length ≤ l.st.length + qs.length * c
  | [], _, l, _ => by simp [two]
  | a :: ps, [], l, _ => by simp [two]
  | a :: ps, b :: qs, l, h => by
    have h1 := h b (by simp) a l
    have h2 := two_stR (g := g) ps qs (g a b l) (fun u hu => h u (by simp [hu]))
    simp only [two, List.length_cons, Nat.add_mul]
    omega
theorem cmpF_lenR : ∀ (f : Nat) (a b : Tm) (l : Lk), wfK f b → (cmpF f a b l).wt.length ≤ l.wt.length + 2 * 3 ^ f
  | 0, _, _, _, h => h.elim
  | f + 1, a, b, l, ⟨_, _, h3, h4⟩ => by
    have hp : 1 ≤ 3 ^ f := Nat.one_le_pow _ _ (by omega)
    have hq : 3 ^ (f + 1) = 3 * 3 ^ f := by rw [Nat.pow_succ, Nat.mul_comm]
    unfold cmpF
    have w1 := fun (l : Lk) x => (show (l.wait x).wt.length ≤ l.wt.length + 1 from addN_len _ _)
    by_cases ha : a.kind = 3
    · rw [if_pos ha]
      by_cases hb : b.kind = 3
      · rw [if_pos hb]
        by_cases he : a.text.toList = b.text.toList
        · rw [if_pos he]; omega
        · rw [if_neg he]
          have q1 := w1 l a.text.toList
          have q2 := w1 (l.wait a.text.toList) b.text.toList
          omega
      · rw [if_neg hb]
        have q1 := w1 l a.text.toList
        omega
    · rw [if_neg ha]
      by_cases hb : b.kind = 3
      · rw [if_pos hb]
        have q1 := w1 l b.text.toList
        omega
      · rw [if_neg hb]
        by_cases hk : alike a b = true
        · rw [if_pos hk]
          have := two_lenR (g := cmpF f) (c := 2 * 3 ^ f) a.args b.args l (fun u hu v m => cmpF_lenR f v u m (h4 u hu))
          have h5 := Nat.mul_le_mul_right (2 * 3 ^ f) h3
          omega
        · rw [if_neg hk]
          show l.wt.length ≤ _
          omega
theorem wfK.up : ∀ {f : Nat} {t : Tm}, wfK f t → wfK (f + 1) t
  | _ + 1, _, ⟨h1, h2, h3, h4⟩ => ⟨h1, h2, h3, fun a ha => (h4 a ha).up⟩
theorem wfK.le {f k : Nat} {t : Tm} (h : wfK f t) (hk : f ≤ k) : wfK k t := by
  induction hk with
  | refl => exact h
  | step _ ih => exact ih.up
theorem meet_len (l : Lk) (x : List UInt8) (t : Tm) (h : wfK 8 t) : (l.meet x t).wt.length ≤ l.wt.length + 13122 ∧ (l.meet x t).st.length ≤ l.st.length + 1 := by
  unfold Lk.meet
  split
  · rename_i q _
    have := cmpF_lenR 8 q.2 t l h
    rw [cmpF_st]
    exact ⟨by simpa using this, by omega⟩
  · exact ⟨by simp, by simp⟩
theorem matF_len : ∀ (f : Nat) (p t : Tm) (l : Lk), wfK f t → f ≤ 8 → (matF f p t l).wt.length ≤ l.wt.length + 13122 * 3 ^ f ∧ (matF f p t l).st.length ≤ l.st.length + 3 ^ f
  | 0, _, _, _, h, _ => h.elim
  | f + 1, p, t, l, hw, hf => by
    have hp : 1 ≤ 3 ^ f := Nat.one_le_pow _ _ (by omega)
    have hq : 3 ^ (f + 1) = 3 * 3 ^ f := by rw [Nat.pow_succ, Nat.mul_comm]
    have w1 := fun (l : Lk) x => (show (l.wait x).wt.length ≤ l.wt.length + 1 from addN_len _ _)
    unfold matF
    by_cases ha : p.kind = 3
    · rw [if_pos ha]
      have := meet_len l p.text.toList t (hw.le hf)
      omega
    · rw [if_neg ha]
      by_cases hb : t.kind = 3
      · rw [if_pos hb]
        have q1 := w1 l t.text.toList
        refine ⟨by omega, ?_⟩
        show l.st.length ≤ _
        omega
      · rw [if_neg hb]
        by_cases hk : alike p t = true
        · rw [if_pos hk]
          have q1 := two_lenR (g := matF f) (c := 13122 * 3 ^ f) p.args t.args l (fun u hu v m => (matF_len f v u m (hw.2.2.2 u hu) (by omega)).1)
          have q2 := two_stR (g := matF f) (c := 3 ^ f) p.args t.args l (fun u hu v m => (matF_len f v u m (hw.2.2.2 u hu) (by omega)).2)
          have h5 := Nat.mul_le_mul_right (13122 * 3 ^ f) hw.2.2.1
          have h6 := Nat.mul_le_mul_right (3 ^ f) hw.2.2.1
          omega
        · rw [if_neg hk]
          refine ⟨?_, ?_⟩
          · show l.wt.length ≤ _
            omega
          · show l.st.length ≤ _
            omega
end Parl
namespace Parl
theorem namesK_len : ∀ (f : Nat) (t : Tm) (ns : List (List UInt8)), wfK f t → (namesF f ns t).length ≤ ns.length + 3 ^ f
  | 0, _, _, h => h.elim
  | f + 1, t, ns, ⟨_, _, h3, h4⟩ => by
    have hp : 1 ≤ 3 ^ f := Nat.one_le_pow _ _ (by omega)
    have hq : 3 ^ (f + 1) = 3 * 3 ^ f := by rw [Nat.pow_succ, Nat.mul_comm]
    unfold namesF
    split
    · have := addN_len ns t.text.toList; omega
    · split
      · omega
      · have : ∀ (ts : List Tm) (ns : List (List UInt8)), (∀ u ∈ ts, wfK f u) → (ts.foldl (namesF f) ns).length ≤ ns.length + ts.length * 3 ^ f := by
          intro ts
          induction ts with
          | nil => intro ns _; simp
          | cons u ts ih =>
            intro ns h
            have q1 := namesK_len f u ns (h u (by simp))
            have q2 := ih (namesF f ns u) (fun v hv => h v (by simp [hv]))
            rw [List.foldl_cons, List.length_cons, Nat.add_mul]
            omega
        have q := this t.args ns h4
        have h5 := Nat.mul_le_mul_right (3 ^ f) h3
        omega
theorem namesK_fold (f : Nat) (ts : List Tm) (ns : List (List UInt8)) (h : ∀ u ∈ ts, wfK f u) : (ts.foldl (namesF f) ns).length ≤ ns.length + ts.length * 3 ^ f := by
  induction ts generalizing ns with
  | nil => simp
  | cons u ts ih =>
    have q1 := namesK_len f u ns (h u (by simp))
    have q2 := ih (namesF f ns u) (fun v hv => h v (by simp [hv]))
    rw [List.foldl_cons, List.length_cons, Nat.add_mul]
    omega
end Parl
namespace Parl
theorem bothE_a {a b : ByteArray} {la lb : List Tok} {er ps : Nat} (h : ¬ (64 < a.size ∨ 64 < b.size)) (hq : whole la = .inl (er, ps)) : bothE a b la lb = er := by
  unfold bothE; rw [if_neg h, hq]
theorem bothE_b {a b : ByteArray} {la lb : List Tok} {p : Tm} {l1 : List Tok} (h : ¬ (64 < a.size ∨ 64 < b.size)) (hq : whole la = .inr (p, l1)) : bothE a b la lb = erT (whole lb) := by
  unfold bothE; rw [if_neg h, hq]
end Parl
namespace Parl
theorem addN_nodup {l : List (List UInt8)} {x : List UInt8} (h : l.Nodup) : (addN l x).Nodup := by
  unfold addN
  split
  · exact h
  · rename_i q
    rw [List.nodup_append]
    refine ⟨h, by simp, ?_⟩
    intro a ha b hb e
    obtain rfl : b = x := by simpa using hb
    subst e
    exact q ha
theorem two_nodup {g : Tm → Tm → Lk → Lk} (hg : ∀ a b l, l.wt.Nodup → (g a b l).wt.Nodup) : ∀ (ps qs : List Tm) (l : Lk), l.wt.Nodup → (two g ps qs l).wt.Nodup
  | [], _, l, h => by simpa [two] using h
  | _ :: _, [], l, h => by simpa [two] using h
  | a :: ps, b :: qs, l, h => by rw [two]; exact two_nodup hg ps qs _ (hg a b l h)
theorem cmpF_nodup : ∀ (f : Nat) (a b : Tm) (l : Lk), l.wt.Nodup → (cmpF f a b l).wt.Nodup
  | 0, _, _, _, h => h
  | f + 1, a, b, l, h => by
    have w1 := fun (l : Lk) x (q : l.wt.Nodup) => (show (l.wait x).wt.Nodup from addN_nodup q)
    unfold cmpF
    split
    · split
      · split
        · exact h
        · exact w1 _ _ (w1 _ _ h)
      · exact w1 _ _ h
    · split
      · exact w1 _ _ h
      · split
        · exact two_nodup (cmpF_nodup f) _ _ _ h
        · exact h
theorem matF_nodup : ∀ (f : Nat) (p t : Tm) (l : Lk), l.wt.Nodup → (matF f p t l).wt.Nodup
  | 0, _, _, _, h => h
  | f + 1, p, t, l, h => by
    unfold matF
    split
    · unfold Lk.meet
      split
      · exact cmpF_nodup 8 _ _ _ h
      · exact h
    · split
      · exact addN_nodup h
      · split
        · exact two_nodup (matF_nodup f) _ _ _ h
        · exact h
theorem filter_eq {l : List (List UInt8)} (h : l.Nodup) (x : List UInt8) : l.filter (fun y => y == x) = if x ∈ l then [x] else [] := by
  induction l with
  | nil => simp
  | cons a l ih =>
    obtain ⟨h1, h2⟩ := List.nodup_cons.1 h
    rw [List.filter_cons, ih h2]
    by_cases e : a = x
    · subst e
      simp [h1]
    · have : (a == x) = false := by simpa using e
      rw [this]
      have e' : x ≠ a := fun q => e q.symm
      simp [e']
theorem waits_flat {l : Lk} (h : l.wt.Nodup) (ns : List (List UInt8)) : ns.flatMap (fun x => l.wt.filter (fun y => y == x)) = ns.filter fun x => decide (x ∈ l.wt) := by
  induction ns with
  | nil => rfl
  | cons x ns ih =>
    rw [List.flatMap_cons, ih, filter_eq h, List.filter_cons]
    by_cases q : x ∈ l.wt <;> simp [q]
end Parl
namespace Parl
theorem out_len {l : Lk} (h : l.wt.Nodup) (ns : List (List UInt8)) : (ns.flatMap (fun x => l.wt.filter (fun y => y == x))).length ≤ ns.length := by
  rw [waits_flat h]
  exact List.length_filter_le _ _
theorem take_filter {l : List (List UInt8)} {k : Nat} (hk : k < l.length) (x : List UInt8) : (l.take (k + 1)).filter (fun y => y == x) = (l.take k).filter (fun y => y == x) ++ (if l[k] = x then [x] else []) := by
  rw [List.take_add_one, List.getElem?_eq_getElem hk, List.filter_append]
  congr 1
  by_cases e : l[k] = x
  · simp [e]
  · simp [e]
theorem tfilter_len {l : List (List UInt8)} (h : l.Nodup) (k : Nat) (x : List UInt8) : ((l.take k).filter (fun y => y == x)).length ≤ 1 := by
  rw [filter_eq (h.sublist (List.take_sublist _ _))]
  split <;> simp
theorem take_flat {ns : List (List UInt8)} {j : Nat} (hj : j < ns.length) (F : List UInt8 → List (List UInt8)) : (ns.take (j + 1)).flatMap F = (ns.take j).flatMap F ++ F ns[j] := by
  rw [List.take_add_one, List.getElem?_eq_getElem hj, List.flatMap_append]
  simp
end Parl
namespace Parl
theorem namesV_ext : ∀ (f : Nat) (t : Tm) (ns : List (List UInt8)), ∃ K, namesF f ns t = ns ++ K
  | 0, _, ns => ⟨[], by simp [namesF]⟩
  | f + 1, t, ns => by
    unfold namesF
    split
    · obtain ⟨M, hM, _⟩ := addN_ext ns t.text.toList
      exact ⟨M, hM⟩
    · split
      · exact ⟨[], by simp⟩
      · have : ∀ (ts : List Tm) (ns : List (List UInt8)), ∃ K, ts.foldl (namesF f) ns = ns ++ K := by
          intro ts
          induction ts with
          | nil => exact fun ns => ⟨[], by simp⟩
          | cons u ts ih =>
            intro ns
            obtain ⟨K, hK⟩ := namesV_ext f u ns
            obtain ⟨K2, hK2⟩ := ih (namesF f ns u)
            exact ⟨K ++ K2, by rw [List.foldl_cons, hK2, hK, List.append_assoc]⟩
        exact this t.args ns
theorem namesW_ext (f : Nat) (ts : List Tm) (ns : List (List UInt8)) : ∃ K, ts.foldl (namesF f) ns = ns ++ K := by
  induction ts generalizing ns with
  | nil => exact ⟨[], by simp⟩
  | cons u ts ih =>
    obtain ⟨K, hK⟩ := namesV_ext f u ns
    obtain ⟨K2, hK2⟩ := ih (namesF f ns u)
    exact ⟨K ++ K2, by rw [List.foldl_cons, hK2, hK, List.append_assoc]⟩
theorem namesF_nodup : ∀ (f : Nat) (t : Tm) (ns : List (List UInt8)), ns.Nodup → (namesF f ns t).Nodup
  | 0, t, ns, h => by
    unfold namesF
    exact h
  | f + 1, t, ns, h => by
    have fold : ∀ (ts : List Tm) (ns : List (List UInt8)), ns.Nodup → (ts.foldl (namesF f) ns).Nodup := by
      intro ts
      induction ts with
      | nil => intro ns h; exact h
      | cons u ts ih => intro ns h; exact ih _ (namesF_nodup f u ns h)
    unfold namesF
    split
    · exact addN_nodup h
    · split
      · exact h
      · exact fold _ _ h
end Parl
namespace Go.Proofs.YthfjnfcekeknlaaGreatDoor
open Go.RowKit
/-- What 'Match' is to leave. -/
def PMa (a b : ByteArray) (la lb : List Parl.Tok) (w : World) (e : Ending) (w' : World) : Prop :=
  ∃ ov : Value, e = .returned (.tuple #[.int .i64 (Parl.mtN a b la lb : Int), ov, .int .i64 (Parl.mtE a b la lb : Int)]) ∧ w'.ownsRow w.heap.size 9 1 ov (Parl.mtW a b la lb).length ((Parl.mtW a b la lb).map fun x => .string ⟨x.toArray⟩) ∧ Below w.heap.size w w'
theorem new1S (W : World) (a : Value) (T : TypeId) : ∀ j u, ([a] : List Value)[j]? = some u → (W.alloc (.cells #[a] T)).cell? ((⟨W.heap.size, 0, none⟩ : Addr).add j) = some u := by
  intro j u hj
  match j, hj with
  | 0, hj => simp at hj; subst hj; simp [Addr.add]
theorem infoStrS : (Tryz.prog.info? 9).map (fun i => (i.zero, i.size, i.bytes)) = some (some (.string ⟨#[]⟩), 1, 16) := by kernel_rfl
theorem own_downS {b0 b1 : Nat} {w : World} {T : TypeId} {sz : Nat} {v : Value} {n : Nat} {xs : List Value} (h : w.ownsRow b1 T sz v n xs) (hb : b0 ≤ b1) : w.ownsRow b0 T sz v n xs :=
  ⟨h.1, h.2.imp id fun ⟨g, cap, cur, a, b, c, d⟩ => ⟨g, cap, cur, a, Nat.le_trans hb b, c, d⟩⟩
def LS (w1 : World) (ys : List Parl.Cls) (k : Nat) (sv iv : Value) (wr : World) : Prop :=
  ∃ j : Nat, k + j = ys.length ∧ iv = .int .i64 (j : Int) ∧ sv = .string ⟨(Parl.strP (ys.take j)).toArray⟩ ∧ Below w1.heap.size w1 wr
end Go.Proofs.YthfjnfcekeknlaaGreatDoor
