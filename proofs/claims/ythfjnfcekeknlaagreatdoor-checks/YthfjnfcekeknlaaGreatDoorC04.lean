import Derived.Test.YthfjnfcekeknlaaGreatDoorC01
import Derived.Deep.QuietTactic
import Derived.BigQuiet
import Derived.Deep.RegionWith
import Derived.OpenShut
namespace Go.Proofs.YthfjnfcekeknlaaGreatDoor
open Go.RowKit

theorem blk_set {w : World} {b : Nat} {cs : Array Value} {T : TypeId} (h : w.heap[b]? = some (.cells cs T (0, 0))) (i : Nat) (v : Value) : (w.setCell ⟨b, i, none⟩ v).heap[b]? = some (.cells (cs.setIfInBounds i v) T (0, 0)) := by
  simp [World.setCell, Array.getElem?_modify, h]
theorem blk_other {w : World} {b : Nat} {x : Obj} (h : w.heap[b]? = some x) {b' : Nat} (hne : b ≠ b') (i : Nat) (v : Value) : (w.setCell ⟨b', i, none⟩ v).heap[b]? = some x := (Below.heap_setCell _ _ _ _ hne).trans h
theorem blk_set5 {w : World} {b : Nat} {T : TypeId} {c0 c1 c2 c3 c4 c5 c6 c7 c8 c9 c10 c11 c12 c13 : Value} (v5 v6 v7 v8 v9 : Value) (h : w.heap[b]? = some (.cells #[c0, c1, c2, c3, c4, c5, c6, c7, c8, c9, c10, c11, c12, c13] T (0, 0))) : (((((w.setCell ⟨b, 5, none⟩ v5).setCell ⟨b, 6, none⟩ v6).setCell ⟨b, 7, none⟩ v7).setCell ⟨b, 8, none⟩ v8).setCell ⟨b, 9, none⟩ v9).heap[b]? = some (.cells #[c0, c1, c2, c3, c4, v5, v6, v7, v8, v9, c10, c11, c12, c13] T (0, 0)) := by
  have := blk_set (blk_set (blk_set (blk_set (blk_set h 5 v5) 6 v6) 7 v7) 8 v8) 9 v9
  simpa using this
theorem blk_other5 {w : World} {b b' : Nat} {x : Obj} (v5 v6 v7 v8 v9 : Value) (h : w.heap[b']? = some x) (hne : b' ≠ b) : (((((w.setCell ⟨b, 5, none⟩ v5).setCell ⟨b, 6, none⟩ v6).setCell ⟨b, 7, none⟩ v7).setCell ⟨b, 8, none⟩ v8).setCell ⟨b, 9, none⟩ v9).heap[b']? = some x :=
  blk_other (blk_other (blk_other (blk_other (blk_other h hne 5 v5) hne 6 v6) hne 7 v7) hne 8 v8) hne 9 v9
end Go.Proofs.YthfjnfcekeknlaaGreatDoor
namespace Go.Proofs.YthfjnfcekeknlaaGreatDoor
open Go.RowKit

/-- The table of the signs of two bytes lies where the program lays it. -/
structure Signs (w : World) : Prop where
  s0 : w.cell? ⟨0, 0, none⟩ = some (.string ⟨#[58, 45]⟩)
  s1 : w.cell? ⟨0, 1, none⟩ = some (.string ⟨#[58, 61]⟩)
  s2 : w.cell? ⟨0, 2, none⟩ = some (.string ⟨#[61, 61]⟩)
  s3 : w.cell? ⟨0, 3, none⟩ = some (.string ⟨#[92, 61]⟩)
  s4 : w.cell? ⟨0, 4, none⟩ = some (.string ⟨#[61, 60]⟩)

theorem signLen_two {r : ByteArray} (h : 2 ≤ r.size) (hl : Parl.longSign (Parl.bAt r 0) (Parl.bAt r 1) = true) : Parl.signLen r 0 = 2 := by
  unfold Parl.signLen; rw [if_pos ⟨by omega, hl⟩]
theorem signLen_one {r : ByteArray} (h : 0 < r.size) (hl : 2 ≤ r.size → Parl.longSign (Parl.bAt r 0) (Parl.bAt r 1) = false) (hs : Parl.shortSign (Parl.bAt r 0) = true) : Parl.signLen r 0 = 1 := by
  unfold Parl.signLen; rw [if_neg (by rintro ⟨a, b⟩; rw [hl (by omega)] at b; cases b), if_pos ⟨h, hs⟩]
theorem signLen_none {r : ByteArray} (hl : 2 ≤ r.size → Parl.longSign (Parl.bAt r 0) (Parl.bAt r 1) = false) (hs : 0 < r.size → Parl.shortSign (Parl.bAt r 0) = false) : Parl.signLen r 0 = 0 := by
  unfold Parl.signLen; rw [if_neg (by rintro ⟨a, b⟩; rw [hl (by omega)] at b; cases b), if_neg (by rintro ⟨a, b⟩; rw [hs a] at b; cases b)]

def shortB : ByteArray := ⟨#[61, 60, 43, 45, 42, 40, 41, 44, 124, 46]⟩
theorem shorts_at (k : Nat) (h : k < shortB.size) : Parl.shorts[k]? = some (shortB[k]'h).toNat := by
  have h' : k < 10 := h
  rcases (show k = 0 ∨ k = 1 ∨ k = 2 ∨ k = 3 ∨ k = 4 ∨ k = 5 ∨ k = 6 ∨ k = 7 ∨ k = 8 ∨ k = 9 by omega) with rfl | rfl | rfl | rfl | rfl | rfl | rfl | rfl | rfl | rfl <;> rfl
theorem short_hit {r : ByteArray} {k : Nat} (h0 : 0 < r.size) (hk : k < shortB.size) (h : (((r[0]'h0).toNat : Int) == ((shortB[k]'hk).toNat : Int)) = true) : Parl.shortSign (Parl.bAt r 0) = true := by
  rw [Parl.shortSign_in]
  refine ⟨k, hk, ?_⟩
  rw [shorts_at k hk, Parl.bAt_lt h0]
  have : ((r[0]'h0).toNat : Int) = ((shortB[k]'hk).toNat : Int) := by simpa using h
  rw [show (r[0]'h0).toNat = (shortB[k]'hk).toNat by omega]
theorem short_miss {r : ByteArray} {k : Nat} (h0 : 0 < r.size) (hk : k < shortB.size) (h : (((r[0]'h0).toNat : Int) == ((shortB[k]'hk).toNat : Int)) = false) (ho : ∀ j, j < k → Parl.shorts[j]? ≠ some (Parl.bAt r 0)) : ∀ j, j < k + 1 → Parl.shorts[j]? ≠ some (Parl.bAt r 0) := by
  intro j hj e
  by_cases hjk : j < k
  · exact ho j hjk e
  · obtain rfl : j = k := by omega
    rw [shorts_at j hk, Parl.bAt_lt h0] at e
    have e' := Option.some.inj e
    simp [e'] at h
theorem short_none {c k : Nat} (h : ¬ k < 10) (ho : ∀ j, j < k → Parl.shorts[j]? ≠ some c) : Parl.shortSign c = false := by
  cases hs : Parl.shortSign c with
  | false => rfl
  | true =>
    obtain ⟨j, hj, e⟩ := (Parl.shortSign_in c).1 hs
    exact absurd e (ho j (by omega))
theorem not_empty {r : ByteArray} (h : 0 < r.size) : r.toList.isEmpty = false := by
  rw [ByteArray.toList_eq]
  cases hx : r.data.toList with
  | nil => have := Parl.len_eq r; rw [hx] at this; simp at this; omega
  | cons => rfl

set_option maxHeartbeats 2000000 in
theorem signLength_any (r : ByteArray) (w : World) (hr : r.size ≤ maxLen) (h : Signs w) : Calls Tryz.prog 127 #[.string r] w fun e w' => e = .returned (.int .i64 ((Parl.signLen r 0 : Nat) : Int)) ∧ ∃ n, w' = w.drewN n := by
  obtain ⟨s0, s1, s2, s3, s4⟩ := h
  unfold maxLen at hr
  have i0 : ∀ w, (Instr.index 238 (.agg #[.string ⟨#[58, 45]⟩, .string ⟨#[58, 61]⟩, .string ⟨#[61, 61]⟩, .string ⟨#[92, 61]⟩, .string ⟨#[61, 60]⟩]) (.int .i64 0)).run Tryz.prog w = .ok (.string ⟨#[58, 45]⟩) w := fun _ => by kernel_rfl
  have i1 : ∀ w, (Instr.index 238 (.agg #[.string ⟨#[58, 45]⟩, .string ⟨#[58, 61]⟩, .string ⟨#[61, 61]⟩, .string ⟨#[92, 61]⟩, .string ⟨#[61, 60]⟩]) (.int .i64 1)).run Tryz.prog w = .ok (.string ⟨#[58, 61]⟩) w := fun _ => by kernel_rfl
  have i2 : ∀ w, (Instr.index 238 (.agg #[.string ⟨#[58, 45]⟩, .string ⟨#[58, 61]⟩, .string ⟨#[61, 61]⟩, .string ⟨#[92, 61]⟩, .string ⟨#[61, 60]⟩]) (.int .i64 2)).run Tryz.prog w = .ok (.string ⟨#[61, 61]⟩) w := fun _ => by kernel_rfl
  have i3 : ∀ w, (Instr.index 238 (.agg #[.string ⟨#[58, 45]⟩, .string ⟨#[58, 61]⟩, .string ⟨#[61, 61]⟩, .string ⟨#[92, 61]⟩, .string ⟨#[61, 60]⟩]) (.int .i64 3)).run Tryz.prog w = .ok (.string ⟨#[92, 61]⟩) w := fun _ => by kernel_rfl
  have i4 : ∀ w, (Instr.index 238 (.agg #[.string ⟨#[58, 45]⟩, .string ⟨#[58, 61]⟩, .string ⟨#[61, 61]⟩, .string ⟨#[92, 61]⟩, .string ⟨#[61, 60]⟩]) (.int .i64 4)).run Tryz.prog w = .ok (.string ⟨#[61, 60]⟩) w := fun _ => by kernel_rfl
  have LS : Hid (2 ≤ r.size → Parl.longSign (Parl.bAt r 0) (Parl.bAt r 1) = (((r.extract 0 2).toList == [58, 45]) || ((r.extract 0 2).toList == [58, 61]) || ((r.extract 0 2).toList == [61, 61]) || ((r.extract 0 2).toList == [92, 61]) || ((r.extract 0 2).toList == [61, 60]))) := fun h => Parl.longSign_two (i := 0) (by omega)
  by_cases h2 : 2 ≤ r.size
  · cases b0 : ((r.extract 0 2).toList == [58, 45])
    · cases b1 : ((r.extract 0 2).toList == [58, 61])
      · cases b2 : ((r.extract 0 2).toList == [61, 61])
        · cases b3 : ((r.extract 0 2).toList == [92, 61])
          · cases b4 : ((r.extract 0 2).toList == [61, 60])
            · have LN : Hid (Parl.longSign (Parl.bAt r 0) (Parl.bAt r 1) = false) := by rw [Hid, LS.out h2, b0, b1, b2, b3, b4]; rfl
              go_enter Tryz.func127, Tryz.ntmps127
              go_wp2
              refine wp_loop_rounds 6 ?_
              rw [rounds_succ]
              go_wp2
              rw [rounds_succ]
              go_wp2
              rw [rounds_succ]
              go_wp2
              rw [rounds_succ]
              go_wp2
              rw [rounds_succ]
              go_wp2
              rw [rounds_succ]
              go_wp2
              clear i0 i1 i2 i3 i4 b0 b1 b2 b3 b4
              go_loopw [5] (fun i wr => ∃ k n : Nat, k ≤ 10 ∧ i = .int .i64 k ∧ wr = w.drewN n ∧ Hid (∀ j, j < k → Parl.shorts[j]? ≠ some (Parl.bAt r 0))) (fun i _ => 10 - (intOf i).toNat)
              case atStart => exact ⟨0, 0, by omega, rfl, rfl, fun j h => absurd h (Nat.not_lt_zero _)⟩
              case round =>
                obtain ⟨k, n, hk, rfl, rfl, hno⟩ := hrel
                by_cases hlt : k < 10
                · by_cases h0 : 0 < r.size
                  · have hE := not_empty h0
                    have HM : Hid (∀ hk : k < shortB.size, (((r[0]'h0).toNat : Int) == ((shortB[k]'hk).toNat : Int)) = false → ∀ j, j < k + 1 → Parl.shorts[j]? ≠ some (Parl.bAt r 0)) := fun hk h => short_miss h0 hk h hno.out
                    go_wp2
                    go_big_region
                    go_wp2
                    · go_ret
                      exact ⟨ret_int (by rw [signLen_one h0 (fun _ => LN.out) (short_hit (k := k) h0 hlt (by assumption))]; rfl), n + 1, rfl⟩
                    · go_roundw
                      case rel => exact ⟨k + 1, n + 1, by omega, by go_num, rfl, HM.out hlt (by assumption)⟩
                      case measure => simp [intOf]; omega
                  · exact absurd (show 0 < r.size by omega) h0
                · have hS : Hid (Parl.shortSign (Parl.bAt r 0) = false) := short_none hlt hno.out
                  go_wp2
                  go_ret
                  exact ⟨ret_int (by rw [signLen_none (fun _ => LN.out) (fun _ => hS.out)]; rfl), n, rfl⟩
            · have LN : Hid (Parl.longSign (Parl.bAt r 0) (Parl.bAt r 1) = true) := by rw [Hid, LS.out h2, b0, b1, b2, b3, b4]; simp
              go_enter Tryz.func127, Tryz.ntmps127
              go_wp2
              refine wp_loop_rounds 6 ?_
              rw [rounds_succ]
              go_wp2
              rw [rounds_succ]
              go_wp2
              rw [rounds_succ]
              go_wp2
              rw [rounds_succ]
              go_wp2
              rw [rounds_succ]
              go_wp2
              go_ret
              exact ⟨ret_int (by rw [signLen_two h2 LN.out]; rfl), 0, rfl⟩
          · have LN : Hid (Parl.longSign (Parl.bAt r 0) (Parl.bAt r 1) = true) := by rw [Hid, LS.out h2, b0, b1, b2, b3]; simp
            go_enter Tryz.func127, Tryz.ntmps127
            go_wp2
            refine wp_loop_rounds 6 ?_
            rw [rounds_succ]
            go_wp2
            rw [rounds_succ]
            go_wp2
            rw [rounds_succ]
            go_wp2
            rw [rounds_succ]
            go_wp2
            go_ret
            exact ⟨ret_int (by rw [signLen_two h2 LN.out]; rfl), 0, rfl⟩
        · have LN : Hid (Parl.longSign (Parl.bAt r 0) (Parl.bAt r 1) = true) := by rw [Hid, LS.out h2, b0, b1, b2]; simp
          go_enter Tryz.func127, Tryz.ntmps127
          go_wp2
          refine wp_loop_rounds 6 ?_
          rw [rounds_succ]
          go_wp2
          rw [rounds_succ]
          go_wp2
          rw [rounds_succ]
          go_wp2
          go_ret
          exact ⟨ret_int (by rw [signLen_two h2 LN.out]; rfl), 0, rfl⟩
      · have LN : Hid (Parl.longSign (Parl.bAt r 0) (Parl.bAt r 1) = true) := by rw [Hid, LS.out h2, b0, b1]; simp
        go_enter Tryz.func127, Tryz.ntmps127
        go_wp2
        refine wp_loop_rounds 6 ?_
        rw [rounds_succ]
        go_wp2
        rw [rounds_succ]
        go_wp2
        go_ret
        exact ⟨ret_int (by rw [signLen_two h2 LN.out]; rfl), 0, rfl⟩
    · have LN : Hid (Parl.longSign (Parl.bAt r 0) (Parl.bAt r 1) = true) := by rw [Hid, LS.out h2, b0]; simp
      go_enter Tryz.func127, Tryz.ntmps127
      go_wp2
      refine wp_loop_rounds 6 ?_
      rw [rounds_succ]
      go_wp2
      go_ret
      exact ⟨ret_int (by rw [signLen_two h2 LN.out]; rfl), 0, rfl⟩
  · have LN : Hid (2 ≤ r.size → Parl.longSign (Parl.bAt r 0) (Parl.bAt r 1) = false) := fun h => absurd h h2
    go_enter Tryz.func127, Tryz.ntmps127
    go_wp2
    refine wp_loop_rounds 6 ?_
    rw [rounds_succ]
    go_wp2
    rw [rounds_succ]
    go_wp2
    rw [rounds_succ]
    go_wp2
    rw [rounds_succ]
    go_wp2
    rw [rounds_succ]
    go_wp2
    rw [rounds_succ]
    go_wp2
    clear i0 i1 i2 i3 i4 LS
    go_loopw [5] (fun i wr => ∃ k n : Nat, k ≤ 10 ∧ i = .int .i64 k ∧ wr = w.drewN n ∧ Hid (∀ j, j < k → Parl.shorts[j]? ≠ some (Parl.bAt r 0))) (fun i _ => 10 - (intOf i).toNat)
    case atStart => exact ⟨0, 0, by omega, rfl, rfl, fun j h => absurd h (Nat.not_lt_zero _)⟩
    case round =>
      obtain ⟨k, n, hk, rfl, rfl, hno⟩ := hrel
      by_cases hlt : k < 10
      · by_cases h0 : 0 < r.size
        · have hE := not_empty h0
          have HM : Hid (∀ hk : k < shortB.size, (((r[0]'h0).toNat : Int) == ((shortB[k]'hk).toNat : Int)) = false → ∀ j, j < k + 1 → Parl.shorts[j]? ≠ some (Parl.bAt r 0)) := fun hk h => short_miss h0 hk h hno.out
          go_wp2
          go_big_region
          go_wp2
          · go_ret
            exact ⟨ret_int (by rw [signLen_one h0 LN.out (short_hit (k := k) h0 hlt (by assumption))]; rfl), n + 1, rfl⟩
          · go_roundw
            case rel => exact ⟨k + 1, n + 1, by omega, by go_num, rfl, HM.out hlt (by assumption)⟩
            case measure => simp [intOf]; omega
        · have hE : r.toList.isEmpty = true := by rw [ByteArray.toList_eq]; have := Parl.len_eq r; cases hx : r.data.toList with
              | nil => rfl
              | cons a l => rw [hx] at this; simp at this; omega
          have HM : Hid (∀ j, j < k + 1 → Parl.shorts[j]? ≠ some (Parl.bAt r 0)) := fun j hj e => by
              have e0 : Parl.bAt r 0 = 0 := by unfold Parl.bAt; rw [dif_neg h0]
              rw [e0] at e
              have hm := List.mem_of_getElem? e
              simp [Parl.shorts] at hm
          go_wp2
          go_big_region
          go_wp2
          go_roundw
          case rel => exact ⟨k + 1, n + 1, by omega, by go_num, rfl, HM.out⟩
          case measure => simp [intOf]; omega
      · have hS : Hid (Parl.shortSign (Parl.bAt r 0) = false) := short_none hlt hno.out
        go_wp2
        go_ret
        exact ⟨ret_int (by rw [signLen_none LN.out (fun _ => hS.out)]; rfl), n, rfl⟩
end Go.Proofs.YthfjnfcekeknlaaGreatDoor
namespace Go.Proofs.YthfjnfcekeknlaaGreatDoor
open Go.RowKit

theorem Signs.below {B : Nat} {w w' : World} (h : Signs w) (hb : Below B w w') (h0 : 0 < B) : Signs w' :=
  ⟨(hb.cell (p := ⟨0, 0, none⟩) h0).trans h.s0, (hb.cell (p := ⟨0, 1, none⟩) h0).trans h.s1, (hb.cell (p := ⟨0, 2, none⟩) h0).trans h.s2, (hb.cell (p := ⟨0, 3, none⟩) h0).trans h.s3, (hb.cell (p := ⟨0, 4, none⟩) h0).trans h.s4⟩
theorem Signs.draws {w : World} (h : Signs w) (n : Nat) : Signs (w.drewN n) := ⟨h.s0, h.s1, h.s2, h.s3, h.s4⟩

theorem kindAt0 {r : ByteArray} (h : r.size = 0) : Parl.kindAt r 0 = 0 := by unfold Parl.kindAt; rw [if_pos (by omega)]
theorem kindAt2 {r : ByteArray} (h : 0 < r.size) (a : Parl.low (r[0].toNat) = true) : Parl.kindAt r 0 = 2 := by unfold Parl.kindAt; rw [if_neg (by omega), Parl.bAt_lt h, if_pos a]
theorem kindAt3 {r : ByteArray} (h : 0 < r.size) (a : Parl.low (r[0].toNat) = false) (b : Parl.upp (r[0].toNat) = true) : Parl.kindAt r 0 = 3 := by unfold Parl.kindAt; rw [if_neg (by omega), Parl.bAt_lt h, if_neg (by simp [a]), if_pos b]
theorem kindAt4 {r : ByteArray} (h : 0 < r.size) (a : Parl.low (r[0].toNat) = false) (b : Parl.upp (r[0].toNat) = false) (c : Parl.dig (r[0].toNat) = true) : Parl.kindAt r 0 = 4 := by unfold Parl.kindAt; rw [if_neg (by omega), Parl.bAt_lt h, if_neg (by simp [a]), if_neg (by simp [b]), if_pos c]
theorem kindAt5 {r : ByteArray} (h : 0 < r.size) (a : Parl.low (r[0].toNat) = false) (b : Parl.upp (r[0].toNat) = false) (c : Parl.dig (r[0].toNat) = false) (d : 0 < Parl.signLen r 0) : Parl.kindAt r 0 = 5 := by unfold Parl.kindAt; rw [if_neg (by omega), Parl.bAt_lt h, if_neg (by simp [a]), if_neg (by simp [b]), if_neg (by simp [c]), if_pos d]
theorem kindAt1 {r : ByteArray} (h : 0 < r.size) (a : Parl.low (r[0].toNat) = false) (b : Parl.upp (r[0].toNat) = false) (c : Parl.dig (r[0].toNat) = false) (d : ¬ 0 < Parl.signLen r 0) : Parl.kindAt r 0 = 1 := by unfold Parl.kindAt; rw [if_neg (by omega), Parl.bAt_lt h, if_neg (by simp [a]), if_neg (by simp [b]), if_neg (by simp [c]), if_neg d]
theorem is_empty {r : ByteArray} (h : r.size = 0) : r.toList.isEmpty = true := by
  rw [ByteArray.toList_eq]
  have := Parl.len_eq r
  cases hx : r.data.toList with
  | nil => rfl
  | cons a l => rw [hx] at this; simp at this; omega

set_option maxHeartbeats 1000000 in
theorem kindOf_any (r : ByteArray) (w : World) (hr : r.size ≤ maxLen) (h : Signs w) : Calls Tryz.prog 72 #[.string r] w fun e w' => e = .returned (.int .i64 ((Parl.kindAt r 0 : Nat) : Int)) ∧ ∃ n, w' = w.drewN n := by
  have hr' := hr
  unfold maxLen at hr'
  have H := h
  by_cases h0 : 0 < r.size
  · have hE := not_empty h0
    cases a : Parl.low (r[0].toNat)
    · cases b : Parl.upp (r[0].toNat)
      · cases c : Parl.dig (r[0].toNat)
        · by_cases d : 0 < Parl.signLen r 0
          · have K := hide (kindAt5 h0 a b c d)
            go_enter Tryz.func72, Tryz.ntmps72
            go_wp2_with (first | (go_at_call 124; refine (isSmall_any _ _).mono ?_; rintro e w' ⟨rfl, rfl⟩) | (go_at_call 126; refine (isDigit_any _ _).mono ?_; rintro e w' ⟨rfl, rfl⟩) | (go_at_call 125; refine (isCapital_any _ _).mono ?_; rintro e w' ⟨rfl, rfl⟩) | (go_at_call 127; refine (signLength_any _ _ hr H).mono ?_; rintro e w' ⟨rfl, n, rfl⟩))
            go_ret
            exact ⟨ret_int (by rw [unhide K]; rfl), n, rfl⟩
          · have K := hide (kindAt1 h0 a b c d)
            go_enter Tryz.func72, Tryz.ntmps72
            go_wp2_with (first | (go_at_call 124; refine (isSmall_any _ _).mono ?_; rintro e w' ⟨rfl, rfl⟩) | (go_at_call 126; refine (isDigit_any _ _).mono ?_; rintro e w' ⟨rfl, rfl⟩) | (go_at_call 125; refine (isCapital_any _ _).mono ?_; rintro e w' ⟨rfl, rfl⟩) | (go_at_call 127; refine (signLength_any _ _ hr H).mono ?_; rintro e w' ⟨rfl, n, rfl⟩))
            go_ret
            exact ⟨ret_int (by rw [unhide K]; rfl), n, rfl⟩
        · have K := hide (kindAt4 h0 a b c)
          go_enter Tryz.func72, Tryz.ntmps72
          go_wp2_with (first | (go_at_call 124; refine (isSmall_any _ _).mono ?_; rintro e w' ⟨rfl, rfl⟩) | (go_at_call 126; refine (isDigit_any _ _).mono ?_; rintro e w' ⟨rfl, rfl⟩) | (go_at_call 125; refine (isCapital_any _ _).mono ?_; rintro e w' ⟨rfl, rfl⟩))
          go_ret
          exact ⟨ret_int (by rw [unhide K]; rfl), 0, rfl⟩
      · have K := hide (kindAt3 h0 a b)
        go_enter Tryz.func72, Tryz.ntmps72
        go_wp2_with (first | (go_at_call 124; refine (isSmall_any _ _).mono ?_; rintro e w' ⟨rfl, rfl⟩) | (go_at_call 125; refine (isCapital_any _ _).mono ?_; rintro e w' ⟨rfl, rfl⟩))
        go_ret
        exact ⟨ret_int (by rw [unhide K]; rfl), 0, rfl⟩
    · have K := hide (kindAt2 h0 a)
      go_enter Tryz.func72, Tryz.ntmps72
      go_wp2_with (first | (go_at_call 124; refine (isSmall_any _ _).mono ?_; rintro e w' ⟨rfl, rfl⟩))
      go_ret
      exact ⟨ret_int (by rw [unhide K]; rfl), 0, rfl⟩
  · have hE := is_empty (r := r) (by omega)
    have K := hide (kindAt0 (r := r) (by omega))
    go_enter Tryz.func72, Tryz.ntmps72
    go_wp2
    go_ret
    exact ⟨ret_int (by rw [unhide K]; rfl), 0, rfl⟩

set_option maxHeartbeats 1000000 in
theorem lengthOf_any (r : ByteArray) (w : World) (hr : r.size ≤ maxLen) (h : Signs w) : Calls Tryz.prog 73 #[.int .i64 ((Parl.kindAt r 0 : Nat) : Int), .string r] w fun e w' => e = .returned (.int .i64 ((Parl.endAt r 0 : Nat) : Int)) ∧ ∃ n, w' = w.drewN n := by
  have hk := Parl.kindAt_le r 0
  have KE : Hid (Parl.endAt r 0 = if Parl.kindAt r 0 = 0 then 0 else if Parl.kindAt r 0 = 1 then 0 + 1 else if Parl.kindAt r 0 = 5 then 0 + Parl.signLen r 0 else Parl.wordEnd r (Parl.kindAt r 0) 0) := rfl
  generalize Parl.kindAt r 0 = k at *
  rcases (show k = 0 ∨ k = 1 ∨ k = 2 ∨ k = 3 ∨ k = 4 ∨ k = 5 by omega) with rfl | rfl | rfl | rfl | rfl | rfl
  · go_enter Tryz.func73, Tryz.ntmps73
    go_wp2_with fail
    go_ret
    exact ⟨ret_int (by rw [KE.out]; rfl), 0, rfl⟩
  · go_enter Tryz.func73, Tryz.ntmps73
    go_wp2_with fail
    go_ret
    exact ⟨ret_int (by rw [KE.out]; rfl), 0, rfl⟩
  · go_enter Tryz.func73, Tryz.ntmps73
    go_wp2_with (go_at_call 128; refine (wordLength_any 2 _ _ hr).mono ?_; rintro e w' ⟨rfl, rfl⟩)
    go_ret
    exact ⟨ret_int (by rw [KE.out]; rfl), 0, rfl⟩
  · go_enter Tryz.func73, Tryz.ntmps73
    go_wp2_with (go_at_call 128; refine (wordLength_any 3 _ _ hr).mono ?_; rintro e w' ⟨rfl, rfl⟩)
    go_ret
    exact ⟨ret_int (by rw [KE.out]; rfl), 0, rfl⟩
  · go_enter Tryz.func73, Tryz.ntmps73
    go_wp2_with (go_at_call 128; refine (wordLength_any 4 _ _ hr).mono ?_; rintro e w' ⟨rfl, rfl⟩)
    go_ret
    exact ⟨ret_int (by rw [KE.out]; rfl), 0, rfl⟩
  · go_enter Tryz.func73, Tryz.ntmps73
    go_wp2_with (go_at_call 127; refine (signLength_any _ _ hr h).mono ?_; rintro e w' ⟨rfl, n, rfl⟩)
    go_ret
    exact ⟨ret_int (by rw [KE.out]; simp), n, rfl⟩


set_option maxHeartbeats 1000000 in
theorem next_any (s : ByteArray) (p : Nat) (w : World) (hs : s.size ≤ maxLen) (hp : p ≤ s.size) (h : Signs w) (hz : 0 < w.heap.size) :
    Calls Tryz.prog 38 #[.string s, .int .i64 (p : Int)] w fun e w' => e = .returned (.agg #[.int .i64 ((Parl.next s p).kind : Int), .int .i64 ((Parl.next s p).pos : Int), .string (Parl.next s p).text]) ∧ Below w.heap.size w w' := by
  have hs' := hs
  unfold maxLen at hs'
  have hle := Parl.skip_le hp
  have hge := Parl.skip_ge s p
  by_cases he : Parl.skip s p < s.size
  · have hS : ∀ o, Signs (w.alloc o) := fun o => h.below ((Below.refl _ _).alloc (Nat.le_refl _) o) hz
    have hsz : (s.extract (Parl.skip s p) s.size).size ≤ maxLen := by rw [← Parl.from_, Parl.size_from]; omega
    have hN := hide (Parl.next_tok he)
    have hK := hide (@Parl.kindAt_from s (Parl.skip s p))
    have hE := hide (@Parl.endAt_from s (Parl.skip s p))
    have hEl := Parl.endAt_le he
    have hEg := Parl.endAt_gt he
    have hX : Hid (∀ n : Nat, Parl.skip s p + n ≤ s.size → (Parl.from_ s (Parl.skip s p)).extract 0 n = s.extract (Parl.skip s p) (Parl.skip s p + n)) := fun n h => Parl.extract_from h
    unfold Parl.from_ at hK hE hX
    go_enter Tryz.func38, Tryz.ntmps38
    go_wp2_with fail
    refine (skipBlanks_any s p _ hs hp).mono ?_
    rintro e w' ⟨rfl, rfl⟩
    go_wp2_with fail
    refine (kindOf_any (s.extract (Parl.skip s p) s.size) _ hsz (hS _)).mono ?_
    rintro e w' ⟨rfl, n, rfl⟩
    go_wp2_with fail
    refine (lengthOf_any (s.extract (Parl.skip s p) s.size) _ hsz ((hS _).draws _)).mono ?_
    rintro e w' ⟨rfl, m, rfl⟩
    have hb : Parl.endAt (s.extract (Parl.skip s p) s.size) 0 + Parl.skip s p = Parl.endAt s (Parl.skip s p) := unhide hE
    have hb2 : Parl.endAt (s.extract (Parl.skip s p) s.size) 0 ≤ (s.extract (Parl.skip s p) s.size).size := by rw [ByteArray.size_extract]; omega
    generalize hg : Parl.endAt (s.extract (Parl.skip s p) s.size) 0 = q at *
    have hg' := hide hg
    clear hg
    have hb' := hide hb
    clear hb
    go_wp2_with fail
    refine bodyPost_ret (v := .agg #[.int .i64 (Parl.kindAt (s.extract (Parl.skip s p) s.size) 0 : Int), .int .i64 (Parl.skip s p : Int), .string ((s.extract (Parl.skip s p) s.size).extract 0 q)]) (by simp [results, Tryz.results38, go_sem]) rfl ⟨?_, ?_⟩
    · rw [unhide hN, unhide hK, unhide hX q (by rw [ByteArray.size_extract] at hb2; omega), Nat.add_comm, unhide hb']
    · exact (((below_drewN ((Below.refl _ _).alloc (Nat.le_refl _) _) _).setCell (Nat.le_refl _) _).setCell (Nat.le_refl _) _).setCell (Nat.le_refl _) _
  · have hN := hide (Parl.next_end (s := s) (p := p) (by omega))
    go_enter Tryz.func38, Tryz.ntmps38
    go_wp2_with fail
    refine (skipBlanks_any s p _ hs hp).mono ?_
    rintro e w' ⟨rfl, rfl⟩
    go_wp2_with fail
    refine bodyPost_ret (v := .agg #[.int .i64 0, .int .i64 (s.size : Int), .string ByteArray.empty]) (by simp [results, Tryz.results38, go_sem]; rfl) rfl ⟨?_, ?_⟩
    · rw [unhide hN]; rfl
    · exact (Below.refl _ _).alloc (Nat.le_refl _) _
end Go.Proofs.YthfjnfcekeknlaaGreatDoor
namespace Go.Proofs.YthfjnfcekeknlaaGreatDoor
open Go.RowKit

/-- The type of a block's cells. -/
def tyAt (w : World) (k : Nat) : Option TypeId := match w.heap[k]? with
  | some (.cells _ t _) => some t
  | _ => none

/-- All blocks stay but those of X and rows of texts from b on. -/
structure KA (b : Nat) (X : List Nat) (w w' : World) : Prop where
  os : w'.os = w.os
  tape : w'.tape = w.tape
  output : w'.output = w.output
  size : w.heap.size ≤ w'.heap.size
  block : ∀ k, k < w.heap.size → k ∉ X → (k < b ∨ tyAt w k ≠ some 9) → w'.heap[k]? = w.heap[k]?

theorem KA.refl (b : Nat) (X : List Nat) (w : World) : KA b X w w := ⟨rfl, rfl, rfl, Nat.le_refl _, fun _ _ _ _ => rfl⟩
theorem KA.trans {b : Nat} {X : List Nat} {u v w : World} (h : KA b X u v) (k : KA b X v w) : KA b X u w :=
  ⟨k.os.trans h.os, k.tape.trans h.tape, k.output.trans h.output, Nat.le_trans h.size k.size, fun i hi hX ht => by
    have e := h.block i hi hX ht
    rw [k.block i (Nat.lt_of_lt_of_le hi h.size) hX (by unfold tyAt at ht ⊢; rw [e]; exact ht), e]⟩
theorem KA.of_below {b : Nat} {X : List Nat} {w w' : World} (h : Below w.heap.size w w') : KA b X w w' := ⟨h.os, h.tape, h.output, h.size, fun k hk _ _ => h.block k hk⟩
theorem KA.drewN {b : Nat} {X : List Nat} {u w : World} (h : KA b X u w) (n : Nat) : KA b X u (w.drewN n) := h.trans (KA.of_below (below_drewN (Below.refl _ _) n))
theorem KA.drew {b : Nat} {X : List Nat} {u w : World} (h : KA b X u w) : KA b X u w.drew := h.trans (KA.of_below (Below.refl _ _).drew)
theorem KA.alloc {b : Nat} {X : List Nat} {u w : World} (h : KA b X u w) (o : Obj) : KA b X u (w.alloc o) := h.trans (KA.of_below ((Below.refl _ _).alloc (Nat.le_refl _) o))
theorem KA.setIn {b : Nat} {X : List Nat} {u w : World} (h : KA b X u w) {p : Addr} (hp : p.block ∈ X) (v : Value) : KA b X u (w.setCell p v) :=
  h.trans ⟨rfl, rfl, rfl, by simp [World.setCell], fun k hk hX _ => Below.heap_setCell _ _ _ _ (fun e => hX (e ▸ hp))⟩
theorem KA.setNew {b : Nat} {X : List Nat} {u w : World} (h : KA b X u w) {p : Addr} (hp : u.heap.size ≤ p.block) (v : Value) : KA b X u (w.setCell p v) :=
  ⟨h.os, h.tape, h.output, by have := h.size; simp [World.setCell]; omega, fun k hk hX ht => (Below.heap_setCell _ _ _ _ (by omega)).trans (h.block k hk hX ht)⟩
theorem KA.mono {b : Nat} {X Y : List Nat} {u w : World} (h : KA b X u w) (hs : ∀ x ∈ X, x ∈ Y) : KA b Y u w :=
  ⟨h.os, h.tape, h.output, h.size, fun k hk hY ht => h.block k hk (fun e => hY (hs k e)) ht⟩
/-- What is new in the first world may be let go. -/
theorem KA.forget {b : Nat} {X Y : List Nat} {u w : World} (h : KA b Y u w) (hs : ∀ x ∈ Y, x ∈ X ∨ u.heap.size ≤ x) : KA b X u w :=
  ⟨h.os, h.tape, h.output, h.size, fun k hk hX ht => h.block k hk (fun e => (hs k e).elim hX (fun q => by omega)) ht⟩
theorem KA.cell {b : Nat} {X : List Nat} {w w' : World} (h : KA b X w w') {p : Addr} (hp : p.block < w.heap.size) (hX : p.block ∉ X) (ht : p.block < b ∨ tyAt w p.block ≠ some 9) : w'.cell? p = w.cell? p := World.cell?_of_block (w := w) (h.block p.block hp hX ht)
theorem KA.frozen {b : Nat} {X : List Nat} {w w' : World} (h : KA b X w w') {p : Addr} (hp : p.block < w.heap.size) (hX : p.block ∉ X) (ht : p.block < b ∨ tyAt w p.block ≠ some 9) : w'.frozen? p = w.frozen? p := World.frozen?_of_block (w := w) (h.block p.block hp hX ht)
theorem KA.below {b : Nat} {X : List Nat} {w w' : World} (h : KA b X w w') {B : Nat} (hB : B ≤ w.heap.size) (hb : B ≤ b) (hX : ∀ x ∈ X, B ≤ x) : Below B w w' :=
  ⟨h.os, h.tape, h.output, h.size, fun k hk => h.block k (by omega) (fun e => by have := hX k e; omega) (Or.inl (by omega))⟩
theorem KA.grown {b : Nat} {X : List Nat} {u w w' : World} {row : Option Nat} (h : KA b X u w) (hg : w.grownBy w' row) (hr : ∀ k, row = some k → u.heap.size ≤ k ∨ k ∈ X ∨ (b ≤ k ∧ tyAt w k = some 9)) : KA b X u w' :=
  ⟨hg.os.trans h.os, hg.tape.trans h.tape, hg.output.trans h.output, Nat.le_trans h.size hg.size, fun k hk hX ht => by
    have e := h.block k hk hX ht
    rw [hg.block k (Nat.lt_of_lt_of_le hk h.size) (fun q => ?_), e]
    rcases hr k q.symm with a | a | ⟨a, c⟩
    · omega
    · exact hX a
    · rcases ht with t | t
      · omega
      · apply t; unfold tyAt at c ⊢; rw [← e]; exact c⟩

theorem Signs.ka {b : Nat} {X : List Nat} {w w' : World} (h : Signs w) (hk : KA b X w w') (h0 : 0 < w.heap.size) (hX : 0 ∉ X) (hb : 0 < b) : Signs w' :=
  ⟨(hk.cell (p := ⟨0, 0, none⟩) h0 hX (Or.inl hb)).trans h.s0, (hk.cell (p := ⟨0, 1, none⟩) h0 hX (Or.inl hb)).trans h.s1, (hk.cell (p := ⟨0, 2, none⟩) h0 hX (Or.inl hb)).trans h.s2, (hk.cell (p := ⟨0, 3, none⟩) h0 hX (Or.inl hb)).trans h.s3, (hk.cell (p := ⟨0, 4, none⟩) h0 hX (Or.inl hb)).trans h.s4⟩

/-- The reader's six cells. -/
structure Rd (w : World) (rb : Nat) (s : ByteArray) (t : Parl.Tok) (nv : Value) (e : Int) : Prop where
  c0 : w.cell? ⟨rb, 0, none⟩ = some (.string s)
  c1 : w.cell? ⟨rb, 1, none⟩ = some (.int .i64 (t.kind : Int))
  c2 : w.cell? ⟨rb, 2, none⟩ = some (.int .i64 (t.pos : Int))
  c3 : w.cell? ⟨rb, 3, none⟩ = some (.string t.text)
  c4 : w.cell? ⟨rb, 4, none⟩ = some nv
  c5 : w.cell? ⟨rb, 5, none⟩ = some (.int .i64 e)
  f1 : w.frozen? ⟨rb, 1, none⟩ = false
  f2 : w.frozen? ⟨rb, 2, none⟩ = false
  f3 : w.frozen? ⟨rb, 3, none⟩ = false
  f4 : w.frozen? ⟨rb, 4, none⟩ = false
  f5 : w.frozen? ⟨rb, 5, none⟩ = false

theorem Rd.below {B : Nat} {w w' : World} {rb : Nat} {s : ByteArray} {t : Parl.Tok} {nv : Value} {e : Int} (h : Rd w rb s t nv e) (hb : Below B w w') (hr : rb < B) : Rd w' rb s t nv e :=
  ⟨(hb.cell (p := ⟨rb, 0, none⟩) hr).trans h.c0, (hb.cell (p := ⟨rb, 1, none⟩) hr).trans h.c1, (hb.cell (p := ⟨rb, 2, none⟩) hr).trans h.c2, (hb.cell (p := ⟨rb, 3, none⟩) hr).trans h.c3, (hb.cell (p := ⟨rb, 4, none⟩) hr).trans h.c4, (hb.cell (p := ⟨rb, 5, none⟩) hr).trans h.c5,
   (hb.frozen (p := ⟨rb, 1, none⟩) hr).trans h.f1, (hb.frozen (p := ⟨rb, 2, none⟩) hr).trans h.f2, (hb.frozen (p := ⟨rb, 3, none⟩) hr).trans h.f3, (hb.frozen (p := ⟨rb, 4, none⟩) hr).trans h.f4, (hb.frozen (p := ⟨rb, 5, none⟩) hr).trans h.f5⟩

/-- What the reader stands at: the tokens l are left, ns are the clause's variables so far. -/
structure St (w : World) (rb : Nat) (s : ByteArray) (l : List Parl.Tok) (ns : List ByteArray) (nv : Value) (e : Int) : Prop where
  rd : Rd w rb s (Parl.hd l) nv e
  own : w.ownsRow (rb + 1) 9 1 nv ns.length (ns.map Value.string)
  chain : Parl.Chain s l
  isNext : ∃ p, Parl.hd l = Parl.next s p
  few : ns.length + l.length ≤ 1000
  short : s.size ≤ 240
  signs : Signs w
  pos : 0 < rb
  lt : rb < w.heap.size

theorem St.below {w w' : World} {rb : Nat} {s : ByteArray} {l : List Parl.Tok} {ns : List ByteArray} {nv : Value} {e : Int} (h : St w rb s l ns nv e) (hb : Below w.heap.size w w') : St w' rb s l ns nv e :=
  ⟨h.rd.below hb h.lt, ⟨h.own.1, h.own.2.imp id fun ⟨g, cap, cur, a, b, c, d⟩ => ⟨g, cap, cur, a, b, (hb.block g (by
      have := Array.getElem?_eq_some_iff.1 c; exact this.1)).trans c, d⟩⟩, h.chain, h.isNext, h.few, h.short, h.signs.below hb (by have := h.lt; omega), h.pos, by have := hb.size; have := h.lt; omega⟩

/-- A store into the reader's own block: what does not hang on its cells stays. -/
theorem own_setCell {w : World} {rb : Nat} {T : TypeId} {sz : Nat} {nv : Value} {n : Nat} {xs : List Value} (h : w.ownsRow (rb + 1) T sz nv n xs) (o : Nat) (v : Value) : (w.setCell ⟨rb, o, none⟩ v).ownsRow (rb + 1) T sz nv n xs :=
  ownsRow_setCell_below h (by show rb < rb + 1; omega) v

theorem Signs.setCell {w : World} (h : Signs w) {p : Addr} (hp : p.block ≠ 0) (v : Value) : Signs (w.setCell p v) := by
  have k : ∀ o, (w.setCell p v).cell? ⟨0, o, none⟩ = w.cell? ⟨0, o, none⟩ := fun o => World.cell?_of_block (Below.heap_setCell _ _ _ _ (fun e => hp e.symm))
  exact ⟨(k 0).trans h.s0, (k 1).trans h.s1, (k 2).trans h.s2, (k 3).trans h.s3, (k 4).trans h.s4⟩
end Go.Proofs.YthfjnfcekeknlaaGreatDoor
namespace Go.Proofs.YthfjnfcekeknlaaGreatDoor
open Go.RowKit

theorem refuse_any (w : World) (rb : Nat) (s : ByteArray) (l : List Parl.Tok) (ns : List ByteArray) (nv : Value) (e0 : Int) (c : Int) (h : St w rb s l ns nv e0) :
    Calls Tryz.prog 82 #[.pointer (some ⟨rb, 0, none⟩), .int .i64 c] w fun e w' => e = .returned (.tuple #[]) ∧ St w' rb s l ns nv c ∧ KA rb [rb] w w' := by
  obtain ⟨⟨c0, c1, c2, c3, c4, c5, f1, f2, f3, f4, f5⟩, own, chain, isn, few, short, signs, pos, lt⟩ := h
  go_enter Tryz.func82, Tryz.ntmps82
  go_wp2
  go_end0
  refine ⟨rfl, ⟨⟨?_, ?_, ?_, ?_, ?_, ?_, ?_, ?_, ?_, ?_, ?_⟩, own_setCell own _ _, chain, isn, few, short, signs.setCell (by show rb ≠ 0; omega) _, pos, by simpa using lt⟩, (KA.refl _ _ _).setIn (by simp) _⟩
  all_goals first | go_cell | (simp [go_sem, *]; done)

theorem sees_any (w : World) (rb : Nat) (s : ByteArray) (l : List Parl.Tok) (ns : List ByteArray) (nv : Value) (e0 : Int) (g : ByteArray) (h : St w rb s l ns nv e0) :
    Calls Tryz.prog 76 #[.pointer (some ⟨rb, 0, none⟩), .string g] w fun e w' => e = .returned (.bool (Parl.sees l g.toList)) ∧ w' = w := by
  obtain ⟨⟨c0, c1, c2, c3, c4, c5, f1, f2, f3, f4, f5⟩, own, chain, isn, few, short, signs, pos, lt⟩ := h
  clear own chain isn few signs
  by_cases hk : (Parl.hd l).kind = 5
  · have hk' : (((Parl.hd l).kind : Int) == 5) = true := by simp; omega
    have HS := hide (show Parl.sees l g.toList = ((Parl.hd l).text.toList == g.toList) by simp [Parl.sees, hk])
    clear hk
    go_enter Tryz.func76, Tryz.ntmps76
    go_wp2
    go_ret
    exact ⟨ret_bool (by rw [unhide HS]), rfl⟩
  · have hk' : (((Parl.hd l).kind : Int) == 5) = false := by simp; omega
    have HS := hide (show Parl.sees l g.toList = false by simp [Parl.sees, hk])
    clear hk
    go_enter Tryz.func76, Tryz.ntmps76
    go_wp2
    go_ret
    exact ⟨ret_bool (by rw [unhide HS]), rfl⟩

theorem take_end {w w1 : World} {rb : Nat} {s : ByteArray} {l : List Parl.Tok} {ns : List ByteArray} {nv : Value} {e0 : Int} (h : St w rb s l ns nv e0) (h0 : (Parl.hd l).kind ≠ 0) (hb : Below w.heap.size w w1) :
    St (((w1.setCell ⟨rb, 1, none⟩ (.int .i64 ((Parl.next s ((Parl.hd l).pos + (Parl.hd l).text.size)).kind : Int))).setCell ⟨rb, 2, none⟩ (.int .i64 ((Parl.next s ((Parl.hd l).pos + (Parl.hd l).text.size)).pos : Int))).setCell ⟨rb, 3, none⟩ (.string (Parl.next s ((Parl.hd l).pos + (Parl.hd l).text.size)).text)) rb s l.tail ns nv e0 ∧
    KA rb [rb] w (((w1.setCell ⟨rb, 1, none⟩ (.int .i64 ((Parl.next s ((Parl.hd l).pos + (Parl.hd l).text.size)).kind : Int))).setCell ⟨rb, 2, none⟩ (.int .i64 ((Parl.next s ((Parl.hd l).pos + (Parl.hd l).text.size)).pos : Int))).setCell ⟨rb, 3, none⟩ (.string (Parl.next s ((Parl.hd l).pos + (Parl.hd l).text.size)).text)) := by
  have hk := h.chain.tail h0
  have h1 := h.below hb
  have few := h.few
  have hl : l.length = l.tail.length + 1 := by
    rcases l with _ | ⟨a, r⟩
    · exact absurd h.chain (by simp [Parl.Chain])
    · rfl
  obtain ⟨⟨d0, d1, d2, d3, d4, d5, g1, g2, g3, g4, g5⟩, own, chain, isn, few1, short, signs, pos, lt⟩ := h1
  have z : rb ≠ 0 := by omega
  refine ⟨⟨?_, own_setCell (own_setCell (own_setCell own _ _) _ _) _ _, hk.1, ⟨_, hk.2.1⟩, by omega, short, ((signs.setCell (by exact z) _).setCell (by exact z) _).setCell (by exact z) _, pos, by simpa using lt⟩, (((KA.of_below hb).setIn (by simp) _).setIn (by simp) _).setIn (by simp) _⟩
  rw [hk.2.1]
  generalize Parl.next s ((Parl.hd l).pos + (Parl.hd l).text.size) = t
  exact ⟨by go_cell, by go_cell, by go_cell, by go_cell, by go_cell, by go_cell, by go_cell, by go_cell, by go_cell, by go_cell, by go_cell⟩

end Go.Proofs.YthfjnfcekeknlaaGreatDoor
