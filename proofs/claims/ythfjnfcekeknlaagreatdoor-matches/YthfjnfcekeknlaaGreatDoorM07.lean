import Derived.Test.YthfjnfcekeknlaaGreatDoorM01
import Derived.Deep.QuietTactic
import Derived.BigQuiet
import Derived.OpenShut
import Derived.Deep.RegionWith
namespace Go.Proofs.YthfjnfcekeknlaaGreatDoor
open Go.RowKit

/-- A row of one's own stays while old blocks stay. -/
theorem own_below {w w' : World} {b0 : Nat} {e : TypeId} {sz : Nat} {v : Value} {n : Nat} {xs : List Value} (h : w.ownsRow b0 e sz v n xs) (hb : Below w.heap.size w w') : w'.ownsRow b0 e sz v n xs :=
  ⟨h.1, h.2.imp id fun ⟨g, cap, cur, a, b, c, d⟩ => ⟨g, cap, cur, a, b, (hb.block g (Array.getElem?_eq_some_iff.1 c).1).trans c, d⟩⟩

theorem lower_any (c : Nat) (w : World) : Calls Tryz.prog 143 #[.int .u8 (c : Int)] w fun e w' => e = .returned (.bool (Parl.low c)) ∧ w' = w := by
  by_cases h1 : 97 ≤ c
  all_goals
    go_enter Tryz.func143, Tryz.ntmps143
    go_wp2
    go_ret
    exact ⟨ret_bool (by rw [Bool.eq_iff_iff]; simp [Parl.low]; omega), rfl⟩

theorem upper_any (c : Nat) (w : World) : Calls Tryz.prog 144 #[.int .u8 (c : Int)] w fun e w' => e = .returned (.bool (Parl.upp c)) ∧ w' = w := by
  by_cases h1 : 65 ≤ c
  all_goals
    go_enter Tryz.func144, Tryz.ntmps144
    go_wp2
    go_ret
    exact ⟨ret_bool (by rw [Bool.eq_iff_iff]; simp [Parl.upp]; omega), rfl⟩

theorem digit_any (c : Nat) (w : World) : Calls Tryz.prog 145 #[.int .u8 (c : Int)] w fun e w' => e = .returned (.bool (Parl.dig c)) ∧ w' = w := by
  by_cases h1 : 48 ≤ c
  all_goals
    go_enter Tryz.func145, Tryz.ntmps145
    go_wp2
    go_ret
    exact ⟨ret_bool (by rw [Bool.eq_iff_iff]; simp [Parl.dig]; omega), rfl⟩

set_option maxHeartbeats 1000000 in
theorem word_any (s : ByteArray) (p k : Nat) (w : World) (hs : s.size ≤ maxLen) (hp : p ≤ s.size) (kb : Int) (hk : (k = 2 ∧ kb = 1) ∨ (k = 3 ∧ kb = 2) ∨ (k = 4 ∧ kb = 3)) :
    Calls Tryz.prog 146 #[.string s, .int .i64 (p : Int), .int .i64 kb] w fun e w' => e = .returned (.int .i64 ((Parl.wordEnd s k p : Nat) : Int)) ∧ w' = w := by
  unfold maxLen at hs
  rcases hk with ⟨rfl, rfl⟩ | ⟨rfl, rfl⟩ | ⟨rfl, rfl⟩
  all_goals
    go_enter Tryz.func146, Tryz.ntmps146
    go_wp2_with fail
  · go_loop [7] (fun i => ∃ j : Nat, j ≤ s.size ∧ Hid (Parl.wordEnd s 2 j = Parl.wordEnd s 2 p) ∧ i = .int .i64 j) (fun i => s.size - (intOf i).toNat)
    case atStart => exact ⟨p, hp, rfl, rfl⟩
    case round =>
      obtain ⟨j, hj, hsk, rfl⟩ := hrel
      by_cases hlt : j < s.size
      · have hW := hide (show Parl.inWord 2 (s[j].toNat) = (Parl.low (s[j].toNat) || Parl.dig (s[j].toNat)) from rfl)
        cases hd : Parl.dig (s[j].toNat) <;> cases hl : Parl.low (s[j].toNat)
        · have hst : Hid (Parl.wordEnd s 2 p = j) := by rw [← hsk.out]; exact Parl.wordEnd_stop (by rw [Parl.bAt_lt hlt, unhide hW, hd, hl]; simp)
          go_wp2_with (first | (go_at_call 145; refine (digit_any _ _).mono ?_; rintro e w' ⟨rfl, rfl⟩) | (go_at_call 143; refine (lower_any _ _).mono ?_; rintro e w' ⟨rfl, rfl⟩))
          go_ret
          exact ⟨ret_int (by rw [hst.out]), rfl⟩
        all_goals
          have hst : Hid (Parl.wordEnd s 2 (j + 1) = Parl.wordEnd s 2 p) := by rw [← hsk.out]; exact (Parl.wordEnd_step hlt (by rw [Parl.bAt_lt hlt, unhide hW, hd, hl]; rfl)).symm
          go_wp2_with (first | (go_at_call 145; refine (digit_any _ _).mono ?_; rintro e w' ⟨rfl, rfl⟩) | (go_at_call 143; refine (lower_any _ _).mono ?_; rintro e w' ⟨rfl, rfl⟩))
          go_round
          case rel => exact ⟨j + 1, by omega, hst, by go_num⟩
          case measure => simp [intOf]; omega
      · have hst : Hid (Parl.wordEnd s 2 p = j) := by rw [← hsk.out]; exact Parl.wordEnd_stop (by omega)
        go_wp2_with fail
        go_ret
        exact ⟨ret_int (by rw [hst.out]), rfl⟩
  · go_loop [7] (fun i => ∃ j : Nat, j ≤ s.size ∧ Hid (Parl.wordEnd s 3 j = Parl.wordEnd s 3 p) ∧ i = .int .i64 j) (fun i => s.size - (intOf i).toNat)
    case atStart => exact ⟨p, hp, rfl, rfl⟩
    case round =>
      obtain ⟨j, hj, hsk, rfl⟩ := hrel
      by_cases hlt : j < s.size
      · have hW := hide (show Parl.inWord 3 (s[j].toNat) = (Parl.low (s[j].toNat) || Parl.dig (s[j].toNat) || Parl.upp (s[j].toNat)) from rfl)
        cases hd : Parl.dig (s[j].toNat) <;> cases hl : Parl.low (s[j].toNat) <;> cases hu : Parl.upp (s[j].toNat)
        · have hst : Hid (Parl.wordEnd s 3 p = j) := by rw [← hsk.out]; exact Parl.wordEnd_stop (by rw [Parl.bAt_lt hlt, unhide hW, hd, hl, hu]; simp)
          go_wp2_with (first | (go_at_call 145; refine (digit_any _ _).mono ?_; rintro e w' ⟨rfl, rfl⟩) | (go_at_call 143; refine (lower_any _ _).mono ?_; rintro e w' ⟨rfl, rfl⟩) | (go_at_call 144; refine (upper_any _ _).mono ?_; rintro e w' ⟨rfl, rfl⟩))
          go_ret
          exact ⟨ret_int (by rw [hst.out]), rfl⟩
        all_goals
          have hst : Hid (Parl.wordEnd s 3 (j + 1) = Parl.wordEnd s 3 p) := by rw [← hsk.out]; exact (Parl.wordEnd_step hlt (by rw [Parl.bAt_lt hlt, unhide hW, hd, hl, hu]; rfl)).symm
          go_wp2_with (first | (go_at_call 145; refine (digit_any _ _).mono ?_; rintro e w' ⟨rfl, rfl⟩) | (go_at_call 143; refine (lower_any _ _).mono ?_; rintro e w' ⟨rfl, rfl⟩) | (go_at_call 144; refine (upper_any _ _).mono ?_; rintro e w' ⟨rfl, rfl⟩))
          go_round
          case rel => exact ⟨j + 1, by omega, hst, by go_num⟩
          case measure => simp [intOf]; omega
      · have hst : Hid (Parl.wordEnd s 3 p = j) := by rw [← hsk.out]; exact Parl.wordEnd_stop (by omega)
        go_wp2_with fail
        go_ret
        exact ⟨ret_int (by rw [hst.out]), rfl⟩
  · go_loop [7] (fun i => ∃ j : Nat, j ≤ s.size ∧ Hid (Parl.wordEnd s 4 j = Parl.wordEnd s 4 p) ∧ i = .int .i64 j) (fun i => s.size - (intOf i).toNat)
    case atStart => exact ⟨p, hp, rfl, rfl⟩
    case round =>
      obtain ⟨j, hj, hsk, rfl⟩ := hrel
      by_cases hlt : j < s.size
      · have hW := hide (show Parl.inWord 4 (s[j].toNat) = Parl.dig (s[j].toNat) from rfl)
        cases hd : Parl.dig (s[j].toNat)
        · have hst : Hid (Parl.wordEnd s 4 p = j) := by rw [← hsk.out]; exact Parl.wordEnd_stop (by rw [Parl.bAt_lt hlt, unhide hW, hd]; simp)
          go_wp2_with (first | (go_at_call 145; refine (digit_any _ _).mono ?_; rintro e w' ⟨rfl, rfl⟩))
          go_ret
          exact ⟨ret_int (by rw [hst.out]), rfl⟩
        · have hst : Hid (Parl.wordEnd s 4 (j + 1) = Parl.wordEnd s 4 p) := by rw [← hsk.out]; exact (Parl.wordEnd_step hlt (by rw [Parl.bAt_lt hlt, unhide hW, hd])).symm
          go_wp2_with (first | (go_at_call 145; refine (digit_any _ _).mono ?_; rintro e w' ⟨rfl, rfl⟩))
          go_round
          case rel => exact ⟨j + 1, by omega, hst, by go_num⟩
          case measure => simp [intOf]; omega
      · have hst : Hid (Parl.wordEnd s 4 p = j) := by rw [← hsk.out]; exact Parl.wordEnd_stop (by omega)
        go_wp2_with fail
        go_ret
        exact ⟨ret_int (by rw [hst.out]), rfl⟩

theorem begins_any (s : ByteArray) (i : Nat) (g : ByteArray) (w : World) (hs : s.size ≤ 240) (hi : i ≤ s.size) (hg : g.size ≤ 2) :
    Calls Tryz.prog 184 #[.string s, .int .i64 (i : Int), .string g] w fun e w' => e = .returned (.bool (Parl.startsAt s i g)) ∧ w' = w := by
  by_cases h : i + g.size ≤ s.size
  · have HB := hide (show Parl.startsAt s i g = ((s.extract i (i + g.size)).toList == g.toList) by simp [Parl.startsAt, h])
    go_enter Tryz.func184, Tryz.ntmps184
    go_wp2
    go_ret
    exact ⟨ret_bool (by rw [unhide HB]), rfl⟩
  · have HB := hide (show Parl.startsAt s i g = false by simp [Parl.startsAt, h])
    go_enter Tryz.func184, Tryz.ntmps184
    go_wp2
    go_ret
    exact ⟨ret_bool (by rw [unhide HB]), rfl⟩

end Go.Proofs.YthfjnfcekeknlaaGreatDoor
namespace Go.Proofs.YthfjnfcekeknlaaGreatDoor
open Go.RowKit

def sgBlock : Obj := .cells #[.string ⟨#[58, 45]⟩, .string ⟨#[58, 61]⟩, .string ⟨#[61, 61]⟩, .string ⟨#[92, 61]⟩, .string ⟨#[61, 60]⟩, .string ⟨#[61]⟩, .string ⟨#[60]⟩, .string ⟨#[43]⟩, .string ⟨#[45]⟩, .string ⟨#[42]⟩, .string ⟨#[40]⟩, .string ⟨#[41]⟩, .string ⟨#[44]⟩, .string ⟨#[124]⟩, .string ⟨#[46]⟩] 9
theorem sg_cell (w : World) (k : Nat) (h : k < 15) : (w.alloc sgBlock).cell? ⟨w.heap.size, k, none⟩ = some (.string (Parl.sgAt k)) := by
  rcases (show k = 0 ∨ k = 1 ∨ k = 2 ∨ k = 3 ∨ k = 4 ∨ k = 5 ∨ k = 6 ∨ k = 7 ∨ k = 8 ∨ k = 9 ∨ k = 10 ∨ k = 11 ∨ k = 12 ∨ k = 13 ∨ k = 14 by omega) with rfl | rfl | rfl | rfl | rfl | rfl | rfl | rfl | rfl | rfl | rfl | rfl | rfl | rfl | rfl
  all_goals (unfold sgBlock Parl.sgAt Parl.sgs; simp)

set_option maxHeartbeats 1000000 in
theorem sign_any (s : ByteArray) (i : Nat) (w : World) (hs : s.size ≤ 240) (hi : i ≤ s.size) :
    Calls Tryz.prog 147 #[.string s, .int .i64 (i : Int)] w fun e w' => (∃ g : ByteArray, e = .returned (.string g) ∧ g.size = Parl.signLen s i) ∧ Below w.heap.size w w' := by
  have hcell := hide (sg_cell w)
  have hbl : Below w.heap.size w (w.alloc sgBlock) := (Below.refl _ _).alloc (Nat.le_refl _) _
  unfold sgBlock at hcell hbl
  have HB := hide hbl
  clear hbl
  go_enter Tryz.func147, Tryz.ntmps147
  go_wp2_with fail
  go_loop [6] (fun v => ∃ k : Nat, k ≤ 15 ∧ v = .int .i64 k ∧ Hid (∀ j, j < k → Parl.startsAt s i (Parl.sgAt j) = false)) (fun v => 15 - (intOf v).toNat)
  case atStart => exact ⟨0, by omega, rfl, fun j h => absurd h (Nat.not_lt_zero _)⟩
  case round =>
    obtain ⟨k, hk, rfl, hno⟩ := hrel
    by_cases hlt : k < 15
    · have hc := unhide hcell k hlt
      have hz := Parl.sg_size k hlt
      have hz2 : (Parl.sgAt k).size ≤ 2 := by rw [hz]; split <;> omega
      clear hz
      cases hb : Parl.startsAt s i (Parl.sgAt k)
      · have HN : Hid (∀ j, j < k + 1 → Parl.startsAt s i (Parl.sgAt j) = false) := fun j hj => by
          by_cases e : j < k
          · exact hno.out j e
          · obtain rfl : j = k := by omega
            exact hb
        go_wp2_with (go_at_call 184; refine (begins_any _ _ _ _ hs hi hz2).mono ?_; rintro e w' ⟨rfl, rfl⟩)
        go_round
        case rel => exact ⟨k + 1, by omega, by go_num, HN⟩
        case measure => simp [intOf]; omega
      · have HZ := hide (Parl.sg_hit hlt hno.out hb)
        go_wp2_with (go_at_call 184; refine (begins_any _ _ _ _ hs hi hz2).mono ?_; rintro e w' ⟨rfl, rfl⟩)
        go_ret
        exact ⟨⟨_, rfl, unhide HZ⟩, unhide HB⟩
    · have HZ := hide (Parl.sg_none hlt hno.out)
      go_wp2_with fail
      go_ret
      exact ⟨⟨ByteArray.empty, rfl, by rw [unhide HZ]; rfl⟩, unhide HB⟩
end Go.Proofs.YthfjnfcekeknlaaGreatDoor
namespace Go.Proofs.YthfjnfcekeknlaaGreatDoor
open Go.RowKit

theorem Tryz.info168 : (Tryz.prog.info? 168).map (fun i => (i.zero, i.size, i.bytes)) = some (some (.agg #[.int .i64 0, .string ⟨#[]⟩, .int .i64 0]), 3, 32) := by kernel_rfl

/-- The kinds of tokens, as the document's answer numbers them. -/
def bk (k : Nat) : Int := if k = 0 then 6 else if k = 1 then 5 else (k : Int) - 1
/-- A token's cells there. -/
def tokC (t : Parl.Tok) : List Value := [.int .i64 (bk t.kind), .string t.text, .int .i64 (t.pos : Int)]

theorem tokC_length (ts : List Parl.Tok) : (ts.flatMap tokC).length = ts.length * 3 := by
  induction ts with
  | nil => rfl
  | cons t r ih => simp [List.flatMap_cons, ih, tokC]; omega

/-- Behind a round's append. -/
theorem tok_step {w wr w1 : World} {ts : List Parl.Tok} {t : Parl.Tok} {v v' : Value} {B : Nat} (hB : B ≤ wr.heap.size) (hb : Below B w wr) (o1 o2 : Obj)
    (hown' : w1.ownsRow B 168 3 v' (ts.length + 1) (ts.flatMap tokC ++ tokC t)) (hg : ((wr.alloc o1).alloc o2).grownBy w1 v.ownBlock) (hv : ∀ k, v.ownBlock = some k → B ≤ k) :
    w1.ownsRow B 168 3 v' (ts ++ [t]).length ((ts ++ [t]).flatMap tokC) ∧ Below B w w1 := by
  refine ⟨by simpa [List.flatMap_append] using hown', ?_⟩
  exact (((hb.alloc hB _).alloc (by simp; omega) _).grown hg (by simp; omega) hv)

theorem cell_new {W : World} {n : Nat} (hn : n = W.heap.size) (cs : Array Value) (T : TypeId) (i : Nat) (v : Value) (h : cs[i]? = some v) : (W.alloc (.cells cs T)).cell? ⟨n, i, none⟩ = some v := by
  subst hn; simp [h]
theorem not_mt {r : ByteArray} (h : 0 < r.size) : r.toList.isEmpty = false := by
  rw [ByteArray.toList_eq]
  cases hx : r.data.toList with
  | nil => have := Parl.len_eq r; rw [hx] at this; simp at this; omega
  | cons => rfl
theorem mt {r : ByteArray} (h : r.size = 0) : r.toList.isEmpty = true := by
  rw [ByteArray.toList_eq]
  have := Parl.len_eq r
  cases hx : r.data.toList with
  | nil => rfl
  | cons a l => rw [hx] at this; simp at this; omega
theorem tok_any {w wr W w1 : World} {ts : List Parl.Tok} {t : Parl.Tok} {v v' : Value} {B : Nat} (hB : B ≤ wr.heap.size) (hb : Below B w wr) (hW : Below wr.heap.size wr W)
    (hown' : w1.ownsRow B 168 3 v' (ts.length + 1) (ts.flatMap tokC ++ tokC t)) (hg : W.grownBy w1 v.ownBlock) (hv : ∀ k, v.ownBlock = some k → B ≤ k) :
    w1.ownsRow B 168 3 v' (ts ++ [t]).length ((ts ++ [t]).flatMap tokC) ∧ Below B w w1 := by
  refine ⟨by simpa [List.flatMap_append] using hown', ?_⟩
  have := hW.size
  exact ((hb.trans (hW.mono hB)).grown hg (by omega) hv)
theorem tok_last {w wr w1 : World} {ts : List Parl.Tok} {t : Parl.Tok} {v v' : Value} {B : Nat} (hB : B ≤ wr.heap.size) (hb : Below B w wr) (o1 : Obj)
    (hown' : w1.ownsRow B 168 3 v' (ts.length + 1) (ts.flatMap tokC ++ tokC t)) (hg : (wr.alloc o1).grownBy w1 v.ownBlock) (hv : ∀ k, v.ownBlock = some k → B ≤ k) :
    w1.ownsRow B 168 3 v' (ts ++ [t]).length ((ts ++ [t]).flatMap tokC) ∧ Below B w w1 := by
  refine ⟨by simpa [List.flatMap_append] using hown', ?_⟩
  exact ((hb.alloc hB _).grown hg (by simp; omega) hv)

set_option maxHeartbeats 2000000 in
set_option maxRecDepth 100000 in
theorem tokens_any (s : ByteArray) (w : World) (hs : s.size ≤ 240) :
    Calls Tryz.prog 88 #[.string s] w fun e w' => ∃ tv ts, e = .returned tv ∧ w'.ownsRow w.heap.size 168 3 tv ts.length (ts.flatMap tokC) ∧ Parl.Chain s ts ∧ Parl.hd ts = Parl.next s 0 ∧ ts.length ≤ s.size + 1 ∧ Below w.heap.size w w' := by
  obtain ⟨i0, hi, hz0, hz1, hz2⟩ := info_parts Tryz.info168
  have hs' : s.size ≤ maxLen := by unfold maxLen; omega
  go_enter Tryz.func88, Tryz.ntmps88
  go_wp2_with fail
  go_loopw [3, 4] (fun v i wr => ∃ (k : Nat) (ts : List Parl.Tok), k ≤ s.size ∧ i = .int .i64 k ∧ wr.ownsRow w.heap.size 168 3 v ts.length (ts.flatMap tokC) ∧ Hid (Parl.Pre s ts k) ∧ ts.length ≤ k ∧ Below w.heap.size w wr)
    (fun _ i _ => s.size - (intOf i).toNat)
  case atStart => exact ⟨0, [], by omega, rfl, World.ownsRow_nil _ _ _ _, Parl.Pre.start s, by simp, Below.refl _ _⟩
  case round =>
    obtain ⟨k, ts, hk, rfl, hown, hpre, hlen, hbel⟩ := hrel
    by_cases hlt : k < s.size
    · have hbb := hide (Parl.bAt_lt hlt)
      cases hbl : Parl.blank (s[k].toNat)
      · have n32 : ((s[k].toNat : Int) == 32) = false := by simp [Parl.blank] at hbl; simp; omega
        have n10 : ((s[k].toNat : Int) == 10) = false := by simp [Parl.blank] at hbl; simp; omega
        have hP := hide (hpre.out.tok hlt (by rw [unhide hbb]; exact hbl))
        have hgt := Parl.endAt_gt hlt
        have hle := Parl.endAt_le hlt
        clear hbl
        cases ha : Parl.low (s[k].toNat)
        · cases hb : Parl.upp (s[k].toNat)
          · cases hc : Parl.dig (s[k].toNat)
            · by_cases hd : 0 < Parl.signLen s k
              · have hKE := hide (Parl.kind_sign hlt (by rw [unhide hbb]; exact ha) (by rw [unhide hbb]; exact hb) (by rw [unhide hbb]; exact hc) hd)
                go_wp2_with (first | (go_at_call 143; refine (lower_any _ _).mono ?_; rintro e w' ⟨rfl, rfl⟩) | (go_at_call 144; refine (upper_any _ _).mono ?_; rintro e w' ⟨rfl, rfl⟩) | (go_at_call 145; refine (digit_any _ _).mono ?_; rintro e w' ⟨rfl, rfl⟩))
                refine (sign_any s k _ hs hk).mono ?_
                rintro e w1 ⟨⟨g, rfl, hg⟩, hb1⟩
                have hg0 : 0 < g.size := by rw [hg]; exact hd
                have hgE : g.toList.isEmpty = false := not_mt hg0
                have hgf : k + g.size ≤ s.size := by rw [hg]; exact Parl.signLen_fits (by omega)
                have HG := hide hg
                clear hg
                have HB0 : (Below (wr.heap.size + 1) (wr.alloc (.cells #[.int .i64 5, .string ⟨#[]⟩, .int .i64 (k : Int)] 168)) w1) := by simpa using hb1
                have HB1 := hide HB0
                clear hb1 HB0
                have d0 : w1.cell? ⟨wr.heap.size, 0, none⟩ = some (.int .i64 5) := ((unhide HB1).cell (p := ⟨wr.heap.size, 0, none⟩) (by simp)).trans (by simp)
                have d1 : w1.cell? ⟨wr.heap.size, 1, none⟩ = some (.string ⟨#[]⟩) := ((unhide HB1).cell (p := ⟨wr.heap.size, 1, none⟩) (by simp)).trans (by simp)
                have d2 : w1.cell? ⟨wr.heap.size, 2, none⟩ = some (.int .i64 (k : Int)) := ((unhide HB1).cell (p := ⟨wr.heap.size, 2, none⟩) (by simp)).trans (by simp)
                have x0 : w1.frozen? ⟨wr.heap.size, 0, none⟩ = false := ((unhide HB1).frozen (p := ⟨wr.heap.size, 0, none⟩) (by simp)).trans (by simp)
                have x1 : w1.frozen? ⟨wr.heap.size, 1, none⟩ = false := ((unhide HB1).frozen (p := ⟨wr.heap.size, 1, none⟩) (by simp)).trans (by simp)
                have HW : Hid (Below wr.heap.size wr w1) := ((Below.refl _ _).alloc (Nat.le_refl _) _).trans ((unhide HB1).mono (by omega))
                go_wp2_with (first | (at_builtin; refine wpList_append_own _ rfl (.tmp 69) (.tmp 71) 163 rfl w.heap.size 168 i0 (.agg #[.int .i64 0, .string ⟨#[]⟩, .int .i64 0]) 3 32 Tryz.underlying163 hi hz0 hz1 hz2 rfl (by decide) _ ts.length _ rfl (own_below hown ((((unhide HW).setCell (Nat.le_refl _) _).setCell (Nat.le_refl _) _).alloc (by simp [World.setCell]; exact (unhide HW).size) _)) ⟨w1.heap.size, 0, none⟩ 1 1 [.int .i64 4, .string (s.extract k (k + g.size)), .int .i64 (k : Int)] rfl rfl ?c1 ?c2 ?c3 ?c4 ?c5 ?go))
                case c1 =>
                  intro j u hj
                  match j, hj with
                  | 0, hj => simp at hj; subst hj; exact cell_new (by simp) _ _ _ _ rfl
                  | 1, hj => simp at hj; subst hj; exact cell_new (by simp) _ _ _ _ rfl
                  | 2, hj => simp at hj; subst hj; exact cell_new (by simp) _ _ _ _ rfl
                case c2 => intro u hu; simp at hu; rcases hu with rfl | rfl | rfl <;> rfl
                case c3 => unfold maxLen; omega
                case c4 => omega
                case c5 => have := hbel.size; have := (unhide HB1).size; simp at this; simp; omega
                case go =>
                  intro v' w2 hown' hgrow _
                  have R := hide (tok_any (t := ⟨Parl.kindAt s k, k, s.extract k (Parl.endAt s k)⟩) hbel.size hbel ((((unhide HW).setCell (Nat.le_refl _) _).setCell (Nat.le_refl _) _).alloc (by simp [World.setCell]; exact (unhide HW).size) _) (by rw [tokC, (unhide hKE).1, (unhide hKE).2, ← unhide HG]; exact hown') hgrow (fun q hq => (hown.lt q hq).1))
                  clear hown' hgrow hown hbel
                  go_wp2_with fail
                  go_roundw
                  case rel => exact ⟨Parl.endAt s k, _, hle, by rw [(unhide hKE).2, ← unhide HG]; go_num, (unhide R).1, unhide hP, by simp; omega, (unhide R).2⟩
                  case measure => simp [intOf]; omega
              · have hKE := hide (Parl.kind_none hlt (by rw [unhide hbb]; exact ha) (by rw [unhide hbb]; exact hb) (by rw [unhide hbb]; exact hc) hd)
                go_wp2_with (first | (go_at_call 143; refine (lower_any _ _).mono ?_; rintro e w' ⟨rfl, rfl⟩) | (go_at_call 144; refine (upper_any _ _).mono ?_; rintro e w' ⟨rfl, rfl⟩) | (go_at_call 145; refine (digit_any _ _).mono ?_; rintro e w' ⟨rfl, rfl⟩))
                refine (sign_any s k _ hs hk).mono ?_
                rintro e w1 ⟨⟨g, rfl, hg⟩, hb1⟩
                have hgE : g.toList.isEmpty = true := mt (by rw [hg]; omega)
                have hgf : k + g.size ≤ s.size := by rw [hg]; exact Parl.signLen_fits (by omega)
                have HG := hide hg
                clear hg
                have HB0 : (Below (wr.heap.size + 1) (wr.alloc (.cells #[.int .i64 5, .string ⟨#[]⟩, .int .i64 (k : Int)] 168)) w1) := by simpa using hb1
                have HB1 := hide HB0
                clear hb1 HB0
                have d0 : w1.cell? ⟨wr.heap.size, 0, none⟩ = some (.int .i64 5) := ((unhide HB1).cell (p := ⟨wr.heap.size, 0, none⟩) (by simp)).trans (by simp)
                have d1 : w1.cell? ⟨wr.heap.size, 1, none⟩ = some (.string ⟨#[]⟩) := ((unhide HB1).cell (p := ⟨wr.heap.size, 1, none⟩) (by simp)).trans (by simp)
                have d2 : w1.cell? ⟨wr.heap.size, 2, none⟩ = some (.int .i64 (k : Int)) := ((unhide HB1).cell (p := ⟨wr.heap.size, 2, none⟩) (by simp)).trans (by simp)
                have x0 : w1.frozen? ⟨wr.heap.size, 0, none⟩ = false := ((unhide HB1).frozen (p := ⟨wr.heap.size, 0, none⟩) (by simp)).trans (by simp)
                have x1 : w1.frozen? ⟨wr.heap.size, 1, none⟩ = false := ((unhide HB1).frozen (p := ⟨wr.heap.size, 1, none⟩) (by simp)).trans (by simp)
                have HW : Hid (Below wr.heap.size wr w1) := ((Below.refl _ _).alloc (Nat.le_refl _) _).trans ((unhide HB1).mono (by omega))
                go_wp2_with (first | (at_builtin; refine wpList_append_own _ rfl (.tmp 69) (.tmp 71) 163 rfl w.heap.size 168 i0 (.agg #[.int .i64 0, .string ⟨#[]⟩, .int .i64 0]) 3 32 Tryz.underlying163 hi hz0 hz1 hz2 rfl (by decide) _ ts.length _ rfl (own_below hown (((unhide HW).setCell (Nat.le_refl _) _).alloc (by simp [World.setCell]; exact (unhide HW).size) _)) ⟨w1.heap.size, 0, none⟩ 1 1 [.int .i64 5, .string (s.extract k (k + 1)), .int .i64 (k : Int)] rfl rfl ?c1 ?c2 ?c3 ?c4 ?c5 ?go))
                case c1 =>
                  intro j u hj
                  match j, hj with
                  | 0, hj => simp at hj; subst hj; exact cell_new (by simp) _ _ _ _ rfl
                  | 1, hj => simp at hj; subst hj; exact cell_new (by simp) _ _ _ _ rfl
                  | 2, hj => simp at hj; subst hj; exact cell_new (by simp) _ _ _ _ rfl
                case c2 => intro u hu; simp at hu; rcases hu with rfl | rfl | rfl <;> rfl
                case c3 => unfold maxLen; omega
                case c4 => omega
                case c5 => have := hbel.size; have := (unhide HB1).size; simp at this; simp; omega
                case go =>
                  intro v' w2 hown' hgrow _
                  have R := hide (tok_any (t := ⟨Parl.kindAt s k, k, s.extract k (Parl.endAt s k)⟩) hbel.size hbel (((unhide HW).setCell (Nat.le_refl _) _).alloc (by simp [World.setCell]; exact (unhide HW).size) _) (by rw [tokC, (unhide hKE).1, (unhide hKE).2]; exact hown') hgrow (fun q hq => (hown.lt q hq).1))
                  clear hown' hgrow hown hbel
                  go_wp2_with fail
                  go_roundw
                  case rel => exact ⟨Parl.endAt s k, _, hle, by rw [(unhide hKE).2]; go_num, (unhide R).1, unhide hP, by simp; omega, (unhide R).2⟩
                  case measure => simp [intOf]; omega
            · have hKE := hide (Parl.kind_num hlt (by rw [unhide hbb]; exact ha) (by rw [unhide hbb]; exact hb) (by rw [unhide hbb]; exact hc))
              go_wp2_with (first | (go_at_call 143; refine (lower_any _ _).mono ?_; rintro e w' ⟨rfl, rfl⟩) | (go_at_call 144; refine (upper_any _ _).mono ?_; rintro e w' ⟨rfl, rfl⟩) | (go_at_call 145; refine (digit_any _ _).mono ?_; rintro e w' ⟨rfl, rfl⟩) | (go_at_call 146; refine (word_any s k 4 _ hs' hk 3 (Or.inr (Or.inr ⟨rfl, rfl⟩))).mono ?_; rintro e w' ⟨rfl, rfl⟩; rw [← (unhide hKE).2]) | (at_builtin; refine wpList_append_own _ rfl (.tmp 69) (.tmp 71) 163 rfl w.heap.size 168 i0 (.agg #[.int .i64 0, .string ⟨#[]⟩, .int .i64 0]) 3 32 Tryz.underlying163 hi hz0 hz1 hz2 rfl (by decide) _ ts.length _ rfl ((hown.alloc _).alloc _) ⟨wr.heap.size + 1, 0, none⟩ 1 1 [.int .i64 3, .string (s.extract k (Parl.endAt s k)), .int .i64 (k : Int)] rfl rfl ?c1 ?c2 ?c3 ?c4 ?c5 ?go))
              case c1 =>
                intro j u hj
                match j, hj with
                | 0, hj => simp at hj; subst hj; simp [Addr.add]
                | 1, hj => simp at hj; subst hj; simp [Addr.add]
                | 2, hj => simp at hj; subst hj; simp [Addr.add]
              case c2 => intro u hu; simp at hu; rcases hu with rfl | rfl | rfl <;> rfl
              case c3 => unfold maxLen; omega
              case c4 => omega
              case c5 => have := hbel.size; simp; omega
              case go =>
                intro v' w1 hown' hgrow _
                have R := hide (tok_step (t := ⟨Parl.kindAt s k, k, s.extract k (Parl.endAt s k)⟩) hbel.size hbel _ _ (by rw [tokC, (unhide hKE).1]; exact hown') hgrow (fun q hq => (hown.lt q hq).1))
                clear hown' hgrow hown hbel
                go_wp2_with fail
                go_roundw
                case rel => exact ⟨Parl.endAt s k, _, hle, rfl, (unhide R).1, unhide hP, by simp; omega, (unhide R).2⟩
                case measure => simp [intOf]; omega
          · have hKE := hide (Parl.kind_var hlt (by rw [unhide hbb]; exact ha) (by rw [unhide hbb]; exact hb))
            go_wp2_with (first | (go_at_call 143; refine (lower_any _ _).mono ?_; rintro e w' ⟨rfl, rfl⟩) | (go_at_call 144; refine (upper_any _ _).mono ?_; rintro e w' ⟨rfl, rfl⟩) | (go_at_call 145; refine (digit_any _ _).mono ?_; rintro e w' ⟨rfl, rfl⟩) | (go_at_call 146; refine (word_any s k 3 _ hs' hk 2 (Or.inr (Or.inl ⟨rfl, rfl⟩))).mono ?_; rintro e w' ⟨rfl, rfl⟩; rw [← (unhide hKE).2]) | (at_builtin; refine wpList_append_own _ rfl (.tmp 69) (.tmp 71) 163 rfl w.heap.size 168 i0 (.agg #[.int .i64 0, .string ⟨#[]⟩, .int .i64 0]) 3 32 Tryz.underlying163 hi hz0 hz1 hz2 rfl (by decide) _ ts.length _ rfl ((hown.alloc _).alloc _) ⟨wr.heap.size + 1, 0, none⟩ 1 1 [.int .i64 2, .string (s.extract k (Parl.endAt s k)), .int .i64 (k : Int)] rfl rfl ?c1 ?c2 ?c3 ?c4 ?c5 ?go))
            case c1 =>
              intro j u hj
              match j, hj with
              | 0, hj => simp at hj; subst hj; simp [Addr.add]
              | 1, hj => simp at hj; subst hj; simp [Addr.add]
              | 2, hj => simp at hj; subst hj; simp [Addr.add]
            case c2 => intro u hu; simp at hu; rcases hu with rfl | rfl | rfl <;> rfl
            case c3 => unfold maxLen; omega
            case c4 => omega
            case c5 => have := hbel.size; simp; omega
            case go =>
              intro v' w1 hown' hgrow _
              have R := hide (tok_step (t := ⟨Parl.kindAt s k, k, s.extract k (Parl.endAt s k)⟩) hbel.size hbel _ _ (by rw [tokC, (unhide hKE).1]; exact hown') hgrow (fun q hq => (hown.lt q hq).1))
              clear hown' hgrow hown hbel
              go_wp2_with fail
              go_roundw
              case rel => exact ⟨Parl.endAt s k, _, hle, rfl, (unhide R).1, unhide hP, by simp; omega, (unhide R).2⟩
              case measure => simp [intOf]; omega
        · have hKE := hide (Parl.kind_name hlt (by rw [unhide hbb]; exact ha))
          go_wp2_with (first | (go_at_call 143; refine (lower_any _ _).mono ?_; rintro e w' ⟨rfl, rfl⟩) | (go_at_call 144; refine (upper_any _ _).mono ?_; rintro e w' ⟨rfl, rfl⟩) | (go_at_call 145; refine (digit_any _ _).mono ?_; rintro e w' ⟨rfl, rfl⟩) | (go_at_call 146; refine (word_any s k 2 _ hs' hk 1 (Or.inl ⟨rfl, rfl⟩)).mono ?_; rintro e w' ⟨rfl, rfl⟩; rw [← (unhide hKE).2]) | (at_builtin; refine wpList_append_own _ rfl (.tmp 69) (.tmp 71) 163 rfl w.heap.size 168 i0 (.agg #[.int .i64 0, .string ⟨#[]⟩, .int .i64 0]) 3 32 Tryz.underlying163 hi hz0 hz1 hz2 rfl (by decide) _ ts.length _ rfl ((hown.alloc _).alloc _) ⟨wr.heap.size + 1, 0, none⟩ 1 1 [.int .i64 1, .string (s.extract k (Parl.endAt s k)), .int .i64 (k : Int)] rfl rfl ?c1 ?c2 ?c3 ?c4 ?c5 ?go))
          case c1 =>
            intro j u hj
            match j, hj with
            | 0, hj => simp at hj; subst hj; simp [Addr.add]
            | 1, hj => simp at hj; subst hj; simp [Addr.add]
            | 2, hj => simp at hj; subst hj; simp [Addr.add]
          case c2 => intro u hu; simp at hu; rcases hu with rfl | rfl | rfl <;> rfl
          case c3 => unfold maxLen; omega
          case c4 => omega
          case c5 => have := hbel.size; simp; omega
          case go =>
            intro v' w1 hown' hgrow _
            have R := hide (tok_step (t := ⟨Parl.kindAt s k, k, s.extract k (Parl.endAt s k)⟩) hbel.size hbel _ _ (by rw [tokC, (unhide hKE).1]; exact hown') hgrow (fun q hq => (hown.lt q hq).1))
            clear hown' hgrow hown hbel
            go_wp2_with fail
            go_roundw
            case rel => exact ⟨Parl.endAt s k, _, hle, rfl, (unhide R).1, unhide hP, by simp; omega, (unhide R).2⟩
            case measure => simp [intOf]; omega
      · have hP := hide (hpre.out.blank hlt (by rw [unhide hbb]; exact hbl))
        rcases (show s[k].toNat = 32 ∨ s[k].toNat = 10 by simp [Parl.blank] at hbl; exact hbl) with hc | hc
        · have n32 : ((s[k].toNat : Int) == 32) = true := by simp; omega
          clear hbl hc
          go_wp2_with fail
          go_roundw
          case rel => exact ⟨k + 1, ts, by omega, by go_num, hown, unhide hP, by omega, hbel⟩
          case measure => simp [intOf]; omega
        · have n32 : ((s[k].toNat : Int) == 32) = false := by simp; omega
          have n10 : ((s[k].toNat : Int) == 10) = true := by simp; omega
          clear hbl hc
          go_wp2_with fail
          go_roundw
          case rel => exact ⟨k + 1, ts, by omega, by go_num, hown, unhide hP, by omega, hbel⟩
          case measure => simp [intOf]; omega
    · have hD : Hid (Parl.Chain s (ts ++ [⟨0, s.size, ByteArray.empty⟩]) ∧ Parl.hd (ts ++ [⟨0, s.size, ByteArray.empty⟩]) = Parl.next s 0) := by
        have e : k = s.size := by omega
        rw [e] at hpre; exact hpre.out.done
      go_wp2_with (first | (at_builtin; refine wpList_append_own _ rfl (.tmp 74) (.tmp 78) 163 rfl w.heap.size 168 i0 (.agg #[.int .i64 0, .string ⟨#[]⟩, .int .i64 0]) 3 32 Tryz.underlying163 hi hz0 hz1 hz2 rfl (by decide) _ ts.length _ rfl (hown.alloc _) ⟨wr.heap.size, 0, none⟩ 1 1 [.int .i64 6, .string ⟨#[]⟩, .int .i64 (s.size : Int)] rfl rfl ?c1 ?c2 ?c3 ?c4 ?c5 ?go))
      case c1 =>
        intro j u hj
        match j, hj with
        | 0, hj => simp at hj; subst hj; simp [Addr.add]
        | 1, hj => simp at hj; subst hj; simp [Addr.add]
        | 2, hj => simp at hj; subst hj; simp [Addr.add]
      case c2 => intro u hu; simp at hu; rcases hu with rfl | rfl | rfl <;> rfl
      case c3 => unfold maxLen; omega
      case c4 => omega
      case c5 => have := hbel.size; simp; omega
      case go =>
        intro v' w1 hown' hgrow _
        have R := hide (tok_last (t := ⟨0, s.size, ByteArray.empty⟩) hbel.size hbel _ hown' hgrow (fun q hq => (hown.lt q hq).1))
        clear hown' hgrow hown
        go_wp2_with fail
        go_ret
        exact ⟨_, _, rfl, (unhide R).1, (unhide hD).1, (unhide hD).2, by simp; omega, (unhide R).2⟩
end Go.Proofs.YthfjnfcekeknlaaGreatDoor
namespace Go.Proofs.YthfjnfcekeknlaaGreatDoor
open Go.RowKit

/-- All blocks stay but those of X. -/
structure KB (X : List Nat) (w w' : World) : Prop where
  os : w'.os = w.os
  tape : w'.tape = w.tape
  output : w'.output = w.output
  size : w.heap.size ≤ w'.heap.size
  block : ∀ k, k < w.heap.size → k ∉ X → w'.heap[k]? = w.heap[k]?

theorem KB.refl (X : List Nat) (w : World) : KB X w w := ⟨rfl, rfl, rfl, Nat.le_refl _, fun _ _ _ => rfl⟩
theorem KB.trans {X : List Nat} {u v w : World} (h : KB X u v) (k : KB X v w) : KB X u w :=
  ⟨k.os.trans h.os, k.tape.trans h.tape, k.output.trans h.output, Nat.le_trans h.size k.size, fun i hi hX => (k.block i (Nat.lt_of_lt_of_le hi h.size) hX).trans (h.block i hi hX)⟩
theorem KB.of_below {X : List Nat} {w w' : World} (h : Below w.heap.size w w') : KB X w w' := ⟨h.os, h.tape, h.output, h.size, fun k hk _ => h.block k hk⟩
theorem KB.drew {X : List Nat} {u w : World} (h : KB X u w) : KB X u w.drew := h.trans (KB.of_below (Below.refl _ _).drew)
theorem KB.drewN {X : List Nat} {u w : World} (h : KB X u w) (n : Nat) : KB X u (w.drewN n) := h.trans (KB.of_below ⟨rfl, rfl, rfl, Nat.le_refl _, fun _ _ => rfl⟩)
theorem KB.alloc {X : List Nat} {u w : World} (h : KB X u w) (o : Obj) : KB X u (w.alloc o) := h.trans (KB.of_below ((Below.refl _ _).alloc (Nat.le_refl _) o))
theorem KB.setIn {X : List Nat} {u w : World} (h : KB X u w) {p : Addr} (hp : p.block ∈ X) (v : Value) : KB X u (w.setCell p v) :=
  h.trans ⟨rfl, rfl, rfl, by simp [World.setCell], fun k _ hX => Below.heap_setCell _ _ _ _ (fun e => hX (e ▸ hp))⟩
theorem KB.setNew {X : List Nat} {u w : World} (h : KB X u w) {p : Addr} (hp : u.heap.size ≤ p.block) (v : Value) : KB X u (w.setCell p v) :=
  ⟨h.os, h.tape, h.output, by have := h.size; simp [World.setCell]; omega, fun k hk hX => (Below.heap_setCell _ _ _ _ (by omega)).trans (h.block k hk hX)⟩
theorem KB.grown {X : List Nat} {u w w' : World} {row : Option Nat} (h : KB X u w) (hg : w.grownBy w' row) (hr : ∀ k, row = some k → u.heap.size ≤ k) : KB X u w' :=
  ⟨hg.os.trans h.os, hg.tape.trans h.tape, hg.output.trans h.output, Nat.le_trans h.size hg.size, fun k hk hX => by
    rw [hg.block k (Nat.lt_of_lt_of_le hk h.size) (fun q => by have := hr k q.symm; omega), h.block k hk hX]⟩
theorem KB.below {X : List Nat} {w w' : World} (h : KB X w w') {B : Nat} (hB : B ≤ w.heap.size) (hX : ∀ x ∈ X, B ≤ x) : Below B w w' :=
  ⟨h.os, h.tape, h.output, h.size, fun k hk => h.block k (by omega) (fun e => by have := hX k e; omega)⟩

/-- The document's reader: it stands at token i of L; e and p: what was wrong first. -/
structure SB (w : World) (rb tb cap : Nat) (s : ByteArray) (L : List Parl.Tok) (i : Nat) (e p : Int) : Prop where
  c0 : w.cell? ⟨rb, 0, none⟩ = some (.slice (some ⟨tb, 0, none⟩) L.length cap)
  c1 : w.cell? ⟨rb, 1, none⟩ = some (.int .i64 (i : Int))
  c2 : w.cell? ⟨rb, 2, none⟩ = some (.int .i64 e)
  c3 : w.cell? ⟨rb, 3, none⟩ = some (.int .i64 p)
  f1 : w.frozen? ⟨rb, 1, none⟩ = false
  f2 : w.frozen? ⟨rb, 2, none⟩ = false
  f3 : w.frozen? ⟨rb, 3, none⟩ = false
  own : w.ownsRow 0 168 3 (.slice (some ⟨tb, 0, none⟩) L.length cap) L.length (L.flatMap tokC)
  ne : tb ≠ rb
  lt : i < L.length
  chain : Parl.Chain s L
  few : L.length ≤ 241
  kinds : ∀ t ∈ L, t.kind ≤ 5 ∧ t.text.size ≤ 240
  hlt : rb < w.heap.size

theorem tokC_at {L : List Parl.Tok} {i : Nat} (h : i < L.length) (j : Nat) (hj : j < 3) : (L.flatMap tokC)[i * 3 + j]? = (tokC L[i])[j]? := by
  induction L generalizing i with
  | nil => simp at h
  | cons t r ih =>
    cases i with
    | zero => rw [List.flatMap_cons, List.getElem?_append_left (by simp [tokC]; omega)]; simp
    | succ i =>
      rw [List.flatMap_cons, List.getElem?_append_right (by simp [tokC]; omega)]
      simp only [show (tokC t).length = 3 from rfl]
      rw [show (i + 1) * 3 + j - 3 = i * 3 + j by omega]
      simpa using ih (by simpa using h)

theorem SB.tok {w : World} {rb tb cap : Nat} {s : ByteArray} {L : List Parl.Tok} {i : Nat} {e p : Int} (h : SB w rb tb cap s L i e p) :
    w.cell? ⟨tb, i * 3, none⟩ = some (.int .i64 (bk (Parl.hd (L.drop i)).kind)) ∧ w.cell? ⟨tb, i * 3 + 1, none⟩ = some (.string (Parl.hd (L.drop i)).text) ∧ w.cell? ⟨tb, i * 3 + 2, none⟩ = some (.int .i64 ((Parl.hd (L.drop i)).pos : Int)) := by
  have hd : Parl.hd (L.drop i) = L[i]'h.lt := by
    rw [Parl.hd, List.drop_eq_getElem_cons h.lt]; rfl
  rw [hd]
  have hl := h.lt
  exact ⟨by rw [h.own.cellAt _ (by omega)]; have := tokC_at h.lt 0 (by omega); simpa [tokC] using this, by rw [h.own.cellAt _ (by omega)]; have := tokC_at h.lt 1 (by omega); simpa [tokC] using this, by rw [h.own.cellAt _ (by omega)]; have := tokC_at h.lt 2 (by omega); simpa [tokC] using this⟩

theorem SB.kb {w w' : World} {rb tb cap : Nat} {s : ByteArray} {L : List Parl.Tok} {i : Nat} {e p : Int} {X : List Nat} (h : SB w rb tb cap s L i e p) (hk : KB X w w') (h1 : rb ∉ X) (h2 : tb ∉ X) : SB w' rb tb cap s L i e p := by
  have hb := hk.block rb h.hlt h1
  have c : ∀ o, w'.cell? ⟨rb, o, none⟩ = w.cell? ⟨rb, o, none⟩ := fun o => World.cell?_of_block hb
  have f : ∀ o, w'.frozen? ⟨rb, o, none⟩ = w.frozen? ⟨rb, o, none⟩ := fun o => World.frozen?_of_block hb
  refine ⟨(c 0).trans h.c0, (c 1).trans h.c1, (c 2).trans h.c2, (c 3).trans h.c3, (f 1).trans h.f1, (f 2).trans h.f2, (f 3).trans h.f3, ⟨h.own.1, ?_⟩, h.ne, h.lt, h.chain, h.few, h.kinds, by have := hk.size; have := h.hlt; omega⟩
  rcases h.own.2 with ⟨q, _⟩ | ⟨g, cp, cur, a, b', c', d⟩
  · cases q
  · refine Or.inr ⟨g, cp, cur, a, b', ?_, d⟩
    simp only [Value.slice.injEq, Option.some.injEq, Addr.mk.injEq, and_true, true_and] at a
    obtain ⟨rfl, rfl⟩ := a
    rw [hk.block tb (Array.getElem?_eq_some_iff.1 c').1 h2]
    exact c'
theorem SB.below {w w' : World} {rb tb cap : Nat} {s : ByteArray} {L : List Parl.Tok} {i : Nat} {e p : Int} (h : SB w rb tb cap s L i e p) (hb : Below w.heap.size w w') : SB w' rb tb cap s L i e p :=
  h.kb (KB.of_below (X := []) hb) (by simp) (by simp)
theorem SB.tblt {w : World} {rb tb cap : Nat} {s : ByteArray} {L : List Parl.Tok} {i : Nat} {e p : Int} (h : SB w rb tb cap s L i e p) : tb < w.heap.size := (h.own.lt tb rfl).2

theorem ownTb_set {w : World} {rb tb cap n : Nat} {xs : List Value} (h : w.ownsRow 0 168 3 (.slice (some ⟨tb, 0, none⟩) n cap) n xs) (hne : tb ≠ rb) (o : Nat) (v : Value) : (w.setCell ⟨rb, o, none⟩ v).ownsRow 0 168 3 (.slice (some ⟨tb, 0, none⟩) n cap) n xs := by
  refine ⟨h.1, ?_⟩
  rcases h.2 with ⟨q, _⟩ | ⟨g, cp, cur, a, b', c', d⟩
  · cases q
  · refine Or.inr ⟨g, cp, cur, a, b', ?_, d⟩
    simp only [Value.slice.injEq, Option.some.injEq, Addr.mk.injEq, and_true, true_and] at a
    obtain ⟨rfl, rfl⟩ := a
    rw [Below.heap_setCell _ _ _ _ (by exact hne)]; exact c'

theorem bk5 {k : Nat} (h : k ≤ 5) : (bk k == 4) = (k == 5) := by
  rcases (show k = 0 ∨ k = 1 ∨ k = 2 ∨ k = 3 ∨ k = 4 ∨ k = 5 by omega) with rfl | rfl | rfl | rfl | rfl | rfl <;> rfl
theorem bk6 {k : Nat} (h : k ≤ 5) : (bk k != 6) = (k != 0) := by
  rcases (show k = 0 ∨ k = 1 ∨ k = 2 ∨ k = 3 ∨ k = 4 ∨ k = 5 by omega) with rfl | rfl | rfl | rfl | rfl | rfl <;> rfl
theorem SB.kind {w : World} {rb tb cap : Nat} {s : ByteArray} {L : List Parl.Tok} {i : Nat} {e p : Int} (h : SB w rb tb cap s L i e p) : (Parl.hd (L.drop i)).kind ≤ 5 := by
  have hd : Parl.hd (L.drop i) = L[i]'h.lt := by
    rw [Parl.hd, List.drop_eq_getElem_cons h.lt]; rfl
  rw [hd]; exact (h.kinds _ (List.getElem_mem _)).1
theorem SB.tsize {w : World} {rb tb cap : Nat} {s : ByteArray} {L : List Parl.Tok} {i : Nat} {e p : Int} (h : SB w rb tb cap s L i e p) : (Parl.hd (L.drop i)).text.size ≤ 240 := by
  have hd : Parl.hd (L.drop i) = L[i]'h.lt := by
    rw [Parl.hd, List.drop_eq_getElem_cons h.lt]; rfl
  rw [hd]; exact (h.kinds _ (List.getElem_mem _)).2
/-- Behind a token that is not the end there is another one. -/
theorem chain_lt {s : ByteArray} {L : List Parl.Tok} {i : Nat} (h : Parl.Chain s L) (hi : i < L.length) (hk : (Parl.hd (L.drop i)).kind ≠ 0) : i + 1 < L.length := by
  induction L generalizing i with
  | nil => simp at hi
  | cons t r ih =>
    cases i with
    | zero =>
      cases r with
      | nil => exact absurd h hk
      | cons u q => simp
    | succ i =>
      cases r with
      | nil => simp at hi
      | cons u q =>
        have := ih (i := i) h.2.2 (by simpa using hi) (by simpa using hk)
        simpa using this

end Go.Proofs.YthfjnfcekeknlaaGreatDoor
namespace Go.Proofs.YthfjnfcekeknlaaGreatDoor
open Go.RowKit

set_option maxHeartbeats 1000000 in
theorem is_any (w : World) (rb tb cap : Nat) (s : ByteArray) (L : List Parl.Tok) (i : Nat) (e0 p0 : Int) (g : ByteArray) (h : SB w rb tb cap s L i e0 p0) :
    Calls Tryz.prog 150 #[.pointer (some ⟨rb, 0, none⟩), .string g] w fun e w' => e = .returned (.bool (Parl.sees (L.drop i) g.toList)) ∧ ∃ n, w' = w.drewN n := by
  obtain ⟨k0, k1, k2⟩ := h.tok
  have hk := h.kind
  obtain ⟨c0, c1, c2, c3, f1, f2, f3, own, ne, lt, chain, few, kinds, hlt⟩ := h
  clear own chain kinds f1 f2 f3 c2 c3 k2
  have HS := hide (show Parl.sees (L.drop i) g.toList = (((Parl.hd (L.drop i)).kind == 5) && ((Parl.hd (L.drop i)).text.toList == g.toList)) from rfl)
  generalize Parl.hd (L.drop i) = t at *
  have hb := bk5 hk
  by_cases h5 : t.kind = 5
  · have hb4 : (bk t.kind == 4) = true := by rw [hb, h5]; rfl
    rw [h5] at HS
    clear hb h5 hk
    generalize bk t.kind = q at *
    go_enter Tryz.func150, Tryz.ntmps150
    go_wp2
    go_big_region
    go_wp2
    go_ret
    exact ⟨ret_bool (by rw [unhide HS]; rfl), 1, rfl⟩
  · have hb4 : (bk t.kind == 4) = false := by rw [hb]; simpa using h5
    have HS' := hide (show Parl.sees (L.drop i) g.toList = false by rw [unhide HS]; simp [h5])
    clear hb h5 hk HS
    generalize bk t.kind = q at *
    go_enter Tryz.func150, Tryz.ntmps150
    go_wp2
    go_big_region
    go_wp2
    go_ret
    exact ⟨ret_bool (by rw [unhide HS']), 1, rfl⟩
end Go.Proofs.YthfjnfcekeknlaaGreatDoor
