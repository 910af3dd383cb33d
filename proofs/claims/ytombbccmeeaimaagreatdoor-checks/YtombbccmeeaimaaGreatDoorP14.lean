import Derived.Test.YtombbccmeeaimaaGreatDoorP01
import Derived.OpenShut
import Derived.Deep.RegionWith
namespace Go.Proofs.YtombbccmeeaimaaGreatDoor
open Go.RowKit

theorem Tryz.info98 : (Tryz.prog.info? 98).map (fun i => (i.zero, i.size, i.bytes)) = some (some (.agg #[.int .i64 0, .string ⟨#[]⟩, .int .i64 0]), 3, 32) := by kernel_rfl

/-- The kinds of tokens, as the document's answer numbers them. -/
def bk (k : Nat) : Int := if k = 0 then 6 else if k = 1 then 5 else (k : Int) - 1
/-- A token's cells there. -/
def tokC (t : Parl.Tok) : List Value := [.int .i64 (bk t.kind), .string t.text, .int .i64 (t.pos : Int)]

theorem tokC_length (ts : List Parl.Tok) : (ts.flatMap tokC).length = ts.length * 3 := by
  induction ts with
  | nil => rfl
  | cons t r ih => simp [List.flatMap_cons, ih, tokC]; omega

/-- Behind a round's append. -/
theorem tok_step {w wr w1 : World} {ts : List Parl.Tok} {t : Parl.Tok} {v v' : Value} {B : Nat} (hB : B ≤ wr.heap.size) (hb : Below B w wr) (o1 o2 : Obj)
    (hown' : w1.ownsRow B 98 3 v' (ts.length + 1) (ts.flatMap tokC ++ tokC t)) (hg : ((wr.alloc o1).alloc o2).grownBy w1 v.ownBlock) (hv : ∀ k, v.ownBlock = some k → B ≤ k) :
    w1.ownsRow B 98 3 v' (ts ++ [t]).length ((ts ++ [t]).flatMap tokC) ∧ Below B w w1 := by
  refine ⟨by simpa [List.flatMap_append] using hown', ?_⟩
  exact (((hb.alloc hB _).alloc (by simp; omega) _).grown hg (by simp; omega) hv)

theorem cell_new {W : World} {n : Nat} (hn : n = W.heap.size) (cs : Array Value) (T : TypeId) (i : Nat) (v : Value) (h : cs[i]? = some v) : (W.alloc (.cells cs T)).cell? ⟨n, i, none⟩ = some v := by
  subst hn; simp [h]
theorem not_mt {r : ByteArray} (h : 0 < r.size) : r.toList.isEmpty = false := by
  rw [ByteArray.toList_eq]
  cases hx : r.data.toList with
  | nil => have := Parl.len_eq r; rw [hx] at this; simp at this; omega
  | cons => rfl
theorem mt {r : ByteArray} (h : r.size = 0) : r.toList.isEmpty = true := by
  rw [ByteArray.toList_eq]
  have := Parl.len_eq r
  cases hx : r.data.toList with
  | nil => rfl
  | cons a l => rw [hx] at this; simp at this; omega
theorem tok_any {w wr W w1 : World} {ts : List Parl.Tok} {t : Parl.Tok} {v v' : Value} {B : Nat} (hB : B ≤ wr.heap.size) (hb : Below B w wr) (hW : Below wr.heap.size wr W)
    (hown' : w1.ownsRow B 98 3 v' (ts.length + 1) (ts.flatMap tokC ++ tokC t)) (hg : W.grownBy w1 v.ownBlock) (hv : ∀ k, v.ownBlock = some k → B ≤ k) :
    w1.ownsRow B 98 3 v' (ts ++ [t]).length ((ts ++ [t]).flatMap tokC) ∧ Below B w w1 := by
  refine ⟨by simpa [List.flatMap_append] using hown', ?_⟩
  have := hW.size
  exact ((hb.trans (hW.mono hB)).grown hg (by omega) hv)
theorem tok_last {w wr w1 : World} {ts : List Parl.Tok} {t : Parl.Tok} {v v' : Value} {B : Nat} (hB : B ≤ wr.heap.size) (hb : Below B w wr) (o1 : Obj)
    (hown' : w1.ownsRow B 98 3 v' (ts.length + 1) (ts.flatMap tokC ++ tokC t)) (hg : (wr.alloc o1).grownBy w1 v.ownBlock) (hv : ∀ k, v.ownBlock = some k → B ≤ k) :
    w1.ownsRow B 98 3 v' (ts ++ [t]).length ((ts ++ [t]).flatMap tokC) ∧ Below B w w1 := by
  refine ⟨by simpa [List.flatMap_append] using hown', ?_⟩
  exact ((hb.alloc hB _).grown hg (by simp; omega) hv)

set_option maxHeartbeats 2000000 in
set_option maxRecDepth 100000 in
theorem tokens_any (s : ByteArray) (w : World) (hs : s.size ≤ 240) :
    Calls Tryz.prog 35 #[.string s] w fun e w' => ∃ tv ts, e = .returned tv ∧ w'.ownsRow w.heap.size 98 3 tv ts.length (ts.flatMap tokC) ∧ Parl.Chain s ts ∧ Parl.hd ts = Parl.next s 0 ∧ ts.length ≤ s.size + 1 ∧ Below w.heap.size w w' := by
  obtain ⟨i0, hi, hz0, hz1, hz2⟩ := info_parts Tryz.info98
  have hs' : s.size ≤ maxLen := by unfold maxLen; omega
  go_enter Tryz.func35, Tryz.ntmps35
  go_wp2_with fail
  go_loopw [3, 4] (fun v i wr => ∃ (k : Nat) (ts : List Parl.Tok), k ≤ s.size ∧ i = .int .i64 k ∧ wr.ownsRow w.heap.size 98 3 v ts.length (ts.flatMap tokC) ∧ Hid (Parl.Pre s ts k) ∧ ts.length ≤ k ∧ Below w.heap.size w wr)
    (fun _ i _ => s.size - (intOf i).toNat)
  case atStart => exact ⟨0, [], by omega, rfl, World.ownsRow_nil _ _ _ _, Parl.Pre.start s, by simp, Below.refl _ _⟩
  case round =>
    obtain ⟨k, ts, hk, rfl, hown, hpre, hlen, hbel⟩ := hrel
    by_cases hlt : k < s.size
    · have hbb := hide (Parl.bAt_lt hlt)
      cases hbl : Parl.blank (s[k].toNat)
      · have n32 : ((s[k].toNat : Int) == 32) = false := by simp [Parl.blank] at hbl; simp; omega
        have n10 : ((s[k].toNat : Int) == 10) = false := by simp [Parl.blank] at hbl; simp; omega
        have hP := hide (hpre.out.tok hlt (by rw [unhide hbb]; exact hbl))
        have hgt := Parl.endAt_gt hlt
        have hle := Parl.endAt_le hlt
        clear hbl
        cases ha : Parl.low (s[k].toNat)
        · cases hb : Parl.upp (s[k].toNat)
          · cases hc : Parl.dig (s[k].toNat)
            · by_cases hd : 0 < Parl.signLen s k
              · have hKE := hide (Parl.kind_sign hlt (by rw [unhide hbb]; exact ha) (by rw [unhide hbb]; exact hb) (by rw [unhide hbb]; exact hc) hd)
                go_wp2_with (first | (go_at_call 67; refine (lower_any _ _).mono ?_; rintro e w' ⟨rfl, rfl⟩) | (go_at_call 68; refine (upper_any _ _).mono ?_; rintro e w' ⟨rfl, rfl⟩) | (go_at_call 69; refine (digit_any _ _).mono ?_; rintro e w' ⟨rfl, rfl⟩))
                refine (sign_any s k _ hs hk).mono ?_
                rintro e w1 ⟨⟨g, rfl, hg⟩, hb1⟩
                have hg0 : 0 < g.size := by rw [hg]; exact hd
                have hgE : g.toList.isEmpty = false := not_mt hg0
                have hgf : k + g.size ≤ s.size := by rw [hg]; exact Parl.signLen_fits (by omega)
                have HG := hide hg
                clear hg
                have HB0 : (Below (wr.heap.size + 1) (wr.alloc (.cells #[.int .i64 5, .string ⟨#[]⟩, .int .i64 (k : Int)] 98)) w1) := by simpa using hb1
                have HB1 := hide HB0
                clear hb1 HB0
                have d0 : w1.cell? ⟨wr.heap.size, 0, none⟩ = some (.int .i64 5) := ((unhide HB1).cell (p := ⟨wr.heap.size, 0, none⟩) (by simp)).trans (by simp)
                have d1 : w1.cell? ⟨wr.heap.size, 1, none⟩ = some (.string ⟨#[]⟩) := ((unhide HB1).cell (p := ⟨wr.heap.size, 1, none⟩) (by simp)).trans (by simp)
                have d2 : w1.cell? ⟨wr.heap.size, 2, none⟩ = some (.int .i64 (k : Int)) := ((unhide HB1).cell (p := ⟨wr.heap.size, 2, none⟩) (by simp)).trans (by simp)
                have x0 : w1.frozen? ⟨wr.heap.size, 0, none⟩ = false := ((unhide HB1).frozen (p := ⟨wr.heap.size, 0, none⟩) (by simp)).trans (by simp)
                have x1 : w1.frozen? ⟨wr.heap.size, 1, none⟩ = false := ((unhide HB1).frozen (p := ⟨wr.heap.size, 1, none⟩) (by simp)).trans (by simp)
                have HW : Hid (Below wr.heap.size wr w1) := ((Below.refl _ _).alloc (Nat.le_refl _) _).trans ((unhide HB1).mono (by omega))
                go_wp2_with (first | (at_builtin; refine wpList_append_own _ rfl (.tmp 69) (.tmp 71) 93 rfl w.heap.size 98 i0 (.agg #[.int .i64 0, .string ⟨#[]⟩, .int .i64 0]) 3 32 Tryz.underlying93 hi hz0 hz1 hz2 rfl (by decide) _ ts.length _ rfl (own_below hown ((((unhide HW).setCell (Nat.le_refl _) _).setCell (Nat.le_refl _) _).alloc (by simp [World.setCell]; exact (unhide HW).size) _)) ⟨w1.heap.size, 0, none⟩ 1 1 [.int .i64 4, .string (s.extract k (k + g.size)), .int .i64 (k : Int)] rfl rfl ?c1 ?c2 ?c3 ?c4 ?c5 ?go))
                case c1 =>
                  intro j u hj
                  match j, hj with
                  | 0, hj => simp at hj; subst hj; exact cell_new (by simp) _ _ _ _ rfl
                  | 1, hj => simp at hj; subst hj; exact cell_new (by simp) _ _ _ _ rfl
                  | 2, hj => simp at hj; subst hj; exact cell_new (by simp) _ _ _ _ rfl
                case c2 => intro u hu; simp at hu; rcases hu with rfl | rfl | rfl <;> rfl
                case c3 => unfold maxLen; omega
                case c4 => omega
                case c5 => have := hbel.size; have := (unhide HB1).size; simp at this; simp; omega
                case go =>
                  intro v' w2 hown' hgrow _
                  have R := hide (tok_any (t := ⟨Parl.kindAt s k, k, s.extract k (Parl.endAt s k)⟩) hbel.size hbel ((((unhide HW).setCell (Nat.le_refl _) _).setCell (Nat.le_refl _) _).alloc (by simp [World.setCell]; exact (unhide HW).size) _) (by rw [tokC, (unhide hKE).1, (unhide hKE).2, ← unhide HG]; exact hown') hgrow (fun q hq => (hown.lt q hq).1))
                  clear hown' hgrow hown hbel
                  go_wp2_with fail
                  go_roundw
                  case rel => exact ⟨Parl.endAt s k, _, hle, by rw [(unhide hKE).2, ← unhide HG]; go_num, (unhide R).1, unhide hP, by simp; omega, (unhide R).2⟩
                  case measure => simp [intOf]; omega
              · have hKE := hide (Parl.kind_none hlt (by rw [unhide hbb]; exact ha) (by rw [unhide hbb]; exact hb) (by rw [unhide hbb]; exact hc) hd)
                go_wp2_with (first | (go_at_call 67; refine (lower_any _ _).mono ?_; rintro e w' ⟨rfl, rfl⟩) | (go_at_call 68; refine (upper_any _ _).mono ?_; rintro e w' ⟨rfl, rfl⟩) | (go_at_call 69; refine (digit_any _ _).mono ?_; rintro e w' ⟨rfl, rfl⟩))
                refine (sign_any s k _ hs hk).mono ?_
                rintro e w1 ⟨⟨g, rfl, hg⟩, hb1⟩
                have hgE : g.toList.isEmpty = true := mt (by rw [hg]; omega)
                have hgf : k + g.size ≤ s.size := by rw [hg]; exact Parl.signLen_fits (by omega)
                have HG := hide hg
                clear hg
                have HB0 : (Below (wr.heap.size + 1) (wr.alloc (.cells #[.int .i64 5, .string ⟨#[]⟩, .int .i64 (k : Int)] 98)) w1) := by simpa using hb1
                have HB1 := hide HB0
                clear hb1 HB0
                have d0 : w1.cell? ⟨wr.heap.size, 0, none⟩ = some (.int .i64 5) := ((unhide HB1).cell (p := ⟨wr.heap.size, 0, none⟩) (by simp)).trans (by simp)
                have d1 : w1.cell? ⟨wr.heap.size, 1, none⟩ = some (.string ⟨#[]⟩) := ((unhide HB1).cell (p := ⟨wr.heap.size, 1, none⟩) (by simp)).trans (by simp)
                have d2 : w1.cell? ⟨wr.heap.size, 2, none⟩ = some (.int .i64 (k : Int)) := ((unhide HB1).cell (p := ⟨wr.heap.size, 2, none⟩) (by simp)).trans (by simp)
                have x0 : w1.frozen? ⟨wr.heap.size, 0, none⟩ = false := ((unhide HB1).frozen (p := ⟨wr.heap.size, 0, none⟩) (by simp)).trans (by simp)
                have x1 : w1.frozen? ⟨wr.heap.size, 1, none⟩ = false := ((unhide HB1).frozen (p := ⟨wr.heap.size, 1, none⟩) (by simp)).trans (by simp)
                have HW : Hid (Below wr.heap.size wr w1) := ((Below.refl _ _).alloc (Nat.le_refl _) _).trans ((unhide HB1).mono (by omega))
                go_wp2_with (first | (at_builtin; refine wpList_append_own _ rfl (.tmp 69) (.tmp 71) 93 rfl w.heap.size 98 i0 (.agg #[.int .i64 0, .string ⟨#[]⟩, .int .i64 0]) 3 32 Tryz.underlying93 hi hz0 hz1 hz2 rfl (by decide) _ ts.length _ rfl (own_below hown (((unhide HW).setCell (Nat.le_refl _) _).alloc (by simp [World.setCell]; exact (unhide HW).size) _)) ⟨w1.heap.size, 0, none⟩ 1 1 [.int .i64 5, .string (s.extract k (k + 1)), .int .i64 (k : Int)] rfl rfl ?c1 ?c2 ?c3 ?c4 ?c5 ?go))
                case c1 =>
                  intro j u hj
                  match j, hj with
                  | 0, hj => simp at hj; subst hj; exact cell_new (by simp) _ _ _ _ rfl
                  | 1, hj => simp at hj; subst hj; exact cell_new (by simp) _ _ _ _ rfl
                  | 2, hj => simp at hj; subst hj; exact cell_new (by simp) _ _ _ _ rfl
                case c2 => intro u hu; simp at hu; rcases hu with rfl | rfl | rfl <;> rfl
                case c3 => unfold maxLen; omega
                case c4 => omega
                case c5 => have := hbel.size; have := (unhide HB1).size; simp at this; simp; omega
                case go =>
                  intro v' w2 hown' hgrow _
                  have R := hide (tok_any (t := ⟨Parl.kindAt s k, k, s.extract k (Parl.endAt s k)⟩) hbel.size hbel (((unhide HW).setCell (Nat.le_refl _) _).alloc (by simp [World.setCell]; exact (unhide HW).size) _) (by rw [tokC, (unhide hKE).1, (unhide hKE).2]; exact hown') hgrow (fun q hq => (hown.lt q hq).1))
                  clear hown' hgrow hown hbel
                  go_wp2_with fail
                  go_roundw
                  case rel => exact ⟨Parl.endAt s k, _, hle, by rw [(unhide hKE).2]; go_num, (unhide R).1, unhide hP, by simp; omega, (unhide R).2⟩
                  case measure => simp [intOf]; omega
            · have hKE := hide (Parl.kind_num hlt (by rw [unhide hbb]; exact ha) (by rw [unhide hbb]; exact hb) (by rw [unhide hbb]; exact hc))
              go_wp2_with (first | (go_at_call 67; refine (lower_any _ _).mono ?_; rintro e w' ⟨rfl, rfl⟩) | (go_at_call 68; refine (upper_any _ _).mono ?_; rintro e w' ⟨rfl, rfl⟩) | (go_at_call 69; refine (digit_any _ _).mono ?_; rintro e w' ⟨rfl, rfl⟩) | (go_at_call 70; refine (word_any s k 4 _ hs' hk 3 (Or.inr (Or.inr ⟨rfl, rfl⟩))).mono ?_; rintro e w' ⟨rfl, rfl⟩; rw [← (unhide hKE).2]) | (at_builtin; refine wpList_append_own _ rfl (.tmp 69) (.tmp 71) 93 rfl w.heap.size 98 i0 (.agg #[.int .i64 0, .string ⟨#[]⟩, .int .i64 0]) 3 32 Tryz.underlying93 hi hz0 hz1 hz2 rfl (by decide) _ ts.length _ rfl ((hown.alloc _).alloc _) ⟨wr.heap.size + 1, 0, none⟩ 1 1 [.int .i64 3, .string (s.extract k (Parl.endAt s k)), .int .i64 (k : Int)] rfl rfl ?c1 ?c2 ?c3 ?c4 ?c5 ?go))
              case c1 =>
                intro j u hj
                match j, hj with
                | 0, hj => simp at hj; subst hj; simp [Addr.add]
                | 1, hj => simp at hj; subst hj; simp [Addr.add]
                | 2, hj => simp at hj; subst hj; simp [Addr.add]
              case c2 => intro u hu; simp at hu; rcases hu with rfl | rfl | rfl <;> rfl
              case c3 => unfold maxLen; omega
              case c4 => omega
              case c5 => have := hbel.size; simp; omega
              case go =>
                intro v' w1 hown' hgrow _
                have R := hide (tok_step (t := ⟨Parl.kindAt s k, k, s.extract k (Parl.endAt s k)⟩) hbel.size hbel _ _ (by rw [tokC, (unhide hKE).1]; exact hown') hgrow (fun q hq => (hown.lt q hq).1))
                clear hown' hgrow hown hbel
                go_wp2_with fail
                go_roundw
                case rel => exact ⟨Parl.endAt s k, _, hle, rfl, (unhide R).1, unhide hP, by simp; omega, (unhide R).2⟩
                case measure => simp [intOf]; omega
          · have hKE := hide (Parl.kind_var hlt (by rw [unhide hbb]; exact ha) (by rw [unhide hbb]; exact hb))
            go_wp2_with (first | (go_at_call 67; refine (lower_any _ _).mono ?_; rintro e w' ⟨rfl, rfl⟩) | (go_at_call 68; refine (upper_any _ _).mono ?_; rintro e w' ⟨rfl, rfl⟩) | (go_at_call 69; refine (digit_any _ _).mono ?_; rintro e w' ⟨rfl, rfl⟩) | (go_at_call 70; refine (word_any s k 3 _ hs' hk 2 (Or.inr (Or.inl ⟨rfl, rfl⟩))).mono ?_; rintro e w' ⟨rfl, rfl⟩; rw [← (unhide hKE).2]) | (at_builtin; refine wpList_append_own _ rfl (.tmp 69) (.tmp 71) 93 rfl w.heap.size 98 i0 (.agg #[.int .i64 0, .string ⟨#[]⟩, .int .i64 0]) 3 32 Tryz.underlying93 hi hz0 hz1 hz2 rfl (by decide) _ ts.length _ rfl ((hown.alloc _).alloc _) ⟨wr.heap.size + 1, 0, none⟩ 1 1 [.int .i64 2, .string (s.extract k (Parl.endAt s k)), .int .i64 (k : Int)] rfl rfl ?c1 ?c2 ?c3 ?c4 ?c5 ?go))
            case c1 =>
              intro j u hj
              match j, hj with
              | 0, hj => simp at hj; subst hj; simp [Addr.add]
              | 1, hj => simp at hj; subst hj; simp [Addr.add]
              | 2, hj => simp at hj; subst hj; simp [Addr.add]
            case c2 => intro u hu; simp at hu; rcases hu with rfl | rfl | rfl <;> rfl
            case c3 => unfold maxLen; omega
            case c4 => omega
            case c5 => have := hbel.size; simp; omega
            case go =>
              intro v' w1 hown' hgrow _
              have R := hide (tok_step (t := ⟨Parl.kindAt s k, k, s.extract k (Parl.endAt s k)⟩) hbel.size hbel _ _ (by rw [tokC, (unhide hKE).1]; exact hown') hgrow (fun q hq => (hown.lt q hq).1))
              clear hown' hgrow hown hbel
              go_wp2_with fail
              go_roundw
              case rel => exact ⟨Parl.endAt s k, _, hle, rfl, (unhide R).1, unhide hP, by simp; omega, (unhide R).2⟩
              case measure => simp [intOf]; omega
        · have hKE := hide (Parl.kind_name hlt (by rw [unhide hbb]; exact ha))
          go_wp2_with (first | (go_at_call 67; refine (lower_any _ _).mono ?_; rintro e w' ⟨rfl, rfl⟩) | (go_at_call 68; refine (upper_any _ _).mono ?_; rintro e w' ⟨rfl, rfl⟩) | (go_at_call 69; refine (digit_any _ _).mono ?_; rintro e w' ⟨rfl, rfl⟩) | (go_at_call 70; refine (word_any s k 2 _ hs' hk 1 (Or.inl ⟨rfl, rfl⟩)).mono ?_; rintro e w' ⟨rfl, rfl⟩; rw [← (unhide hKE).2]) | (at_builtin; refine wpList_append_own _ rfl (.tmp 69) (.tmp 71) 93 rfl w.heap.size 98 i0 (.agg #[.int .i64 0, .string ⟨#[]⟩, .int .i64 0]) 3 32 Tryz.underlying93 hi hz0 hz1 hz2 rfl (by decide) _ ts.length _ rfl ((hown.alloc _).alloc _) ⟨wr.heap.size + 1, 0, none⟩ 1 1 [.int .i64 1, .string (s.extract k (Parl.endAt s k)), .int .i64 (k : Int)] rfl rfl ?c1 ?c2 ?c3 ?c4 ?c5 ?go))
          case c1 =>
            intro j u hj
            match j, hj with
            | 0, hj => simp at hj; subst hj; simp [Addr.add]
            | 1, hj => simp at hj; subst hj; simp [Addr.add]
            | 2, hj => simp at hj; subst hj; simp [Addr.add]
          case c2 => intro u hu; simp at hu; rcases hu with rfl | rfl | rfl <;> rfl
          case c3 => unfold maxLen; omega
          case c4 => omega
          case c5 => have := hbel.size; simp; omega
          case go =>
            intro v' w1 hown' hgrow _
            have R := hide (tok_step (t := ⟨Parl.kindAt s k, k, s.extract k (Parl.endAt s k)⟩) hbel.size hbel _ _ (by rw [tokC, (unhide hKE).1]; exact hown') hgrow (fun q hq => (hown.lt q hq).1))
            clear hown' hgrow hown hbel
            go_wp2_with fail
            go_roundw
            case rel => exact ⟨Parl.endAt s k, _, hle, rfl, (unhide R).1, unhide hP, by simp; omega, (unhide R).2⟩
            case measure => simp [intOf]; omega
      · have hP := hide (hpre.out.blank hlt (by rw [unhide hbb]; exact hbl))
        rcases (show s[k].toNat = 32 ∨ s[k].toNat = 10 by simp [Parl.blank] at hbl; exact hbl) with hc | hc
        · have n32 : ((s[k].toNat : Int) == 32) = true := by simp; omega
          clear hbl hc
          go_wp2_with fail
          go_roundw
          case rel => exact ⟨k + 1, ts, by omega, by go_num, hown, unhide hP, by omega, hbel⟩
          case measure => simp [intOf]; omega
        · have n32 : ((s[k].toNat : Int) == 32) = false := by simp; omega
          have n10 : ((s[k].toNat : Int) == 10) = true := by simp; omega
          clear hbl hc
          go_wp2_with fail
          go_roundw
          case rel => exact ⟨k + 1, ts, by omega, by go_num, hown, unhide hP, by omega, hbel⟩
          case measure => simp [intOf]; omega
    · have hD : Hid (Parl.Chain s (ts ++ [⟨0, s.size, ByteArray.empty⟩]) ∧ Parl.hd (ts ++ [⟨0, s.size, ByteArray.empty⟩]) = Parl.next s 0) := by
        have e : k = s.size := by omega
        rw [e] at hpre; exact hpre.out.done
      go_wp2_with (first | (at_builtin; refine wpList_append_own _ rfl (.tmp 74) (.tmp 78) 93 rfl w.heap.size 98 i0 (.agg #[.int .i64 0, .string ⟨#[]⟩, .int .i64 0]) 3 32 Tryz.underlying93 hi hz0 hz1 hz2 rfl (by decide) _ ts.length _ rfl (hown.alloc _) ⟨wr.heap.size, 0, none⟩ 1 1 [.int .i64 6, .string ⟨#[]⟩, .int .i64 (s.size : Int)] rfl rfl ?c1 ?c2 ?c3 ?c4 ?c5 ?go))
      case c1 =>
        intro j u hj
        match j, hj with
        | 0, hj => simp at hj; subst hj; simp [Addr.add]
        | 1, hj => simp at hj; subst hj; simp [Addr.add]
        | 2, hj => simp at hj; subst hj; simp [Addr.add]
      case c2 => intro u hu; simp at hu; rcases hu with rfl | rfl | rfl <;> rfl
      case c3 => unfold maxLen; omega
      case c4 => omega
      case c5 => have := hbel.size; simp; omega
      case go =>
        intro v' w1 hown' hgrow _
        have R := hide (tok_last (t := ⟨0, s.size, ByteArray.empty⟩) hbel.size hbel _ hown' hgrow (fun q hq => (hown.lt q hq).1))
        clear hown' hgrow hown
        go_wp2_with fail
        go_ret
        exact ⟨_, _, rfl, (unhide R).1, (unhide hD).1, (unhide hD).2, by simp; omega, (unhide R).2⟩
end Go.Proofs.YtombbccmeeaimaaGreatDoor
namespace Go.Proofs.YtombbccmeeaimaaGreatDoor
open Go.RowKit

/-- All blocks stay but those of X. -/
structure KB (X : List Nat) (w w' : World) : Prop where
  os : w'.os = w.os
  tape : w'.tape = w.tape
  output : w'.output = w.output
  size : w.heap.size ≤ w'.heap.size
  block : ∀ k, k < w.heap.size → k ∉ X → w'.heap[k]? = w.heap[k]?

theorem KB.refl (X : List Nat) (w : World) : KB X w w := ⟨rfl, rfl, rfl, Nat.le_refl _, fun _ _ _ => rfl⟩
theorem KB.trans {X : List Nat} {u v w : World} (h : KB X u v) (k : KB X v w) : KB X u w :=
  ⟨k.os.trans h.os, k.tape.trans h.tape, k.output.trans h.output, Nat.le_trans h.size k.size, fun i hi hX => (k.block i (Nat.lt_of_lt_of_le hi h.size) hX).trans (h.block i hi hX)⟩
theorem KB.of_below {X : List Nat} {w w' : World} (h : Below w.heap.size w w') : KB X w w' := ⟨h.os, h.tape, h.output, h.size, fun k hk _ => h.block k hk⟩
theorem KB.drew {X : List Nat} {u w : World} (h : KB X u w) : KB X u w.drew := h.trans (KB.of_below (Below.refl _ _).drew)
theorem KB.drewN {X : List Nat} {u w : World} (h : KB X u w) (n : Nat) : KB X u (w.drewN n) := h.trans (KB.of_below ⟨rfl, rfl, rfl, Nat.le_refl _, fun _ _ => rfl⟩)
theorem KB.alloc {X : List Nat} {u w : World} (h : KB X u w) (o : Obj) : KB X u (w.alloc o) := h.trans (KB.of_below ((Below.refl _ _).alloc (Nat.le_refl _) o))
theorem KB.setIn {X : List Nat} {u w : World} (h : KB X u w) {p : Addr} (hp : p.block ∈ X) (v : Value) : KB X u (w.setCell p v) :=
  h.trans ⟨rfl, rfl, rfl, by simp [World.setCell], fun k _ hX => Below.heap_setCell _ _ _ _ (fun e => hX (e ▸ hp))⟩
theorem KB.setNew {X : List Nat} {u w : World} (h : KB X u w) {p : Addr} (hp : u.heap.size ≤ p.block) (v : Value) : KB X u (w.setCell p v) :=
  ⟨h.os, h.tape, h.output, by have := h.size; simp [World.setCell]; omega, fun k hk hX => (Below.heap_setCell _ _ _ _ (by omega)).trans (h.block k hk hX)⟩
theorem KB.grown {X : List Nat} {u w w' : World} {row : Option Nat} (h : KB X u w) (hg : w.grownBy w' row) (hr : ∀ k, row = some k → u.heap.size ≤ k) : KB X u w' :=
  ⟨hg.os.trans h.os, hg.tape.trans h.tape, hg.output.trans h.output, Nat.le_trans h.size hg.size, fun k hk hX => by
    rw [hg.block k (Nat.lt_of_lt_of_le hk h.size) (fun q => by have := hr k q.symm; omega), h.block k hk hX]⟩
theorem KB.below {X : List Nat} {w w' : World} (h : KB X w w') {B : Nat} (hB : B ≤ w.heap.size) (hX : ∀ x ∈ X, B ≤ x) : Below B w w' :=
  ⟨h.os, h.tape, h.output, h.size, fun k hk => h.block k (by omega) (fun e => by have := hX k e; omega)⟩

/-- The document's reader: it stands at token i of L; e and p: what was wrong first. -/
structure SB (w : World) (rb tb cap : Nat) (s : ByteArray) (L : List Parl.Tok) (i : Nat) (e p : Int) : Prop where
  c0 : w.cell? ⟨rb, 0, none⟩ = some (.slice (some ⟨tb, 0, none⟩) L.length cap)
  c1 : w.cell? ⟨rb, 1, none⟩ = some (.int .i64 (i : Int))
  c2 : w.cell? ⟨rb, 2, none⟩ = some (.int .i64 e)
  c3 : w.cell? ⟨rb, 3, none⟩ = some (.int .i64 p)
  f1 : w.frozen? ⟨rb, 1, none⟩ = false
  f2 : w.frozen? ⟨rb, 2, none⟩ = false
  f3 : w.frozen? ⟨rb, 3, none⟩ = false
  own : w.ownsRow 0 98 3 (.slice (some ⟨tb, 0, none⟩) L.length cap) L.length (L.flatMap tokC)
  ne : tb ≠ rb
  lt : i < L.length
  chain : Parl.Chain s L
  few : L.length ≤ 241
  kinds : ∀ t ∈ L, t.kind ≤ 5 ∧ t.text.size ≤ 240
  hlt : rb < w.heap.size

theorem tokC_at {L : List Parl.Tok} {i : Nat} (h : i < L.length) (j : Nat) (hj : j < 3) : (L.flatMap tokC)[i * 3 + j]? = (tokC L[i])[j]? := by
  induction L generalizing i with
  | nil => simp at h
  | cons t r ih =>
    cases i with
    | zero => rw [List.flatMap_cons, List.getElem?_append_left (by simp [tokC]; omega)]; simp
    | succ i =>
      rw [List.flatMap_cons, List.getElem?_append_right (by simp [tokC]; omega)]
      simp only [show (tokC t).length = 3 from rfl]
      rw [show (i + 1) * 3 + j - 3 = i * 3 + j by omega]
      simpa using ih (by simpa using h)

theorem SB.tok {w : World} {rb tb cap : Nat} {s : ByteArray} {L : List Parl.Tok} {i : Nat} {e p : Int} (h : SB w rb tb cap s L i e p) :
    w.cell? ⟨tb, i * 3, none⟩ = some (.int .i64 (bk (Parl.hd (L.drop i)).kind)) ∧ w.cell? ⟨tb, i * 3 + 1, none⟩ = some (.string (Parl.hd (L.drop i)).text) ∧ w.cell? ⟨tb, i * 3 + 2, none⟩ = some (.int .i64 ((Parl.hd (L.drop i)).pos : Int)) := by
  have hd : Parl.hd (L.drop i) = L[i]'h.lt := by
    rw [Parl.hd, List.drop_eq_getElem_cons h.lt]; rfl
  rw [hd]
  have hl := h.lt
  exact ⟨by rw [h.own.cellAt _ (by omega)]; have := tokC_at h.lt 0 (by omega); simpa [tokC] using this, by rw [h.own.cellAt _ (by omega)]; have := tokC_at h.lt 1 (by omega); simpa [tokC] using this, by rw [h.own.cellAt _ (by omega)]; have := tokC_at h.lt 2 (by omega); simpa [tokC] using this⟩

theorem SB.kb {w w' : World} {rb tb cap : Nat} {s : ByteArray} {L : List Parl.Tok} {i : Nat} {e p : Int} {X : List Nat} (h : SB w rb tb cap s L i e p) (hk : KB X w w') (h1 : rb ∉ X) (h2 : tb ∉ X) : SB w' rb tb cap s L i e p := by
  have hb := hk.block rb h.hlt h1
  have c : ∀ o, w'.cell? ⟨rb, o, none⟩ = w.cell? ⟨rb, o, none⟩ := fun o => World.cell?_of_block hb
  have f : ∀ o, w'.frozen? ⟨rb, o, none⟩ = w.frozen? ⟨rb, o, none⟩ := fun o => World.frozen?_of_block hb
  refine ⟨(c 0).trans h.c0, (c 1).trans h.c1, (c 2).trans h.c2, (c 3).trans h.c3, (f 1).trans h.f1, (f 2).trans h.f2, (f 3).trans h.f3, ⟨h.own.1, ?_⟩, h.ne, h.lt, h.chain, h.few, h.kinds, by have := hk.size; have := h.hlt; omega⟩
  rcases h.own.2 with ⟨q, _⟩ | ⟨g, cp, cur, a, b', c', d⟩
  · cases q
  · refine Or.inr ⟨g, cp, cur, a, b', ?_, d⟩
    simp only [Value.slice.injEq, Option.some.injEq, Addr.mk.injEq, and_true, true_and] at a
    obtain ⟨rfl, rfl⟩ := a
    rw [hk.block tb (Array.getElem?_eq_some_iff.1 c').1 h2]
    exact c'
theorem SB.below {w w' : World} {rb tb cap : Nat} {s : ByteArray} {L : List Parl.Tok} {i : Nat} {e p : Int} (h : SB w rb tb cap s L i e p) (hb : Below w.heap.size w w') : SB w' rb tb cap s L i e p :=
  h.kb (KB.of_below (X := []) hb) (by simp) (by simp)
theorem SB.tblt {w : World} {rb tb cap : Nat} {s : ByteArray} {L : List Parl.Tok} {i : Nat} {e p : Int} (h : SB w rb tb cap s L i e p) : tb < w.heap.size := (h.own.lt tb rfl).2

theorem ownTb_set {w : World} {rb tb cap n : Nat} {xs : List Value} (h : w.ownsRow 0 98 3 (.slice (some ⟨tb, 0, none⟩) n cap) n xs) (hne : tb ≠ rb) (o : Nat) (v : Value) : (w.setCell ⟨rb, o, none⟩ v).ownsRow 0 98 3 (.slice (some ⟨tb, 0, none⟩) n cap) n xs := by
  refine ⟨h.1, ?_⟩
  rcases h.2 with ⟨q, _⟩ | ⟨g, cp, cur, a, b', c', d⟩
  · cases q
  · refine Or.inr ⟨g, cp, cur, a, b', ?_, d⟩
    simp only [Value.slice.injEq, Option.some.injEq, Addr.mk.injEq, and_true, true_and] at a
    obtain ⟨rfl, rfl⟩ := a
    rw [Below.heap_setCell _ _ _ _ (by exact hne)]; exact c'

theorem bk5 {k : Nat} (h : k ≤ 5) : (bk k == 4) = (k == 5) := by
  rcases (show k = 0 ∨ k = 1 ∨ k = 2 ∨ k = 3 ∨ k = 4 ∨ k = 5 by omega) with rfl | rfl | rfl | rfl | rfl | rfl <;> rfl
theorem bk6 {k : Nat} (h : k ≤ 5) : (bk k != 6) = (k != 0) := by
  rcases (show k = 0 ∨ k = 1 ∨ k = 2 ∨ k = 3 ∨ k = 4 ∨ k = 5 by omega) with rfl | rfl | rfl | rfl | rfl | rfl <;> rfl
theorem SB.kind {w : World} {rb tb cap : Nat} {s : ByteArray} {L : List Parl.Tok} {i : Nat} {e p : Int} (h : SB w rb tb cap s L i e p) : (Parl.hd (L.drop i)).kind ≤ 5 := by
  have hd : Parl.hd (L.drop i) = L[i]'h.lt := by
    rw [Parl.hd, List.drop_eq_getElem_cons h.lt]; rfl
  rw [hd]; exact (h.kinds _ (List.getElem_mem _)).1
theorem SB.tsize {w : World} {rb tb cap : Nat} {s : ByteArray} {L : List Parl.Tok} {i : Nat} {e p : Int} (h : SB w rb tb cap s L i e p) : (Parl.hd (L.drop i)).text.size ≤ 240 := by
  have hd : Parl.hd (L.drop i) = L[i]'h.lt := by
    rw [Parl.hd, List.drop_eq_getElem_cons h.lt]; rfl
  rw [hd]; exact (h.kinds _ (List.getElem_mem _)).2
/-- Behind a token that is not the end there is another one. -/
theorem chain_lt {s : ByteArray} {L : List Parl.Tok} {i : Nat} (h : Parl.Chain s L) (hi : i < L.length) (hk : (Parl.hd (L.drop i)).kind ≠ 0) : i + 1 < L.length := by
  induction L generalizing i with
  | nil => simp at hi
  | cons t r ih =>
    cases i with
    | zero =>
      cases r with
      | nil => exact absurd h hk
      | cons u q => simp
    | succ i =>
      cases r with
      | nil => simp at hi
      | cons u q =>
        have := ih (i := i) h.2.2 (by simpa using hi) (by simpa using hk)
        simpa using this

end Go.Proofs.YtombbccmeeaimaaGreatDoor
namespace Go.Proofs.YtombbccmeeaimaaGreatDoor
open Go.RowKit

set_option maxHeartbeats 1000000 in
theorem is_any (w : World) (rb tb cap : Nat) (s : ByteArray) (L : List Parl.Tok) (i : Nat) (e0 p0 : Int) (g : ByteArray) (h : SB w rb tb cap s L i e0 p0) :
    Calls Tryz.prog 74 #[.pointer (some ⟨rb, 0, none⟩), .string g] w fun e w' => e = .returned (.bool (Parl.sees (L.drop i) g.toList)) ∧ ∃ n, w' = w.drewN n := by
  obtain ⟨k0, k1, k2⟩ := h.tok
  have hk := h.kind
  obtain ⟨c0, c1, c2, c3, f1, f2, f3, own, ne, lt, chain, few, kinds, hlt⟩ := h
  clear own chain kinds f1 f2 f3 c2 c3 k2
  have HS := hide (show Parl.sees (L.drop i) g.toList = (((Parl.hd (L.drop i)).kind == 5) && ((Parl.hd (L.drop i)).text.toList == g.toList)) from rfl)
  generalize Parl.hd (L.drop i) = t at *
  have hb := bk5 hk
  by_cases h5 : t.kind = 5
  · have hb4 : (bk t.kind == 4) = true := by rw [hb, h5]; rfl
    rw [h5] at HS
    clear hb h5 hk
    generalize bk t.kind = q at *
    go_enter Tryz.func74, Tryz.ntmps74
    go_wp2
    go_big_region
    go_wp2
    go_ret
    exact ⟨ret_bool (by rw [unhide HS]; rfl), 1, rfl⟩
  · have hb4 : (bk t.kind == 4) = false := by rw [hb]; simpa using h5
    have HS' := hide (show Parl.sees (L.drop i) g.toList = false by rw [unhide HS]; simp [h5])
    clear hb h5 hk HS
    generalize bk t.kind = q at *
    go_enter Tryz.func74, Tryz.ntmps74
    go_wp2
    go_big_region
    go_wp2
    go_ret
    exact ⟨ret_bool (by rw [unhide HS']), 1, rfl⟩
end Go.Proofs.YtombbccmeeaimaaGreatDoor
namespace Go.Proofs.YtombbccmeeaimaaGreatDoor
open Go.RowKit

theorem SB.draws {w : World} {rb tb cap : Nat} {s : ByteArray} {L : List Parl.Tok} {i : Nat} {e p : Int} (h : SB w rb tb cap s L i e p) (n : Nat) : SB (w.drewN n) rb tb cap s L i e p :=
  ⟨h.c0, h.c1, h.c2, h.c3, h.f1, h.f2, h.f3, h.own, h.ne, h.lt, h.chain, h.few, h.kinds, h.hlt⟩

theorem SB.set {w : World} {rb tb cap : Nat} {s : ByteArray} {L : List Parl.Tok} {i : Nat} {e p : Int} (h : SB w rb tb cap s L i e p) (n : Nat) (e' p' : Int) :
    SB (((w.setCell ⟨rb, 2, none⟩ (.int .i64 e')).drewN n).setCell ⟨rb, 3, none⟩ (.int .i64 p')) rb tb cap s L i e' p' ∧ KB [rb] w (((w.setCell ⟨rb, 2, none⟩ (.int .i64 e')).drewN n).setCell ⟨rb, 3, none⟩ (.int .i64 p')) := by
  refine ⟨?_, (((KB.refl [rb] w).setIn (by simp) _).drewN n).setIn (by simp) _⟩
  obtain ⟨c0, c1, c2, c3, f1, f2, f3, own, ne, lt, chain, few, kinds, hlt⟩ := h
  have q : SB (((w.setCell ⟨rb, 2, none⟩ (.int .i64 e'))).setCell ⟨rb, 3, none⟩ (.int .i64 p')) rb tb cap s L i e' p' := ⟨by go_cell, by go_cell, by go_cell, by go_cell, by go_cell, by go_cell, by go_cell, ownTb_set (ownTb_set own ne _ _) ne _ _, ne, lt, chain, few, kinds, by simpa using hlt⟩
  exact q.draws n

theorem SB.step {w : World} {rb tb cap : Nat} {s : ByteArray} {L : List Parl.Tok} {i : Nat} {e p : Int} (h : SB w rb tb cap s L i e p) (hi : i + 1 < L.length) :
    SB (w.setCell ⟨rb, 1, none⟩ (.int .i64 ((i + 1 : Nat) : Int))) rb tb cap s L (i + 1) e p ∧ KB [rb] w (w.setCell ⟨rb, 1, none⟩ (.int .i64 ((i + 1 : Nat) : Int))) := by
  refine ⟨?_, (KB.refl [rb] w).setIn (by simp) _⟩
  obtain ⟨c0, c1, c2, c3, f1, f2, f3, own, ne, lt, chain, few, kinds, hlt⟩ := h
  exact ⟨by go_cell, by go_cell, by go_cell, by go_cell, by go_cell, by go_cell, by go_cell, ownTb_set own ne _ _, ne, hi, chain, few, kinds, by simpa using hlt⟩

set_option maxHeartbeats 1000000 in
theorem bad_first (w : World) (rb tb cap : Nat) (s : ByteArray) (L : List Parl.Tok) (i : Nat) (p0 er : Int) (h : SB w rb tb cap s L i 0 p0) :
    Calls Tryz.prog 72 #[.pointer (some ⟨rb, 0, none⟩), .int .i64 er] w fun e w' => e = .returned (.tuple #[]) ∧ SB w' rb tb cap s L i er ((Parl.hd (L.drop i)).pos : Int) ∧ KB [rb] w w' := by
  have H := hide h
  obtain ⟨k0, k1, k2⟩ := h.tok
  obtain ⟨c0, c1, c2, c3, f1, f2, f3, own, ne, lt, chain, few, kinds, hlt⟩ := h
  clear own chain kinds k0 k1
  generalize Parl.hd (L.drop i) = t at *
  have hq : (w.setCell ⟨rb, 2, none⟩ (.int .i64 er)).cell? ⟨tb, i * 3 + 2, none⟩ = some (.int .i64 (t.pos : Int)) := (World.cell?_of_block (a := ⟨tb, i * 3 + 2, none⟩) (Below.heap_setCell _ _ _ _ ne)).trans k2
  go_enter Tryz.func72, Tryz.ntmps72
  go_wp2
  go_big_region
  go_wp2
  go_end0
  have R := (unhide H).set 1 er (t.pos : Int)
  exact ⟨rfl, R.1, R.2⟩

set_option maxHeartbeats 1000000 in
theorem bad_later (w : World) (rb tb cap : Nat) (s : ByteArray) (L : List Parl.Tok) (i : Nat) (e0 p0 er : Int) (h : SB w rb tb cap s L i e0 p0) (he : e0 ≠ 0) :
    Calls Tryz.prog 72 #[.pointer (some ⟨rb, 0, none⟩), .int .i64 er] w fun e w' => e = .returned (.tuple #[]) ∧ w' = w := by
  obtain ⟨c0, c1, c2, c3, f1, f2, f3, own, ne, lt, chain, few, kinds, hlt⟩ := h
  clear own chain kinds
  have he' : (e0 == 0) = false := by simpa using he
  go_enter Tryz.func72, Tryz.ntmps72
  go_wp2
  go_end0
  exact ⟨rfl, rfl⟩

set_option maxHeartbeats 1000000 in
theorem pass_on (w : World) (rb tb cap : Nat) (s : ByteArray) (L : List Parl.Tok) (i : Nat) (e0 p0 : Int) (h : SB w rb tb cap s L i e0 p0) (hk : (Parl.hd (L.drop i)).kind ≠ 0) :
    Calls Tryz.prog 75 #[.pointer (some ⟨rb, 0, none⟩)] w fun e w' => e = .returned (.tuple #[]) ∧ SB w' rb tb cap s L (i + 1) e0 p0 ∧ KB [rb] w w' := by
  have H := hide h
  have hn := chain_lt h.chain h.lt hk
  have hb : (bk (Parl.hd (L.drop i)).kind != 6) = true := by rw [bk6 h.kind]; simpa using hk
  obtain ⟨k0, k1, k2⟩ := h.tok
  obtain ⟨c0, c1, c2, c3, f1, f2, f3, own, ne, lt, chain, few, kinds, hlt⟩ := h
  clear own chain kinds k1 k2 hk
  generalize bk (Parl.hd (L.drop i)).kind = q at *
  go_enter Tryz.func75, Tryz.ntmps75
  go_wp2
  go_big_region
  go_wp2
  go_end0
  have R := ((unhide H).draws 1).step hn
  exact ⟨rfl, R.1, ((KB.refl [rb] w).drewN 1).trans R.2⟩

set_option maxHeartbeats 1000000 in
theorem pass_end (w : World) (rb tb cap : Nat) (s : ByteArray) (L : List Parl.Tok) (i : Nat) (e0 p0 : Int) (h : SB w rb tb cap s L i e0 p0) (hk : (Parl.hd (L.drop i)).kind = 0) :
    Calls Tryz.prog 75 #[.pointer (some ⟨rb, 0, none⟩)] w fun e w' => e = .returned (.tuple #[]) ∧ ∃ n, w' = w.drewN n := by
  have hb : (bk (Parl.hd (L.drop i)).kind != 6) = false := by rw [bk6 h.kind]; simpa using hk
  obtain ⟨k0, k1, k2⟩ := h.tok
  obtain ⟨c0, c1, c2, c3, f1, f2, f3, own, ne, lt, chain, few, kinds, hlt⟩ := h
  clear own chain kinds k1 k2 hk
  generalize bk (Parl.hd (L.drop i)).kind = q at *
  go_enter Tryz.func75, Tryz.ntmps75
  go_wp2
  go_big_region
  go_wp2
  go_end0
  exact ⟨rfl, 1, rfl⟩

/-- It stands somewhere, with what was wrong first. -/
def EB (w : World) (rb tb cap : Nat) (s : ByteArray) (L : List Parl.Tok) (e p : Int) : Prop := ∃ i, SB w rb tb cap s L i e p

theorem pass_any (w : World) (rb tb cap : Nat) (s : ByteArray) (L : List Parl.Tok) (e0 p0 : Int) (h : EB w rb tb cap s L e0 p0) :
    Calls Tryz.prog 75 #[.pointer (some ⟨rb, 0, none⟩)] w fun e w' => e = .returned (.tuple #[]) ∧ EB w' rb tb cap s L e0 p0 ∧ KB [rb] w w' := by
  obtain ⟨i, h⟩ := h
  by_cases hk : (Parl.hd (L.drop i)).kind = 0
  · refine (pass_end w rb tb cap s L i e0 p0 h hk).mono ?_
    rintro e w' ⟨rfl, n, rfl⟩
    exact ⟨rfl, ⟨i, h.draws n⟩, (KB.refl _ _).drewN n⟩
  · refine (pass_on w rb tb cap s L i e0 p0 h hk).mono ?_
    rintro e w' ⟨rfl, hs, hk⟩
    exact ⟨rfl, ⟨i + 1, hs⟩, hk⟩
theorem bad_err (w : World) (rb tb cap : Nat) (s : ByteArray) (L : List Parl.Tok) (e0 p0 er : Int) (h : EB w rb tb cap s L e0 p0) (he : e0 ≠ 0) :
    Calls Tryz.prog 72 #[.pointer (some ⟨rb, 0, none⟩), .int .i64 er] w fun e w' => e = .returned (.tuple #[]) ∧ EB w' rb tb cap s L e0 p0 ∧ KB [rb] w w' := by
  obtain ⟨i, h⟩ := h
  refine (bad_later w rb tb cap s L i e0 p0 er h he).mono ?_
  rintro e w' ⟨rfl, rfl⟩
  exact ⟨rfl, ⟨i, h⟩, KB.refl _ _⟩

/-- A sign that stands there is passed. -/
theorem want_yes (w : World) (rb tb cap : Nat) (s : ByteArray) (L : List Parl.Tok) (i : Nat) (e0 p0 : Int) (g : ByteArray) (h : SB w rb tb cap s L i e0 p0) (hs : Parl.sees (L.drop i) g.toList = true) :
    Calls Tryz.prog 77 #[.pointer (some ⟨rb, 0, none⟩), .string g] w fun e w' => e = .returned (.tuple #[]) ∧ SB w' rb tb cap s L (i + 1) e0 p0 ∧ KB [rb] w w' := by
  have H := hide h
  have hk := hide (show (Parl.hd (L.drop i)).kind ≠ 0 by rw [Parl.sees_kind hs]; omega)
  clear h
  go_enter Tryz.func77, Tryz.ntmps77
  go_wp2_with fail
  refine (is_any _ rb tb cap s L i e0 p0 g (unhide H)).mono ?_
  rintro e w1 ⟨rfl, n, rfl⟩
  go_wp2_with fail
  refine (pass_on _ rb tb cap s L i e0 p0 ((unhide H).draws n) (unhide hk)).mono ?_
  rintro e w2 ⟨rfl, hs2, hk2⟩
  have HS := hide hs2
  have HK := hide (((KB.refl [rb] w).drewN n).trans hk2)
  clear hs2 hk2
  go_wp2_with fail
  go_end0
  exact ⟨rfl, unhide HS, unhide HK⟩
/-- One that does not: that is wrong. -/
theorem want_no (w : World) (rb tb cap : Nat) (s : ByteArray) (L : List Parl.Tok) (i : Nat) (p0 : Int) (g : ByteArray) (h : SB w rb tb cap s L i 0 p0) (hs : Parl.sees (L.drop i) g.toList = false) :
    Calls Tryz.prog 77 #[.pointer (some ⟨rb, 0, none⟩), .string g] w fun e w' => e = .returned (.tuple #[]) ∧ EB w' rb tb cap s L 2 ((Parl.hd (L.drop i)).pos : Int) ∧ KB [rb] w w' := by
  have H := hide h
  clear h
  go_enter Tryz.func77, Tryz.ntmps77
  go_wp2_with fail
  refine (is_any _ rb tb cap s L i 0 p0 g (unhide H)).mono ?_
  rintro e w1 ⟨rfl, n, rfl⟩
  go_wp2_with fail
  refine (bad_first _ rb tb cap s L i p0 2 ((unhide H).draws n)).mono ?_
  rintro e w2 ⟨rfl, hs2, hk2⟩
  have HS := hide hs2
  have HK := hide (((KB.refl [rb] w).drewN n).trans hk2)
  clear hs2 hk2
  go_wp2_with fail
  refine (pass_any _ rb tb cap s L _ _ ⟨i, unhide HS⟩).mono ?_
  rintro e w3 ⟨rfl, hs3, hk3⟩
  have HS3 := hide hs3
  have HK3 := hide ((unhide HK).trans hk3)
  clear hs3 hk3
  go_wp2_with fail
  go_end0
  exact ⟨rfl, unhide HS3, unhide HK3⟩
/-- Behind an error: nothing of it turns. -/
theorem want_err (w : World) (rb tb cap : Nat) (s : ByteArray) (L : List Parl.Tok) (e0 p0 : Int) (g : ByteArray) (h : EB w rb tb cap s L e0 p0) (he : e0 ≠ 0) :
    Calls Tryz.prog 77 #[.pointer (some ⟨rb, 0, none⟩), .string g] w fun e w' => e = .returned (.tuple #[]) ∧ EB w' rb tb cap s L e0 p0 ∧ KB [rb] w w' := by
  obtain ⟨i, h⟩ := h
  have H := hide h
  clear h
  cases hs : Parl.sees (L.drop i) g.toList
  · go_enter Tryz.func77, Tryz.ntmps77
    go_wp2_with fail
    refine (is_any _ rb tb cap s L i e0 p0 g (unhide H)).mono ?_
    rintro e w1 ⟨rfl, n, rfl⟩
    go_wp2_with fail
    refine (bad_later _ rb tb cap s L i e0 p0 2 ((unhide H).draws n) he).mono ?_
    rintro e w2 ⟨rfl, rfl⟩
    go_wp2_with fail
    refine (pass_any _ rb tb cap s L _ _ ⟨i, (unhide H).draws n⟩).mono ?_
    rintro e w3 ⟨rfl, hs3, hk3⟩
    have HS3 := hide hs3
    have HK3 := hide (((KB.refl [rb] w).drewN n).trans hk3)
    clear hs3 hk3
    go_wp2_with fail
    go_end0
    exact ⟨rfl, unhide HS3, unhide HK3⟩
  · refine (want_yes w rb tb cap s L i e0 p0 g (unhide H) hs).mono ?_
    rintro e w' ⟨rfl, hs, hk⟩
    exact ⟨rfl, ⟨i + 1, hs⟩, hk⟩

theorem number_any (g : ByteArray) (w : World) (hg : g.size ≤ 240) : Calls Tryz.prog 104 #[.string g] w fun e w' => (∃ n : Int, e = .returned (.int .i64 n)) ∧ w' = w := by
  go_enter Tryz.func104, Tryz.ntmps104
  go_wp2
  go_loop [3, 4] (fun v i => ∃ (k : Nat) (n : Int), k ≤ g.size ∧ k ≤ 9 ∧ i = .int .i64 k ∧ v = .int .i64 n) (fun _ i => g.size - (intOf i).toNat)
  case atStart => exact ⟨0, 0, by omega, by omega, rfl, rfl⟩
  case round =>
    obtain ⟨k, n, hk, h9, rfl, rfl⟩ := hrel
    by_cases hlt : k < g.size
    · by_cases h9' : k < 9
      · go_wp2
        go_round
        case rel => exact ⟨k + 1, _, by omega, by omega, by go_num, rfl⟩
        case measure => simp [intOf]; omega
      · go_wp2
        go_ret
        exact ⟨⟨n, rfl⟩, rfl⟩
    · go_wp2
      go_ret
      exact ⟨⟨n, rfl⟩, rfl⟩
end Go.Proofs.YtombbccmeeaimaaGreatDoor
namespace Go.Proofs.YtombbccmeeaimaaGreatDoor
open Go.RowKit

/-- A term's four cells there. -/
structure BV where
  k : Int
  nm : ByteArray
  num : Int
  ao : Option Addr
  n : Nat
  cap : Nat

def PTermB (rb tb cap : Nat) (s : ByteArray) (L : List Parl.Tok) (p0 : Int) (r : Parl.Res Parl.Tm) (w : World) (e : Ending) (w' : World) : Prop := match r with
  | .inl (er, pos) => ∃ a : BV, e = .returned (.agg #[.int .i64 a.k, .string a.nm, .int .i64 a.num, .slice a.ao a.n a.cap]) ∧ EB w' rb tb cap s L (er : Int) (pos : Int) ∧ KB [rb] w w'
  | .inr (t, l1) => ∃ (nm : ByteArray) (num : Int) (ao : Option Addr) (cp j : Nat), e = .returned (.agg #[.int .i64 (bk t.kind), .string nm, .int .i64 num, .slice ao t.args.length cp]) ∧ (t.kind ≠ 4 → nm = t.text) ∧ L.drop j = l1 ∧ SB w' rb tb cap s L j 0 p0 ∧ KB [rb] w w'
def PErrB (rb tb cap : Nat) (s : ByteArray) (L : List Parl.Tok) (e0 p0 : Int) (w : World) (e : Ending) (w' : World) : Prop :=
  ∃ a : BV, e = .returned (.agg #[.int .i64 a.k, .string a.nm, .int .i64 a.num, .slice a.ao a.n a.cap]) ∧ EB w' rb tb cap s L e0 p0 ∧ KB [rb] w w'

theorem bad_any (w : World) (rb tb cap : Nat) (s : ByteArray) (L : List Parl.Tok) (i : Nat) (e0 p0 er : Int) (h : SB w rb tb cap s L i e0 p0) :
    Calls Tryz.prog 72 #[.pointer (some ⟨rb, 0, none⟩), .int .i64 er] w fun e w' => e = .returned (.tuple #[]) ∧ SB w' rb tb cap s L i (if e0 = 0 then er else e0) (if e0 = 0 then ((Parl.hd (L.drop i)).pos : Int) else p0) ∧ KB [rb] w w' := by
  by_cases he : e0 = 0
  · subst he
    rw [if_pos rfl, if_pos rfl]
    exact bad_first w rb tb cap s L i p0 er h
  · rw [if_neg he, if_neg he]
    refine (bad_later w rb tb cap s L i e0 p0 er h he).mono ?_
    rintro e w' ⟨rfl, rfl⟩
    exact ⟨rfl, h, KB.refl _ _⟩
theorem mix_ne {e0 er : Int} (h : er ≠ 0) : (if e0 = 0 then er else e0) ≠ 0 := by split <;> assumption

theorem blkA' {w : World} {b : Nat} {cs : Array Value} {T : TypeId} (h : w.heap[b]? = some (.cells cs T (0, 0))) : ∀ i, w.cell? ⟨b, i, none⟩ = cs[i]? := fun i => by simp [World.cell?, h]
theorem blkX' {w : World} {b : Nat} {cs : Array Value} {T : TypeId} (h : w.heap[b]? = some (.cells cs T (0, 0))) : ∀ i, w.frozen? ⟨b, i, none⟩ = false := fun i => by simp [World.frozen?, h]
theorem blk_kb {w w' : World} {b : Nat} {X : List Nat} {x : Obj} (hk : KB X w w') (h : w.heap[b]? = some x) (hb : b ∉ X) : w'.heap[b]? = some x := (hk.block b (Array.getElem?_eq_some_iff.1 h).1 hb).trans h
theorem blk_lt' {w : World} {b : Nat} {x : Obj} (h : w.heap[b]? = some x) : b < w.heap.size := (Array.getElem?_eq_some_iff.1 h).1
theorem blk_alloc' {w : World} {b : Nat} {x : Obj} (h : w.heap[b]? = some x) (o : Obj) : (w.alloc o).heap[b]? = some x := by
  rw [Below.heap_alloc _ _ _ (Array.getElem?_eq_some_iff.1 h).1]; exact h

def boxRB : Obj := .cells #[.int .i64 0, .string ⟨#[]⟩, .int .i64 0, .slice none 0 0] 50
def boxTB (t : Parl.Tok) : Obj := .cells #[.int .i64 (bk t.kind), .string t.text, .int .i64 (t.pos : Int)] 98
theorem term_boxes {w : World} {rb tb cap : Nat} {s : ByteArray} {L : List Parl.Tok} {i : Nat} {e p : Int} (t : Parl.Tok) (h : SB w rb tb cap s L i e p) :
    SB ((w.alloc boxRB).alloc (boxTB t)).drew rb tb cap s L i e p ∧ KB [rb] w ((w.alloc boxRB).alloc (boxTB t)).drew ∧
    ((w.alloc boxRB).alloc (boxTB t)).drew.heap[w.heap.size]? = some (.cells #[.int .i64 0, .string ⟨#[]⟩, .int .i64 0, .slice none 0 0] 50 (0, 0)) ∧
    ((w.alloc boxRB).alloc (boxTB t)).drew.heap[w.heap.size + 1]? = some (.cells #[.int .i64 (bk t.kind), .string t.text, .int .i64 (t.pos : Int)] 98 (0, 0)) := by
  refine ⟨h.below (((Below.refl _ _).alloc (Nat.le_refl _) _).alloc (by simp) _).drew, (((KB.refl [rb] w).alloc _).alloc _).drew, ?_, ?_⟩
  · show ((w.alloc boxRB).alloc (boxTB t)).heap[w.heap.size]? = _
    exact blk_alloc' (heap_alloc_new w _) _
  · show ((w.alloc boxRB).alloc (boxTB t)).heap[w.heap.size + 1]? = _
    have := heap_alloc_new (w.alloc boxRB) (boxTB t)
    rw [World.size_alloc] at this
    exact this
theorem KB.onlyNew {X : List Nat} {u w : World} (h : KB X u w) {b : Nat} (hb : u.heap.size ≤ b) (v0 v1 v2 v3 : Value) : KB X u ((((w.setCell ⟨b, 0, none⟩ v0).setCell ⟨b, 1, none⟩ v1).setCell ⟨b, 2, none⟩ v2).setCell ⟨b, 3, none⟩ v3) :=
  (((h.setNew hb _).setNew hb _).setNew hb _).setNew hb _
theorem SB.box {w : World} {rb tb cap : Nat} {s : ByteArray} {L : List Parl.Tok} {i : Nat} {e p : Int} (h : SB w rb tb cap s L i e p) {b : Nat} (h1 : b ≠ rb) (h2 : b ≠ tb) (v0 v1 v2 v3 : Value) : SB ((((w.setCell ⟨b, 0, none⟩ v0).setCell ⟨b, 1, none⟩ v1).setCell ⟨b, 2, none⟩ v2).setCell ⟨b, 3, none⟩ v3) rb tb cap s L i e p :=
  h.kb (X := [b]) ((((((KB.refl [b] w).setIn (by simp) _).setIn (by simp) _).setIn (by simp) _).setIn (by simp) _)) (by simpa using Ne.symm h1) (by simpa using Ne.symm h2)

set_option maxHeartbeats 4000000 in
set_option maxRecDepth 100000 in
theorem trm_nobegin (w : World) (rb tb cap : Nat) (s : ByteArray) (L : List Parl.Tok) (i : Nat) (e0 p0 : Int) (d : Nat) (h : SB w rb tb cap s L i e0 p0) (hn : ¬ ((Parl.hd (L.drop i)).kind = 2 ∨ (Parl.hd (L.drop i)).kind = 3 ∨ (Parl.hd (L.drop i)).kind = 4)) :
    Calls Tryz.prog 73 #[.pointer (some ⟨rb, 0, none⟩), .int .i64 (d : Int)] w fun e w' => PErrB rb tb cap s L (if e0 = 0 then 2 else e0) (if e0 = 0 then ((Parl.hd (L.drop i)).pos : Int) else p0) w e w' := by
  obtain ⟨hS, hK, hB0, hB1⟩ := term_boxes (Parl.hd (L.drop i)) h
  unfold boxRB boxTB at hS hK hB0 hB1
  have HS := hide hS
  have HK := hide hK
  have HB0 := hide hB0
  have HB1 := hide hB1
  have hlt := h.hlt
  have htl := h.tblt
  have hk5 := h.kind
  have hz := h.tsize
  clear hS hK hB0 hB1
  obtain ⟨k0, k1, k2⟩ := h.tok
  obtain ⟨c0, c1, c2, c3, f1, f2, f3, own, ne, lt, chain, few, kinds, hlt'⟩ := h
  clear own chain kinds f1 f2 f3 c2 c3
  have BAD := hide (fun W (hW : SB W rb tb cap s L i e0 p0) => bad_any W rb tb cap s L i e0 p0 2 hW)
  have HE := hide (mix_ne (e0 := e0) (er := 2) (by omega))
  generalize (if e0 = 0 then (2 : Int) else e0) = e1 at BAD HE ⊢
  generalize (if e0 = 0 then ((Parl.hd (L.drop i)).pos : Int) else p0) = p1 at BAD ⊢
  have b1 : (bk (Parl.hd (L.drop i)).kind != 1) = true := by generalize (Parl.hd (L.drop i)).kind = k at *; rcases (show k = 0 ∨ k = 1 ∨ k = 5 by omega) with rfl | rfl | rfl <;> rfl
  have b2 : (bk (Parl.hd (L.drop i)).kind != 2) = true := by generalize (Parl.hd (L.drop i)).kind = k at *; rcases (show k = 0 ∨ k = 1 ∨ k = 5 by omega) with rfl | rfl | rfl <;> rfl
  have b3 : (bk (Parl.hd (L.drop i)).kind != 3) = true := by generalize (Parl.hd (L.drop i)).kind = k at *; rcases (show k = 0 ∨ k = 1 ∨ k = 5 by omega) with rfl | rfl | rfl <;> rfl
  have b4 : (bk (Parl.hd (L.drop i)).kind == 3) = false := by generalize (Parl.hd (L.drop i)).kind = k at *; rcases (show k = 0 ∨ k = 1 ∨ k = 5 by omega) with rfl | rfl | rfl <;> rfl
  clear hn hk5
  generalize bk (Parl.hd (L.drop i)).kind = q at *
  go_enter Tryz.func73, Tryz.ntmps73
  go_wp2_with fail
  go_big_region
  go_wp2_with fail
  refine (unhide BAD _ (unhide HS)).mono ?_
  rintro e w1 ⟨rfl, hs1, hk1⟩
  have HS1 := hide hs1
  have HK1 := hide ((unhide HK).trans hk1)
  have HB01 := hide (blk_kb hk1 (unhide HB0) (by simp; omega))
  have HB11 := hide (blk_kb hk1 (unhide HB1) (by simp; omega))
  clear hs1 hk1
  go_wp2_with fail
  refine (pass_any _ rb tb cap s L e1 p1 ⟨i, unhide HS1⟩).mono ?_
  rintro e w2 ⟨rfl, ⟨j, hs2⟩, hk2⟩
  have HS2 := hide hs2
  have HK2 := hide ((unhide HK1).trans hk2)
  have hb0 := blk_kb hk2 (unhide HB01) (by simp; omega)
  have hb1 := blk_kb hk2 (unhide HB11) (by simp; omega)
  have hz0 : w.heap.size < w2.heap.size := blk_lt' hb0
  have hz1 : w.heap.size + 1 < w2.heap.size := blk_lt' hb1
  have r := blkA' hb0
  have x := blkX' hb0
  have y := blkA' hb1
  clear hs2 hk2 hb0 hb1 k0 k1 k2 c0 c1
  go_wp2_with fail
  refine (is_any _ rb tb cap s L j e1 p1 _ ((unhide HS2).below ((Below.refl _ _).alloc (Nat.le_refl _) _))).mono ?_
  rintro e w3 ⟨rfl, n, rfl⟩
  go_wp2_with fail
  refine bodyPost_ret (v := .agg #[.int .i64 q, .string (Parl.hd (L.drop i)).text, .int .i64 0, .slice none 0 0]) (by simp [results, Tryz.results73, go_sem, hz0, r]) rfl ?_
  exact ⟨⟨q, (Parl.hd (L.drop i)).text, 0, none, 0, 0⟩, rfl, ⟨j, SB.box (((unhide HS2).below ((Below.refl _ _).alloc (Nat.le_refl _) _)).draws n) (by omega) (by omega) _ _ _ _⟩, (((unhide HK2).alloc _).drewN n).onlyNew (Nat.le_refl _) _ _ _ _⟩

end Go.Proofs.YtombbccmeeaimaaGreatDoor
