import Derived.Test.YthfjnfcekeknlaaGreatDoorM05
namespace Go.Proofs.YthfjnfcekeknlaaGreatDoor
open Go.RowKit

/-- The loop over the arguments. -/
def LMtA (lb : Nat) (D : List Nd) (V : List Nat) (N M : List (List UInt8)) (f : Nat) (p t : Parl.Tm) (l : Parl.Lk) (R : Nat → Prop) (w : World) (C : Array Value) (k : Nat) (iv : Value) (wr : World) : Prop :=
  ∃ (j : Nat) (S' : List Int) (T' : List Nat) (R' : Nat → Prop), k + j = p.args.length ∧ iv = .int .i64 (j : Int) ∧ LoA wr lb S' T' (Parl.two (Parl.matF f) (p.args.take j) (t.args.take j) l).no R' ∧ StA D V N M S' (Parl.two (Parl.matF f) (p.args.take j) (t.args.take j) l).st ∧ S'.length ≤ M.length ∧ WtA V N T' (Parl.two (Parl.matF f) (p.args.take j) (t.args.take j) l).wt ∧ FrG R R' w wr ∧ wr.heap[w.heap.size]? = some (.cells C 76 (0, 0)) ∧ ¬ R' w.heap.size

set_option maxHeartbeats 4000000 in
set_option maxRecDepth 100000 in
theorem matA_args {f : Nat} (IH : MatSaid f) (P : Nat → Prop) (u w : World) (lb sb cb : Nat) (D : List Nd) (V : List Nat) (R0 R : Nat → Prop) (N M : List (List UInt8)) (S : List Int) (T : List Nat) (a : AV) (n : Nat) (p t : Parl.Tm) (l : Parl.Lk) (hG : GrU u lb sb cb D V R0 N) (hu : Below u.heap.size u w) (h : LoA w lb S T l.no R) (hs : StA D V N M S l.st) (hS : S.length ≤ M.length) (hM : M.Nodup) (hML : M.length ≤ 100000) (ht : WtA V N T l.wt) (hr : RA (f + 1) M P u a p) (hn : RN D V N (f + 1) n t) (hw : Parl.wfK (f + 1) t) (hf : f + 1 ≤ 8) (hl : T.length + 13122 * 3 ^ (f + 1) + 13122 ≤ 100000000) (kp : p.kind ≠ 3) (kt : t.kind ≠ 3) (wp : Parl.wfK (f + 1) p) (hk2 : Parl.alike p t = true) :
    Calls Tryz.prog 109 #[.pointer (some ⟨lb, 0, none⟩), .pointer (some ⟨sb, 0, none⟩), .agg #[.int .i64 a.k, .int .i64 a.val, .string a.tx, .slice a.ao a.n a.cap], .int .i64 (n : Int)] w fun e w' => PMt lb D V N M (Parl.matF (f + 1) p t l) R w e w' := by
  obtain ⟨ha, hrow⟩ := hr
  obtain ⟨k, val, tx, ao, m, cp⟩ := a
  have hk : (k == 1) = false := by
    have h1 := ha.1
    dsimp only at h1
    rw [h1]
    rcases ha.2.2.2.2.2.1 with e | e | e <;> first | exact absurd e kp | (rw [e]; decide)
  have HB := hide ((Below.refl w.heap.size w).alloc (Nat.le_refl _) (.cells #[.int .i64 k, .int .i64 val, .string tx, .slice ao m cp] 76))
  have HU := hide (hu.trans ((unhide HB).mono hu.size))
  have HU0 := hide hu
  have HG := hide hG
  have H := hide h
  have HST := hide hs
  have HSL := hide hS
  have HT := hide ht
  obtain ⟨⟨kb, vb, xb, cb', ob, pb, gb⟩, eb, jb, nb⟩ := hn.node
  dsimp only at jb
  have HL := hide (label_at _ sb cb D V R0 n _ (hG.at (unhide HU)) eb)
  dsimp only at HL
  have HS := hide (show Parl.matF (f + 1) p t l = Parl.two (Parl.matF f) p.args t.args l by unfold Parl.matF; rw [if_neg kp, if_neg kt, if_pos hk2])
  have hlab := fun w => lab_any w ⟨k, val, tx, ao, m, cp⟩
  have hal := Parl.alike_args hk2
  obtain ⟨q1, q2, q3, q4⟩ := (alikeP_iff ha hn hw kp kt eb).1 hk2
  have h2 := ha.2.1
  dsimp only at h2 q1 q3 q4 hrow
  have rb := hn.args eb
  dsimp only at rb
  have lb' := rb.length
  have HAb := hide (fun w (hu : Below u.heap.size u w) => args_at w sb cb D V R0 n _ (hG.at hu) eb)
  have HCb := hide (fun q => hG.so.argsAt eb q)
  dsimp only at HAb HCb
  rw [lb', ← hal] at HAb
  generalize labV ⟨k, val, tx, ao, m, cp⟩ = lv at *
  dsimp only at hlab
  subst q1 q2 q3 q4 h2
  have LA := hide hlab
  have HROW := hide hrow
  have HRb := hide rb
  have HLB := hide lb'
  have HAL := hide hal
  have HWp := hide wp.2.2.2
  have HWt := hide hw.2.2.2
  have HW3 := hide wp.2.2.1
  have HLL := hide hl
  have HFF := hide hf
  have HMN := hide hM
  have I := hide IH
  clear hG hu h hs hS hM ht hn hw ha eb nb kp kt jb hk2 hlab hrow rb lb' hal wp hl hf IH
  go_enter Tryz.func109, Tryz.ntmps109
  go_wp2_with fail
  refine (unhide HL).mono ?_
  rintro e w3 ⟨rfl, hb3⟩
  have f0 := (hb3.cell (p := ⟨w.heap.size, 0, none⟩) (by simp)).trans (blkA (heap_alloc_new w _) 0)
  have f1 := (hb3.cell (p := ⟨w.heap.size, 1, none⟩) (by simp)).trans (blkA (heap_alloc_new w _) 1)
  have f2 := (hb3.cell (p := ⟨w.heap.size, 2, none⟩) (by simp)).trans (blkA (heap_alloc_new w _) 2)
  have f3 := (hb3.cell (p := ⟨w.heap.size, 3, none⟩) (by simp)).trans (blkA (heap_alloc_new w _) 3)
  simp only [List.getElem?_toArray, List.getElem?_cons_zero, List.getElem?_cons_succ] at f0 f1 f2 f3
  have z3 := hb3.size
  rw [World.size_alloc] at z3
  have z5 : w.heap.size < w3.heap.size := by omega
  have HB3 := hide ((unhide HB).trans (hb3.mono (by rw [World.size_alloc]; omega)))
  have HU3 := hide ((unhide HU).trans (hb3.mono (unhide HU).size))
  have HBX3 := hide ((hb3.block w.heap.size (by simp)).trans (heap_alloc_new w _))
  clear hb3
  go_wp2_with fail
  have e0 := blkA (heap_alloc_new w3 (.cells #[.int .i64 k, .int .i64 lv, .string tx, .int .i64 (p.args.length : Int)] 177)) 0
  have e1 := blkA (heap_alloc_new w3 (.cells #[.int .i64 k, .int .i64 lv, .string tx, .int .i64 (p.args.length : Int)] 177)) 1
  have e2 := blkA (heap_alloc_new w3 (.cells #[.int .i64 k, .int .i64 lv, .string tx, .int .i64 (p.args.length : Int)] 177)) 2
  have e3 := blkA (heap_alloc_new w3 (.cells #[.int .i64 k, .int .i64 lv, .string tx, .int .i64 (p.args.length : Int)] 177)) 3
  simp only [List.getElem?_toArray, List.getElem?_cons_zero, List.getElem?_cons_succ] at e0 e1 e2 e3
  go_region_held3 (fun w' => w'.cell? ⟨w.heap.size, 0, none⟩ = some (.int .i64 k) ∧ w'.cell? ⟨w.heap.size, 1, none⟩ = some (.int .i64 val) ∧ w'.cell? ⟨w.heap.size, 2, none⟩ = some (.string tx) ∧ w'.cell? ⟨w.heap.size, 3, none⟩ = some (.slice ao p.args.length cp) ∧ w'.cell? ⟨w3.heap.size, 0, none⟩ = some (.int .i64 k) ∧ w'.cell? ⟨w3.heap.size, 1, none⟩ = some (.int .i64 lv) ∧ w'.cell? ⟨w3.heap.size, 2, none⟩ = some (.string tx) ∧ w'.cell? ⟨w3.heap.size, 3, none⟩ = some (.int .i64 (p.args.length : Int))) (go_keep) (first
    | (go_at_call 95; refine (unhide LA _).mono ?_; rintro e w5 ⟨rfl, hb5⟩; have g0 := (hb5.cell (p := ⟨w3.heap.size, 0, none⟩) (lt_new w3 _)).trans e0; have g1 := (hb5.cell (p := ⟨w3.heap.size, 1, none⟩) (lt_new w3 _)).trans e1; have g2 := (hb5.cell (p := ⟨w3.heap.size, 2, none⟩) (lt_new w3 _)).trans e2; have g3 := (hb5.cell (p := ⟨w3.heap.size, 3, none⟩) (lt_new w3 _)).trans e3; have y0 := (hb5.cell (p := ⟨w.heap.size, 0, none⟩) (Nat.lt_trans z5 (lt_new w3 _))).trans ((World.cell?_alloc_past _ _ _ z5).trans f0); have y1 := (hb5.cell (p := ⟨w.heap.size, 1, none⟩) (Nat.lt_trans z5 (lt_new w3 _))).trans ((World.cell?_alloc_past _ _ _ z5).trans f1); have y2 := (hb5.cell (p := ⟨w.heap.size, 2, none⟩) (Nat.lt_trans z5 (lt_new w3 _))).trans ((World.cell?_alloc_past _ _ _ z5).trans f2); have y3 := (hb5.cell (p := ⟨w.heap.size, 3, none⟩) (Nat.lt_trans z5 (lt_new w3 _))).trans ((World.cell?_alloc_past _ _ _ z5).trans f3); have HB5 := hide (((unhide HB3).alloc (by omega) _).trans ((((Below.refl _ _).drew).trans hb5).mono (Nat.le_trans (by omega) (Nat.le_of_lt (lt_new w3 _))))); have HBX5 := hide ((hb5.block w.heap.size (Nat.lt_trans z5 (lt_new w3 _))).trans ((Below.heap_alloc _ _ _ z5).trans (unhide HBX3))); clear hb5))
  go_wp2_with fail
  have HST0 := hide (show LMtA lb D V N M f p t l R w #[.int .i64 k, .int .i64 val, .string tx, .slice ao p.args.length cp] p.args.length (.int .i64 0) w5 from ⟨0, S, T, R, by omega, rfl, by simpa [Parl.two] using (unhide H).below (unhide HB5), by simpa [Parl.two] using unhide HST, unhide HSL, by simpa [Parl.two] using unhide HT, FrG.of_below (unhide HB5), unhide HBX5, fun q => by have := ((unhide H).rows _ q).2; omega⟩)
  refine (unhide HAb _ ((unhide HU0).trans ((unhide HB5).mono (unhide HU0).size))).mono ?_
  rintro e w6 ⟨rfl, rfl⟩
  clear e0 e1 e2 e3 f0 f1 f2 f3 g0 g1 g2 g3 y0 y1 y2 y3 HB HU HL HB3 HU3 HBX3 HB5 HBX5 HAb LA z3 z5 hk
  go_wp2_with fail
  go_loopg [10] p.args.length (fun k' iv wr => LMtA lb D V N M f p t l R w #[.int .i64 k, .int .i64 val, .string tx, .slice ao p.args.length cp] k' iv wr)
  case atStart => exact unhide HST0
  case round =>
    clear HST0
    obtain ⟨j, S', T', R', hkj, rfl, hlo, hst, hsl, hwt, hfr, hbx, hbr⟩ := hrel
    have hur := (unhide H).under hfr (unhide HU0) (unhide HG).lt
    have x3 := blkA hbx 3
    simp only [List.getElem?_toArray, List.getElem?_cons_zero, List.getElem?_cons_succ] at x3
    have zx := blk_lt hbx
    by_cases hlt : j < p.args.length
    · have hjb : j < gb.length := by have := unhide HLB; have := unhide HAL; omega
      have hlt' : j < t.args.length := by have := unhide HAL; omega
      obtain ⟨g, us, ca, hao, _, hca, hta, haa⟩ := unhide HROW (fun q => by rw [q] at hlt; simp at hlt)
      subst hao
      obtain ⟨pB, eB, zB, cB⟩ := unhide HCb (fun q => by rw [q] at hjb; simp at hjb)
      subst eB
      have hju : j < us.length := by have := haa.length; omega
      have fc : ∀ w', Below u.heap.size u w' → ∀ i, i < 4 → w'.cell? ⟨g, j * 4 + i, none⟩ = (avC us[j])[i]? := fun w' hb i hi => by
        rw [hb.cell (p := ⟨g, j * 4 + i, none⟩) (blk_lt hca), blkA hca, ← Array.getElem?_toList, ← avC_at' hju i hi, ← hta, List.getElem?_take_of_lt (by omega)]
      have HF0 := hide (show ∀ w', Below u.heap.size u w' → w'.cell? ⟨g, j * 4, none⟩ = some (.int .i64 us[j].k) ∧ w'.cell? ⟨g, j * 4 + 1, none⟩ = some (.int .i64 us[j].val) ∧ w'.cell? ⟨g, j * 4 + 2, none⟩ = some (.string us[j].tx) ∧ w'.cell? ⟨g, j * 4 + 3, none⟩ = some (.slice us[j].ao us[j].n us[j].cap) ∧ w'.cell? ⟨pB, j, none⟩ = some (.int .i64 (gb[j] : Int)) from fun w' hb => by
        have a0 := fc w' hb 0 (by omega)
        have a1 := fc w' hb 1 (by omega)
        have a2 := fc w' hb 2 (by omega)
        have a3 := fc w' hb 3 (by omega)
        simp only [avC, List.getElem?_cons_zero, List.getElem?_cons_succ, Nat.add_zero] at a0 a1 a2 a3
        exact ⟨a0, a1, a2, a3, (hb.cell (p := ⟨pB, j, none⟩) zB).trans (cB j hjb)⟩)
      have hlen : T'.length ≤ T.length + j * (13122 * 3 ^ f) := by
        have q1 := hwt.length
        have q2 := (unhide HT).length
        have q3 := Parl.two_lenR (g := Parl.matF f) (c := 13122 * 3 ^ f) (p.args.take j) (t.args.take j) l (fun b hb a m => (Parl.matF_len f a b m (unhide HWt b (List.mem_of_mem_take hb)) (by have := unhide HFF; omega)).1)
        rw [List.length_take, Nat.min_eq_left (by omega)] at q3
        omega
      have hcap : T'.length + 13122 * 3 ^ f + 13122 ≤ 100000000 := by
        have q1 := unhide HLL
        have q2 : 3 ^ (f + 1) = 3 * 3 ^ f := by rw [Nat.pow_succ, Nat.mul_comm]
        have q3 : j * (13122 * 3 ^ f) ≤ 2 * (13122 * 3 ^ f) := Nat.mul_le_mul_right _ (by have := unhide HW3; omega)
        omega
      have IC := hide (unhide I u wr.drew lb sb cb D V R0 R' P N M S' T' us[j] gb[j] p.args[j] t.args[j] (Parl.two (Parl.matF f) (p.args.take j) (t.args.take j) l) (unhide HG) hur.drew (hlo.below (Below.refl _ _).drew) hst hsl (unhide HMN) hML hwt (haa.at' j hju hlt) ((unhide HRb).at' j hjb hlt') (unhide HWp _ (List.getElem_mem hlt)) (unhide HWt _ (List.getElem_mem hlt')) (by have := unhide HFF; omega) hcap)
      rw [← Parl.two_step (g := Parl.matF f) p.args t.args j hlt hlt' l] at IC
      obtain ⟨a0, a1, a2, a3, a4⟩ := unhide HF0 wr hur
      have HFR := hide hfr
      have HUR := hide hur
      have HLO := hide hlo
      have HKJ := hide hkj
      have HLT := hide hlt
      have HBX := hide hbx
      have HBR := hide hbr
      generalize us[j] = v6 at *
      generalize gb[j] = nb at *
      have zr : u.heap.size ≤ wr.heap.size := hur.size
      have zA' : g < wr.heap.size := by have := blk_lt hca; omega
      have zB' : pB < wr.heap.size := by omega
      have hj3 : j ≤ 3 := by have := unhide HW3; omega
      have i0 : (0 : Int) ≤ (j : Int) := by omega
      have i1 : (j : Int) < (p.args.length : Int) := by omega
      clear hlo hst hsl hwt hfr hur hkj hlt hlt' hjb hju cB hlen hcap hbx hbr fc hca hta haa
      go_wp2_with fail
      go_region_held3 (fun w' => w'.cell? ⟨w.heap.size, 3, none⟩ = some (.slice (some ⟨g, 0, none⟩) p.args.length cp) ∧ w'.cell? ⟨g, j * 4, none⟩ = some (.int .i64 v6.k) ∧ w'.cell? ⟨g, j * 4 + 1, none⟩ = some (.int .i64 v6.val) ∧ w'.cell? ⟨g, j * 4 + 2, none⟩ = some (.string v6.tx) ∧ w'.cell? ⟨g, j * 4 + 3, none⟩ = some (.slice v6.ao v6.n v6.cap) ∧ w'.cell? ⟨pB, j, none⟩ = some (.int .i64 (nb : Int))) (go_keep) (first
        | (go_at_call 109; refine (unhide IC).mono ?_; rintro e w8 ⟨rfl, S8, T8, R8, h8, s8, l8, t8, fr8⟩; have HFR8 := hide ((unhide HFR).trans ((FrG.of_below (Below.refl _ _).drew).trans fr8)); obtain ⟨k0, k1, k2, k3, k4⟩ := unhide HF0 w8 ((unhide HLO).under ((FrG.of_below (Below.refl _ _).drew).trans fr8) (unhide HUR) (unhide HG).lt); have k9 := (fr8.cell (p := ⟨w.heap.size, 3, none⟩) zx (unhide HBR)).trans x3; have HBX8 := hide ((fr8.block w.heap.size zx (unhide HBR)).trans (unhide HBX)); have HBR8 := hide (fr8.not (k := w.heap.size) zx (unhide HBR)); have H8 := hide h8; have HS8 := hide s8; have HL8 := hide l8; have HT8 := hide t8; clear h8 s8 l8 t8 fr8))
      all_goals
        go_wp2_with fail
        go_roundg (gk - 1)
        case measure => have := unhide HKJ; have := unhide HLT; omega
        case rel => exact ⟨j + 1, S8, T8, R8, by have := unhide HKJ; have := unhide HLT; omega, by go_num, unhide H8, unhide HS8, unhide HL8, unhide HT8, unhide HFR8, unhide HBX8, unhide HBR8⟩
    · obtain rfl : j = p.args.length := by omega
      have HLO := hide hlo
      have HSTT := hide hst
      have HSLL := hide hsl
      have HWT := hide hwt
      have HFR := hide hfr
      clear hlo hst hsl hwt hfr hur hkj hbx hbr
      go_wp2_with fail
      go_end0
      rw [unhide HS]
      have q1 := unhide HLO
      have q2 := unhide HWT
      have q3 := unhide HSTT
      rw [List.take_length, List.take_of_length_le (by have := unhide HAL; omega)] at q1 q2 q3
      exact ⟨rfl, S', T', R', q1, q3, unhide HSLL, q2, unhide HFR⟩
theorem matA_all : ∀ f, MatSaid f
  | 0 => fun _ _ _ _ _ _ _ _ _ _ _ _ _ _ _ _ _ _ _ _ _ _ _ _ _ _ _ h => h.elim
  | f + 1 => fun u w lb sb cb D V R0 R P N M S T a n p t l hG hu h hs hS hM hML ht hr hn wp hw hf hl => by
    by_cases kp : p.kind = 3
    · exact matA_meet f u w lb sb cb D V R0 R N M S T a n p t l hG hu h hs hS hM hML ht hr.1 hn hw hf hl kp
    · by_cases kt : t.kind = 3
      · exact matA_wait f u w lb sb cb D V R0 R N M S T a n p t l hG hu h hs hS hM hML ht hr.1 hn hw hf hl kp kt
      · cases hk : Parl.alike p t
        · exact matA_bad f u w lb sb cb D V R0 R N M S T a n p t l hG hu h hs hS hM hML ht hr.1 hn hw hf hl kp kt hk
        · exact matA_args (matA_all f) P u w lb sb cb D V R0 R N M S T a n p t l hG hu h hs hS hM hML ht hr hn hw hf hl kp kt wp hk
end Go.Proofs.YthfjnfcekeknlaaGreatDoor
namespace Go.Proofs.YthfjnfcekeknlaaGreatDoor
open Go.RowKit

set_option maxHeartbeats 1000000 in
theorem waitsFor_gen (w : World) (lb b0 : Nat) (W : List Nat) (sv nv : Value) (wo : Option Addr) (wc : Nat) (n : Nat) (hblk : w.heap[lb]? = some (.cells #[sv, .slice wo W.length wc, nv] 189 (0, 0))) (hown : w.ownsRow b0 3 1 (.slice wo W.length wc) W.length (W.map intV)) (hl : W.length ≤ 100000000) :
    Calls Tryz.prog 163 #[.pointer (some ⟨lb, 0, none⟩), .int .i64 (n : Int)] w fun e w' => e = .returned (.bool (decide (n ∈ W))) ∧ w' = w := by
  have s1 := blkA hblk 1
  have sz := blk_lt hblk
  simp only [List.getElem?_toArray, List.getElem?_cons_zero, List.getElem?_cons_succ] at s1
  have H := hide hown
  clear hblk hown
  go_enter Tryz.func163, Tryz.ntmps163
  go_wp2_with fail
  go_loopg [12] W.length (fun k iv wr => ∃ j : Nat, k + j = W.length ∧ iv = .int .i64 (j : Int) ∧ wr = w ∧ n ∉ W.take j)
  case atStart => exact ⟨0, by omega, rfl, rfl, by simp⟩
  case round =>
    obtain ⟨j, hkj, rfl, rfl, hno⟩ := hrel
    by_cases hlt : j < W.length
    · obtain ⟨g, hg⟩ : ∃ g, wo = some ⟨g, 0, none⟩ := by
        rcases (unhide H).2 with ⟨q, q2⟩ | ⟨g, cp, cur, q, _⟩
        · omega
        · simp only [Value.slice.injEq] at q
          exact ⟨g, q.1⟩
      subst hg
      have f0 : wr.cell? ⟨g, j, none⟩ = some (.int .i64 (W[j] : Int)) := by
        rw [(unhide H).cellAt j (by omega), List.getElem?_map, List.getElem?_eq_getElem hlt]
        rfl
      have gz := ((unhide H).lt g rfl).2
      have i0 : (0 : Int) ≤ (j : Int) := by omega
      have i1 : (j : Int) < (W.length : Int) := by omega
      by_cases he : W[j] = n
      · have HIN := hide (show n ∈ W from he ▸ List.getElem_mem hlt)
        rw [he] at f0
        clear he hno hkj
        go_wp2_with fail
        go_ret
        exact ⟨by rw [decide_eq_true (unhide HIN)]; rfl, rfl⟩
      · have HNO := hide hno
        have HE := hide he
        have HLT := hide hlt
        have HKJ := hide hkj
        have t1 : (((W[j] : Nat) : Int) == ((n : Nat) : Int)) = false := by simp; omega
        have HM := hide (show W.take (j + 1) = W.take j ++ [W[j]] by rw [List.take_add_one, List.getElem?_eq_getElem hlt]; rfl)
        generalize hm : W[j] = m at *
        clear he hno hkj hm
        go_wp2_with fail
        go_roundg (gk - 1)
        case measure => have := unhide HKJ; have := unhide HLT; omega
        case rel =>
          refine ⟨j + 1, by have := unhide HKJ; have := unhide HLT; omega, by go_num, rfl, ?_⟩
          rw [unhide HM]
          simp only [List.mem_append, List.mem_singleton, not_or]
          exact ⟨unhide HNO, fun q => unhide HE q.symm⟩
    · have hno' : n ∉ W := by rwa [List.take_of_length_le (by omega)] at hno
      have HNO := hide hno'
      clear hno hno'
      obtain rfl : j = W.length := by omega
      go_wp2_with fail
      go_ret
      exact ⟨by rw [decide_eq_false (unhide HNO)]; rfl, rfl⟩

end Go.Proofs.YthfjnfcekeknlaaGreatDoor
namespace Go.Proofs.YthfjnfcekeknlaaGreatDoor
open Go.RowKit

/-- The names of those that are waited for. -/
def wtd (T : List Nat) : List Nat → List ByteArray → List ByteArray
  | v :: V, x :: ns => if v ∈ T then x :: wtd T V ns else wtd T V ns
  | _, _ => []

theorem wtd_len (T : List Nat) : ∀ (V : List Nat) (ns : List ByteArray), (wtd T V ns).length ≤ V.length
  | [], _ => by simp [wtd]
  | _ :: _, [] => by simp [wtd]
  | v :: V, x :: ns => by
    have := wtd_len T V ns
    unfold wtd
    split <;> simp <;> omega
theorem wtd_step (T : List Nat) : ∀ (V : List Nat) (ns : List ByteArray) (j : Nat) (h : j < V.length) (h' : j < ns.length), wtd T (V.take (j + 1)) (ns.take (j + 1)) = wtd T (V.take j) (ns.take j) ++ (if V[j] ∈ T then [ns[j]] else [])
  | [], _, _, h, _ => by simp at h
  | _ :: _, [], _, _, h => by simp at h
  | v :: V, x :: ns, 0, _, _ => by simp [wtd]
  | v :: V, x :: ns, j + 1, h, h' => by
    have := wtd_step T V ns j (by simpa using h) (by simpa using h')
    simp only [List.take_succ_cons, wtd, this, List.getElem_cons_succ]
    split <;> simp
/-- The loop over the variables. -/
def LWf (w : World) (T V : List Nat) (ns : List ByteArray) (C : Array Value) (k : Nat) (av iv : Value) (wr : World) : Prop :=
  ∃ j : Nat, k + j = V.length ∧ iv = .int .i64 (j : Int) ∧ wr.ownsRow (w.heap.size + 2) 9 1 av (wtd T (V.take j) (ns.take j)).length ((wtd T (V.take j) (ns.take j)).map Value.string) ∧ Below w.heap.size w wr ∧ wr.heap[w.heap.size]? = some (.cells C 189 (0, 0))

set_option maxHeartbeats 4000000 in
set_option maxRecDepth 100000 in
theorem waitedFor_any (w : World) (b0 b1 b2 : Nat) (T V : List Nat) (ns : List ByteArray) (so wo vo no : Option Addr) (sl sc wc vc nc : Nat) (fl : Bool) (hown : w.ownsRow b0 3 1 (.slice wo T.length wc) T.length (T.map intV)) (hv : w.ownsRow b1 3 1 (.slice vo V.length vc) V.length (V.map intV)) (hn : w.ownsRow b2 9 1 (.slice no ns.length nc) ns.length (ns.map Value.string)) (hl : T.length ≤ 100000000) (hvl : V.length ≤ 1000000) (hvn : V.length = ns.length) (hnl : ns.length ≤ 1000000) :
    Calls Tryz.prog 111 #[.agg #[.slice so sl sc, .slice wo T.length wc, .bool fl], .agg #[.slice vo V.length vc], .slice no ns.length nc] w fun e w' => ∃ ov, e = .returned ov ∧ w'.ownsRow w.heap.size 9 1 ov (wtd T V ns).length ((wtd T V ns).map Value.string) ∧ Below w.heap.size w w' := by
  have HO := hide hown
  have HV := hide hv
  have HN := hide hn
  have HL := hide hl
  have HVL := hide hvl
  have HNL := hide hnl
  have HVN := hide hvn
  obtain ⟨ti, hi, hzz0, hzz1, hzz2⟩ := info_parts infoStrS
  clear hown hv hn hl hvl hnl hvn
  go_enter Tryz.func111, Tryz.ntmps111
  go_wp2_with fail
  go_loopg [7, 13] V.length (fun k av iv wr => LWf w T V ns #[.slice so sl sc, .slice wo T.length wc, .bool fl] k av iv wr)
  case atStart => exact ⟨0, by omega, rfl, by simpa [wtd] using World.ownsRow_nil _ _ _ _, ((Below.refl _ _).alloc (Nat.le_refl _) _).alloc (by simp) _, (Below.heap_alloc _ _ _ (by simp)).trans (heap_alloc_new w _)⟩
  case round =>
    obtain ⟨j, hkj, rfl, how, hbe, hbx⟩ := hrel
    obtain ⟨oo, oc, rfl⟩ := own_shapeT how
    have zx := blk_lt hbx
    by_cases hlt : j < V.length
    · have hlt' : j < ns.length := by have := unhide HVN; omega
      obtain ⟨g, hg⟩ : ∃ g, vo = some ⟨g, 0, none⟩ := by
        rcases (unhide HV).2 with ⟨q, q2⟩ | ⟨g, cp, cur, q, _⟩
        · omega
        · simp only [Value.slice.injEq] at q
          exact ⟨g, q.1⟩
      subst hg
      obtain ⟨g2, hg2⟩ : ∃ g, no = some ⟨g, 0, none⟩ := by
        rcases (unhide HN).2 with ⟨q, q2⟩ | ⟨g, cp, cur, q, _⟩
        · omega
        · simp only [Value.slice.injEq] at q
          exact ⟨g, q.1⟩
      subst hg2
      have gz := ((unhide HV).lt g rfl).2
      have gz2 := ((unhide HN).lt g2 rfl).2
      have zz := hbe.size
      have f0 : wr.cell? ⟨g, j, none⟩ = some (.int .i64 (V[j] : Int)) := by
        rw [hbe.cell (p := ⟨g, j, none⟩) gz, (unhide HV).cellAt j (by omega), List.getElem?_map, List.getElem?_eq_getElem hlt]
        rfl
      have f1 : wr.cell? ⟨g2, j, none⟩ = some (.string ns[j]) := by
        rw [hbe.cell (p := ⟨g2, j, none⟩) gz2, (unhide HN).cellAt j (by omega), List.getElem?_map, List.getElem?_eq_getElem hlt']
        rfl
      have gz' : g < wr.heap.size := by omega
      have gz2' : g2 < wr.heap.size := by omega
      have i0 : (0 : Int) ≤ (j : Int) := by omega
      have i1 : (j : Int) < (V.length : Int) := by omega
      have i2 : (j : Int) < (ns.length : Int) := by omega
      have t2 : decide ((j : Int) < (ns.length : Int)) = true := by simp; omega
      have hj3 : j ≤ 1000000 := by have := unhide HVL; omega
      have HSTEP := hide (wtd_step T V ns j hlt hlt')
      have WF := hide (waitsFor_gen wr w.heap.size b0 T (.slice so sl sc) (.bool fl) wo wc V[j] hbx (own_keepG (unhide HO) (fun k q => hbe.block k ((unhide HO).lt k q).2)) (unhide HL))
      have HOW := hide how
      have HBE := hide hbe
      have HBX := hide hbx
      have HKJ := hide hkj
      have HLT := hide hlt
      have hle := (show (wtd T (V.take j) (ns.take j)).length ≤ 1000000 from by have q := wtd_len T (V.take j) (ns.take j); rw [List.length_take] at q; omega)
      generalize ns[j] = x at *
      generalize V[j] = v at *
      generalize wtd T (V.take j) (ns.take j) = Z at *
      clear how hbe hbx hkj hlt hlt'
      by_cases hm : v ∈ T
      · rw [decide_eq_true hm] at WF
        rw [if_pos hm] at HSTEP
        clear hm
        go_wp2_with fail
        refine (unhide WF).mono ?_
        rintro e w5 ⟨rfl, rfl⟩
        go_wp2_with (at_builtin; go_must (refine wpList_append_own_at _ rfl (.tmp 26) (.tmp 31) 29 rfl (w.heap.size + 2) 9 ti (.string ⟨#[]⟩) 1 16 Tryz.underlying29 hi hzz0 hzz1 hzz2 rfl (by decide) _ Z.length (Z.map Value.string) rfl ((unhide HOW).alloc _) ⟨w5.heap.size, 0, none⟩ 1 1 [.string x] rfl rfl (new1T _ _ _ _ rfl) (by simp [Value.oneCell']) (by unfold maxLen; omega) (by omega) (by simp; omega) ?_); go_must (intro v' w7 hown' hgrow _ _; have HO7 := hide hown'; have HB7 := hide (((unhide HBE).alloc (unhide HBE).size _).grown hgrow (by simp; omega) (fun k q => by have := ((unhide HOW).lt k q).1; omega)); have HX7 := hide ((hgrow.block w.heap.size (by simp; omega) (fun q => by have := ((unhide HOW).lt _ q.symm).1; omega)).trans ((Below.heap_alloc _ _ _ zx).trans (unhide HBX))); clear hown' hgrow))
        go_roundg (gk - 1)
        case measure => have := unhide HKJ; have := unhide HLT; omega
        case rel => exact ⟨j + 1, by have := unhide HKJ; have := unhide HLT; omega, by go_num, by rw [unhide HSTEP]; have := unhide HO7; simpa using this, unhide HB7, unhide HX7⟩
      · rw [decide_eq_false hm] at WF
        rw [if_neg hm, List.append_nil] at HSTEP
        clear hm
        go_wp2_with fail
        refine (unhide WF).mono ?_
        rintro e w5 ⟨rfl, rfl⟩
        go_wp2_with fail
        go_roundg (gk - 1)
        case measure => have := unhide HKJ; have := unhide HLT; omega
        case rel => exact ⟨j + 1, by have := unhide HKJ; have := unhide HLT; omega, by go_num, by rw [unhide HSTEP]; exact unhide HOW, unhide HBE, unhide HBX⟩
    · obtain rfl : j = V.length := by omega
      have HE := hide (show wtd T V ns = wtd T (V.take V.length) (ns.take V.length) by rw [List.take_length, List.take_of_length_le (by have := unhide HVN; omega)])
      have HOW := hide how
      have HBE := hide hbe
      clear how hbe hbx hkj
      go_wp2_with fail
      go_ret
      rw [unhide HE]
      exact ⟨_, rfl, ⟨(unhide HOW).1, (unhide HOW).2.imp id fun ⟨g, cap, cur, a, b, c⟩ => ⟨g, cap, cur, a, by omega, c⟩⟩, unhide HBE⟩
end Go.Proofs.YthfjnfcekeknlaaGreatDoor
namespace Parl
/-- The error of one text as a term. -/
def erS (s : ByteArray) (l : List Tok) : Nat := if 64 < s.size then 1 else erT (whole l)
def fe (a b : Nat) : Nat := if a = 0 ∨ b = 1 then b else a
theorem whole_err2 {l : List Tok} {er ps : Nat} (h : whole l = .inl (er, ps)) : er = 2 ∨ er = 3 := by
  unfold whole at h
  rcases hq : term 8 l with e | ⟨t, l1⟩
  · rw [hq] at h
    cases h
    exact term_err 8 l _ hq
  · rw [hq] at h
    dsimp only at h
    split at h
    · cases h
    · cases h; omega
theorem erT_is (l : List Tok) : erT (whole l) = 0 ∨ erT (whole l) = 2 ∨ erT (whole l) = 3 := by
  rcases hq : whole l with ⟨e, p⟩ | x
  · right
    exact whole_err2 hq
  · left; rfl
theorem fe_both (a b : ByteArray) (la lb : List Tok) : fe (erS a la) (erS b lb) = bothE a b la lb := by
  have ha := erT_is la
  have hb := erT_is lb
  unfold fe erS bothE
  by_cases h1 : 64 < a.size
  · rw [if_pos h1, if_pos (Or.inl h1)]
    by_cases h2 : 64 < b.size
    · rw [if_pos h2]; simp
    · rw [if_neg h2, if_neg (by omega)]
  · rw [if_neg h1]
    by_cases h2 : 64 < b.size
    · rw [if_pos h2, if_pos (Or.inr rfl), if_pos (Or.inr h2)]
    · rw [if_neg h2, if_neg (show ¬ (64 < a.size ∨ 64 < b.size) by omega)]
      rcases hq : whole la with ⟨e, p⟩ | x
      · rw [hq] at ha
        have := whole_err2 hq
        show (if e = 0 ∨ erT (whole lb) = 1 then erT (whole lb) else e) = e
        rw [if_neg (by omega)]
      · show (if (0 : Nat) = 0 ∨ erT (whole lb) = 1 then erT (whole lb) else 0) = erT (whole lb)
        rw [if_pos (Or.inl rfl)]
end Parl
namespace Go.Proofs.YthfjnfcekeknlaaGreatDoor
open Go.RowKit

set_option maxHeartbeats 1000000 in
theorem firstError_any (w : World) (a b : Nat) :
    Calls Tryz.prog 53 #[.int .i64 (a : Int), .int .i64 (b : Int)] w fun e w' => e = .returned (.int .i64 (Parl.fe a b : Int)) ∧ w' = w := by
  by_cases h1 : a = 0
  · subst h1
    go_enter Tryz.func53, Tryz.ntmps53
    go_wp2_with fail
    go_ret
    exact ⟨by simp [Parl.fe], rfl⟩
  · have t1 : ((a : Int) == 0) = false := by simpa using h1
    by_cases h2 : b = 1
    · subst h2
      have HS := hide (show Parl.fe a 1 = 1 by simp [Parl.fe])
      clear h1
      go_enter Tryz.func53, Tryz.ntmps53
      go_wp2_with fail
      go_ret
      exact ⟨by rw [unhide HS]; rfl, rfl⟩
    · have t2 : ((b : Int) == 1) = false := by simp; omega
      have HS := hide (show Parl.fe a b = a by unfold Parl.fe; rw [if_neg (by omega)])
      clear h1 h2
      go_enter Tryz.func53, Tryz.ntmps53
      go_wp2_with fail
      go_ret
      exact ⟨by rw [unhide HS]; rfl, rfl⟩
/-- What read.Term answers, of any text. -/
def PRd (s : ByteArray) (L : List Parl.Tok) (w : World) (e : Ending) (w' : World) : Prop :=
  ∃ (a : AV) (no : Option Addr) (nl nc : Nat), e = .returned (.agg #[.int .i64 a.k, .int .i64 a.val, .string a.tx, .slice a.ao a.n a.cap, .slice no nl nc, .int .i64 (Parl.erS s L : Int)]) ∧
    (∀ t l1, s.size ≤ 64 → Parl.whole L = .inr (t, l1) → ∃ ns : List ByteArray, RA 8 (nmsA ns) anyA w' a t ∧ nmsA ns = Parl.namesF 8 [] t ∧ w'.ownsRow w.heap.size 9 1 (.slice no nl nc) ns.length (ns.map Value.string)) ∧ Below w.heap.size w w'
theorem rd_any (w : World) (s : ByteArray) (L : List Parl.Tok) (hL : Parl.Chain s L) (hh : Parl.hd L = Parl.next s 0) (hl : s.size ≤ 64 → L.length ≤ 1000) (hsg : Signs w) (h0 : 0 < w.heap.size) :
    Calls Tryz.prog 52 #[.string s] w fun e w' => PRd s L w e w' := by
  by_cases hs : 64 < s.size
  · refine (rt_long w s hs).mono ?_
    rintro e w' ⟨rfl, hb⟩
    exact ⟨⟨0, 0, ⟨#[]⟩, none, 0, 0⟩, none, 0, 0, by unfold Parl.erS; rw [if_pos hs]; rfl, fun _ _ h => absurd h (by omega), hb⟩
  · refine (rt_any w s L (by omega) hL hh (hl (by omega)) hsg h0).mono ?_
    rintro e w' ⟨a, no, nl, nc, rfl, hr, hb⟩
    refine ⟨a, no, nl, nc, by unfold Parl.erS; rw [if_neg hs], fun t l1 _ h => ?_, hb⟩
    rw [h] at hr
    exact hr

set_option maxHeartbeats 2000000 in
theorem maA_err (w : World) (a b : ByteArray) (la lb : List Parl.Tok) (hLa : Parl.Chain a la) (hha : Parl.hd la = Parl.next a 0) (hla : a.size ≤ 64 → la.length ≤ 1000) (hLb : Parl.Chain b lb) (hhb : Parl.hd lb = Parl.next b 0) (hlb : b.size ≤ 64 → lb.length ≤ 1000) (hsg : Signs w) (h0 : 0 < w.heap.size) (he : Parl.bothE a b la lb ≠ 0) (hN : Parl.mtN a b la lb = 0) (hW : Parl.mtW a b la lb = []) :
    Calls Tryz.prog 64 #[.string a, .string b] w fun e w' => PMa a b la lb w e w' := by
  have IA := hide (rd_any w a la hLa hha hla hsg h0)
  have IB := hide (fun w' (hb : Below w.heap.size w w') => rd_any w' b lb hLb hhb hlb (hsg.below hb h0) (Nat.lt_of_lt_of_le h0 hb.size))
  have HN := hide hN
  have HW := hide hW
  have HE := hide he
  clear hLa hha hla hLb hhb hlb hsg he hN hW
  go_enter Tryz.func64, Tryz.ntmps64
  go_wp2_with fail
  refine (unhide IA).mono ?_
  rintro e w1 ⟨x, xo, xl, xc, rfl, -, hb1⟩
  have HB1 := hide (hb1.alloc hb1.size (.cells #[.int .i64 x.k, .int .i64 x.val, .string x.tx, .slice x.ao x.n x.cap, .slice xo xl xc, .int .i64 (Parl.erS a la : Int)] 115))
  have hz1 := hb1.size
  clear hb1
  generalize hea : Parl.erS a la = ea at *
  go_wp2_with fail
  refine (unhide IB _ (unhide HB1)).mono ?_
  rintro e w2 ⟨y, yo, yl, yc, rfl, -, hb2⟩
  have f5 := (hb2.cell (p := ⟨w1.heap.size, 5, none⟩) (by simp)).trans (blkA (heap_alloc_new w1 _) 5)
  simp only [List.getElem?_toArray, List.getElem?_cons_zero, List.getElem?_cons_succ] at f5
  have hz2 := hb2.size
  rw [World.size_alloc] at hz2
  have z5 : w1.heap.size < w2.heap.size := by omega
  have HB2 := hide ((unhide HB1).trans (hb2.mono (by rw [World.size_alloc]; omega)))
  clear hb2
  generalize heb : Parl.erS b lb = eb at *
  have HFE := hide (show Parl.fe ea eb = Parl.bothE a b la lb by rw [← hea, ← heb]; exact Parl.fe_both a b la lb)
  clear hea heb
  go_wp2_with fail
  refine (firstError_any _ ea eb).mono ?_
  rintro e w3 ⟨rfl, rfl⟩
  rw [unhide HFE]
  have hne : ((Parl.bothE a b la lb : Int) != 0) = true := by simpa using unhide HE
  generalize hee : Parl.bothE a b la lb = er at *
  have HEE := hide hee
  clear hee
  go_wp2_with fail
  refine bodyPost_ret (v := .tuple #[.int .i64 0, .slice none 0 0, .int .i64 er]) (by simp [results, Tryz.results64, go_sem]) rfl ?_
  refine ⟨.slice none 0 0, by rw [unhide HN, show Parl.mtE a b la lb = er from unhide HEE]; rfl, ?_, (unhide HB2).alloc (by omega) _⟩
  rw [unhide HW]
  exact World.ownsRow_nil _ _ _ _
end Go.Proofs.YthfjnfcekeknlaaGreatDoor
namespace Go.Proofs.YthfjnfcekeknlaaGreatDoor
open Go.RowKit

theorem wtd_filter {T : List Nat} {wt : List (List UInt8)} : ∀ {V : List Nat} {ns : List ByteArray}, All2 (fun v (x : ByteArray) => v ∈ T ↔ x.toList ∈ wt) V ns → nmsA (wtd T V ns) = (nmsA ns).filter fun x => decide (x ∈ wt)
  | [], [], _ => rfl
  | v :: V, x :: ns, h => by
    have ih := wtd_filter h.2
    unfold nmsA at ih ⊢
    unfold wtd
    by_cases q : v ∈ T
    · rw [if_pos q, List.map_cons, List.map_cons, List.filter_cons_of_pos (by simpa using h.1.1 q), ih]
    · rw [if_neg q, List.map_cons, List.filter_cons_of_neg (by simpa using fun r => q (h.1.2 r)), ih]
theorem all2_of {α β : Type} {A : α → β → Prop} : ∀ {xs : List α} {ys : List β}, xs.length = ys.length → (∀ i (h : i < xs.length) (h' : i < ys.length), A xs[i] ys[i]) → All2 A xs ys
  | [], [], _, _ => trivial
  | x :: xs, y :: ys, hl, h => ⟨h 0 (by simp) (by simp), all2_of (by simpa using hl) fun i h1 h2 => h (i + 1) (Nat.succ_lt_succ h1) (Nat.succ_lt_succ h2)⟩
theorem wtd_waits {T V : List Nat} {ns : List ByteArray} {l : Parl.Lk} {t : Parl.Tm} (hN : nmsA ns = Parl.namesF 8 [] t) (hV : V.Nodup) (hl : V.length = ns.length) (hw : WtA V (nmsA ns) T l.wt) : nmsA (wtd T V ns) = l.waits t := by
  unfold Parl.Lk.waits
  rw [← hN]
  have hnd : (nmsA ns).Nodup := hN ▸ Parl.namesF_nodup 8 t [] (by simp)
  refine wtd_filter (all2_of hl fun i h h' => ?_)
  have hi : i < (nmsA ns).length := by unfold nmsA; simpa using h'
  have he : (nmsA ns)[i] = ns[i].toList := List.getElem_map _
  refine hw.mem hV ⟨he ▸ List.getElem_mem hi, ?_⟩
  have hx : (nmsA ns).idxOf ns[i].toList = i := by
    rw [← he]
    have h1 := List.idxOf_lt_length_of_mem (List.getElem_mem hi)
    have h2 := List.getElem_idxOf h1
    have hp := List.pairwise_iff_getElem.1 hnd
    rcases Nat.lt_trichotomy ((nmsA ns).idxOf (nmsA ns)[i]) i with q | q | q
    · exact absurd h2 (hp _ _ h1 hi q)
    · exact q
    · exact absurd h2.symm (hp _ _ hi h1 q)
  rw [hx]
  exact List.getElem?_eq_getElem h
end Go.Proofs.YthfjnfcekeknlaaGreatDoor
namespace Parl
theorem mt_is {a b : ByteArray} {la lb l1 l2 : List Tok} {p t : Tm} (hs : ¬ (64 < a.size ∨ 64 < b.size)) (hp : whole la = .inr (p, l1)) (ht : whole lb = .inr (t, l2)) : bothE a b la lb = 0 ∧ mtN a b la lb = (matF 8 p t Lk.none).says ∧ mtW a b la lb = if (matF 8 p t Lk.none).says = 3 then (matF 8 p t Lk.none).waits t else [] := by
  have hL : mtL a b la lb = some (matF 8 p t Lk.none, t) := by unfold mtL; rw [if_neg hs, hp, ht]
  refine ⟨?_, ?_, ?_⟩
  · rw [bothE_b hs hp, ht]; rfl
  · unfold mtN; rw [hL]
  · unfold mtW; rw [hL]
end Parl
namespace Go.Proofs.YthfjnfcekeknlaaGreatDoor
open Go.RowKit

/-- The store and the scope as they stand first. -/
theorem so_start (w : World) : SoA ((w.alloc (.cells #[.slice none 0 0] 88)).alloc (.cells #[.slice none 0 0] 93)) w.heap.size (w.heap.size + 1) [] [] (rowsA w.heap.size (w.heap.size + 1) none none) := by
  refine ⟨none, 0, none, 0, ⟨?_, ?_, World.ownsRow_nil _ _ _ _, World.ownsRow_nil _ _ _ _, by omega, fun d hd => by cases hd⟩, rfl⟩
  · exact (Below.heap_alloc _ _ _ (by simp)).trans (heap_alloc_new w _)
  · have := heap_alloc_new (w.alloc (.cells #[.slice none 0 0] 88)) (.cells #[.slice none 0 0] 93)
    rw [World.size_alloc] at this
    exact this
theorem lo_start (w : World) : LoA (w.alloc (.cells #[.slice none 0 0, .slice none 0 0, .bool false] 189)) w.heap.size [] [] false (rowsK w.heap.size none none) :=
  ⟨none, 0, none, 0, ⟨heap_alloc_new w _, World.ownsRow_nil _ _ _ _, World.ownsRow_nil _ _ _ _, fun p _ q => by cases q⟩, rfl⟩
theorem st_startM (D : List Nd) (V : List Nat) (N M : List (List UInt8)) : StA D V N M [] [] := ⟨fun _ _ _ _ => Or.inl rfl, fun _ _ _ _ h => by cases h⟩
theorem back_str (ns : List ByteArray) : (nmsA ns).map (fun x => Value.string ⟨x.toArray⟩) = ns.map Value.string := by
  unfold nmsA
  rw [List.map_map]
  refine List.map_congr_left fun b _ => ?_
  show Value.string ⟨b.toList.toArray⟩ = Value.string b
  rw [ByteArray.toList_eq]
theorem says_is {V : List Nat} {N : List (List UInt8)} {T : List Nat} {l : Parl.Lk} (h : WtA V N T l.wt) : (if l.no = true then 2 else if T = [] then 1 else 3 : Int) = (l.says : Int) := by
  have hl := h.length
  unfold Parl.Lk.says
  cases l.no
  · by_cases q : T = []
    · rw [q] at hl
      have : l.wt = [] := List.length_eq_zero_iff.1 hl.symm
      simp [q, this]
    · have : l.wt ≠ [] := fun e => by rw [e] at hl; exact q (List.length_eq_zero_iff.1 hl)
      simp [q, this]
  · rfl

set_option maxHeartbeats 4000000 in
set_option maxRecDepth 100000 in
theorem maA_ok (w : World) (a b : ByteArray) (la lb : List Parl.Tok) (hLa : Parl.Chain a la) (hha : Parl.hd la = Parl.next a 0) (hla : a.size ≤ 64 → la.length ≤ 1000) (hLb : Parl.Chain b lb) (hhb : Parl.hd lb = Parl.next b 0) (hlb : b.size ≤ 64 → lb.length ≤ 1000) (hsg : Signs w) (h0 : 0 < w.heap.size) (hs : ¬ (64 < a.size ∨ 64 < b.size)) (p t : Parl.Tm) (l1 l2 : List Parl.Tok) (hp : Parl.whole la = .inr (p, l1)) (ht : Parl.whole lb = .inr (t, l2)) :
    Calls Tryz.prog 64 #[.string a, .string b] w fun e w' => PMa a b la lb w e w' := by
  have IA := hide (rd_any w a la hLa hha hla hsg h0)
  have IB := hide (fun w' (hb : Below w.heap.size w w') => rd_any w' b lb hLb hhb hlb (hsg.below hb h0) (Nat.lt_of_lt_of_le h0 hb.size))
  have HM := hide (Parl.mt_is hs hp ht)
  have HP := hide hp
  have HT := hide ht
  have HWP := hide (Parl.wfK_term 8 _ _ _ (Parl.whole_is hp).1)
  have HWT := hide (Parl.wfK_term 8 _ _ _ (Parl.whole_is ht).1)
  have hsa : a.size ≤ 64 := by omega
  have hsb : b.size ≤ 64 := by omega
  have hea : Parl.erS a la = 0 := by unfold Parl.erS; rw [if_neg (by omega), hp]; rfl
  have heb : Parl.erS b lb = 0 := by unfold Parl.erS; rw [if_neg (by omega), ht]; rfl
  have HEA := hide hea
  have HEB := hide heb
  clear hLa hha hla hLb hhb hlb hsg hs hp ht hea heb
  go_enter Tryz.func64, Tryz.ntmps64
  go_wp2_with fail
  refine (unhide IA).mono ?_
  rintro e w1 ⟨x, xo, xl, xc, rfl, hx, hb1⟩
  obtain ⟨nx, hrx, hnx, -⟩ := hx p l1 hsa (unhide HP)
  rw [unhide HEA]
  have HRX := hide hrx
  have HNX := hide hnx
  have HB1 := hide (hb1.alloc hb1.size (.cells #[.int .i64 x.k, .int .i64 x.val, .string x.tx, .slice x.ao x.n x.cap, .slice xo xl xc, .int .i64 ((0 : Nat) : Int)] 115))
  have hz1 := hb1.size
  clear hb1 hx hrx hnx
  go_wp2_with fail
  refine (unhide IB _ (unhide HB1)).mono ?_
  rintro e w2 ⟨y, yo, yl, yc, rfl, hy, hb2⟩
  obtain ⟨ny, hry, hny, hoy⟩ := hy t l2 hsb (unhide HT)
  obtain ⟨yo', yc', hyv⟩ := own_shapeT hoy
  cases hyv
  rw [unhide HEB]
  have f0 := (hb2.cell (p := ⟨w1.heap.size, 0, none⟩) (by simp)).trans (blkA (heap_alloc_new w1 _) 0)
  have f1 := (hb2.cell (p := ⟨w1.heap.size, 1, none⟩) (by simp)).trans (blkA (heap_alloc_new w1 _) 1)
  have f2 := (hb2.cell (p := ⟨w1.heap.size, 2, none⟩) (by simp)).trans (blkA (heap_alloc_new w1 _) 2)
  have f3 := (hb2.cell (p := ⟨w1.heap.size, 3, none⟩) (by simp)).trans (blkA (heap_alloc_new w1 _) 3)
  have f5 := (hb2.cell (p := ⟨w1.heap.size, 5, none⟩) (by simp)).trans (blkA (heap_alloc_new w1 _) 5)
  simp only [List.getElem?_toArray, List.getElem?_cons_zero, List.getElem?_cons_succ] at f0 f1 f2 f3 f5
  have hz2 := hb2.size
  rw [World.size_alloc] at hz2
  have z5 : w1.heap.size < w2.heap.size := by omega
  have HRX2 := hide ((unhide HRX).keep (Q := anyA) (w' := w2) fun g cs _ hg _ => ⟨(hb2.block g (by have := blk_lt hg; simp; omega)).trans ((Below.heap_alloc _ _ _ (blk_lt hg)).trans hg), trivial⟩)
  have HB2 := hide ((unhide HB1).trans (hb2.mono (by rw [World.size_alloc]; omega)))
  have HRY := hide hry
  have HNY := hide hny
  have HOY := hide hoy
  clear hb2 hy hry hny hoy
  go_wp2_with fail
  refine (firstError_any _ 0 0).mono ?_
  rintro e w3 ⟨rfl, rfl⟩
  rw [show Parl.fe 0 0 = 0 from rfl]
  go_wp2_with fail
  have hB5 : Below w2.heap.size w2 (((w2.alloc (.cells #[.int .i64 y.k, .int .i64 y.val, .string y.tx, .slice y.ao y.n y.cap, .slice yo ny.length yc, .int .i64 0] 115)).alloc (.cells #[.slice none 0 0] 88)).alloc (.cells #[.slice none 0 0] 93)) := (((Below.refl _ _).alloc (Nat.le_refl _) _).alloc (by simp) _).alloc (by simp; omega) _
  have hR5 := blk_alloc (blk_alloc (heap_alloc_new w2 (.cells #[.int .i64 y.k, .int .i64 y.val, .string y.tx, .slice y.ao y.n y.cap, .slice yo ny.length yc, .int .i64 0] 115)) (.cells #[.slice none 0 0] 88)) (.cells #[.slice none 0 0] 93)
  have hS5 := so_start (w2.alloc (.cells #[.int .i64 y.k, .int .i64 y.val, .string y.tx, .slice y.ao y.n y.cap, .slice yo ny.length yc, .int .i64 0] 115))
  rw [World.size_alloc] at hS5
  generalize hW : ((w2.alloc (.cells #[.int .i64 y.k, .int .i64 y.val, .string y.tx, .slice y.ao y.n y.cap, .slice yo ny.length yc, .int .i64 0] 115)).alloc (.cells #[.slice none 0 0] 88)).alloc (.cells #[.slice none 0 0] 93) = w5 at *
  have hZ5 : w5.heap.size = w2.heap.size + 3 := by rw [← hW]; simp
  clear hW
  have r1 : ¬ rowsA (w2.heap.size + 1) (w2.heap.size + 1 + 1) none none w1.heap.size := by
    rintro (e | e | ⟨p, q, _⟩ | ⟨p, q, _⟩)
    · omega
    · omega
    · cases q
    · cases q
  have rlow : ∀ k, k ≤ w2.heap.size → ¬ rowsA (w2.heap.size + 1) (w2.heap.size + 1 + 1) none none k := by
    rintro k hk (e | e | ⟨p, q, _⟩ | ⟨p, q, _⟩)
    · omega
    · omega
    · cases q
    · cases q
  have IADD := hide (add_all 8 w5 (w2.heap.size + 1) (w2.heap.size + 1 + 1) [] [] _ (nmsA ny) [] y t hS5 ⟨(fun n hn => by cases hn), List.nodup_nil⟩ ((unhide HRY).keep fun g cs _ hg _ => ⟨(hB5.block g (blk_lt hg)).trans hg, rlow g (by have := blk_lt hg; omega)⟩) (unhide HWT) rfl ⟨[], by rw [List.append_nil]; exact unhide HNY⟩ (by decide))
  have f0 := (hB5.cell (p := ⟨w1.heap.size, 0, none⟩) z5).trans f0
  have f1 := (hB5.cell (p := ⟨w1.heap.size, 1, none⟩) z5).trans f1
  have f2 := (hB5.cell (p := ⟨w1.heap.size, 2, none⟩) z5).trans f2
  have f3 := (hB5.cell (p := ⟨w1.heap.size, 3, none⟩) z5).trans f3
  have HRX5 := hide ((unhide HRX2).keep (Q := fun g => g < w2.heap.size) (w' := w5) fun g cs _ hg _ => ⟨(hB5.block g (blk_lt hg)).trans hg, blk_lt hg⟩)
  have HOY5 := hide (own_keepG (unhide HOY) (fun g q => hB5.block g ((unhide HOY).lt g q).2))
  have HOL := hide (fun g q => ((unhide HOY).lt g q).2)
  have HB5 := hide ((unhide HB2).trans (hB5.mono (by omega)))
  clear hS5 hB5
  refine (unhide IADD).mono ?_
  rintro e w6 ⟨n, E, F, R6, rfl, so6, vn6, len6, rn6, el6, -, fr6⟩
  simp only [List.nil_append] at so6 vn6 len6 rn6
  have z6 := fr6.size
  have f0 := (fr6.cell (p := ⟨w1.heap.size, 0, none⟩) (by dsimp only; omega) r1).trans f0
  have f1 := (fr6.cell (p := ⟨w1.heap.size, 1, none⟩) (by dsimp only; omega) r1).trans f1
  have f2 := (fr6.cell (p := ⟨w1.heap.size, 2, none⟩) (by dsimp only; omega) r1).trans f2
  have f3 := (fr6.cell (p := ⟨w1.heap.size, 3, none⟩) (by dsimp only; omega) r1).trans f3
  have HR6 := hide ((fr6.block w2.heap.size (by omega) (rlow _ (Nat.le_refl _))).trans hR5)
  have HRX6 := hide ((unhide HRX5).keep (Q := anyA) (w' := w6) fun g cs hp hg _ => ⟨(fr6.block g (blk_lt hg) (rlow g (by omega))).trans hg, trivial⟩)
  have HOY6 := hide (own_keepG (unhide HOY5) (fun g q => fr6.block g (by have := unhide HOL g q; omega) (rlow g (by have := unhide HOL g q; omega))))
  have HB6 := hide ((unhide HB5).trans (fr6.down (b := w.heap.size) (by have := (unhide HB5).size; omega) (fun k q => by
    rcases Nat.lt_or_ge k w.heap.size with h | h
    · exact absurd q (rlow k (by have := (unhide HB2).size; omega))
    · exact h)))
  have hFN : F.length = (nmsA ny).length := by rw [len6]; exact congrArg List.length (unhide HNY).symm
  have HG := hide (show GrU w6 w6.heap.size (w2.heap.size + 1) (w2.heap.size + 1 + 1) E F R6 (nmsA ny) from ⟨so6, vn6, hFN, Nat.le_refl _⟩)
  have hML : (nmsA nx).length ≤ 100000 := by
    rw [unhide HNX]
    have := Parl.namesK_len 8 p [] (unhide HWP)
    simp only [List.length_nil] at this
    omega
  have HFL := hide (show F.length ≤ 1000000 by have := vn6.len; omega)
  have HFE := hide (show F.length = ny.length by rw [hFN, nmA_len])
  have HVN := hide vn6.one
  have HU7 := hide ((Below.refl w6.heap.size w6).alloc (Nat.le_refl _) (.cells #[.slice none 0 0, .slice none 0 0, .bool false] 189))
  have IM := hide (matA_all 8 w6 (w6.alloc (.cells #[.slice none 0 0, .slice none 0 0, .bool false] 189)) w6.heap.size (w2.heap.size + 1) (w2.heap.size + 1 + 1) E F R6 _ anyA (nmsA ny) (nmsA nx) [] [] x n p t Parl.Lk.none (unhide HG) (unhide HU7) (lo_start w6) (st_startM E F _ _) (by simp) (by rw [unhide HNX]; exact Parl.namesF_nodup 8 p [] (by simp)) hML trivial (unhide HRX6) rn6 (unhide HWP) (unhide HWT) (Nat.le_refl _) (by decide))
  have hz1' : w1.heap.size < w6.heap.size := by omega
  clear so6 vn6 len6 rn6 el6 fr6 hFN hML r1 rlow hR5 IADD
  unfold intV
  go_wp2_with fail
  refine (unhide IM).mono ?_
  rintro e w8 ⟨rfl, S8, T8, R8, h8, -, -, t8, fr8⟩
  have hb8 := (lo_start w6).under fr8 (unhide HU7) (Nat.le_refl _)
  have z8 := hb8.size
  have HSY := hide (saysA_any w8 w6.heap.size S8 T8 _ R8 h8)
  rw [says_is t8] at HSY
  have HTL := hide (show T8.length ≤ 100000000 by
    have q1 := t8.length
    have q2 := (Parl.matF_len 8 p t Parl.Lk.none (unhide HWT) (Nat.le_refl _)).1
    have q3 : 13122 * 3 ^ 8 = 86093442 := by decide
    have q4 : Parl.Lk.none.wt.length = 0 := rfl
    omega)
  have HWW := hide (wtd_waits (t := t) (unhide HNY) (unhide HVN) (unhide HFE) t8)
  have HR8 := hide ((hb8.block w2.heap.size (by omega)).trans (unhide HR6))
  have HOY8 := hide (own_keepG (unhide HOY6) (fun g q => hb8.block g (by have := unhide HOL g q; omega)))
  have HB8 := hide ((unhide HB6).trans (hb8.mono (unhide HB6).size))
  obtain ⟨so, sc, wo, wc, hlo, -⟩ := h8
  obtain ⟨no', nc', vo, vc, hsB, -⟩ := (unhide HG).at hb8
  have c0 := blkA hlo.blk 0
  have c1 := blkA hlo.blk 1
  have c2 := blkA hlo.blk 2
  have cz := blk_lt hlo.blk
  have d0 := blkA hsB.cblk 0
  have dz := blk_lt hsB.cblk
  have e4 := blkA (unhide HR8) 4
  have ez := blk_lt (unhide HR8)
  simp only [List.getElem?_toArray, List.getElem?_cons_zero, List.getElem?_cons_succ] at c0 c1 c2 d0 e4
  have HWO := hide hlo.wown
  have HCO := hide hsB.cown
  clear hlo hsB hb8 t8 fr8 f0 f1 f2 f3 f5
  obtain ⟨hE, hN, hW⟩ := unhide HM
  generalize hl : Parl.matF 8 p t Parl.Lk.none = l at *
  have HE := hide hE
  have HN := hide hN
  have HW := hide hW
  clear hl hE hN hW HM IM
  go_wp2_with fail
  refine (unhide HSY).mono ?_
  rintro e w9 ⟨rfl, rfl⟩
  by_cases hq : l.says = 3
  · rw [hq] at HSY ⊢
    have HQ := hide hq
    clear hq
    go_wp2_with fail
    refine (waitedFor_any w9 _ _ _ T8 F ny so wo vo yo S8.length sc wc vc yc l.no (unhide HWO) (unhide HCO) (unhide HOY8) (unhide HTL) (unhide HFL) (unhide HFE) (by have := unhide HFL; have := unhide HFE; omega)).mono ?_
    rintro e w10 ⟨ov, rfl, how, hb10⟩
    have HOW := hide how
    have HB10 := hide hb10
    clear how hb10
    go_wp2_with fail
    refine bodyPost_ret (v := .tuple #[.int .i64 3, ov, .int .i64 0]) (by simp [results, Tryz.results64, go_sem]) rfl ?_
    refine ⟨ov, ?_, ?_, (unhide HB8).trans ((unhide HB10).mono (unhide HB8).size)⟩
    · rw [unhide HN, unhide HQ, show Parl.mtE a b la lb = 0 from unhide HE]; rfl
    · rw [unhide HW, if_pos (unhide HQ), ← unhide HWW, back_str, nmA_len]
      exact own_down6 (unhide HOW) (unhide HB8).size
  · have t3 : ((l.says : Int) != 3) = true := by simp; omega
    have HW0 := hide (show Parl.mtW a b la lb = [] by rw [unhide HW, if_neg hq])
    clear hq
    go_wp2_with fail
    refine bodyPost_ret (v := .tuple #[.int .i64 (l.says : Int), .slice none 0 0, .int .i64 0]) (by simp [results, Tryz.results64, go_sem]) rfl ?_
    refine ⟨.slice none 0 0, ?_, ?_, unhide HB8⟩
    · rw [unhide HN, show Parl.mtE a b la lb = 0 from unhide HE]; rfl
    · rw [unhide HW0]
      exact World.ownsRow_nil _ _ _ _
end Go.Proofs.YthfjnfcekeknlaaGreatDoor
namespace Go.Proofs.YthfjnfcekeknlaaGreatDoor
open Go.RowKit
theorem maA_any (w : World) (a b : ByteArray) (la lb : List Parl.Tok) (hLa : Parl.Chain a la) (hha : Parl.hd la = Parl.next a 0) (hla : a.size ≤ 64 → la.length ≤ 1000) (hLb : Parl.Chain b lb) (hhb : Parl.hd lb = Parl.next b 0) (hlb : b.size ≤ 64 → lb.length ≤ 1000) (hsg : Signs w) (h0 : 0 < w.heap.size) :
    Calls Tryz.prog 64 #[.string a, .string b] w fun e w' => PMa a b la lb w e w' := by
  have bad : Parl.bothE a b la lb ≠ 0 → Parl.mtL a b la lb = none → Calls Tryz.prog 64 #[.string a, .string b] w fun e w' => PMa a b la lb w e w' := fun h1 h2 =>
    maA_err w a b la lb hLa hha hla hLb hhb hlb hsg h0 h1 (by unfold Parl.mtN; rw [h2]) (by unfold Parl.mtW; rw [h2])
  by_cases hs : 64 < a.size ∨ 64 < b.size
  · exact bad (by unfold Parl.bothE; rw [if_pos hs]; omega) (by unfold Parl.mtL; rw [if_pos hs])
  · rcases hp : Parl.whole la with ⟨er, ps⟩ | ⟨p, l1⟩
    · exact bad (by rw [Parl.bothE_a hs hp]; have := Parl.whole_err2 hp; omega) (by unfold Parl.mtL; rw [if_neg hs, hp])
    · rcases ht : Parl.whole lb with ⟨er, ps⟩ | ⟨t, l2⟩
      · exact bad (by rw [Parl.bothE_b hs hp, ht]; show er ≠ 0; have := Parl.whole_err2 ht; omega) (by unfold Parl.mtL; rw [if_neg hs, hp, ht])
      · exact maA_ok w a b la lb hLa hha hla hLb hhb hlb hsg h0 hs p t l1 l2 hp ht
end Go.Proofs.YthfjnfcekeknlaaGreatDoor
