import Derived.Test.YthfjnfcekeknlaaDoorF11
import Derived.Deep.LoopGhost
import Derived.Deep.RegionHeld3
namespace Go.Proofs.YthfjnfcekeknlaaDoor
open Go.RowKit

/-- The store while a look goes on. -/
structure GrU (u : World) (lb sb cb : Nat) (D : List Nd) (V : List Nat) (R0 : Nat → Prop) (N : List (List UInt8)) : Prop where
  so : SoA u sb cb D V R0
  vn : VarsN D V
  len : V.length = N.length
  lt : u.heap.size ≤ lb
theorem LoA.rows {w : World} {lb : Nat} {S : List Int} {T : List Nat} {no : Bool} {R : Nat → Prop} (h : LoA w lb S T no R) : ∀ k, R k → lb ≤ k ∧ k < w.heap.size := by
  obtain ⟨so, sc, wo, wc, h, rfl⟩ := h
  exact h.rows
theorem LoA.under {w w' u : World} {lb : Nat} {S : List Int} {T : List Nat} {no : Bool} {R R' : Nat → Prop} (h : LoA w lb S T no R) (hf : FrG R R' w w') (hu : Below u.heap.size u w) (hl : u.heap.size ≤ lb) : Below u.heap.size u w' :=
  ⟨hf.os.trans hu.os, hf.tape.trans hu.tape, hf.output.trans hu.output, Nat.le_trans hu.size hf.size, fun k hk => (hf.block k (by have := hu.size; omega) (fun q => by have := (h.rows k q).1; omega)).trans (hu.block k hk)⟩
theorem GrU.at {u w : World} {lb sb cb : Nat} {D : List Nd} {V : List Nat} {R0 : Nat → Prop} {N : List (List UInt8)} (h : GrU u lb sb cb D V R0 N) (hb : Below u.heap.size u w) : SoA w sb cb D V R0 := h.so.below hb
/-- What is to be left. -/
def PCmA (lb : Nat) (S : List Int) (V : List Nat) (N : List (List UInt8)) (l : Parl.Lk) (R : Nat → Prop) (w : World) (e : Ending) (w' : World) : Prop :=
  e = .returned (.tuple #[]) ∧ ∃ T' R', LoA w' lb S T' l.no R' ∧ WtA V N T' l.wt ∧ FrG R R' w w'
def CmpSaid (f : Nat) : Prop := ∀ (u w : World) (lb sb cb : Nat) (D : List Nd) (V : List Nat) (R0 R : Nat → Prop) (N : List (List UInt8)) (S : List Int) (T : List Nat) (a b : Nat) (ta tb : Parl.Tm) (l : Parl.Lk), GrU u lb sb cb D V R0 N → Below u.heap.size u w → LoA w lb S T l.no R → WtA V N T l.wt → RN D V N f a ta → RN D V N f b tb → Parl.wfK f ta → Parl.wfK f tb → T.length + 2 * 3 ^ f ≤ 100000000 →
  Calls Tryd.prog 75 #[.pointer (some ⟨lb, 0, none⟩), .pointer (some ⟨sb, 0, none⟩), .int .i64 (a : Int), .int .i64 (b : Int)] w fun e w' => PCmA lb S V N (Parl.cmpF f ta tb l) R w e w'
theorem RN.lt {D : List Nd} {V : List Nat} {N : List (List UInt8)} {f n : Nat} {t : Parl.Tm} (h : RN D V N f n t) : n < D.length := by
  cases f with
  | zero => exact h.elim
  | succ f => obtain ⟨d, h1, _⟩ := h; exact (List.getElem?_eq_some_iff.1 h1).1

theorem label_at (w : World) (sb cb : Nat) (D : List Nd) (V : List Nat) (R : Nat → Prop) (n : Nat) (d : Nd) (h : SoA w sb cb D V R) (hn : D[n]? = some d) :
    Calls Tryd.prog 47 #[.pointer (some ⟨sb, 0, none⟩), .int .i64 (n : Int)] w fun e w' => e = .returned (.agg #[.int .i64 d.k, .int .i64 d.val, .string d.tx, .int .i64 (d.cnt : Int)]) ∧ Below w.heap.size w w' := by
  obtain ⟨h1, rfl⟩ := List.getElem?_eq_some_iff.1 hn
  exact label_any w sb cb D V R n h h1
theorem args_at (w : World) (sb cb : Nat) (D : List Nd) (V : List Nat) (R : Nat → Prop) (n : Nat) (d : Nd) (h : SoA w sb cb D V R) (hn : D[n]? = some d) :
    Calls Tryd.prog 46 #[.pointer (some ⟨sb, 0, none⟩), .int .i64 (n : Int)] w fun e w' => e = .returned (.slice d.ao d.args.length d.cap) ∧ w' = w := by
  obtain ⟨h1, rfl⟩ := List.getElem?_eq_some_iff.1 hn
  exact args_any w sb cb D V R n h h1
theorem RN.node {D : List Nd} {V : List Nat} {N : List (List UInt8)} {f n : Nat} {t : Parl.Tm} (h : RN D V N (f + 1) n t) : ∃ d, D[n]? = some d ∧ d.k = ak t.kind ∧ (t.kind = 3 → V[N.idxOf t.text.toList]? = some n) := by
  obtain ⟨d, h1, h2, h3, _⟩ := h
  exact ⟨d, h1, h2, h3⟩
set_option maxHeartbeats 2000000 in
theorem cmpA_same (f : Nat) (u w : World) (lb sb cb : Nat) (D : List Nd) (V : List Nat) (R0 R : Nat → Prop) (N : List (List UInt8)) (S : List Int) (T : List Nat) (a : Nat) (ta tb : Parl.Tm) (l : Parl.Lk) (hG : GrU u lb sb cb D V R0 N) (hu : Below u.heap.size u w) (h : LoA w lb S T l.no R) (ht : WtA V N T l.wt) (ha : RN D V N f a ta) (hb : RN D V N f a tb) (wa : Parl.wfK f ta) (wb : Parl.wfK f tb) :
    Calls Tryd.prog 75 #[.pointer (some ⟨lb, 0, none⟩), .pointer (some ⟨sb, 0, none⟩), .int .i64 (a : Int), .int .i64 (a : Int)] w fun e w' => PCmA lb S V N (Parl.cmpF f ta tb l) R w e w' := by
  rw [cmp_same hG.vn.one hG.len f a ta tb l ha hb wa wb]
  have HF := hide (fun w (hu : Below u.heap.size u w) => front_any w sb cb D V R0 a (hG.at hu) ha.lt)
  have HU := hide hu
  have H := hide h
  have HT := hide ht
  clear hG hu h ht ha hb wa wb
  go_enter Tryd.func75, Tryd.ntmps75
  go_wp2_with fail
  refine (unhide HF _ (unhide HU)).mono ?_
  rintro e w2 ⟨rfl, rfl⟩
  unfold intV
  go_wp2_with fail
  refine (unhide HF _ (unhide HU)).mono ?_
  rintro e w2 ⟨rfl, rfl⟩
  unfold intV
  go_wp2_with fail
  go_end0
  exact ⟨rfl, T, R, unhide H, unhide HT, FrG.of_below (Below.refl _ _)⟩

set_option maxHeartbeats 2000000 in
theorem cmpA_two (f : Nat) (u w : World) (lb sb cb : Nat) (D : List Nd) (V : List Nat) (R0 R : Nat → Prop) (N : List (List UInt8)) (S : List Int) (T : List Nat) (a b : Nat) (ta tb : Parl.Tm) (l : Parl.Lk) (hG : GrU u lb sb cb D V R0 N) (hu : Below u.heap.size u w) (h : LoA w lb S T l.no R) (ht : WtA V N T l.wt) (ha : RN D V N (f + 1) a ta) (hb : RN D V N (f + 1) b tb) (_wa : Parl.wfK (f + 1) ta) (_wb : Parl.wfK (f + 1) tb) (hab : a ≠ b) (kka : ta.kind = 3) (kkb : tb.kind = 3) (hl : T.length + 2 * 3 ^ (f + 1) ≤ 100000000) :
    Calls Tryd.prog 75 #[.pointer (some ⟨lb, 0, none⟩), .pointer (some ⟨sb, 0, none⟩), .int .i64 (a : Int), .int .i64 (b : Int)] w fun e w' => PCmA lb S V N (Parl.cmpF (f + 1) ta tb l) R w e w' := by
  have HU := hide hu
  have H := hide h
  have HT := hide ht
  have t0 : ((a : Int) == (b : Int)) = false := by simp; omega
  have HFa := hide (fun w (hu : Below u.heap.size u w) => front_any w sb cb D V R0 a (hG.at hu) ha.lt)
  have HFb := hide (fun w (hu : Below u.heap.size u w) => front_any w sb cb D V R0 b (hG.at hu) hb.lt)
  obtain ⟨⟨ka, va, xa, ca, oa, pa, ga⟩, ea, ja, na⟩ := ha.node
  obtain ⟨⟨kb, vb, xb, cb', ob, pb, gb⟩, eb, jb, nb⟩ := hb.node
  dsimp only at ja jb
  have HLa := hide (fun w (hu : Below u.heap.size u w) => label_at w sb cb D V R0 a _ (hG.at hu) ea)
  have HLb := hide (fun w (hu : Below u.heap.size u w) => label_at w sb cb D V R0 b _ (hG.at hu) eb)
  dsimp only at HLa HLb
  have HWa := hide (fun w T R (hu : Below u.heap.size u w) (h : LoA w lb S T l.no R) (hl : T.length ≤ 100000000) => awaitA_any w lb sb cb D V R0 R S T l.no a _ (hG.at hu) ea h hl)
  have HWb := hide (fun w T R (hu : Below u.heap.size u w) (h : LoA w lb S T l.no R) (hl : T.length ≤ 100000000) => awaitA_any w lb sb cb D V R0 R S T l.no b _ (hG.at hu) eb h hl)
  dsimp only at HWa HWb
  have hp : 3 ≤ 3 ^ (f + 1) := by rw [Nat.pow_succ]; have : 1 ≤ 3 ^ f := Nat.one_le_pow _ _ (by omega); omega
  have HG := hide hG
  have HNa := hide (nd_mem hG.len (na kka))
  have HNb := hide (nd_mem hG.len (nb kkb))
  have HS := hide (show Parl.cmpF (f + 1) ta tb l = (l.wait ta.text.toList).wait tb.text.toList by
    unfold Parl.cmpF
    rw [if_pos kka, if_pos kkb, if_neg (fun (e : ta.text.toList = tb.text.toList) => by have q := unhide HNa; rw [e] at q; exact hab (q.same (unhide HNb)))])
  rw [kka] at ja
  rw [kkb] at jb
  obtain rfl : ka = 1 := ja
  obtain rfl : kb = 1 := jb
  clear hG hu h ht ha hb _wa _wb hab ea eb na nb kka kkb
  go_enter Tryd.func75, Tryd.ntmps75
  go_wp2_with fail
  refine (unhide HFa _ (unhide HU)).mono ?_
  rintro e w2 ⟨rfl, rfl⟩
  unfold intV
  go_wp2_with fail
  refine (unhide HFb _ (unhide HU)).mono ?_
  rintro e w2 ⟨rfl, rfl⟩
  unfold intV
  go_wp2_with fail
  refine (unhide HLa _ (unhide HU)).mono ?_
  rintro e w3 ⟨rfl, hb3⟩
  have HB3 := hide hb3
  have HU3 := hide ((unhide HU).trans (hb3.mono (unhide HU).size))
  clear hb3
  go_wp2_with fail
  refine (unhide HLb _ ((unhide HU3).alloc (Nat.le_trans (unhide HU).size (unhide HB3).size) _)).mono ?_
  rintro e w4 ⟨rfl, hb4⟩
  have f0 := (hb4.cell (p := ⟨w3.heap.size, 0, none⟩) (by simp)).trans (blkA (heap_alloc_new w3 _) 0)
  have f1 := (hb4.cell (p := ⟨w3.heap.size, 1, none⟩) (by simp)).trans (blkA (heap_alloc_new w3 _) 1)
  have f2 := (hb4.cell (p := ⟨w3.heap.size, 2, none⟩) (by simp)).trans (blkA (heap_alloc_new w3 _) 2)
  have f3 := (hb4.cell (p := ⟨w3.heap.size, 3, none⟩) (by simp)).trans (blkA (heap_alloc_new w3 _) 3)
  simp only [List.getElem?_toArray, List.getElem?_cons_zero, List.getElem?_cons_succ] at f0 f1 f2 f3
  have z3 := (unhide HB3).size
  have z4 := hb4.size
  rw [World.size_alloc] at z4
  have z5 : w3.heap.size < w4.heap.size := by omega
  have HB4 := hide ((((unhide HB3).alloc (unhide HB3).size _).trans (hb4.mono (by rw [World.size_alloc]; omega))))
  have HA4 := hide ((hb4.block w3.heap.size (by simp)).trans (heap_alloc_new w3 _))
  clear hb4
  go_wp2_with fail
  have HR := hide (unhide H).rows
  have d0 := blkA (heap_alloc_new w4 (.cells #[.int .i64 1, .int .i64 vb, .string xb, .int .i64 (cb' : Int)] 92)) 0
  have d1 := blkA (heap_alloc_new w4 (.cells #[.int .i64 1, .int .i64 vb, .string xb, .int .i64 (cb' : Int)] 92)) 1
  have d2 := blkA (heap_alloc_new w4 (.cells #[.int .i64 1, .int .i64 vb, .string xb, .int .i64 (cb' : Int)] 92)) 2
  have d3 := blkA (heap_alloc_new w4 (.cells #[.int .i64 1, .int .i64 vb, .string xb, .int .i64 (cb' : Int)] 92)) 3
  simp only [List.getElem?_toArray, List.getElem?_cons_zero, List.getElem?_cons_succ] at d0 d1 d2 d3
  have HB5 := hide ((unhide HB4).alloc (by omega) (.cells #[.int .i64 1, .int .i64 vb, .string xb, .int .i64 (cb' : Int)] 92))
  have HU5 := hide ((unhide HU).trans ((unhide HB5).mono (unhide HU).size))
  refine (unhide HWa _ T R (unhide HU5) ((unhide H).below (unhide HB5)) (by omega)).mono ?_
  rintro e w6 ⟨rfl, R6, h6, fr6⟩
  have HU6 := hide (((unhide H).below (unhide HB5)).under fr6 (unhide HU5) (unhide HG).lt)
  have HFR6 := hide ((FrG.of_below (unhide HB5)).trans fr6)
  have H6 := hide h6
  have z6 := fr6.size
  rw [World.size_alloc] at z6
  have r3 : ¬ R w3.heap.size := fun q => by have := (unhide HR _ q).2; omega
  have r4 : ¬ R w4.heap.size := fun q => by have := (unhide HR _ q).2; omega
  have g0 := (fr6.cell (p := ⟨w3.heap.size, 0, none⟩) (by rw [World.size_alloc]; dsimp only; omega) r3).trans ((World.cell?_alloc_past _ _ _ z5).trans f0)
  have g1 := (fr6.cell (p := ⟨w3.heap.size, 1, none⟩) (by rw [World.size_alloc]; dsimp only; omega) r3).trans ((World.cell?_alloc_past _ _ _ z5).trans f1)
  have g2 := (fr6.cell (p := ⟨w3.heap.size, 2, none⟩) (by rw [World.size_alloc]; dsimp only; omega) r3).trans ((World.cell?_alloc_past _ _ _ z5).trans f2)
  have g3 := (fr6.cell (p := ⟨w3.heap.size, 3, none⟩) (by rw [World.size_alloc]; dsimp only; omega) r3).trans ((World.cell?_alloc_past _ _ _ z5).trans f3)
  have k0 := (fr6.cell (p := ⟨w4.heap.size, 0, none⟩) (by rw [World.size_alloc]; dsimp only; omega) r4).trans d0
  have k1 := (fr6.cell (p := ⟨w4.heap.size, 1, none⟩) (by rw [World.size_alloc]; dsimp only; omega) r4).trans d1
  have k2 := (fr6.cell (p := ⟨w4.heap.size, 2, none⟩) (by rw [World.size_alloc]; dsimp only; omega) r4).trans d2
  have k3 := (fr6.cell (p := ⟨w4.heap.size, 3, none⟩) (by rw [World.size_alloc]; dsimp only; omega) r4).trans d3
  have HN3 := hide (fr6.not (k := w3.heap.size) (by rw [World.size_alloc]; omega) r3)
  have HN4 := hide (fr6.not (k := w4.heap.size) (by rw [World.size_alloc]; omega) r4)
  clear h6 fr6 f0 f1 f2 f3 d0 d1 d2 d3 r3 r4
  have z63 : w3.heap.size < w6.heap.size := by omega
  have z64 : w4.heap.size < w6.heap.size := by omega
  go_wp2_with fail
  refine (unhide HWb _ _ R6 (unhide HU6) (unhide H6) (by have := awT_len 1 T a; omega)).mono ?_
  rintro e w7 ⟨rfl, R7, h7, fr7⟩
  have HU7 := hide ((unhide H6).under fr7 (unhide HU6) (unhide HG).lt)
  have HFR7 := hide ((unhide HFR6).trans fr7)
  have H7 := hide h7
  have z7 := fr7.size
  have f0 := (fr7.cell (p := ⟨w3.heap.size, 0, none⟩) z63 (unhide HN3)).trans g0
  have f1 := (fr7.cell (p := ⟨w3.heap.size, 1, none⟩) z63 (unhide HN3)).trans g1
  have f2 := (fr7.cell (p := ⟨w3.heap.size, 2, none⟩) z63 (unhide HN3)).trans g2
  have f3 := (fr7.cell (p := ⟨w3.heap.size, 3, none⟩) z63 (unhide HN3)).trans g3
  have d0 := (fr7.cell (p := ⟨w4.heap.size, 0, none⟩) z64 (unhide HN4)).trans k0
  have d1 := (fr7.cell (p := ⟨w4.heap.size, 1, none⟩) z64 (unhide HN4)).trans k1
  have d2 := (fr7.cell (p := ⟨w4.heap.size, 2, none⟩) z64 (unhide HN4)).trans k2
  have d3 := (fr7.cell (p := ⟨w4.heap.size, 3, none⟩) z64 (unhide HN4)).trans k3
  have z73 : w3.heap.size < w7.heap.size := by omega
  have z74 : w4.heap.size < w7.heap.size := by omega
  clear h7 fr7 g0 g1 g2 g3 k0 k1 k2 k3 HN3 HN4 HR
  go_wp2_with fail
  go_end0
  rw [unhide HS]
  exact ⟨rfl, _, R7, unhide H7, ((unhide HT).add (unhide HG).vn.one (unhide HNa)).add (unhide HG).vn.one (unhide HNb), unhide HFR7⟩
end Go.Proofs.YthfjnfcekeknlaaDoor
namespace Go.Proofs.YthfjnfcekeknlaaDoor
open Go.RowKit

theorem ba_ext {x y : ByteArray} (h : x.toList = y.toList) : x = y := by
  rw [ByteArray.toList_eq, ByteArray.toList_eq] at h
  exact ByteArray.ext (Array.ext' h)

set_option maxHeartbeats 2000000 in
theorem cmpA_left (f : Nat) (u w : World) (lb sb cb : Nat) (D : List Nd) (V : List Nat) (R0 R : Nat → Prop) (N : List (List UInt8)) (S : List Int) (T : List Nat) (a b : Nat) (ta tb : Parl.Tm) (l : Parl.Lk) (hG : GrU u lb sb cb D V R0 N) (hu : Below u.heap.size u w) (h : LoA w lb S T l.no R) (ht : WtA V N T l.wt) (ha : RN D V N (f + 1) a ta) (hb : RN D V N (f + 1) b tb) (_wa : Parl.wfK (f + 1) ta) (wb : Parl.wfK (f + 1) tb) (hab : a ≠ b) (kka : ta.kind = 3) (kkb : tb.kind ≠ 3) (hl : T.length + 2 * 3 ^ (f + 1) ≤ 100000000) :
    Calls Tryd.prog 75 #[.pointer (some ⟨lb, 0, none⟩), .pointer (some ⟨sb, 0, none⟩), .int .i64 (a : Int), .int .i64 (b : Int)] w fun e w' => PCmA lb S V N (Parl.cmpF (f + 1) ta tb l) R w e w' := by
  have HU := hide hu
  have H := hide h
  have HT := hide ht
  have t0 : ((a : Int) == (b : Int)) = false := by simp; omega
  have HFa := hide (fun w (hu : Below u.heap.size u w) => front_any w sb cb D V R0 a (hG.at hu) ha.lt)
  have HFb := hide (fun w (hu : Below u.heap.size u w) => front_any w sb cb D V R0 b (hG.at hu) hb.lt)
  obtain ⟨⟨ka, va, xa, ca, oa, pa, ga⟩, ea, ja, na⟩ := ha.node
  obtain ⟨⟨kb, vb, xb, cb', ob, pb, gb⟩, eb, jb, nb⟩ := hb.node
  dsimp only at ja jb
  have HLa := hide (fun w (hu : Below u.heap.size u w) => label_at w sb cb D V R0 a _ (hG.at hu) ea)
  have HLb := hide (fun w (hu : Below u.heap.size u w) => label_at w sb cb D V R0 b _ (hG.at hu) eb)
  dsimp only at HLa HLb
  have HWa := hide (fun w T R (hu : Below u.heap.size u w) (h : LoA w lb S T l.no R) (hl : T.length ≤ 100000000) => awaitA_any w lb sb cb D V R0 R S T l.no a _ (hG.at hu) ea h hl)
  have HWb := hide (fun w T R (hu : Below u.heap.size u w) (h : LoA w lb S T l.no R) (hl : T.length ≤ 100000000) => awaitA_any w lb sb cb D V R0 R S T l.no b _ (hG.at hu) eb h hl)
  dsimp only at HWa HWb
  have hp : 3 ≤ 3 ^ (f + 1) := by rw [Nat.pow_succ]; have : 1 ≤ 3 ^ f := Nat.one_le_pow _ _ (by omega); omega
  have HG := hide hG
  have HNa := hide (nd_mem hG.len (na kka))
  have HS := hide (show Parl.cmpF (f + 1) ta tb l = l.wait ta.text.toList by
    unfold Parl.cmpF
    rw [if_pos kka, if_neg kkb])
  rw [kka] at ja
  obtain rfl : ka = 1 := ja
  have t1 : (kb == 1) = false := by rw [jb]; rcases wb.1 with e | e | e <;> first | exact absurd e kkb | (rw [e]; decide)
  clear hG hu h ht ha hb _wa wb hab ea eb na nb kka kkb jb
  go_enter Tryd.func75, Tryd.ntmps75
  go_wp2_with fail
  refine (unhide HFa _ (unhide HU)).mono ?_
  rintro e w2 ⟨rfl, rfl⟩
  unfold intV
  go_wp2_with fail
  refine (unhide HFb _ (unhide HU)).mono ?_
  rintro e w2 ⟨rfl, rfl⟩
  unfold intV
  go_wp2_with fail
  refine (unhide HLa _ (unhide HU)).mono ?_
  rintro e w3 ⟨rfl, hb3⟩
  have HB3 := hide hb3
  have HU3 := hide ((unhide HU).trans (hb3.mono (unhide HU).size))
  clear hb3
  go_wp2_with fail
  refine (unhide HLb _ ((unhide HU3).alloc (Nat.le_trans (unhide HU).size (unhide HB3).size) _)).mono ?_
  rintro e w4 ⟨rfl, hb4⟩
  have f0 := (hb4.cell (p := ⟨w3.heap.size, 0, none⟩) (by simp)).trans (blkA (heap_alloc_new w3 _) 0)
  have f1 := (hb4.cell (p := ⟨w3.heap.size, 1, none⟩) (by simp)).trans (blkA (heap_alloc_new w3 _) 1)
  have f2 := (hb4.cell (p := ⟨w3.heap.size, 2, none⟩) (by simp)).trans (blkA (heap_alloc_new w3 _) 2)
  have f3 := (hb4.cell (p := ⟨w3.heap.size, 3, none⟩) (by simp)).trans (blkA (heap_alloc_new w3 _) 3)
  simp only [List.getElem?_toArray, List.getElem?_cons_zero, List.getElem?_cons_succ] at f0 f1 f2 f3
  have z3 := (unhide HB3).size
  have z4 := hb4.size
  rw [World.size_alloc] at z4
  have z5 : w3.heap.size < w4.heap.size := by omega
  have HB4 := hide ((((unhide HB3).alloc (unhide HB3).size _).trans (hb4.mono (by rw [World.size_alloc]; omega))))
  have HA4 := hide ((hb4.block w3.heap.size (by simp)).trans (heap_alloc_new w3 _))
  clear hb4
  go_wp2_with fail
  have HR := hide (unhide H).rows
  have d0 := blkA (heap_alloc_new w4 (.cells #[.int .i64 kb, .int .i64 vb, .string xb, .int .i64 (cb' : Int)] 92)) 0
  have d1 := blkA (heap_alloc_new w4 (.cells #[.int .i64 kb, .int .i64 vb, .string xb, .int .i64 (cb' : Int)] 92)) 1
  have d2 := blkA (heap_alloc_new w4 (.cells #[.int .i64 kb, .int .i64 vb, .string xb, .int .i64 (cb' : Int)] 92)) 2
  have d3 := blkA (heap_alloc_new w4 (.cells #[.int .i64 kb, .int .i64 vb, .string xb, .int .i64 (cb' : Int)] 92)) 3
  simp only [List.getElem?_toArray, List.getElem?_cons_zero, List.getElem?_cons_succ] at d0 d1 d2 d3
  have HB5 := hide ((unhide HB4).alloc (by omega) (.cells #[.int .i64 kb, .int .i64 vb, .string xb, .int .i64 (cb' : Int)] 92))
  have HU5 := hide ((unhide HU).trans ((unhide HB5).mono (unhide HU).size))
  refine (unhide HWa _ T R (unhide HU5) ((unhide H).below (unhide HB5)) (by omega)).mono ?_
  rintro e w6 ⟨rfl, R6, h6, fr6⟩
  have HU6 := hide (((unhide H).below (unhide HB5)).under fr6 (unhide HU5) (unhide HG).lt)
  have HFR6 := hide ((FrG.of_below (unhide HB5)).trans fr6)
  have H6 := hide h6
  have z6 := fr6.size
  rw [World.size_alloc] at z6
  have r3 : ¬ R w3.heap.size := fun q => by have := (unhide HR _ q).2; omega
  have r4 : ¬ R w4.heap.size := fun q => by have := (unhide HR _ q).2; omega
  have g0 := (fr6.cell (p := ⟨w3.heap.size, 0, none⟩) (by rw [World.size_alloc]; dsimp only; omega) r3).trans ((World.cell?_alloc_past _ _ _ z5).trans f0)
  have g1 := (fr6.cell (p := ⟨w3.heap.size, 1, none⟩) (by rw [World.size_alloc]; dsimp only; omega) r3).trans ((World.cell?_alloc_past _ _ _ z5).trans f1)
  have g2 := (fr6.cell (p := ⟨w3.heap.size, 2, none⟩) (by rw [World.size_alloc]; dsimp only; omega) r3).trans ((World.cell?_alloc_past _ _ _ z5).trans f2)
  have g3 := (fr6.cell (p := ⟨w3.heap.size, 3, none⟩) (by rw [World.size_alloc]; dsimp only; omega) r3).trans ((World.cell?_alloc_past _ _ _ z5).trans f3)
  have k0 := (fr6.cell (p := ⟨w4.heap.size, 0, none⟩) (by rw [World.size_alloc]; dsimp only; omega) r4).trans d0
  have k1 := (fr6.cell (p := ⟨w4.heap.size, 1, none⟩) (by rw [World.size_alloc]; dsimp only; omega) r4).trans d1
  have k2 := (fr6.cell (p := ⟨w4.heap.size, 2, none⟩) (by rw [World.size_alloc]; dsimp only; omega) r4).trans d2
  have k3 := (fr6.cell (p := ⟨w4.heap.size, 3, none⟩) (by rw [World.size_alloc]; dsimp only; omega) r4).trans d3
  have HN3 := hide (fr6.not (k := w3.heap.size) (by rw [World.size_alloc]; omega) r3)
  have HN4 := hide (fr6.not (k := w4.heap.size) (by rw [World.size_alloc]; omega) r4)
  clear h6 fr6 f0 f1 f2 f3 d0 d1 d2 d3 r3 r4
  have z63 : w3.heap.size < w6.heap.size := by omega
  have z64 : w4.heap.size < w6.heap.size := by omega
  go_wp2_with fail
  refine (unhide HWb _ _ R6 (unhide HU6) (unhide H6) (by have := awT_len 1 T a; omega)).mono ?_
  rintro e w7 ⟨rfl, R7, h7, fr7⟩
  have HU7 := hide ((unhide H6).under fr7 (unhide HU6) (unhide HG).lt)
  have HFR7 := hide ((unhide HFR6).trans fr7)
  have H7 := hide h7
  have z7 := fr7.size
  have f0 := (fr7.cell (p := ⟨w3.heap.size, 0, none⟩) z63 (unhide HN3)).trans g0
  have f1 := (fr7.cell (p := ⟨w3.heap.size, 1, none⟩) z63 (unhide HN3)).trans g1
  have f2 := (fr7.cell (p := ⟨w3.heap.size, 2, none⟩) z63 (unhide HN3)).trans g2
  have f3 := (fr7.cell (p := ⟨w3.heap.size, 3, none⟩) z63 (unhide HN3)).trans g3
  have d0 := (fr7.cell (p := ⟨w4.heap.size, 0, none⟩) z64 (unhide HN4)).trans k0
  have d1 := (fr7.cell (p := ⟨w4.heap.size, 1, none⟩) z64 (unhide HN4)).trans k1
  have d2 := (fr7.cell (p := ⟨w4.heap.size, 2, none⟩) z64 (unhide HN4)).trans k2
  have d3 := (fr7.cell (p := ⟨w4.heap.size, 3, none⟩) z64 (unhide HN4)).trans k3
  have z73 : w3.heap.size < w7.heap.size := by omega
  have z74 : w4.heap.size < w7.heap.size := by omega
  clear h7 fr7 g0 g1 g2 g3 k0 k1 k2 k3 HN3 HN4 HR
  have HAT := hide (show awT kb (awT 1 T a) b = addW T a by unfold awT; rw [if_neg (by simpa using t1), if_pos rfl])
  rw [unhide HAT] at H7
  go_wp2_with fail
  go_end0
  rw [unhide HS]
  exact ⟨rfl, _, R7, unhide H7, (unhide HT).add (unhide HG).vn.one (unhide HNa), unhide HFR7⟩

set_option maxHeartbeats 2000000 in
theorem cmpA_right (f : Nat) (u w : World) (lb sb cb : Nat) (D : List Nd) (V : List Nat) (R0 R : Nat → Prop) (N : List (List UInt8)) (S : List Int) (T : List Nat) (a b : Nat) (ta tb : Parl.Tm) (l : Parl.Lk) (hG : GrU u lb sb cb D V R0 N) (hu : Below u.heap.size u w) (h : LoA w lb S T l.no R) (ht : WtA V N T l.wt) (ha : RN D V N (f + 1) a ta) (hb : RN D V N (f + 1) b tb) (wa : Parl.wfK (f + 1) ta) (_wb : Parl.wfK (f + 1) tb) (hab : a ≠ b) (kka : ta.kind ≠ 3) (kkb : tb.kind = 3) (hl : T.length + 2 * 3 ^ (f + 1) ≤ 100000000) :
    Calls Tryd.prog 75 #[.pointer (some ⟨lb, 0, none⟩), .pointer (some ⟨sb, 0, none⟩), .int .i64 (a : Int), .int .i64 (b : Int)] w fun e w' => PCmA lb S V N (Parl.cmpF (f + 1) ta tb l) R w e w' := by
  have HU := hide hu
  have H := hide h
  have HT := hide ht
  have t0 : ((a : Int) == (b : Int)) = false := by simp; omega
  have HFa := hide (fun w (hu : Below u.heap.size u w) => front_any w sb cb D V R0 a (hG.at hu) ha.lt)
  have HFb := hide (fun w (hu : Below u.heap.size u w) => front_any w sb cb D V R0 b (hG.at hu) hb.lt)
  obtain ⟨⟨ka, va, xa, ca, oa, pa, ga⟩, ea, ja, na⟩ := ha.node
  obtain ⟨⟨kb, vb, xb, cb', ob, pb, gb⟩, eb, jb, nb⟩ := hb.node
  dsimp only at ja jb
  have HLa := hide (fun w (hu : Below u.heap.size u w) => label_at w sb cb D V R0 a _ (hG.at hu) ea)
  have HLb := hide (fun w (hu : Below u.heap.size u w) => label_at w sb cb D V R0 b _ (hG.at hu) eb)
  dsimp only at HLa HLb
  have HWa := hide (fun w T R (hu : Below u.heap.size u w) (h : LoA w lb S T l.no R) (hl : T.length ≤ 100000000) => awaitA_any w lb sb cb D V R0 R S T l.no a _ (hG.at hu) ea h hl)
  have HWb := hide (fun w T R (hu : Below u.heap.size u w) (h : LoA w lb S T l.no R) (hl : T.length ≤ 100000000) => awaitA_any w lb sb cb D V R0 R S T l.no b _ (hG.at hu) eb h hl)
  dsimp only at HWa HWb
  have hp : 3 ≤ 3 ^ (f + 1) := by rw [Nat.pow_succ]; have : 1 ≤ 3 ^ f := Nat.one_le_pow _ _ (by omega); omega
  have HG := hide hG
  have HNb := hide (nd_mem hG.len (nb kkb))
  have HS := hide (show Parl.cmpF (f + 1) ta tb l = l.wait tb.text.toList by
    unfold Parl.cmpF
    rw [if_neg kka, if_pos kkb])
  rw [kkb] at jb
  obtain rfl : kb = 1 := jb
  have t1 : (ka == 1) = false := by rw [ja]; rcases wa.1 with e | e | e <;> first | exact absurd e kka | (rw [e]; decide)
  clear hG hu h ht ha hb wa _wb hab ea eb na nb kka kkb ja
  go_enter Tryd.func75, Tryd.ntmps75
  go_wp2_with fail
  refine (unhide HFa _ (unhide HU)).mono ?_
  rintro e w2 ⟨rfl, rfl⟩
  unfold intV
  go_wp2_with fail
  refine (unhide HFb _ (unhide HU)).mono ?_
  rintro e w2 ⟨rfl, rfl⟩
  unfold intV
  go_wp2_with fail
  refine (unhide HLa _ (unhide HU)).mono ?_
  rintro e w3 ⟨rfl, hb3⟩
  have HB3 := hide hb3
  have HU3 := hide ((unhide HU).trans (hb3.mono (unhide HU).size))
  clear hb3
  go_wp2_with fail
  refine (unhide HLb _ ((unhide HU3).alloc (Nat.le_trans (unhide HU).size (unhide HB3).size) _)).mono ?_
  rintro e w4 ⟨rfl, hb4⟩
  have f0 := (hb4.cell (p := ⟨w3.heap.size, 0, none⟩) (by simp)).trans (blkA (heap_alloc_new w3 _) 0)
  have f1 := (hb4.cell (p := ⟨w3.heap.size, 1, none⟩) (by simp)).trans (blkA (heap_alloc_new w3 _) 1)
  have f2 := (hb4.cell (p := ⟨w3.heap.size, 2, none⟩) (by simp)).trans (blkA (heap_alloc_new w3 _) 2)
  have f3 := (hb4.cell (p := ⟨w3.heap.size, 3, none⟩) (by simp)).trans (blkA (heap_alloc_new w3 _) 3)
  simp only [List.getElem?_toArray, List.getElem?_cons_zero, List.getElem?_cons_succ] at f0 f1 f2 f3
  have z3 := (unhide HB3).size
  have z4 := hb4.size
  rw [World.size_alloc] at z4
  have z5 : w3.heap.size < w4.heap.size := by omega
  have HB4 := hide ((((unhide HB3).alloc (unhide HB3).size _).trans (hb4.mono (by rw [World.size_alloc]; omega))))
  have HA4 := hide ((hb4.block w3.heap.size (by simp)).trans (heap_alloc_new w3 _))
  clear hb4
  go_wp2_with fail
  have HR := hide (unhide H).rows
  have d0 := blkA (heap_alloc_new w4 (.cells #[.int .i64 1, .int .i64 vb, .string xb, .int .i64 (cb' : Int)] 92)) 0
  have d1 := blkA (heap_alloc_new w4 (.cells #[.int .i64 1, .int .i64 vb, .string xb, .int .i64 (cb' : Int)] 92)) 1
  have d2 := blkA (heap_alloc_new w4 (.cells #[.int .i64 1, .int .i64 vb, .string xb, .int .i64 (cb' : Int)] 92)) 2
  have d3 := blkA (heap_alloc_new w4 (.cells #[.int .i64 1, .int .i64 vb, .string xb, .int .i64 (cb' : Int)] 92)) 3
  simp only [List.getElem?_toArray, List.getElem?_cons_zero, List.getElem?_cons_succ] at d0 d1 d2 d3
  have HB5 := hide ((unhide HB4).alloc (by omega) (.cells #[.int .i64 1, .int .i64 vb, .string xb, .int .i64 (cb' : Int)] 92))
  have HU5 := hide ((unhide HU).trans ((unhide HB5).mono (unhide HU).size))
  refine (unhide HWa _ T R (unhide HU5) ((unhide H).below (unhide HB5)) (by omega)).mono ?_
  rintro e w6 ⟨rfl, R6, h6, fr6⟩
  have HU6 := hide (((unhide H).below (unhide HB5)).under fr6 (unhide HU5) (unhide HG).lt)
  have HFR6 := hide ((FrG.of_below (unhide HB5)).trans fr6)
  have H6 := hide h6
  have z6 := fr6.size
  rw [World.size_alloc] at z6
  have r3 : ¬ R w3.heap.size := fun q => by have := (unhide HR _ q).2; omega
  have r4 : ¬ R w4.heap.size := fun q => by have := (unhide HR _ q).2; omega
  have g0 := (fr6.cell (p := ⟨w3.heap.size, 0, none⟩) (by rw [World.size_alloc]; dsimp only; omega) r3).trans ((World.cell?_alloc_past _ _ _ z5).trans f0)
  have g1 := (fr6.cell (p := ⟨w3.heap.size, 1, none⟩) (by rw [World.size_alloc]; dsimp only; omega) r3).trans ((World.cell?_alloc_past _ _ _ z5).trans f1)
  have g2 := (fr6.cell (p := ⟨w3.heap.size, 2, none⟩) (by rw [World.size_alloc]; dsimp only; omega) r3).trans ((World.cell?_alloc_past _ _ _ z5).trans f2)
  have g3 := (fr6.cell (p := ⟨w3.heap.size, 3, none⟩) (by rw [World.size_alloc]; dsimp only; omega) r3).trans ((World.cell?_alloc_past _ _ _ z5).trans f3)
  have k0 := (fr6.cell (p := ⟨w4.heap.size, 0, none⟩) (by rw [World.size_alloc]; dsimp only; omega) r4).trans d0
  have k1 := (fr6.cell (p := ⟨w4.heap.size, 1, none⟩) (by rw [World.size_alloc]; dsimp only; omega) r4).trans d1
  have k2 := (fr6.cell (p := ⟨w4.heap.size, 2, none⟩) (by rw [World.size_alloc]; dsimp only; omega) r4).trans d2
  have k3 := (fr6.cell (p := ⟨w4.heap.size, 3, none⟩) (by rw [World.size_alloc]; dsimp only; omega) r4).trans d3
  have HN3 := hide (fr6.not (k := w3.heap.size) (by rw [World.size_alloc]; omega) r3)
  have HN4 := hide (fr6.not (k := w4.heap.size) (by rw [World.size_alloc]; omega) r4)
  clear h6 fr6 f0 f1 f2 f3 d0 d1 d2 d3 r3 r4
  have z63 : w3.heap.size < w6.heap.size := by omega
  have z64 : w4.heap.size < w6.heap.size := by omega
  go_wp2_with fail
  refine (unhide HWb _ _ R6 (unhide HU6) (unhide H6) (by have := awT_len ka T a; omega)).mono ?_
  rintro e w7 ⟨rfl, R7, h7, fr7⟩
  have HU7 := hide ((unhide H6).under fr7 (unhide HU6) (unhide HG).lt)
  have HFR7 := hide ((unhide HFR6).trans fr7)
  have H7 := hide h7
  have z7 := fr7.size
  have f0 := (fr7.cell (p := ⟨w3.heap.size, 0, none⟩) z63 (unhide HN3)).trans g0
  have f1 := (fr7.cell (p := ⟨w3.heap.size, 1, none⟩) z63 (unhide HN3)).trans g1
  have f2 := (fr7.cell (p := ⟨w3.heap.size, 2, none⟩) z63 (unhide HN3)).trans g2
  have f3 := (fr7.cell (p := ⟨w3.heap.size, 3, none⟩) z63 (unhide HN3)).trans g3
  have d0 := (fr7.cell (p := ⟨w4.heap.size, 0, none⟩) z64 (unhide HN4)).trans k0
  have d1 := (fr7.cell (p := ⟨w4.heap.size, 1, none⟩) z64 (unhide HN4)).trans k1
  have d2 := (fr7.cell (p := ⟨w4.heap.size, 2, none⟩) z64 (unhide HN4)).trans k2
  have d3 := (fr7.cell (p := ⟨w4.heap.size, 3, none⟩) z64 (unhide HN4)).trans k3
  have z73 : w3.heap.size < w7.heap.size := by omega
  have z74 : w4.heap.size < w7.heap.size := by omega
  clear h7 fr7 g0 g1 g2 g3 k0 k1 k2 k3 HN3 HN4 HR
  have HAT := hide (show awT 1 (awT ka T a) b = addW T b by unfold awT; rw [if_neg (show ¬ ka = 1 by simpa using t1), if_pos rfl])
  rw [unhide HAT] at H7
  go_wp2_with fail
  go_end0
  rw [unhide HS]
  exact ⟨rfl, _, R7, unhide H7, (unhide HT).add (unhide HG).vn.one (unhide HNb), unhide HFR7⟩

set_option maxHeartbeats 2000000 in
theorem cmpA_bad (f : Nat) (u w : World) (lb sb cb : Nat) (D : List Nd) (V : List Nat) (R0 R : Nat → Prop) (N : List (List UInt8)) (S : List Int) (T : List Nat) (a b : Nat) (ta tb : Parl.Tm) (l : Parl.Lk) (hG : GrU u lb sb cb D V R0 N) (hu : Below u.heap.size u w) (h : LoA w lb S T l.no R) (ht : WtA V N T l.wt) (ha : RN D V N (f + 1) a ta) (hb : RN D V N (f + 1) b tb) (wa : Parl.wfK (f + 1) ta) (wb : Parl.wfK (f + 1) tb) (hab : a ≠ b) (kka : ta.kind ≠ 3) (kkb : tb.kind ≠ 3) (hk : Parl.alike ta tb = false) (hl : T.length + 2 * 3 ^ (f + 1) ≤ 100000000) :
    Calls Tryd.prog 75 #[.pointer (some ⟨lb, 0, none⟩), .pointer (some ⟨sb, 0, none⟩), .int .i64 (a : Int), .int .i64 (b : Int)] w fun e w' => PCmA lb S V N (Parl.cmpF (f + 1) ta tb l) R w e w' := by
  have HU := hide hu
  have H := hide h
  have HT := hide ht
  have t0 : ((a : Int) == (b : Int)) = false := by simp; omega
  have HFa := hide (fun w (hu : Below u.heap.size u w) => front_any w sb cb D V R0 a (hG.at hu) ha.lt)
  have HFb := hide (fun w (hu : Below u.heap.size u w) => front_any w sb cb D V R0 b (hG.at hu) hb.lt)
  obtain ⟨⟨ka, va, xa, ca, oa, pa, ga⟩, ea, ja, na⟩ := ha.node
  obtain ⟨⟨kb, vb, xb, cb', ob, pb, gb⟩, eb, jb, nb⟩ := hb.node
  dsimp only at ja jb
  have HLa := hide (fun w (hu : Below u.heap.size u w) => label_at w sb cb D V R0 a _ (hG.at hu) ea)
  have HLb := hide (fun w (hu : Below u.heap.size u w) => label_at w sb cb D V R0 b _ (hG.at hu) eb)
  dsimp only at HLa HLb
  have HWa := hide (fun w T R (hu : Below u.heap.size u w) (h : LoA w lb S T l.no R) (hl : T.length ≤ 100000000) => awaitA_any w lb sb cb D V R0 R S T l.no a _ (hG.at hu) ea h hl)
  have HWb := hide (fun w T R (hu : Below u.heap.size u w) (h : LoA w lb S T l.no R) (hl : T.length ≤ 100000000) => awaitA_any w lb sb cb D V R0 R S T l.no b _ (hG.at hu) eb h hl)
  dsimp only at HWa HWb
  have hp : 3 ≤ 3 ^ (f + 1) := by rw [Nat.pow_succ]; have : 1 ≤ 3 ^ f := Nat.one_le_pow _ _ (by omega); omega
  have HG := hide hG
  have HS := hide (show Parl.cmpF (f + 1) ta tb l = l.bad by
    unfold Parl.cmpF
    rw [if_neg kka, if_neg kkb, if_neg (by rw [hk]; decide)])
  have t1 : (ka == 1) = false := by rw [ja]; rcases wa.1 with e | e | e <;> first | exact absurd e kka | (rw [e]; decide)
  have t2 : (kb == 1) = false := by rw [jb]; rcases wb.1 with e | e | e <;> first | exact absurd e kkb | (rw [e]; decide)
  have t3 : ¬ (ka = kb ∧ va = vb ∧ xa = xb ∧ ca = cb') := fun q => by
    rw [(alike_iff ha hb wa wb kka kkb ea eb).2 q] at hk
    cases hk
  have HT3 := hide t3
  clear hG hu h ht ha hb wa wb hab ea eb na nb kka kkb ja jb hk t3
  go_enter Tryd.func75, Tryd.ntmps75
  go_wp2_with fail
  refine (unhide HFa _ (unhide HU)).mono ?_
  rintro e w2 ⟨rfl, rfl⟩
  unfold intV
  go_wp2_with fail
  refine (unhide HFb _ (unhide HU)).mono ?_
  rintro e w2 ⟨rfl, rfl⟩
  unfold intV
  go_wp2_with fail
  refine (unhide HLa _ (unhide HU)).mono ?_
  rintro e w3 ⟨rfl, hb3⟩
  have HB3 := hide hb3
  have HU3 := hide ((unhide HU).trans (hb3.mono (unhide HU).size))
  clear hb3
  go_wp2_with fail
  refine (unhide HLb _ ((unhide HU3).alloc (Nat.le_trans (unhide HU).size (unhide HB3).size) _)).mono ?_
  rintro e w4 ⟨rfl, hb4⟩
  have f0 := (hb4.cell (p := ⟨w3.heap.size, 0, none⟩) (by simp)).trans (blkA (heap_alloc_new w3 _) 0)
  have f1 := (hb4.cell (p := ⟨w3.heap.size, 1, none⟩) (by simp)).trans (blkA (heap_alloc_new w3 _) 1)
  have f2 := (hb4.cell (p := ⟨w3.heap.size, 2, none⟩) (by simp)).trans (blkA (heap_alloc_new w3 _) 2)
  have f3 := (hb4.cell (p := ⟨w3.heap.size, 3, none⟩) (by simp)).trans (blkA (heap_alloc_new w3 _) 3)
  simp only [List.getElem?_toArray, List.getElem?_cons_zero, List.getElem?_cons_succ] at f0 f1 f2 f3
  have z3 := (unhide HB3).size
  have z4 := hb4.size
  rw [World.size_alloc] at z4
  have z5 : w3.heap.size < w4.heap.size := by omega
  have HB4 := hide ((((unhide HB3).alloc (unhide HB3).size _).trans (hb4.mono (by rw [World.size_alloc]; omega))))
  have HA4 := hide ((hb4.block w3.heap.size (by simp)).trans (heap_alloc_new w3 _))
  clear hb4
  go_wp2_with fail
  have HR := hide (unhide H).rows
  have d0 := blkA (heap_alloc_new w4 (.cells #[.int .i64 kb, .int .i64 vb, .string xb, .int .i64 (cb' : Int)] 92)) 0
  have d1 := blkA (heap_alloc_new w4 (.cells #[.int .i64 kb, .int .i64 vb, .string xb, .int .i64 (cb' : Int)] 92)) 1
  have d2 := blkA (heap_alloc_new w4 (.cells #[.int .i64 kb, .int .i64 vb, .string xb, .int .i64 (cb' : Int)] 92)) 2
  have d3 := blkA (heap_alloc_new w4 (.cells #[.int .i64 kb, .int .i64 vb, .string xb, .int .i64 (cb' : Int)] 92)) 3
  simp only [List.getElem?_toArray, List.getElem?_cons_zero, List.getElem?_cons_succ] at d0 d1 d2 d3
  have HB5 := hide ((unhide HB4).alloc (by omega) (.cells #[.int .i64 kb, .int .i64 vb, .string xb, .int .i64 (cb' : Int)] 92))
  have HU5 := hide ((unhide HU).trans ((unhide HB5).mono (unhide HU).size))
  refine (unhide HWa _ T R (unhide HU5) ((unhide H).below (unhide HB5)) (by omega)).mono ?_
  rintro e w6 ⟨rfl, R6, h6, fr6⟩
  have HU6 := hide (((unhide H).below (unhide HB5)).under fr6 (unhide HU5) (unhide HG).lt)
  have HFR6 := hide ((FrG.of_below (unhide HB5)).trans fr6)
  have H6 := hide h6
  have z6 := fr6.size
  rw [World.size_alloc] at z6
  have r3 : ¬ R w3.heap.size := fun q => by have := (unhide HR _ q).2; omega
  have r4 : ¬ R w4.heap.size := fun q => by have := (unhide HR _ q).2; omega
  have g0 := (fr6.cell (p := ⟨w3.heap.size, 0, none⟩) (by rw [World.size_alloc]; dsimp only; omega) r3).trans ((World.cell?_alloc_past _ _ _ z5).trans f0)
  have g1 := (fr6.cell (p := ⟨w3.heap.size, 1, none⟩) (by rw [World.size_alloc]; dsimp only; omega) r3).trans ((World.cell?_alloc_past _ _ _ z5).trans f1)
  have g2 := (fr6.cell (p := ⟨w3.heap.size, 2, none⟩) (by rw [World.size_alloc]; dsimp only; omega) r3).trans ((World.cell?_alloc_past _ _ _ z5).trans f2)
  have g3 := (fr6.cell (p := ⟨w3.heap.size, 3, none⟩) (by rw [World.size_alloc]; dsimp only; omega) r3).trans ((World.cell?_alloc_past _ _ _ z5).trans f3)
  have k0 := (fr6.cell (p := ⟨w4.heap.size, 0, none⟩) (by rw [World.size_alloc]; dsimp only; omega) r4).trans d0
  have k1 := (fr6.cell (p := ⟨w4.heap.size, 1, none⟩) (by rw [World.size_alloc]; dsimp only; omega) r4).trans d1
  have k2 := (fr6.cell (p := ⟨w4.heap.size, 2, none⟩) (by rw [World.size_alloc]; dsimp only; omega) r4).trans d2
  have k3 := (fr6.cell (p := ⟨w4.heap.size, 3, none⟩) (by rw [World.size_alloc]; dsimp only; omega) r4).trans d3
  have HN3 := hide (fr6.not (k := w3.heap.size) (by rw [World.size_alloc]; omega) r3)
  have HN4 := hide (fr6.not (k := w4.heap.size) (by rw [World.size_alloc]; omega) r4)
  clear h6 fr6 f0 f1 f2 f3 d0 d1 d2 d3 r3 r4
  have z63 : w3.heap.size < w6.heap.size := by omega
  have z64 : w4.heap.size < w6.heap.size := by omega
  go_wp2_with fail
  refine (unhide HWb _ _ R6 (unhide HU6) (unhide H6) (by have := awT_len ka T a; omega)).mono ?_
  rintro e w7 ⟨rfl, R7, h7, fr7⟩
  have HU7 := hide ((unhide H6).under fr7 (unhide HU6) (unhide HG).lt)
  have HFR7 := hide ((unhide HFR6).trans fr7)
  have H7 := hide h7
  have z7 := fr7.size
  have f0 := (fr7.cell (p := ⟨w3.heap.size, 0, none⟩) z63 (unhide HN3)).trans g0
  have f1 := (fr7.cell (p := ⟨w3.heap.size, 1, none⟩) z63 (unhide HN3)).trans g1
  have f2 := (fr7.cell (p := ⟨w3.heap.size, 2, none⟩) z63 (unhide HN3)).trans g2
  have f3 := (fr7.cell (p := ⟨w3.heap.size, 3, none⟩) z63 (unhide HN3)).trans g3
  have d0 := (fr7.cell (p := ⟨w4.heap.size, 0, none⟩) z64 (unhide HN4)).trans k0
  have d1 := (fr7.cell (p := ⟨w4.heap.size, 1, none⟩) z64 (unhide HN4)).trans k1
  have d2 := (fr7.cell (p := ⟨w4.heap.size, 2, none⟩) z64 (unhide HN4)).trans k2
  have d3 := (fr7.cell (p := ⟨w4.heap.size, 3, none⟩) z64 (unhide HN4)).trans k3
  have z73 : w3.heap.size < w7.heap.size := by omega
  have z74 : w4.heap.size < w7.heap.size := by omega
  clear h7 fr7 g0 g1 g2 g3 k0 k1 k2 k3 HN3 HN4 HR
  have HAT := hide (show awT kb (awT ka T a) b = T by unfold awT; rw [if_neg (show ¬ ka = 1 by simpa using t1), if_neg (show ¬ kb = 1 by simpa using t2)])
  rw [unhide HAT] at H7
  obtain ⟨so, sc, wo, wc, hlo, rfl⟩ := (unhide H7)
  have s2 := blkA hlo.blk 2
  have sf := blkX hlo.blk 2
  have sz := blk_lt hlo.blk
  simp only [List.getElem?_toArray, List.getElem?_cons_zero, List.getElem?_cons_succ] at s2
  have HLO := hide hlo
  clear hlo HAT
  go_wp2_with fail
  all_goals first
    | (exfalso; exact unhide HT3 ⟨by assumption, by assumption, ba_ext (by assumption), by omega⟩)
    | (go_end0; rw [unhide HS]; exact ⟨rfl, T, _, ⟨so, sc, wo, wc, (unhide HLO).bad.1, rfl⟩, unhide HT, (unhide HFR7).trans (unhide HLO).bad.2⟩)
end Go.Proofs.YthfjnfcekeknlaaDoor
namespace Go.Proofs.YthfjnfcekeknlaaDoor
open Go.RowKit

theorem RN.args {D : List Nd} {V : List Nat} {N : List (List UInt8)} {f n : Nat} {t : Parl.Tm} {d : Nd} (h : RN D V N (f + 1) n t) (e : D[n]? = some d) : All2 (RN D V N f) d.args t.args := by
  obtain ⟨d', h1, _, _, _, _, _, h7⟩ := h
  rw [e] at h1
  cases h1
  exact h7
theorem SoA.argsAt {w : World} {sb cb : Nat} {D : List Nd} {V : List Nat} {R : Nat → Prop} (h : SoA w sb cb D V R) {n : Nat} {d : Nd} (e : D[n]? = some d) (hn : d.args ≠ []) : ∃ g, d.ao = some ⟨g, 0, none⟩ ∧ g < w.heap.size ∧ ∀ i (hi : i < d.args.length), w.cell? ⟨g, i, none⟩ = some (.int .i64 (d.args[i] : Int)) := by
  obtain ⟨no, nc, vo, vc, h, rfl⟩ := h
  obtain ⟨g, cs, h1, _, h3, h4⟩ := h.args d (List.mem_of_getElem? e) hn
  refine ⟨g, h1, blk_lt h3, fun i hi => ?_⟩
  rw [blkA h3, ← Array.getElem?_toList, ← List.getElem?_take_of_lt hi, h4, List.getElem?_map, List.getElem?_eq_getElem hi]
  rfl
/-- The loop over the arguments. -/
def LCmA (lb : Nat) (S : List Int) (V : List Nat) (N : List (List UInt8)) (f : Nat) (ta tb : Parl.Tm) (l : Parl.Lk) (R : Nat → Prop) (w : World) (k : Nat) (iv : Value) (wr : World) : Prop :=
  ∃ (j : Nat) (T' : List Nat) (R' : Nat → Prop), k + j = ta.args.length ∧ iv = .int .i64 (j : Int) ∧ LoA wr lb S T' (Parl.two (Parl.cmpF f) (ta.args.take j) (tb.args.take j) l).no R' ∧ WtA V N T' (Parl.two (Parl.cmpF f) (ta.args.take j) (tb.args.take j) l).wt ∧ FrG R R' w wr

set_option maxHeartbeats 4000000 in
theorem cmpA_args {f : Nat} (IH : CmpSaid f) (u w : World) (lb sb cb : Nat) (D : List Nd) (V : List Nat) (R0 R : Nat → Prop) (N : List (List UInt8)) (S : List Int) (T : List Nat) (a b : Nat) (ta tb : Parl.Tm) (l : Parl.Lk) (hG : GrU u lb sb cb D V R0 N) (hu : Below u.heap.size u w) (h : LoA w lb S T l.no R) (ht : WtA V N T l.wt) (ha : RN D V N (f + 1) a ta) (hb : RN D V N (f + 1) b tb) (wa : Parl.wfK (f + 1) ta) (wb : Parl.wfK (f + 1) tb) (hab : a ≠ b) (kka : ta.kind ≠ 3) (kkb : tb.kind ≠ 3) (hk : Parl.alike ta tb = true) (hl : T.length + 2 * 3 ^ (f + 1) ≤ 100000000) :
    Calls Tryd.prog 75 #[.pointer (some ⟨lb, 0, none⟩), .pointer (some ⟨sb, 0, none⟩), .int .i64 (a : Int), .int .i64 (b : Int)] w fun e w' => PCmA lb S V N (Parl.cmpF (f + 1) ta tb l) R w e w' := by
  have HU := hide hu
  have H := hide h
  have HT := hide ht
  have t0 : ((a : Int) == (b : Int)) = false := by simp; omega
  have HFa := hide (fun w (hu : Below u.heap.size u w) => front_any w sb cb D V R0 a (hG.at hu) ha.lt)
  have HFb := hide (fun w (hu : Below u.heap.size u w) => front_any w sb cb D V R0 b (hG.at hu) hb.lt)
  obtain ⟨⟨ka, va, xa, ca, oa, pa, ga⟩, ea, ja, na⟩ := ha.node
  obtain ⟨⟨kb, vb, xb, cb', ob, pb, gb⟩, eb, jb, nb⟩ := hb.node
  dsimp only at ja jb
  have HLa := hide (fun w (hu : Below u.heap.size u w) => label_at w sb cb D V R0 a _ (hG.at hu) ea)
  have HLb := hide (fun w (hu : Below u.heap.size u w) => label_at w sb cb D V R0 b _ (hG.at hu) eb)
  dsimp only at HLa HLb
  have HAwa := hide (fun w T R (hu : Below u.heap.size u w) (h : LoA w lb S T l.no R) (hl : T.length ≤ 100000000) => awaitA_any w lb sb cb D V R0 R S T l.no a _ (hG.at hu) ea h hl)
  have HAwb := hide (fun w T R (hu : Below u.heap.size u w) (h : LoA w lb S T l.no R) (hl : T.length ≤ 100000000) => awaitA_any w lb sb cb D V R0 R S T l.no b _ (hG.at hu) eb h hl)
  dsimp only at HAwa HAwb
  have hp : 3 ≤ 3 ^ (f + 1) := by rw [Nat.pow_succ]; have : 1 ≤ 3 ^ f := Nat.one_le_pow _ _ (by omega); omega
  have HG := hide hG
  have HS := hide (show Parl.cmpF (f + 1) ta tb l = Parl.two (Parl.cmpF f) ta.args tb.args l by
    unfold Parl.cmpF
    rw [if_neg kka, if_neg kkb, if_pos hk])
  have t1 : (ka == 1) = false := by rw [ja]; rcases wa.1 with e | e | e <;> first | exact absurd e kka | (rw [e]; decide)
  obtain ⟨q1, q2, q3, q4⟩ := (alike_iff ha hb wa wb kka kkb ea eb).1 hk
  dsimp only at q1 q2 q3 q4
  subst q1 q2 q3 q4
  have hal := Parl.alike_args hk
  have ra := ha.args ea
  have rb := hb.args eb
  dsimp only at ra rb
  have la := ra.length
  have lb' := rb.length
  have HAa := hide (fun w (hu : Below u.heap.size u w) => args_at w sb cb D V R0 a _ (hG.at hu) ea)
  have HAb := hide (fun w (hu : Below u.heap.size u w) => args_at w sb cb D V R0 b _ (hG.at hu) eb)
  dsimp only at HAa HAb
  rw [la] at HAa
  rw [lb', ← hal] at HAb
  have HCa := hide (fun q => hG.so.argsAt ea q)
  have HCb := hide (fun q => hG.so.argsAt eb q)
  dsimp only at HCa HCb
  have HRa := hide ra
  have HRb := hide rb
  have HLA := hide la
  have HLB := hide lb'
  have HAL := hide hal
  have HWa := hide wa.2.2.2
  have HWb := hide wb.2.2.2
  have HW3 := hide wa.2.2.1
  have HL := hide hl
  have I := hide IH
  clear hG hu h ht ha hb wa wb hab ea eb na nb kka kkb ja jb hk ra rb la lb' hal hl IH
  go_enter Tryd.func75, Tryd.ntmps75
  go_wp2_with fail
  refine (unhide HFa _ (unhide HU)).mono ?_
  rintro e w2 ⟨rfl, rfl⟩
  unfold intV
  go_wp2_with fail
  refine (unhide HFb _ (unhide HU)).mono ?_
  rintro e w2 ⟨rfl, rfl⟩
  unfold intV
  go_wp2_with fail
  refine (unhide HLa _ (unhide HU)).mono ?_
  rintro e w3 ⟨rfl, hb3⟩
  have HB3 := hide hb3
  have HU3 := hide ((unhide HU).trans (hb3.mono (unhide HU).size))
  clear hb3
  go_wp2_with fail
  refine (unhide HLb _ ((unhide HU3).alloc (Nat.le_trans (unhide HU).size (unhide HB3).size) _)).mono ?_
  rintro e w4 ⟨rfl, hb4⟩
  have f0 := (hb4.cell (p := ⟨w3.heap.size, 0, none⟩) (by simp)).trans (blkA (heap_alloc_new w3 _) 0)
  have f1 := (hb4.cell (p := ⟨w3.heap.size, 1, none⟩) (by simp)).trans (blkA (heap_alloc_new w3 _) 1)
  have f2 := (hb4.cell (p := ⟨w3.heap.size, 2, none⟩) (by simp)).trans (blkA (heap_alloc_new w3 _) 2)
  have f3 := (hb4.cell (p := ⟨w3.heap.size, 3, none⟩) (by simp)).trans (blkA (heap_alloc_new w3 _) 3)
  simp only [List.getElem?_toArray, List.getElem?_cons_zero, List.getElem?_cons_succ] at f0 f1 f2 f3
  have z3 := (unhide HB3).size
  have z4 := hb4.size
  rw [World.size_alloc] at z4
  have z5 : w3.heap.size < w4.heap.size := by omega
  have HB4 := hide ((((unhide HB3).alloc (unhide HB3).size _).trans (hb4.mono (by rw [World.size_alloc]; omega))))
  have HA4 := hide ((hb4.block w3.heap.size (by simp)).trans (heap_alloc_new w3 _))
  clear hb4
  go_wp2_with fail
  have HR := hide (unhide H).rows
  have d0 := blkA (heap_alloc_new w4 (.cells #[.int .i64 ka, .int .i64 va, .string xa, .int .i64 (ca : Int)] 92)) 0
  have d1 := blkA (heap_alloc_new w4 (.cells #[.int .i64 ka, .int .i64 va, .string xa, .int .i64 (ca : Int)] 92)) 1
  have d2 := blkA (heap_alloc_new w4 (.cells #[.int .i64 ka, .int .i64 va, .string xa, .int .i64 (ca : Int)] 92)) 2
  have d3 := blkA (heap_alloc_new w4 (.cells #[.int .i64 ka, .int .i64 va, .string xa, .int .i64 (ca : Int)] 92)) 3
  simp only [List.getElem?_toArray, List.getElem?_cons_zero, List.getElem?_cons_succ] at d0 d1 d2 d3
  have HB5 := hide ((unhide HB4).alloc (by omega) (.cells #[.int .i64 ka, .int .i64 va, .string xa, .int .i64 (ca : Int)] 92))
  have HU5 := hide ((unhide HU).trans ((unhide HB5).mono (unhide HU).size))
  refine (unhide HAwa _ T R (unhide HU5) ((unhide H).below (unhide HB5)) (by have := unhide HL; omega)).mono ?_
  rintro e w6 ⟨rfl, R6, h6, fr6⟩
  have HU6 := hide (((unhide H).below (unhide HB5)).under fr6 (unhide HU5) (unhide HG).lt)
  have HFR6 := hide ((FrG.of_below (unhide HB5)).trans fr6)
  have H6 := hide h6
  have z6 := fr6.size
  rw [World.size_alloc] at z6
  have r3 : ¬ R w3.heap.size := fun q => by have := (unhide HR _ q).2; omega
  have r4 : ¬ R w4.heap.size := fun q => by have := (unhide HR _ q).2; omega
  have g0 := (fr6.cell (p := ⟨w3.heap.size, 0, none⟩) (by rw [World.size_alloc]; dsimp only; omega) r3).trans ((World.cell?_alloc_past _ _ _ z5).trans f0)
  have g1 := (fr6.cell (p := ⟨w3.heap.size, 1, none⟩) (by rw [World.size_alloc]; dsimp only; omega) r3).trans ((World.cell?_alloc_past _ _ _ z5).trans f1)
  have g2 := (fr6.cell (p := ⟨w3.heap.size, 2, none⟩) (by rw [World.size_alloc]; dsimp only; omega) r3).trans ((World.cell?_alloc_past _ _ _ z5).trans f2)
  have g3 := (fr6.cell (p := ⟨w3.heap.size, 3, none⟩) (by rw [World.size_alloc]; dsimp only; omega) r3).trans ((World.cell?_alloc_past _ _ _ z5).trans f3)
  have k0 := (fr6.cell (p := ⟨w4.heap.size, 0, none⟩) (by rw [World.size_alloc]; dsimp only; omega) r4).trans d0
  have k1 := (fr6.cell (p := ⟨w4.heap.size, 1, none⟩) (by rw [World.size_alloc]; dsimp only; omega) r4).trans d1
  have k2 := (fr6.cell (p := ⟨w4.heap.size, 2, none⟩) (by rw [World.size_alloc]; dsimp only; omega) r4).trans d2
  have k3 := (fr6.cell (p := ⟨w4.heap.size, 3, none⟩) (by rw [World.size_alloc]; dsimp only; omega) r4).trans d3
  have HN3 := hide (fr6.not (k := w3.heap.size) (by rw [World.size_alloc]; omega) r3)
  have HN4 := hide (fr6.not (k := w4.heap.size) (by rw [World.size_alloc]; omega) r4)
  clear h6 fr6 f0 f1 f2 f3 d0 d1 d2 d3 r3 r4
  have z63 : w3.heap.size < w6.heap.size := by omega
  have z64 : w4.heap.size < w6.heap.size := by omega
  go_wp2_with fail
  refine (unhide HAwb _ _ R6 (unhide HU6) (unhide H6) (by have := awT_len ka T a; have := unhide HL; omega)).mono ?_
  rintro e w7 ⟨rfl, R7, h7, fr7⟩
  have HU7 := hide ((unhide H6).under fr7 (unhide HU6) (unhide HG).lt)
  have HFR7 := hide ((unhide HFR6).trans fr7)
  have H7 := hide h7
  have z7 := fr7.size
  have f0 := (fr7.cell (p := ⟨w3.heap.size, 0, none⟩) z63 (unhide HN3)).trans g0
  have f1 := (fr7.cell (p := ⟨w3.heap.size, 1, none⟩) z63 (unhide HN3)).trans g1
  have f2 := (fr7.cell (p := ⟨w3.heap.size, 2, none⟩) z63 (unhide HN3)).trans g2
  have f3 := (fr7.cell (p := ⟨w3.heap.size, 3, none⟩) z63 (unhide HN3)).trans g3
  have d0 := (fr7.cell (p := ⟨w4.heap.size, 0, none⟩) z64 (unhide HN4)).trans k0
  have d1 := (fr7.cell (p := ⟨w4.heap.size, 1, none⟩) z64 (unhide HN4)).trans k1
  have d2 := (fr7.cell (p := ⟨w4.heap.size, 2, none⟩) z64 (unhide HN4)).trans k2
  have d3 := (fr7.cell (p := ⟨w4.heap.size, 3, none⟩) z64 (unhide HN4)).trans k3
  have z73 : w3.heap.size < w7.heap.size := by omega
  have z74 : w4.heap.size < w7.heap.size := by omega
  clear h7 fr7 g0 g1 g2 g3 k0 k1 k2 k3 HN3 HN4 HR
  have HAT := hide (show awT ka (awT ka T a) b = T by unfold awT; rw [if_neg (show ¬ ka = 1 by simpa using t1), if_neg (show ¬ ka = 1 by simpa using t1)])
  rw [unhide HAT] at H7
  go_wp2_with fail
  have HST := hide (show LCmA lb S V N f ta tb l R w2 ta.args.length (.int .i64 0) w7 from ⟨0, T, R7, by omega, rfl, by simpa [Parl.two] using unhide H7, by simpa [Parl.two] using unhide HT, unhide HFR7⟩)
  clear f0 f1 f2 f3 d0 d1 d2 d3 z3 z4 z5 HB3 HU3 HB4 HA4 HFa HFb HLa HLb HAwa HAwb HAT t0 t1
  refine (unhide HAa _ (unhide HU7)).mono ?_
  rintro e w9 ⟨rfl, rfl⟩
  go_wp2_with fail
  refine (unhide HAb _ (unhide HU7)).mono ?_
  rintro e w9 ⟨rfl, rfl⟩
  go_wp2_with fail
  clear HAa HAb HB5 HU5 HU6 HFR6 H6 HFR7 H7
  go_loopg [14] ta.args.length (fun k iv wr => LCmA lb S V N f ta tb l R w2 k iv wr)
  case atStart => exact unhide HST
  case round =>
    clear HST
    obtain ⟨j, T', R', hkj, rfl, hlo, hwt, hfr⟩ := hrel
    have hur := (unhide H).under hfr (unhide HU) (unhide HG).lt
    by_cases hlt : j < ta.args.length
    · have hja : j < ga.length := by have := unhide HLA; omega
      have hjb : j < gb.length := by have := unhide HLB; have := unhide HAL; omega
      have hlt' : j < tb.args.length := by have := unhide HAL; omega
      obtain ⟨pA, eA, zA, cA⟩ := unhide HCa (fun q => by rw [q] at hja; simp at hja)
      obtain ⟨pB, eB, zB, cB⟩ := unhide HCb (fun q => by rw [q] at hjb; simp at hjb)
      subst eA eB
      have f0 := (hur.cell (p := ⟨pA, j, none⟩) zA).trans (cA j hja)
      have f1 := (hur.cell (p := ⟨pB, j, none⟩) zB).trans (cB j hjb)
      have HF0 := hide (show ∀ w', Below u.heap.size u w' → w'.cell? ⟨pA, j, none⟩ = some (.int .i64 (ga[j] : Int)) ∧ w'.cell? ⟨pB, j, none⟩ = some (.int .i64 (gb[j] : Int)) from fun w' hb => ⟨(hb.cell (p := ⟨pA, j, none⟩) zA).trans (cA j hja), (hb.cell (p := ⟨pB, j, none⟩) zB).trans (cB j hjb)⟩)
      have hlen : T'.length ≤ T.length + j * (2 * 3 ^ f) := by
        have q1 := hwt.length
        have q2 := (unhide HT).length
        have q3 := Parl.two_len (g := Parl.cmpF f) (c := 2 * 3 ^ f) (ta.args.take j) (tb.args.take j) l (fun u hu v m => Parl.cmpF_len f u v m (unhide HWa u (List.mem_of_mem_take hu)))
        rw [List.length_take, Nat.min_eq_left (by omega)] at q3
        omega
      have hcap : T'.length + 2 * 3 ^ f ≤ 100000000 := by
        have q1 := unhide HL
        have q2 : 3 ^ (f + 1) = 3 * 3 ^ f := by rw [Nat.pow_succ, Nat.mul_comm]
        have q3 : j * (2 * 3 ^ f) ≤ 2 * (2 * 3 ^ f) := Nat.mul_le_mul_right _ (by have := unhide HW3; omega)
        omega
      have IC := hide (unhide I u wr.drew lb sb cb D V R0 R' N S T' ga[j] gb[j] ta.args[j] tb.args[j] (Parl.two (Parl.cmpF f) (ta.args.take j) (tb.args.take j) l) (unhide HG) hur.drew (hlo.below (Below.refl _ _).drew) hwt ((unhide HRa).at' j hja hlt) ((unhide HRb).at' j hjb hlt') (unhide HWa _ (List.getElem_mem hlt)) (unhide HWb _ (List.getElem_mem hlt')) hcap)
      rw [← Parl.two_step (g := Parl.cmpF f) ta.args tb.args j hlt hlt' l] at IC
      have HFR := hide hfr
      have HUR := hide hur
      have HLO := hide hlo
      have HKJ := hide hkj
      have HLT := hide hlt
      generalize ga[j] = na at *
      generalize gb[j] = nb at *
      have zr : u.heap.size ≤ wr.heap.size := hur.size
      have zA' : pA < wr.heap.size := by omega
      have zB' : pB < wr.heap.size := by omega
      have hj3 : j ≤ 3 := by have := unhide HW3; omega
      have i0 : (0 : Int) ≤ (j : Int) := by omega
      have i1 : (j : Int) < (ta.args.length : Int) := by omega
      clear hlo hwt hfr hur hkj hlt hlt' hja hjb cA cB hlen hcap
      go_wp2_with fail
      go_region_held3 (fun w' => w'.cell? ⟨pA, j, none⟩ = some (.int .i64 (na : Int)) ∧ w'.cell? ⟨pB, j, none⟩ = some (.int .i64 (nb : Int))) (go_keep) (first
        | (go_at_call 75; refine (unhide IC).mono ?_; rintro e w8 ⟨rfl, T8, R8, h8, t8, fr8⟩; have HFR8 := hide ((unhide HFR).trans ((FrG.of_below (Below.refl _ _).drew).trans fr8)); obtain ⟨k0, k1⟩ := unhide HF0 w8 ((unhide HLO).under ((FrG.of_below (Below.refl _ _).drew).trans fr8) (unhide HUR) (unhide HG).lt); have H8 := hide h8; have T8' := hide t8; clear h8 t8 fr8))
      all_goals
        go_wp2_with fail
        go_roundg (gk - 1)
        case measure => have := unhide HKJ; have := unhide HLT; omega
        case rel => exact ⟨j + 1, T8, R8, by have := unhide HKJ; have := unhide HLT; omega, by go_num, unhide H8, unhide T8', unhide HFR8⟩
    · obtain rfl : j = ta.args.length := by omega
      have HLO := hide hlo
      have HWT := hide hwt
      have HFR := hide hfr
      clear hlo hwt hfr hur hkj
      go_wp2_with fail
      go_end0
      rw [unhide HS]
      have q1 := unhide HLO
      have q2 := unhide HWT
      rw [List.take_length, List.take_of_length_le (by have := unhide HAL; omega)] at q1 q2
      exact ⟨rfl, T', R', q1, q2, unhide HFR⟩
theorem cmpA_all : ∀ f, CmpSaid f
  | 0 => fun _ _ _ _ _ _ _ _ _ _ _ _ _ _ _ _ _ _ _ _ _ h => h.elim
  | f + 1 => fun u w lb sb cb D V R0 R N S T a b ta tb l hG hu h ht ha hb wa wb hl => by
    by_cases hab : a = b
    · subst hab
      exact cmpA_same (f + 1) u w lb sb cb D V R0 R N S T a ta tb l hG hu h ht ha hb wa wb
    · by_cases ka : ta.kind = 3
      · by_cases kb : tb.kind = 3
        · exact cmpA_two f u w lb sb cb D V R0 R N S T a b ta tb l hG hu h ht ha hb wa wb hab ka kb hl
        · exact cmpA_left f u w lb sb cb D V R0 R N S T a b ta tb l hG hu h ht ha hb wa wb hab ka kb hl
      · by_cases kb : tb.kind = 3
        · exact cmpA_right f u w lb sb cb D V R0 R N S T a b ta tb l hG hu h ht ha hb wa wb hab ka kb hl
        · cases hk : Parl.alike ta tb
          · exact cmpA_bad f u w lb sb cb D V R0 R N S T a b ta tb l hG hu h ht ha hb wa wb hab ka kb hk hl
          · exact cmpA_args (cmpA_all f) u w lb sb cb D V R0 R N S T a b ta tb l hG hu h ht ha hb wa wb hab ka kb hk hl
end Go.Proofs.YthfjnfcekeknlaaDoor
namespace Go.Proofs.YthfjnfcekeknlaaDoor
open Go.RowKit

/-- Room for one more. -/
theorem LoB.stand1 {w W w1 : World} {lb : Nat} {S : List Int} {T : List Nat} {no : Bool} {so : Option Addr} {sc : Nat} {wo : Option Addr} {wc : Nat} (h : LoB w lb S T no so sc wo wc) (hW : Below w.heap.size w W) {g cap' : Nat} {n : Int}
    (hown : w1.ownsRow (lb + 1) 3 1 (.slice (some ⟨g, 0, none⟩) (S.length + 1) cap') (S.length + 1) (S.map numV ++ [numV n])) (hg : W.grownBy w1 (Value.slice so S.length sc).ownBlock) (hat : (Value.slice so S.length sc).ownBlock = some g ∨ w.heap.size ≤ g) :
    LoB (w1.setCell ⟨lb, 0, none⟩ (.slice (some ⟨g, 0, none⟩) (S.length + 1) cap')) lb (S ++ [n]) T no (some ⟨g, 0, none⟩) cap' wo wc ∧ FrG (rowsK lb so wo) (rowsK lb (some ⟨g, 0, none⟩) wo) w (w1.setCell ⟨lb, 0, none⟩ (.slice (some ⟨g, 0, none⟩) (S.length + 1) cap')) := by
  have hz := hW.size
  have s0 := blk_lt h.blk
  have keep : ∀ k, k < w.heap.size → k ≠ lb → (∀ p, so = some p → k ≠ p.block) → (w1.setCell ⟨lb, 0, none⟩ (.slice (some ⟨g, 0, none⟩) (S.length + 1) cap')).heap[k]? = w.heap[k]? := fun k h1 h2 h3 => by
    rw [hset _ _ _ _ h2, hg.block k (by omega) (own_free h3), hW.block k h1]
  have row : ∀ k, rowsK lb (some ⟨g, 0, none⟩) wo k → rowsK lb so wo k ∨ w.heap.size ≤ k := by
    rintro k (e | ⟨p, q, e⟩ | e)
    · exact Or.inl (Or.inl e)
    · cases q
      dsimp only at e
      rcases hat with a | a
      · left
        right
        left
        cases so with
        | none => simp [Value.ownBlock] at a
        | some s => simp [Value.ownBlock] at a; exact ⟨s, rfl, by omega⟩
      · right; omega
    · exact Or.inl (Or.inr (Or.inr e))
  have keepR : ∀ k, k < w.heap.size → ¬ rowsK lb so wo k → (w1.setCell ⟨lb, 0, none⟩ (.slice (some ⟨g, 0, none⟩) (S.length + 1) cap')).heap[k]? = w.heap[k]? := fun k hk hr => keep k hk (fun e => hr (Or.inl e)) (fun p q e => hr (Or.inr (Or.inl ⟨p, q, e⟩)))
  refine ⟨⟨?_, ?_, ?_, ?_⟩, ⟨hg.os.trans hW.os, hg.tape.trans hW.tape, hg.output.trans hW.output, by rw [zset]; have := hg.size; omega, keepR, row⟩⟩
  · have q0 : w1.heap[lb]? = some (.cells #[.slice so S.length sc, .slice wo T.length wc, .bool no] 72 (0, 0)) := by
      rw [hg.block lb (by omega) (own_free (fun p q e => by have := h.sown.lt p.block (by rw [q]; rfl); omega)), hW.block lb s0]
      exact h.blk
    have := blk_set q0 0 (.slice (some ⟨g, 0, none⟩) (S.length + 1) cap')
    simpa using this
  · have := own_keepG hown (w' := w1.setCell ⟨lb, 0, none⟩ (.slice (some ⟨g, 0, none⟩) (S.length + 1) cap')) (fun k q => hset _ _ _ _ (by have := (hown.lt k q).1; omega))
    simpa using this
  · refine own_keepG h.wown (fun k q => keep k (h.wown.lt k q).2 (by have := (h.wown.lt k q).1; omega) (fun p e r => ?_))
    cases wo with
    | none => simp [Value.ownBlock] at q
    | some s => simp [Value.ownBlock] at q; exact h.apart p s e rfl (by omega)
  · intro p q hp hq
    cases hp
    have hsp := (h.wown.lt q.block (by rw [hq]; rfl)).2
    rcases hat with a | a
    · cases so with
      | none => simp [Value.ownBlock] at a
      | some s => simp [Value.ownBlock] at a; have := h.apart s q rfl hq; dsimp only; omega
    · dsimp only; omega
/-- A variable of the pattern gets what it stands for. -/
theorem LoB.put {w : World} {lb : Nat} {S : List Int} {T : List Nat} {no : Bool} {g sc : Nat} {wo : Option Addr} {wc : Nat} (h : LoB w lb S T no (some ⟨g, 0, none⟩) sc wo wc) {i : Nat} (_hi : i < S.length) (n : Int) :
    LoB (w.setCell ⟨g, i, none⟩ (.int .i64 n)) lb (S.set i n) T no (some ⟨g, 0, none⟩) sc wo wc ∧ FrG (rowsK lb (some ⟨g, 0, none⟩) wo) (rowsK lb (some ⟨g, 0, none⟩) wo) w (w.setCell ⟨g, i, none⟩ (.int .i64 n)) := by
  have hg := h.sown.lt g rfl
  refine ⟨⟨?_, ?_, own_keepG h.wown (fun k q => hset _ _ _ _ (fun e => ?_)), h.apart⟩, rfl, rfl, rfl, by rw [zset]; exact Nat.le_refl _, fun k _ hr => hset _ _ _ _ (fun e => hr (Or.inr (Or.inl ⟨_, rfl, e⟩))), fun _ q => Or.inl q⟩
  · rw [hset _ _ _ _ (by omega), List.length_set]
    exact h.blk
  · rcases h.sown.2 with ⟨q, _⟩ | ⟨g', cap, cur, q1, q2, q3, q4, q5, q6, q7⟩
    · cases q
    · simp only [Value.slice.injEq, Option.some.injEq, Addr.mk.injEq] at q1
      obtain ⟨⟨rfl, _, _⟩, _, rfl⟩ := q1
      refine ⟨by simp, Or.inr ⟨g, sc, cur.setIfInBounds i (.int .i64 n), by rw [List.length_set], q2, by exact blk_set q3 i (.int .i64 n), by rw [List.length_set]; exact q4, q5, by simp [q6], ?_⟩⟩
      rw [List.length_set, List.map_set, ← q7, Array.toList_setIfInBounds, Nat.mul_one, List.take_set]
      rfl
  · cases wo with
    | none => simp [Value.ownBlock] at q
    | some s => simp [Value.ownBlock] at q; exact h.apart ⟨g, 0, none⟩ s rfl rfl (by dsimp only at e ⊢; omega)
/-- What the pattern's variables M stand for. -/
structure StA (D : List Nd) (V : List Nat) (N M : List (List UInt8)) (S : List Int) (st : List (List UInt8 × Parl.Tm)) : Prop where
  un : ∀ (i : Nat) (x : List UInt8), M[i]? = some x → st.find? (fun q => q.1 == x) = none → S[i]? = none ∨ S[i]? = some (-1)
  kn : ∀ (i : Nat) (x : List UInt8) (q : List UInt8 × Parl.Tm), M[i]? = some x → st.find? (fun q => q.1 == x) = some q → ∃ n : Nat, S[i]? = some (n : Int) ∧ RN D V N 8 n q.2 ∧ Parl.wfK 8 q.2
theorem StA.room {D : List Nd} {V : List Nat} {N M : List (List UInt8)} {S : List Int} {st : List (List UInt8 × Parl.Tm)} (h : StA D V N M S st) : StA D V N M (S ++ [-1]) st := by
  refine ⟨fun i x hx hs => ?_, fun i x q hx hs => ?_⟩
  · rcases h.un i x hx hs with e | e
    · have := List.getElem?_eq_none_iff.1 e
      rcases Nat.lt_or_eq_of_le this with q | q
      · left; simp; omega
      · right; rw [← q]; simp
    · right
      rw [List.getElem?_append_left (List.getElem?_eq_some_iff.1 e).1]
      exact e
  · obtain ⟨n, e, k⟩ := h.kn i x q hx hs
    refine ⟨n, ?_, k⟩
    rw [List.getElem?_append_left (List.getElem?_eq_some_iff.1 e).1]
    exact e
theorem StA.put {D : List Nd} {V : List Nat} {N M : List (List UInt8)} {S : List Int} {st : List (List UInt8 × Parl.Tm)} (h : StA D V N M S st) (hM : M.Nodup) {i n : Nat} {x : List UInt8} {t : Parl.Tm} (hx : M[i]? = some x) (hi : i < S.length) (hs : st.find? (fun q => q.1 == x) = none) (hn : RN D V N 8 n t) (hw : Parl.wfK 8 t) : StA D V N M (S.set i (n : Int)) (st ++ [(x, t)]) := by
  have inj : ∀ (k : Nat) (y : List UInt8), M[k]? = some y → k ≠ i → y ≠ x := fun k y hy hk e => by
    subst e
    obtain ⟨h1, h3⟩ := List.getElem?_eq_some_iff.1 hx
    obtain ⟨h2, h4⟩ := List.getElem?_eq_some_iff.1 hy
    have hp := List.pairwise_iff_getElem.1 hM
    rcases Nat.lt_or_gt_of_ne hk with q | q
    · exact hp _ _ h2 h1 q (h4.trans h3.symm)
    · exact hp _ _ h1 h2 q (h3.trans h4.symm)
  refine ⟨fun k y hy hk => ?_, fun k y q hy hk => ?_⟩
  · rw [List.find?_append] at hk
    have hk1 : st.find? (fun q => q.1 == y) = none := by
      cases e : st.find? (fun q => q.1 == y) with
      | none => rfl
      | some q => rw [e] at hk; cases hk
    rw [hk1] at hk
    by_cases e : k = i
    · subst e
      rw [hx] at hy
      cases hy
      simp at hk
    · rw [List.getElem?_set_ne (Ne.symm e)]
      exact h.un k y hy hk1
  · rw [List.find?_append] at hk
    by_cases e : k = i
    · subst e
      rw [hx] at hy
      cases hy
      rw [hs] at hk
      simp at hk
      subst hk
      exact ⟨n, by simp [hi], hn, hw⟩
    · rw [List.getElem?_set_ne (Ne.symm e)]
      refine h.kn k y q hy ?_
      cases e2 : st.find? (fun q => q.1 == y) with
      | some r => rw [e2] at hk; exact hk
      | none =>
        rw [e2] at hk
        have := inj k y hy e
        simp at hk
        exact absurd hk.1.symm this
end Go.Proofs.YthfjnfcekeknlaaDoor
namespace Go.Proofs.YthfjnfcekeknlaaDoor
open Go.RowKit

/-- What is to be left. -/
def PMt (lb : Nat) (D : List Nd) (V : List Nat) (N M : List (List UInt8)) (l : Parl.Lk) (R : Nat → Prop) (w : World) (e : Ending) (w' : World) : Prop :=
  e = .returned (.tuple #[]) ∧ ∃ S' T' R', LoA w' lb S' T' l.no R' ∧ StA D V N M S' l.st ∧ S'.length ≤ M.length ∧ WtA V N T' l.wt ∧ FrG R R' w w'
/-- The loop that makes room. -/
def LRm (lb : Nat) (D : List Nd) (V : List Nat) (N M : List (List UInt8)) (T : List Nat) (l : Parl.Lk) (R : Nat → Prop) (w : World) (i : Nat) (k : Nat) (wr : World) : Prop :=
  ∃ (S' : List Int) (R' : Nat → Prop), k = i + 1 - S'.length ∧ LoA wr lb S' T l.no R' ∧ StA D V N M S' l.st ∧ S'.length ≤ M.length ∧ FrG R R' w wr

set_option maxHeartbeats 4000000 in
set_option maxRecDepth 100000 in
theorem meetA_any (u w : World) (lb sb cb : Nat) (D : List Nd) (V : List Nat) (R0 R : Nat → Prop) (N M : List (List UInt8)) (S : List Int) (T : List Nat) (i n : Nat) (x : List UInt8) (t : Parl.Tm) (l : Parl.Lk) (hG : GrU u lb sb cb D V R0 N) (hu : Below u.heap.size u w) (h : LoA w lb S T l.no R) (hs : StA D V N M S l.st) (hS : S.length ≤ M.length) (hM : M.Nodup) (hML : M.length ≤ 100000) (ht : WtA V N T l.wt) (hx : M[i]? = some x) (hn : RN D V N 8 n t) (hw : Parl.wfK 8 t) (hl : T.length + 2 * 3 ^ 8 ≤ 100000000) :
    Calls Tryd.prog 51 #[.pointer (some ⟨lb, 0, none⟩), .pointer (some ⟨sb, 0, none⟩), .int .i64 (i : Int), .int .i64 (n : Int)] w fun e w' => PMt lb D V N M (l.meet x t) R w e w' := by
  have HST := hide (show LRm lb D V N M T l R w i (i + 1 - S.length) w from ⟨S, R, rfl, h, hs, hS, FrG.of_below (Below.refl _ _)⟩)
  have hiM : i < M.length := (List.getElem?_eq_some_iff.1 hx).1
  have HG := hide hG
  have HU := hide hu
  have H := hide h
  have HM := hide hM
  have HT := hide ht
  have HX := hide hx
  have HN := hide hn
  have HW := hide hw
  have HL := hide hl
  have t2 : decide ((i : Int) < 0) = false := by simp
  obtain ⟨tj, hj, hy0, hy1, hy2⟩ := info_parts infoIn
  clear hG hu h hs hS hM ht hx hn hw hl
  go_enter Tryd.func51, Tryd.ntmps51
  go_wp2_with fail
  go_loopg [] (i + 1 - S.length) (fun k wr => LRm lb D V N M T l R w i k wr)
  case atStart => exact unhide HST
  case round =>
    clear HST
    obtain ⟨S', R', rfl, hlo, hst, hS', hfr⟩ := hrel
    have hur := (unhide H).under hfr (unhide HU) (unhide HG).lt
    obtain ⟨so, sc, wo, wc, hlb, rfl⟩ := hlo
    have s0 := blkA hlb.blk 0
    have sf := blkX hlb.blk 0
    have sz := blk_lt hlb.blk
    simp only [List.getElem?_toArray, List.getElem?_cons_zero] at s0
    have HLB := hide hlb
    have HST := hide hst
    have HS' := hide hS'
    have HFR := hide hfr
    have HUR := hide hur
    by_cases hlt : S'.length ≤ i
    · have t1 : decide ((S'.length : Int) ≤ (i : Int)) = true := by simp; omega
      have HNS := hide (show some lb ≠ (Value.slice so S'.length sc).ownBlock from fun q => by have := (hlb.sown.lt lb q.symm).1; omega)
      have HLT := hide hlt
      clear hlb hst hS' hfr hur hlt
      have hSl : S'.length ≤ 100000 := by have := unhide HS'; omega
      go_wp2_with (at_builtin; go_must (refine wpList_append_own_at _ rfl (.tmp 20) (.tmp 21) 22 rfl (lb + 1) 3 tj (.int .i64 0) 1 8 Tryd.underlying22 hj hy0 hy1 hy2 rfl (by decide) _ S'.length (S'.map numV) rfl ((unhide HLB).sown.alloc _) ⟨wr.heap.size, 0, none⟩ 1 1 [.int .i64 (-1)] rfl rfl (new1T _ _ _ _ rfl) (by simp [Value.oneCell']) (by unfold maxLen; omega) (by omega) (by simp; omega) ?_); go_must (intro v' w7 hown' hgrow _ hat; obtain ⟨g', cap', hv'⟩ := own_someT hown'; subst hv'; have HN := hide ((unhide HLB).stand1 ((Below.refl _ _).alloc (Nat.le_refl _) _) (n := -1) hown' hgrow (by rcases hat with q | q; exact Or.inl q.symm; (right; simp [Value.ownBlock] at q; omega))); have k1 := (hgrow.cell_far ⟨lb, 0, none⟩ (by simp; omega) (unhide HNS)).trans ((World.cell?_alloc_past _ _ _ sz).trans s0); have k3 : w7.frozen? ⟨lb, 0, none⟩ = false := (by have := blkX (unhide HN).1.blk 0; rwa [World.frozen?_setCell] at this); have zz7 : lb < w7.heap.size := (by have := blk_lt (unhide HN).1.blk; rwa [zset] at this); clear hown' hgrow hat))
      go_roundg (i + 1 - (S'.length + 1))
      case measure => have := unhide HLT; omega
      case rel => exact ⟨S' ++ [-1], _, by simp, ⟨_, _, _, _, (unhide HN).1, rfl⟩, (unhide HST).room, by have := unhide HLT; simp; omega, (unhide HFR).trans (unhide HN).2⟩
    · have hlt' : i < S'.length := by omega
      have t1 : decide ((S'.length : Int) ≤ (i : Int)) = false := by simp; omega
      obtain ⟨g, hg⟩ : ∃ g, so = some ⟨g, 0, none⟩ := by
        rcases hlb.sown.2 with ⟨q, q2⟩ | ⟨g, cp, cur, q, _⟩
        · omega
        · simp only [Value.slice.injEq] at q
          exact ⟨g, q.1⟩
      subst hg
      have gz := (hlb.sown.lt g rfl).2
      have f0 : wr.cell? ⟨g, i, none⟩ = some (.int .i64 S'[i]) := by
        rw [hlb.sown.cellAt i (by omega), List.getElem?_map, List.getElem?_eq_getElem hlt']
        rfl
      have i0 : (0 : Int) ≤ (i : Int) := by omega
      have i1 : (i : Int) < (S'.length : Int) := by omega
      cases hfd : l.st.find? (fun q => q.1 == x) with
      | none =>
        have hv : S'[i] = -1 := by
          rcases hst.un i x (unhide HX) hfd with e | e
          · rw [List.getElem?_eq_getElem hlt'] at e; cases e
          · rw [List.getElem?_eq_getElem hlt'] at e; exact Option.some.inj e
        rw [hv] at f0
        have ff : wr.frozen? ⟨g, i, none⟩ = false := by
          rcases hlb.sown.2 with ⟨q, q2⟩ | ⟨g', cp, cur, q, _, q3, _⟩
          · omega
          · simp only [Value.slice.injEq, Option.some.injEq, Addr.mk.injEq] at q
            obtain ⟨⟨rfl, _⟩, _⟩ := q
            exact blkX q3 i
        have HS := hide (show l.meet x t = ⟨l.st ++ [(x, t)], l.wt, l.no⟩ by unfold Parl.Lk.meet; rw [hfd])
        have HP := hide (hlb.put hlt' (n : Int))
        have HPS := hide (hst.put (unhide HM) (unhide HX) hlt' hfd (unhide HN) (unhide HW))
        clear hlb hst hS' hfr hur hlt hv hfd hlt'
        go_wp2_with fail
        go_end0
        rw [unhide HS]
        exact ⟨rfl, _, T, _, ⟨_, _, _, _, (unhide HP).1, rfl⟩, unhide HPS, by rw [List.length_set]; exact unhide HS', unhide HT, (unhide HFR).trans (unhide HP).2⟩
      | some q =>
        obtain ⟨m, e, hm, hmw⟩ := hst.kn i x q (unhide HX) hfd
        have hv : S'[i] = (m : Int) := by
          rw [List.getElem?_eq_getElem hlt'] at e; exact Option.some.inj e
        rw [hv] at f0
        have t3 : ((m : Int) == -1) = false := by simp
        have HS := hide (show l.meet x t = Parl.cmpF 8 q.2 t l by unfold Parl.Lk.meet; rw [hfd])
        have IC := hide (cmpA_all 8 u wr lb sb cb D V R0 _ N S' T m n q.2 t l (unhide HG) hur ⟨_, _, _, _, hlb, rfl⟩ (unhide HT) hm (unhide HN) hmw (unhide HW) (unhide HL))
        clear hlb hst hS' hfr hur hlt hv hfd hlt' e hm hmw
        go_wp2_with fail
        refine (unhide IC).mono ?_
        rintro e w8 ⟨rfl, T8, R8, h8, t8, fr8⟩
        have H8 := hide h8
        have HT8 := hide t8
        have HFR8 := hide fr8
        clear h8 t8 fr8
        go_wp2_with fail
        go_end0
        rw [unhide HS]
        exact ⟨rfl, S', T8, R8, unhide H8, by rw [Parl.cmpF_st]; exact unhide HST, unhide HS', unhide HT8, (unhide HFR).trans (unhide HFR8)⟩
end Go.Proofs.YthfjnfcekeknlaaDoor
