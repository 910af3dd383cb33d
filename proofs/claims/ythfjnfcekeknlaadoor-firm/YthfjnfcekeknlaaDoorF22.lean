import Derived.Test.YthfjnfcekeknlaaDoorF03
import Derived.Test.YthfjnfcekeknlaaDoorF07
import Derived.Test.YthfjnfcekeknlaaDoorF10
import Derived.Test.YthfjnfcekeknlaaDoorF15
import Derived.Test.YthfjnfcekeknlaaDoorF21
import Derived.Deep.LoopGhost
import Derived.Deep.RegionHeld3
import Derived.Deep.RegionWith
namespace Parl
theorem ptT_take (v : UInt8) (r s : List UInt8) {j : Nat} (h : j < s.length) : ptT v r (s.take (j + 1)) = ptT v r (s.take j) ++ (if s[j] = v then r else [s[j]]) := by
  rw [List.take_add_one, List.getElem?_eq_getElem h, ptT_app]
  congr 1
  show (([s[j]] : List UInt8).flatMap fun c => if c = v then r else [c]) = _
  simp
theorem ptT_len (v : UInt8) {r s : List UInt8} (h : r.length ≤ 10) (hs : s.length ≤ 100) : (ptT v r s).length ≤ 1000 := by
  have : ∀ s : List UInt8, (ptT v r s).length ≤ 10 * s.length := by
    intro s
    induction s with
    | nil => simp [ptT]
    | cons c s ih =>
      unfold ptT at ih ⊢
      rw [List.flatMap_cons, List.length_append, List.length_cons]
      have h1 : (if c = v then r else [c]).length ≤ 10 := by
        split
        · exact h
        · simp
      omega
  have := this s
  omega
theorem get_tl {s : ByteArray} {j : Nat} (h : j < s.size) (h' : j < s.toList.length) : s.toList[j] = s[j] := by
  rw [← get_eq h]
  simp only [Go.ByteArray.toList_eq]
theorem ext_one {s : ByteArray} {j : Nat} (h : j < s.size) (h' : j < s.toList.length) : s.extract j (j + 1) = ⟨[s.toList[j]].toArray⟩ := by
  have e : (s.extract j (j + 1)).toList = [s.toList[j]] := by
    have := one_eq h s.toList[j]
    rw [bAt_lt h, ← get_tl h h'] at this
    simpa using this
  rw [← e, Go.Proofs.YthfjnfcekeknlaaDoor.ba_self]
end Parl
namespace Go.Proofs.YthfjnfcekeknlaaDoor
open Go.RowKit

set_option maxHeartbeats 2000000 in
theorem putK_any (w : World) (s t : ByteArray) (v : UInt8) (hs : s.size ≤ 100) (ht : t.size ≤ 10) :
    Calls Tryd.prog 17 #[.string s, .int .u8 (v.toNat : Int), .string t] w fun e w' => e = .returned (.string ⟨(Parl.ptT v t.toList s.toList).toArray⟩) ∧ Below w.heap.size w w' := by
  have hsl : s.toList.length = s.size := Parl.bytes_len s
  have htl : t.toList.length = t.size := Parl.bytes_len t
  have HTL := hide htl
  have HSL := hide hsl
  clear hsl htl
  go_enter Tryd.func17, Tryd.ntmps17
  go_wp2_with fail
  go_loopg [7, 8] s.size (fun k ov iv wr => ∃ j : Nat, k + j = s.size ∧ iv = .int .i64 (j : Int) ∧ ov = .string ⟨(Parl.ptT v t.toList (s.toList.take j)).toArray⟩ ∧ Below w.heap.size w wr)
  case atStart => exact ⟨0, by omega, rfl, rfl, Below.refl _ _⟩
  case round =>
    obtain ⟨j, hkj, rfl, rfl, hB⟩ := hrel
    have HB := hide hB
    have hlo : (Parl.ptT v t.toList (s.toList.take j)).length ≤ 1000 := Parl.ptT_len v (by have := unhide HTL; omega) (by rw [List.length_take]; have := unhide HSL; omega)
    clear hB
    by_cases hlt : j < s.size
    · have hjl : j < s.toList.length := by have := unhide HSL; omega
      have HST := hide (Parl.ptT_take v t.toList s.toList hjl)
      have HKJ := hide hkj
      have i0 : (0 : Int) ≤ (j : Int) := by omega
      have i1 : (j : Int) < (s.size : Int) := by omega
      generalize hSS : Parl.ptT v t.toList (s.toList.take j) = S at *
      have HSS := hide hSS
      clear hSS hkj
      have hget : s.toList[j] = s[j] := Parl.get_tl hlt hjl
      have HEX := hide (Parl.ext_one hlt hjl)
      rw [hget] at HST HEX
      by_cases hc : s[j] = v
      · have tc : ((s[j].toNat : Int) == (v.toNat : Int)) = true := by rw [hc]; simp
        rw [if_pos hc] at HST
        clear hc hget hjl HEX
        go_wp2_with fail
        go_roundg (gk - 1)
        case measure => have := unhide HKJ; omega
        case rel => exact ⟨j + 1, by have := unhide HKJ; omega, by go_num, by rw [unhide HST, ← ba_app, ba_self], unhide HB⟩
      · have tc : ((s[j].toNat : Int) == (v.toNat : Int)) = false := by
          rw [beq_eq_false_iff_ne]
          intro q
          exact hc (UInt8.toNat_inj.1 (by omega))
        rw [if_neg hc] at HST
        clear hc hget hjl
        go_wp2_with fail
        go_roundg (gk - 1)
        case measure => have := unhide HKJ; omega
        case rel => exact ⟨j + 1, by have := unhide HKJ; omega, by go_num, by rw [unhide HST, ← ba_app, unhide HEX], unhide HB⟩
    · obtain rfl : j = s.size := by omega
      have HT := hide (show s.toList.take s.size = s.toList by rw [← unhide HSL, List.take_length])
      rw [unhide HT] at hlo ⊢
      clear hkj
      go_wp2_with fail
      go_ret
      exact ⟨rfl, unhide HB⟩
end Go.Proofs.YthfjnfcekeknlaaDoor
namespace Go.Proofs.YthfjnfcekeknlaaDoor
open Go.RowKit

def gr4B : List ByteArray := [⟨#[48]⟩, ⟨#[49]⟩, ⟨#[97]⟩, ⟨#[102, 40, 97, 41]⟩]
theorem gr4B_is {m : Nat} (h : m < 4) : ∃ r ∈ Parl.gr4, (gr4B[m]'h).toList = Parl.wr r ∧ (gr4B[m]'h).size ≤ 10 := by
  rcases (show m = 0 ∨ m = 1 ∨ m = 2 ∨ m = 3 by omega) with rfl | rfl | rfl | rfl
  · exact ⟨.n 3 [] 0 [], by simp [Parl.gr4], by rw [Parl.wr_n, if_pos rfl, Parl.dec_one (by decide) (by decide), ByteArray.toList_eq]; rfl, by show 1 ≤ 10; decide⟩
  · exact ⟨.n 3 [] 1 [], by simp [Parl.gr4], by rw [Parl.wr_n, if_pos rfl, Parl.dec_one (by decide) (by decide), ByteArray.toList_eq]; rfl, by show 1 ≤ 10; decide⟩
  · exact ⟨Parl.uA, by simp [Parl.gr4], by rw [ByteArray.toList_eq]; simp [gr4B, Parl.uA, Parl.wr, Parl.wrL, Parl.argS], by show 1 ≤ 10; decide⟩
  · exact ⟨.n 1 [102] 0 [Parl.uA], by simp [Parl.gr4], by rw [ByteArray.toList_eq]; simp [gr4B, Parl.uA, Parl.wr, Parl.wrL, Parl.argS], by show 4 ≤ 10; decide⟩
def vB : ByteArray := ⟨#[88, 89, 90, 87]⟩
theorem vB_at {j : Nat} (h : j < vB.size) : 65 ≤ vB[j].toNat ∧ vB[j].toNat ≤ 90 ∧ Parl.vars4.take (j + 1) = Parl.vars4.take j ++ [([vB[j]], 0)] := by
  have h4 : j < 4 := h
  rcases (show j = 0 ∨ j = 1 ∨ j = 2 ∨ j = 3 by omega) with rfl | rfl | rfl | rfl
  · exact ⟨by show 65 ≤ (88 : UInt8).toNat; decide, by show (88 : UInt8).toNat ≤ 90; decide, rfl⟩
  · exact ⟨by show 65 ≤ (89 : UInt8).toNat; decide, by show (89 : UInt8).toNat ≤ 90; decide, rfl⟩
  · exact ⟨by show 65 ≤ (90 : UInt8).toNat; decide, by show (90 : UInt8).toNat ≤ 90; decide, rfl⟩
  · exact ⟨by show 65 ≤ (87 : UInt8).toNat; decide, by show (87 : UInt8).toNat ≤ 90; decide, rfl⟩

set_option maxHeartbeats 4000000 in
set_option maxRecDepth 100000 in
theorem groundK (w : World) (xb : Nat) (a : Parl.U) (h : SrcA w xb) (ha : Parl.smp a) (hl : (Parl.wr a).length ≤ 16) :
    Calls Tryd.prog 13 #[.string ⟨(Parl.wr a).toArray⟩, .pointer (some ⟨xb, 0, none⟩)] w fun e w' => (∃ c, Parl.GS a Parl.vars4 c ∧ e = .returned (.string ⟨(Parl.wr c).toArray⟩)) ∧ SrcA w' xb ∧ FrG (OnX xb) (OnX xb) w w' := by
  have HSM := hide ha
  have HL := hide hl
  have HSRC := hide h
  have hx := h.lt
  clear h ha hl
  go_enter Tryd.func13, Tryd.ntmps13
  go_wp2_with fail
  go_loopg [0, 5] 4 (fun k sv iv wr => ∃ (j : Nat) (u : Parl.U), k + j = 4 ∧ iv = .int .i64 (j : Int) ∧ sv = .string ⟨(Parl.wr u).toArray⟩ ∧ Parl.GS a (Parl.vars4.take j) u ∧ SrcA wr xb ∧ FrG (OnX xb) (OnX xb) w wr)
  case atStart => exact ⟨0, a, by omega, rfl, rfl, Parl.GS.start a, unhide HSRC, FrG.of_below (Below.refl _ _)⟩
  case round =>
    obtain ⟨j, u, hkj, rfl, rfl, hgs, hsr, hfr⟩ := hrel
    have hsm := hgs.smp (unhide HSM)
    have hul : (Parl.wr u).length ≤ 64 := by have := unhide HL; omega
    have hxr := hsr.lt
    have HGS := hide hgs
    have HSR := hide hsr
    have HFR := hide hfr
    have HSU := hide hsm.1
    have zz := hfr.size
    clear hgs hsr hfr hsm
    by_cases hlt : j < 4
    · have hjv : j < vB.size := hlt
      obtain ⟨c1, c2, c3⟩ := vB_at hjv
      have HB1 := hide ((Below.refl wr.heap.size wr).alloc (Nat.le_refl _) (.cells #[.string ⟨#[48]⟩, .string ⟨#[49]⟩, .string ⟨#[97]⟩, .string ⟨#[102, 40, 97, 41]⟩] 9))
      have HN := hide (nextK_any (wr.alloc (.cells #[.string ⟨#[48]⟩, .string ⟨#[49]⟩, .string ⟨#[97]⟩, .string ⟨#[102, 40, 97, 41]⟩] 9)) xb 4 ((unhide HSR).below (unhide HB1)) (by omega) (by omega))
      have HKJ := hide hkj
      have t4 : decide ((j : Int) < 4) = true := by simp; omega
      go_wp2_with fail
      refine (unhide HN).mono ?_
      rintro e w2 ⟨⟨m, hm, rfl⟩, hs2, fr2⟩
      have f0 : w2.cell? ⟨wr.heap.size, m, none⟩ = some (.string (gr4B[m]'hm)) := by
        rw [strs_at (heap_alloc_new wr _) (by omega) fr2 m]
        rcases (show m = 0 ∨ m = 1 ∨ m = 2 ∨ m = 3 by omega) with rfl | rfl | rfl | rfl <;> rfl
      obtain ⟨r, r1, r2, r3⟩ := gr4B_is hm
      have gz : wr.heap.size < w2.heap.size := by have := fr2.size; rw [World.size_alloc] at this; omega
      have i0 : (0 : Int) ≤ (m : Int) := by omega
      have i1 : (m : Int) < 4 := by omega
      have j0 : (0 : Int) ≤ (j : Int) := by omega
      have j1 : (j : Int) < 4 := by omega
      have HS2 := hide hs2
      have HF2 := hide ((unhide HFR).trans ((FrG.of_below (unhide HB1)).trans fr2))
      have HR1 := hide r1
      have IP := hide (fun W => putK_any W ⟨(Parl.wr u).toArray⟩ (gr4B[m]'hm) vB[j] (by show (Parl.wr u).toArray.size ≤ 100; simp; omega) r3)
      rw [r2, Parl.ba_list, ← Parl.wr_put c1 c2 r u (unhide HSU)] at IP
      have HNX := hide ((unhide HGS).put ([vB[j]], 0) r1)
      rw [← c3] at HNX
      generalize gr4B[m] = tt at *
      unfold vB at IP
      clear hs2 fr2 r1 r2 r3 c1 c2 c3
      go_wp2_with fail
      go_region_held3 (fun w' => w'.cell? ⟨wr.heap.size, m, none⟩ = some (.string tt)) (first | go_keep | (exact ((unhide HB2).cell (p := ⟨wr.heap.size, m, none⟩) gz).trans f0)) ((go_at_call 17; refine (unhide IP _).mono ?_; rintro e w3 ⟨rfl, hb3⟩; have HB2 := hide hb3; clear hb3))
      all_goals
        have HS3 := hide (((unhide HS2).below (Below.refl _ _).drew).below (unhide HB2))
        have HF3 := hide ((unhide HF2).trans ((FrG.of_below (Below.refl _ _).drew).trans (FrG.of_below (unhide HB2))))
        clear f0
        go_wp2_with fail
        go_roundg (gk - 1)
        case measure => have := unhide HKJ; omega
        case rel => exact ⟨j + 1, _, by have := unhide HKJ; omega, by go_num, rfl, unhide HNX, unhide HS3, unhide HF3⟩
    · obtain rfl : j = 4 := by omega
      have HGE := hide (show Parl.GS a Parl.vars4 u from unhide HGS)
      clear hkj
      go_wp2_with fail
      go_ret
      exact ⟨⟨u, unhide HGE, rfl⟩, unhide HSR, unhide HFR⟩
end Go.Proofs.YthfjnfcekeknlaaDoor
namespace Go.Proofs.YthfjnfcekeknlaaDoor
open Go.RowKit

theorem unK (W : World) (he : Env W) {x y : Parl.U} (hx : Parl.Rd x) (hy : Parl.Rd y) (sx : (Parl.wr x).length ≤ 64) (sy : (Parl.wr y).length ≤ 64) :
    Calls Tryd.prog 12 #[.string ⟨(Parl.wr x).toArray⟩, .string ⟨(Parl.wr y).toArray⟩] W fun e w' => e = .returned (.tuple #[.string ⟨(Parl.un2 x y).1.toArray⟩, .bool (Parl.un2 x y).2.1, .int .i64 ((Parl.un2 x y).2.2 : Int)]) ∧ Below W.heap.size W w' := by
  obtain ⟨la, hLa, hha, hla⟩ := Parl.toks_of ⟨(Parl.wr x).toArray⟩
  obtain ⟨lb, hLb, hhb, hlb⟩ := Parl.toks_of ⟨(Parl.wr y).toArray⟩
  rw [← Parl.unA_rd hx hy sx sy rfl rfl hLa hha hLb hhb]
  exact unA_any W _ _ la lb hLa hha (fun h => hla (by omega)) hLb hhb (fun h => hlb (by omega)) he.sg he.pow he.pos
theorem maK (W : World) (he : Env W) {x y : Parl.U} (hx : Parl.Rd x) (hy : Parl.Rd y) (sx : (Parl.wr x).length ≤ 64) (sy : (Parl.wr y).length ≤ 64) :
    Calls Tryd.prog 14 #[.string ⟨(Parl.wr x).toArray⟩, .string ⟨(Parl.wr y).toArray⟩] W fun e w' => ∃ (o : Option Addr) (c : Nat), e = .returned (.tuple #[.int .i64 (Parl.say2 x y : Int), .slice o (Parl.wts2 x y).length c, .int .i64 0]) ∧ w'.ownsRow W.heap.size 9 1 (.slice o (Parl.wts2 x y).length c) (Parl.wts2 x y).length ((Parl.wts2 x y).map fun x => .string ⟨x.toArray⟩) ∧ Below W.heap.size W w' := by
  obtain ⟨la, hLa, hha, hla⟩ := Parl.toks_of ⟨(Parl.wr x).toArray⟩
  obtain ⟨lb, hLb, hhb, hlb⟩ := Parl.toks_of ⟨(Parl.wr y).toArray⟩
  obtain ⟨m1, m2, m3⟩ := Parl.mat_rd hx hy sx sy rfl rfl hLa hha hLb hhb
  refine (maA_any W _ _ la lb hLa hha (fun h => hla (by omega)) hLb hhb (fun h => hlb (by omega)) he.sg he.pos).mono ?_
  rintro e w' ⟨ov, h1, h2, h3⟩
  rw [m1, m2] at h1
  rw [m3] at h2
  rcases h2.2 with ⟨q, q0⟩ | ⟨g, cp, cur, q, _⟩
  · refine ⟨none, 0, ?_, ?_, h3⟩
    · rw [h1, q, q0]
      rfl
    · rw [q0] at h2 ⊢
      rw [q] at h2
      exact h2
  · exact ⟨_, cp, by rw [h1, q]; rfl, by rw [q] at h2; exact h2, h3⟩
/-- A row of texts lies there. -/
def RowS (w : World) (o : Option Addr) (xs : List ByteArray) : Prop := xs ≠ [] → ∃ g, o = some ⟨g, 0, none⟩ ∧ g < w.heap.size ∧ ∀ i (h : i < xs.length), w.cell? ⟨g, i, none⟩ = some (.string xs[i])
theorem RowS.below {w w' : World} {o : Option Addr} {xs : List ByteArray} (h : RowS w o xs) (hb : Below w.heap.size w w') : RowS w' o xs := fun q => by
  obtain ⟨g, h1, h2, h3⟩ := h q
  exact ⟨g, h1, Nat.lt_of_lt_of_le h2 hb.size, fun i hi => (hb.cell (p := ⟨g, i, none⟩) h2).trans (h3 i hi)⟩
theorem RowS.of_own {w : World} {b : Nat} {T : TypeId} {o : Option Addr} {n c : Nat} {ys : List (List UInt8)} (h : w.ownsRow b T 1 (.slice o n c) n (ys.map fun x => Value.string ⟨x.toArray⟩)) (hn : n = ys.length) : RowS w o (ys.map fun x => (⟨x.toArray⟩ : ByteArray)) := fun q => by
  rcases h.2 with ⟨q1, q0⟩ | ⟨g, cp, cur, q1, _⟩
  · rw [q0] at hn
    rw [List.length_eq_zero_iff.1 hn.symm] at q
    exact absurd rfl q
  · simp only [Value.slice.injEq] at q1
    have hg := q1.1
    subst hg
    refine ⟨g, rfl, (h.lt g rfl).2, fun i hi => ?_⟩
    rw [List.length_map] at hi
    rw [h.cellAt i (by omega), List.getElem?_map, List.getElem?_eq_getElem hi]
    simp

set_option maxHeartbeats 2000000 in
theorem sameK (w : World) (xs : List ByteArray) (oa ob : Option Addr) (ca cb : Nat) (ha : RowS w oa xs) (hb : RowS w ob xs) (hl : xs.length ≤ 1000000) :
    Calls Tryd.prog 21 #[.slice oa xs.length ca, .slice ob xs.length cb] w fun e w' => e = .returned (.bool true) ∧ Below w.heap.size w w' := by
  have HA := hide ha
  have HB := hide hb
  clear ha hb
  go_enter Tryd.func21, Tryd.ntmps21
  go_wp2_with fail
  go_loopg [5] xs.length (fun k iv wr => ∃ j : Nat, k + j = xs.length ∧ iv = .int .i64 (j : Int) ∧ Below w.heap.size w wr)
  case atStart => exact ⟨0, by omega, rfl, Below.refl _ _⟩
  case round =>
    obtain ⟨j, hkj, rfl, hbe⟩ := hrel
    have HBE := hide hbe
    have zz := hbe.size
    by_cases hlt : j < xs.length
    · obtain ⟨g, rfl, gz, ga⟩ := unhide HA (fun q => by rw [q] at hlt; simp at hlt)
      obtain ⟨g2, rfl, gz2, gb⟩ := unhide HB (fun q => by rw [q] at hlt; simp at hlt)
      have f0 : wr.cell? ⟨g, j, none⟩ = some (.string xs[j]) := (hbe.cell (p := ⟨g, j, none⟩) gz).trans (ga j hlt)
      have f1 : wr.cell? ⟨g2, j, none⟩ = some (.string xs[j]) := (hbe.cell (p := ⟨g2, j, none⟩) gz2).trans (gb j hlt)
      have i0 : (0 : Int) ≤ (j : Int) := by omega
      have i1 : (j : Int) < (xs.length : Int) := by omega
      have gy : g < wr.heap.size := by omega
      have gy2 : g2 < wr.heap.size := by omega
      generalize xs[j] = x at *
      clear hbe ga gb
      go_wp2_with fail
      go_big_region
      go_wp2_with fail
      go_roundg (gk - 1)
      case measure => omega
      case rel => exact ⟨j + 1, by omega, by go_num, (unhide HBE).drew⟩
    · obtain rfl : j = xs.length := by omega
      clear hbe
      go_wp2_with fail
      go_ret
      exact ⟨rfl, unhide HBE⟩

set_option maxHeartbeats 4000000 in
set_option maxRecDepth 100000 in
theorem joinsK (w : World) (he : Env w) :
    Calls Tryd.prog 10 #[] w fun e w' => e = .returned (.bool true) ∧ Below w.heap.size w w' := by
  obtain ⟨rx, ry, rz⟩ := Parl.j_rd
  have IU := hide (unK w he rx ry (by rw [Parl.j_tx.1]; decide) (by rw [Parl.j_tx.2.1]; decide))
  have IM := hide (fun W (q : Env W) => maK W q rx rz (by rw [Parl.j_tx.1]; decide) (by rw [Parl.j_tx.2.2]; decide))
  rw [Parl.j_tx.1, Parl.j_tx.2.1, Parl.j_un] at IU
  rw [Parl.j_tx.1, Parl.j_tx.2.2, Parl.j_says.1, Parl.j_says.2] at IM
  have HE := hide he
  clear he rx ry rz
  go_enter Tryd.func10, Tryd.ntmps10
  go_wp2_with fail
  refine (unhide IU).mono ?_
  rintro e w1 ⟨rfl, hb1⟩
  have HB1 := hide hb1
  have HE1 := hide ((unhide HE).below hb1)
  clear hb1
  go_wp2_with fail
  refine (unhide IM w1 (unhide HE1)).mono ?_
  rintro e w2 ⟨o, c, rfl, ho, hb2⟩
  have hr := RowS.of_own ho rfl
  have HB2 := hide ((unhide HB1).trans (hb2.mono (unhide HB1).size))
  have HR := hide (hr.below ((Below.refl _ _).alloc (Nat.le_refl _) (.cells #[.string ⟨#[90]⟩] 9)))
  have HR2 := hide (show RowS (w2.alloc (.cells #[.string ⟨#[90]⟩] 9)) (some ⟨w2.heap.size, 0, none⟩) [⟨#[90]⟩] from fun _ => ⟨w2.heap.size, rfl, by simp, fun i hi => by
    obtain rfl : i = 0 := by simpa using hi
    exact blkA (heap_alloc_new w2 _) 0⟩)
  clear hb2 ho hr
  have IS := hide (sameK (w2.alloc (.cells #[.string ⟨#[90]⟩] 9)) [⟨#[90]⟩] o (some ⟨w2.heap.size, 0, none⟩) c 1 (unhide HR) (unhide HR2) (by decide))
  go_wp2_with fail
  refine (unhide IS).mono ?_
  rintro e w3 ⟨rfl, hb3⟩
  have HB3 := hide (((unhide HB2).alloc (unhide HB2).size (.cells #[.string ⟨#[90]⟩] 9)).trans (hb3.mono (by have := (unhide HB2).size; simp; omega)))
  clear hb3
  go_wp2_with fail
  go_ret
  exact ⟨rfl, unhide HB3⟩
end Go.Proofs.YthfjnfcekeknlaaDoor
namespace Parl
/-- What is known of a term that was made. -/
structure Mk (u : U) : Prop where
  smp : Parl.smp u
  rd : Rd u
  hi : high u ≤ 3
  np : ncp (subs u) ≤ 3
  sz : size u ≤ 7
  len : (wr u).length ≤ 16
  vs : ∀ x, has x u → x ∈ vars4
theorem mk_of {t : Tm} (h : gT 2 t) : ∃ u, Mk u ∧ tx t = wr u := by
  obtain ⟨u, h1, h2⟩ := gT_mk 2 t (by omega) h
  obtain ⟨k1, k2, k3, k4, k5, k6⟩ := mk_facts 2 u h1
  exact ⟨u, ⟨k1, k1.rd (by omega), k2, by omega, by omega, by omega, k6⟩, h2⟩
theorem gs_rd {a c : U} (h : Mk a) (hc : GS a vars4 c) : Rd c ∧ (wr c).length ≤ 64 ∧ (∀ v, ¬ has v c) ∧ ∃ γ : Vr → U, sub γ a = c := by
  obtain ⟨k1, k2, k3⟩ := hc.smp h.smp
  obtain ⟨k4, k5⟩ := hc.gnd h.vs
  exact ⟨k1.rd (by have := h.hi; omega), by have := h.len; omega, k4, k5⟩
end Parl
namespace Go.Proofs.YthfjnfcekeknlaaDoor
open Go.RowKit

end Go.Proofs.YthfjnfcekeknlaaDoor
namespace Parl
theorem adL_len (ns : List UInt8) (c : UInt8) : (adL ns c).length ≤ ns.length + 1 := by
  unfold adL
  split <;> simp
theorem fold_adL_len : ∀ (xs ns : List UInt8), (xs.foldl adL ns).length ≤ ns.length + xs.length
  | [], ns => by simp
  | c :: xs, ns => by
    have h1 := fold_adL_len xs (adL ns c)
    have h2 := adL_len ns c
    rw [List.foldl_cons, List.length_cons]
    omega
theorem met_len (s : List UInt8) : (metL s).length ≤ s.length := by
  have h1 := fold_adL_len (ups s) []
  have h2 : (ups s).length ≤ s.length := List.length_filter_le ..
  unfold metL
  simp only [List.length_nil] at h1
  omega
theorem met_up {s : List UInt8} {c : UInt8} (h : c ∈ metL s) : up c = true := by
  unfold metL ups at h
  rw [mem_fold_adL, List.mem_filter] at h
  rcases h with h | h
  · cases h
  · exact h.2
theorem up_A {x : UInt8} (h : up x = true) : Go.Op.bytesLess [x] [65] = false := by
  unfold up at h
  simp only [Bool.and_eq_true, decide_eq_true_eq] at h
  simp [Go.Op.bytesLess, UInt8.lt_iff_toNat_lt]
  omega
theorem up_Z {x : UInt8} (h : up x = true) : (Go.Op.bytesLess [x] [90] || [x] == [90]) = true := by
  unfold up at h
  simp only [Bool.and_eq_true, decide_eq_true_eq] at h
  simp [Go.Op.bytesLess, UInt8.lt_iff_toNat_lt, ← UInt8.toNat_inj]
  omega
/-- One letter more. -/
theorem met_next {s r : List UInt8} {c : UInt8} {P : UInt8 → Bool} {l : List UInt8} (hl : l = (metL (s ++ c :: r)).filter P) :
    ((metL (s ++ [c])).filter P).length = ((metL s).filter P).length + (if c ∉ s ∧ l[((metL s).filter P).length]? = some c then 1 else 0) ∧ (l[((metL s).filter P).length]? = some c → up c = true) := by
  have hup : l[((metL s).filter P).length]? = some c → up c = true ∧ P c = true := fun q => by
    have hm := List.mem_of_getElem? q
    rw [hl, List.mem_filter] at hm
    exact ⟨met_up hm.1, hm.2⟩
  obtain ⟨h1, h2⟩ := met_step hl
  refine ⟨?_, fun q => (hup q).1⟩
  rw [h2]
  congr 1
  by_cases q : c ∉ s ∧ l[((metL s).filter P).length]? = some c
  · rw [if_pos q, if_pos ⟨(hup q.2).1, q.1, (hup q.2).2⟩]
  · rw [if_neg q, if_neg]
    rintro ⟨a1, a2, a3⟩
    exact q ⟨a2, (h1 a1 a2).1 a3⟩
theorem take_next {s : List UInt8} {i : Nat} (h : i < s.length) : s.take (i + 1) = s.take i ++ [s[i]] ∧ s = s.take i ++ s[i] :: s.drop (i + 1) := by
  refine ⟨by rw [List.take_add_one, List.getElem?_eq_getElem h]; rfl, ?_⟩
  rw [List.getElem_cons_drop, List.take_append_drop]
theorem ext_list {s : List UInt8} {h : Nat} (hh : h < s.length) : ((⟨s.toArray⟩ : ByteArray).extract h (h + 1)).toList = [s[h]] := by
  have hz : h < (⟨s.toArray⟩ : ByteArray).size := by show h < s.toArray.size; simpa using hh
  have hl : (⟨s.toArray⟩ : ByteArray).toList = s := ba_list s
  rw [ext_one hz (by rw [hl]; exact hh), ba_list]
  simp only [hl]
end Parl
namespace Go.Proofs.YthfjnfcekeknlaaDoor
open Go.RowKit

set_option maxHeartbeats 4000000 in
set_option maxRecDepth 100000 in
theorem subsetK (w : World) (o : Option Addr) (c : Nat) (l s : List UInt8) (P : UInt8 → Bool) (hl : l = (Parl.metL s).filter P) (hr : RowS w o (l.map fun x => (⟨(Parl.sing x).toArray⟩ : ByteArray))) (hs : s.length ≤ 100) :
    Calls Tryd.prog 15 #[.slice o l.length c, .string ⟨s.toArray⟩] w fun e w' => e = .returned (.bool true) ∧ Below w.heap.size w w' := by
  have hsz : (⟨s.toArray⟩ : ByteArray).size = s.length := by show s.toArray.size = _; simp
  have HSZ := hide hsz
  have HLL := hide hl
  have HRS := hide hr
  have hll : l.length ≤ 100 := by rw [hl]; have := Parl.met_len s; have := List.length_filter_le P (Parl.metL s); omega
  clear hl hr hsz
  go_enter Tryd.func15, Tryd.ntmps15
  go_wp2_with fail
  go_loopg [5, 6, 7] s.length (fun g kv sv iv wr => ∃ i : Nat, g + i = s.length ∧ iv = .int .i64 (i : Int) ∧ sv = .string ⟨(s.take i).toArray⟩ ∧ kv = .int .i64 (((Parl.metL (s.take i)).filter P).length : Int) ∧ wr = w)
  case atStart => exact ⟨0, by omega, rfl, rfl, rfl, rfl⟩
  case round =>
    obtain ⟨i, hgi, rfl, rfl, rfl, rfl⟩ := hrel
    have hkl : ((Parl.metL (s.take i)).filter P).length ≤ 100 := by have h1 := Parl.met_len (s.take i); have h2 := List.length_filter_le P (Parl.metL (s.take i)); have h3 := List.length_take_le i s; omega
    have hsz := unhide HSZ
    by_cases hlt : i < s.length
    · have hsl : (⟨(s.take i).toArray⟩ : ByteArray).size = i := by show (s.take i).toArray.size = _; simp; omega
      have hcs := Parl.ext_list hlt
      have HSN := hide (show ∀ h, h < i → ∃ y, ((⟨(s.take i).toArray⟩ : ByteArray).extract h (h + 1)).toList = [y] ∧ (s.take i).take (h + 1) = (s.take i).take h ++ [y] from fun h hh => ⟨_, Parl.ext_list (s := s.take i) (h := h) (by simp; omega), (Parl.take_next (s := s.take i) (i := h) (by simp; omega)).1⟩)
      obtain ⟨t1, t2⟩ := Parl.take_next hlt
      have hnx := Parl.met_next (s := s.take i) (r := s.drop (i + 1)) (c := s[i]) (P := P) (l := l) (by rw [← t2]; exact unhide HLL)
      rw [← t1] at hnx
      have HNX := hide hnx
      have HT1 := hide t1
      have HGI := hide hgi
      have hi100 : i ≤ 100 := by omega
      have HSE := hide (show ∀ cs : ByteArray, cs.toList = [s[i]] → (⟨(s.take i).toArray⟩ : ByteArray) ++ cs = ⟨(s.take (i + 1)).toArray⟩ from fun cs h => by rw [t1, ← ba_app, ← h, ba_self])
      have hsn1 : (⟨(s.take i).toArray⟩ : ByteArray).size ≤ 100 := by omega
      generalize hGK : gk = GK at *
      generalize hcsv : (⟨s.toArray⟩ : ByteArray).extract i (i + 1) = cs at *
      have HCSV := hide hcsv
      have hcs1 : cs.size = 1 := by rw [← Parl.bytes_len, hcs]; rfl
      generalize s[i] = x at *
      have HCS := hide hcs
      clear t1 t2 hnx hcsv hGK hcs
      go_wp2_with fail
      rw [unhide HCSV]
      go_loopg [9, 10] i (fun g ov hv wr2 => ∃ h : Nat, g + h = i ∧ hv = .int .i64 (h : Int) ∧ ov = .bool (decide (x ∈ (s.take i).take h)) ∧ wr2 = wr)
      case atStart => exact ⟨0, by omega, rfl, by simp, rfl⟩
      case round =>
        obtain ⟨h, hgh, rfl, rfl, rfl⟩ := hrel
        by_cases hh : h < i
        · obtain ⟨y, hy1, hy2⟩ := unhide HSN h hh
          have HY2 := hide hy2
          have HGH := hide hgh
          clear hgh hy2
          by_cases ho : x ∈ (s.take i).take h
          · rw [decide_eq_true ho]
            have HO := hide ho
            clear ho hy1
            go_wp2_with fail
            go_roundg (gk - 1)
            case measure => have := unhide HGH; omega
            case rel => exact ⟨h + 1, by have := unhide HGH; omega, by go_num, by rw [unhide HY2, decide_eq_true (List.mem_append_left _ (unhide HO))], rfl⟩
          · rw [decide_eq_false ho]
            have HO := hide ho
            clear ho
            by_cases hxy : y = x
            · have tE : (((⟨(s.take i).toArray⟩ : ByteArray).extract h (h + 1)).toList == cs.toList) = true := by rw [hy1, unhide HCS, hxy]; simp
              have HXY := hide hxy
              clear hxy hy1
              go_wp2_with fail
              go_roundg (gk - 1)
              case measure => have := unhide HGH; omega
              case rel => exact ⟨h + 1, by have := unhide HGH; omega, by go_num, by rw [unhide HY2, unhide HXY, decide_eq_true (List.mem_append_right _ (by simp))], rfl⟩
            · have tE : (((⟨(s.take i).toArray⟩ : ByteArray).extract h (h + 1)).toList == cs.toList) = false := by
                rw [hy1, unhide HCS]
                simpa using hxy
              have HXY := hide hxy
              clear hxy hy1
              go_wp2_with fail
              go_roundg (gk - 1)
              case measure => have := unhide HGH; omega
              case rel => exact ⟨h + 1, by have := unhide HGH; omega, by go_num, by rw [unhide HY2, decide_eq_false (fun q => by rcases List.mem_append.1 q with q | q; exact unhide HO q; exact unhide HXY (List.mem_singleton.1 q).symm)], rfl⟩
        · obtain rfl : h = i := by omega
          rw [List.take_take, Nat.min_self]
          have hse := unhide HSE cs (unhide HCS)
          clear hgh HSN HSE
          obtain ⟨n1, n2⟩ := unhide HNX
          generalize hK : ((Parl.metL (s.take h)).filter P).length = K at *
          have HN1 := hide n1
          clear n1 hK HNX
          by_cases ho : x ∈ s.take h
          · rw [decide_eq_true ho]
            have HC := hide (show ((Parl.metL (s.take (h + 1))).filter P).length = K by rw [unhide HN1, if_neg (fun q => q.1 ho)]; rfl)
            clear ho n2
            go_wp2_with fail
            go_roundg (GK - 1)
            case measure => have := unhide HGI; omega
            case rel => exact ⟨h + 1, by have := unhide HGI; omega, by go_num, rfl, by rw [unhide HC], rfl⟩
          · rw [decide_eq_false ho]
            have HO := hide ho
            clear ho
            by_cases hKl : K < l.length
            · obtain ⟨g, hg, gz, hcl⟩ := unhide HRS (fun q => by rw [List.map_eq_nil_iff] at q; rw [q] at hKl; simp at hKl)
              subst hg
              have f0 := hcl K (by rw [List.length_map]; exact hKl)
              rw [List.getElem_map] at f0
              have i0 : (0 : Int) ≤ (K : Int) := by omega
              have i1 : (K : Int) < (l.length : Int) := by omega
              have hlk : l[K]? = some l[K] := List.getElem?_eq_getElem hKl
              by_cases hxl : l[K] = x
              · have hup := n2 (by rw [hlk, hxl])
                have HC := hide (show ((Parl.metL (s.take (h + 1))).filter P).length = K + 1 by rw [unhide HN1, if_pos ⟨unhide HO, by rw [hlk, hxl]⟩])
                have tE : ((⟨(Parl.sing l[K]).toArray⟩ : ByteArray).toList == cs.toList) = true := by rw [unhide HCS, Parl.ba_list, hxl]; simp [Parl.sing]
                have t65 : Op.bytesLess cs.toList [65] = false := by
                  rw [unhide HCS]
                  exact Parl.up_A hup
                have t90 : (Op.bytesLess cs.toList [90] || cs.toList == [90]) = true := by
                  rw [unhide HCS]
                  exact Parl.up_Z hup
                clear n2 hcl hlk hxl hup
                generalize (⟨(Parl.sing l[K]).toArray⟩ : ByteArray) = lk at *
                go_wp2_with fail
                go_roundg (GK - 1)
                case measure => have := unhide HGI; omega
                case rel => exact ⟨h + 1, by have := unhide HGI; omega, by go_num, rfl, by rw [unhide HC]; go_num, rfl⟩
              · have HC := hide (show ((Parl.metL (s.take (h + 1))).filter P).length = K by rw [unhide HN1, if_neg (fun q => hxl (by have := q.2; rw [hlk] at this; injection this))]; rfl)
                have tE : ((⟨(Parl.sing l[K]).toArray⟩ : ByteArray).toList == cs.toList) = false := by rw [unhide HCS, Parl.ba_list]; simpa [Parl.sing] using hxl
                clear n2 hcl hlk hxl
                generalize (⟨(Parl.sing l[K]).toArray⟩ : ByteArray) = lk at *
                go_wp2_with fail
                go_roundg (GK - 1)
                case measure => have := unhide HGI; omega
                case rel => exact ⟨h + 1, by have := unhide HGI; omega, by go_num, rfl, by rw [unhide HC], rfl⟩
            · have HC := hide (show ((Parl.metL (s.take (h + 1))).filter P).length = K by rw [unhide HN1, if_neg (fun q => by have := q.2; rw [List.getElem?_eq_none (by omega)] at this; cases this)]; rfl)
              clear n2
              go_wp2_with fail
              go_roundg (GK - 1)
              case measure => have := unhide HGI; omega
              case rel => exact ⟨h + 1, by have := unhide HGI; omega, by go_num, rfl, by rw [unhide HC], rfl⟩
    · obtain rfl : i = s.length := by omega
      rw [List.take_length] at hkl ⊢
      have HEQ := hide (show ((Parl.metL s).filter P).length = l.length by rw [← unhide HLL])
      rw [unhide HEQ]
      clear hgi
      go_wp2_with fail
      go_ret
      exact ⟨rfl, Below.refl _ _⟩
end Go.Proofs.YthfjnfcekeknlaaDoor
namespace Parl
def w6B : List ByteArray := [⟨#[97]⟩, ⟨#[49]⟩, ⟨#[102, 40, 98, 41]⟩, ⟨#[88]⟩, ⟨#[89]⟩, ⟨#[103, 40, 90, 44, 87, 41]⟩]
theorem w6B_is {m : Nat} (h : m < 6) : ∃ r ∈ w6, (w6B[m]'h).toList = wr r ∧ (w6B[m]'h).size ≤ 10 := by
  rcases (show m = 0 ∨ m = 1 ∨ m = 2 ∨ m = 3 ∨ m = 4 ∨ m = 5 by omega) with rfl | rfl | rfl | rfl | rfl | rfl
  · exact ⟨uA, by simp [w6], by rw [Go.ByteArray.toList_eq]; simp [w6B, uA, wr, wrL, argS], by show 1 ≤ 10; decide⟩
  · exact ⟨.n 3 [] 1 [], by simp [w6], by rw [wr_n, if_pos rfl, dec_one (by decide) (by decide), Go.ByteArray.toList_eq]; rfl, by show 1 ≤ 10; decide⟩
  · exact ⟨.n 1 [102] 0 [.n 1 [98] 0 []], by simp [w6], by rw [Go.ByteArray.toList_eq]; simp [w6B, wr, wrL, argS], by show 4 ≤ 10; decide⟩
  · exact ⟨.v ([88], 0), by simp [w6], by rw [Go.ByteArray.toList_eq]; simp [w6B, wr], by show 1 ≤ 10; decide⟩
  · exact ⟨.v ([89], 0), by simp [w6], by rw [Go.ByteArray.toList_eq]; simp [w6B, wr], by show 1 ≤ 10; decide⟩
  · exact ⟨.n 1 [103] 0 [.v ([90], 0), .v ([87], 0)], by simp [w6], by rw [Go.ByteArray.toList_eq]; simp [w6B, wr, wrL, argS], by show 6 ≤ 10; decide⟩
end Parl
namespace Go.Proofs.YthfjnfcekeknlaaDoor
open Go.RowKit

set_option maxHeartbeats 8000000 in
set_option maxRecDepth 100000 in
theorem firm_walk (w : World) (o : Option Addr) (n c : Nat) (he : Env w) (hr : RawA w w.heap.size o n) :
    Calls Tryd.prog 5 #[.slice o n c] w fun e w' => e = .returned (.bool true) ∧ Below w.heap.size w w' := by
  have HR := hide (joinsK w he)
  have HE := hide he
  have HRAW := hide hr
  clear he hr
  go_enter Tryd.func5, Tryd.ntmps5
  go_wp2_with fail
  refine (unhide HR).mono ?_
  rintro e w1 ⟨rfl, hb1⟩
  have HB1 := hide hb1
  have z1 := hb1.size
  clear hb1
  go_wp2_with fail
  have HB1a := hide ((unhide HB1).alloc z1 (.cells #[.slice o n c, .int .i64 0] 26))
  refine (term_2 _ _ (src_start (((unhide HRAW).keep fun b q => (unhide HB1).block b q).wide z1))).mono ?_
  rintro e w2 ⟨⟨ta, hta, rfl⟩, hs2, fr2⟩
  obtain ⟨p, mp, ep⟩ := Parl.mk_of hta
  rw [ep]
  have HB2 := hide ((unhide HB1a).trans (fr2.down (b := w.heap.size) (by simp; omega) (fun k q => by have : k = w1.heap.size := q; omega)))
  have HS2 := hide hs2
  have HMP := hide mp
  clear hs2 fr2 hta ep mp
  go_wp2_with fail
  refine (term_2 _ _ (unhide HS2)).mono ?_
  rintro e w3 ⟨⟨tb, htb, rfl⟩, hs3, fr3⟩
  obtain ⟨t, mt, et⟩ := Parl.mk_of htb
  rw [et]
  have HB3 := hide ((unhide HB2).trans (fr3.down (b := w.heap.size) (unhide HB2).size (fun k q => by have : k = w1.heap.size := q; omega)))
  have HS3 := hide hs3
  have HMT := hide mt
  clear hs3 fr3 htb et mt
  have lP := (unhide HMP).len
  have lT := (unhide HMT).len
  obtain ⟨P, hP⟩ := Parl.wts_letters (p := p) (unhide HMT).smp (unhide HMT).rd.hi
  have hW := Parl.wts_wait (p := p) (unhide HMT).rd
  obtain ⟨l, hl⟩ : ∃ l, l = (Parl.metL (Parl.wr t)).filter P := ⟨_, rfl⟩
  rw [← hl] at hP
  have hW2 : Parl.say2 p t = 3 ↔ 0 < l.length := by
    rw [hW, hP]
    rw [Ne, List.map_eq_nil_iff, List.length_pos_iff]
  have IM0 := hide (fun W (q : Env W) => maK W q (unhide HMP).rd (unhide HMT).rd (by omega) (by omega))
  rw [hP, List.length_map] at IM0
  have HLL := hide hl
  have ISB := hide (fun (W : World) (o : Option Addr) (c : Nat) (hr : RowS W o (l.map fun x => (⟨(Parl.sing x).toArray⟩ : ByteArray))) => subsetK W o c l (Parl.wr t) P (unhide HLL) hr (by omega))
  have IG := hide (fun W (q : SrcA W w1.heap.size) => groundK W w1.heap.size t q (unhide HMT).smp lT)
  have IPT := hide (fun W (tt : ByteArray) (v : UInt8) (h : tt.size ≤ 10) => putK_any W ⟨(Parl.wr t).toArray⟩ tt v (by show (Parl.wr t).toArray.size ≤ 100; simp; omega) h)
  clear hP hW hl
  generalize hN : Parl.say2 p t = N at *
  have HN := hide hN
  have hN3 : N = 1 ∨ N = 2 ∨ N = 3 := by rw [← hN]; exact Parl.say2_or p t
  clear hN
  generalize hPP : (⟨(Parl.wr p).toArray⟩ : ByteArray) = PB at *
  generalize hTT : (⟨(Parl.wr t).toArray⟩ : ByteArray) = TB at *
  have HPP := hide hPP
  have HTT := hide hTT
  clear hPP hTT
  go_wp2_with fail
  refine (unhide IM0 _ ((unhide HE).below (unhide HB3))).mono ?_
  rintro e w4 ⟨o4, c4, rfl, ho4, hb4⟩
  have HRW := hide (show RowS w4 o4 (l.map fun x => (⟨(Parl.sing x).toArray⟩ : ByteArray)) by
    have := RowS.of_own ho4 (by rw [List.length_map])
    rw [List.map_map] at this
    exact this)
  have HS4 := hide ((unhide HS3).below hb4)
  have HB4 := hide ((unhide HB3).trans (hb4.mono (unhide HB3).size))
  clear hb4 ho4
  go_wp2_with fail
  refine (unhide ISB _ _ _ (unhide HRW)).mono ?_
  rintro e w5 ⟨rfl, hb5⟩
  have HS5 := hide ((unhide HS4).below hb5)
  have HB5 := hide ((unhide HB4).trans (hb5.mono (unhide HB4).size))
  have hx5 := (unhide HS5).lt
  clear hb5 HS2 HS3 HS4 HRW ISB IM0
  have HW2 := hide hW2
  clear hW2
  rcases hN3 with rfl | rfl | rfl
  · have hL0 : l.length = 0 := by
      have : ¬ 0 < l.length := fun q => by have := (unhide HW2).2 q; omega
      omega
    rw [hL0]
    clear HW2 hL0
    have HNX := hide (fun W (q : SrcA W w1.heap.size) => nextK_any W w1.heap.size 4 q (by omega) (by omega))
    have HNY := hide (fun W (q : SrcA W w1.heap.size) => nextK_any W w1.heap.size 6 q (by omega) (by omega))
    go_wp2_with fail
    refine (unhide HNX _ (unhide HS5)).mono ?_
    rintro e w6 ⟨⟨m, hm, rfl⟩, hs6, fr6⟩
    have hmv : m < vB.size := hm
    obtain ⟨c1, c2, -⟩ := vB_at hmv
    have HS6 := hide (hs6.below ((Below.refl _ _).alloc (Nat.le_refl _) (.cells #[.string ⟨#[97]⟩, .string ⟨#[49]⟩, .string ⟨#[102, 40, 98, 41]⟩, .string ⟨#[88]⟩, .string ⟨#[89]⟩, .string ⟨#[103, 40, 90, 44, 87, 41]⟩] 9)))
    have HB6 := hide ((unhide HB5).trans (fr6.down (b := w.heap.size) (unhide HB5).size (fun k q => by have : k = w1.heap.size := q; omega)))
    have hx6 := hs6.lt
    have i0 : (0 : Int) ≤ (m : Int) := by omega
    have i1 : (m : Int) < 4 := by omega
    have HC1 := hide c1
    have HC2 := hide c2
    clear hs6 fr6 c1 c2
    go_wp2_with fail
    refine (unhide HNY _ (unhide HS6)).mono ?_
    rintro e w7 ⟨⟨m6, hm6, rfl⟩, hs7, fr7⟩
    have f0 : w7.cell? ⟨w6.heap.size, m6, none⟩ = some (.string (Parl.w6B[m6]'hm6)) := by
      rw [strs_at (heap_alloc_new w6 _) (by omega) fr7 m6]
      rcases (show m6 = 0 ∨ m6 = 1 ∨ m6 = 2 ∨ m6 = 3 ∨ m6 = 4 ∨ m6 = 5 by omega) with rfl | rfl | rfl | rfl | rfl | rfl <;> rfl
    obtain ⟨r, r1, r2, r3⟩ := Parl.w6B_is hm6
    have gz : w6.heap.size < w7.heap.size := by have := fr7.size; rw [World.size_alloc] at this; omega
    have k0 : (0 : Int) ≤ (m6 : Int) := by omega
    have k1 : (m6 : Int) < 6 := by omega
    have HS7 := hide hs7
    have HB7 := hide ((unhide HB6).trans (((Below.refl w.heap.size w6).alloc (unhide HB6).size _).trans (fr7.down (b := w.heap.size) (by have := (unhide HB6).size; simp; omega) (fun k q => by have : k = w1.heap.size := q; omega))))
    have IP := hide (fun W => unhide IPT W (Parl.w6B[m6]'hm6) vB[m] r3)
    rw [r2, ← unhide HTT, Parl.ba_list, ← Parl.wr_put (unhide HC1) (unhide HC2) r t (unhide HMT).smp, unhide HTT] at IP
    obtain ⟨s1, s2⟩ := Parl.put_smp (unhide HMT).smp r1 ([vB[m]], 0)
    have HRU := hide (s1.rd (by have := (unhide HMT).hi; omega))
    have HIN := hide (show ∃ θ : Parl.Vr → Parl.U, Parl.sub θ t = Parl.put t ([vB[m]], 0) r from ⟨_, rfl⟩)
    generalize Parl.w6B[m6] = tt at *
    generalize hu : Parl.put t ([vB[m]], 0) r = u at *
    unfold vB at IP
    clear hs7 fr7 r1 r2 r3 s1 s2 hu hm6 IPT HNX HNY HS5 HS6 HC1 HC2
    go_wp2_with fail
    refine (unhide IP _).mono ?_
    rintro e w8 ⟨rfl, hb8⟩
    have HS8 := hide ((unhide HS7).below hb8)
    have HB8 := hide ((unhide HB7).trans (hb8.mono (unhide HB7).size))
    have hsize : (⟨(Parl.wr u).toArray⟩ : ByteArray).size = (Parl.wr u).length := by show (Parl.wr u).toArray.size = _; simp
    have IMU := hide (fun W (q : Env W) (h : (Parl.wr u).length ≤ 64) => maK W q (unhide HMP).rd (unhide HRU) (by omega) h)
    rw [unhide HPP] at IMU
    have IMC := hide (fun W (q : Env W) (cc : Parl.U) (hc : Parl.GS t Parl.vars4 cc) => maK W q (unhide HMP).rd (Parl.gs_rd (unhide HMT) hc).1 (by omega) (Parl.gs_rd (unhide HMT) hc).2.1)
    rw [unhide HPP] at IMC
    have HFP := hide (fun (h : Parl.say2 p t ≠ 3) => Parl.firm_put (unhide HMP).rd (unhide HMT).rd (unhide HRU) (unhide HIN) h)
    clear hb8 f0 IP HS7
    have hUL : (Parl.wr u).length ≤ 64 ∨ 64 < (Parl.wr u).length := by omega
    generalize hUB : (⟨(Parl.wr u).toArray⟩ : ByteArray) = UB at *
    clear hUB
    rcases hUL with hUL | hUL
    · have t1 : decide ((UB.size : Int) ≤ 64) = true := by simp only [decide_eq_true_eq]; omega
      have HIM := hide (fun W (q : Env W) => unhide IMU W q hUL)
      have hiff := unhide HFP (by rw [unhide HN]; decide)
      rw [unhide HN] at hiff
      rw [hiff.1 rfl] at HIM
      generalize Parl.wts2 p u = WU at *
      clear hiff hUL hsize
      go_wp2_with fail
      refine (unhide HIM _ ((unhide HE).below (unhide HB8))).mono ?_
      rintro e w9 ⟨o9, c9, rfl, -, hb9⟩
      have HS9 := hide ((unhide HS8).below hb9)
      have HB9 := hide ((unhide HB8).trans (hb9.mono (unhide HB8).size))
      clear hb9
      go_wp2_with fail
      refine (unhide IG _ (unhide HS9)).mono ?_
      rintro e wg ⟨⟨cc, hgs, rfl⟩, -, frg⟩
      have HBG := hide ((unhide HB9).trans (frg.down (b := w.heap.size) (unhide HB9).size (fun k q => by have : k = w1.heap.size := q; omega)))
      obtain ⟨g1, g2, g3, g4⟩ := Parl.gs_rd (unhide HMT) hgs
      obtain ⟨q1, q2⟩ := Parl.firm_gnd (unhide HMP).rd (unhide HMT).rd g1 g4 g3
      have IM := hide (unhide IMC wg ((unhide HE).below (unhide HBG)) cc hgs)
      have hwt : Parl.wts2 p cc = [] := by unfold Parl.wts2; rw [if_neg q1]
      rw [hwt, List.length_nil] at IM
      have hM : Parl.say2 p cc = 1 := by
        rcases q2 with q | q
        · rw [unhide HN] at q; omega
        · rw [q]; exact unhide HN
      rw [hM] at IM
      clear hM
      clear frg hgs g1 g2 g3 g4 q1 q2 hwt
      go_wp2_with fail
      refine (unhide IM).mono ?_
      rintro e wh ⟨oh, ch, rfl, -, hbh⟩
      have HBH := hide ((unhide HBG).trans (hbh.mono (unhide HBG).size))
      clear hbh
      go_wp2_with fail
      go_ret
      exact ⟨rfl, unhide HBH⟩
    · have t1 : decide ((UB.size : Int) ≤ 64) = false := by simp only [decide_eq_false_iff_not]; omega
      clear hUL hsize
      go_wp2_with fail
      refine (unhide IG _ (unhide HS8)).mono ?_
      rintro e wg ⟨⟨cc, hgs, rfl⟩, -, frg⟩
      have HBG := hide ((unhide HB8).trans (frg.down (b := w.heap.size) (unhide HB8).size (fun k q => by have : k = w1.heap.size := q; omega)))
      obtain ⟨g1, g2, g3, g4⟩ := Parl.gs_rd (unhide HMT) hgs
      obtain ⟨q1, q2⟩ := Parl.firm_gnd (unhide HMP).rd (unhide HMT).rd g1 g4 g3
      have IM := hide (unhide IMC wg ((unhide HE).below (unhide HBG)) cc hgs)
      have hwt : Parl.wts2 p cc = [] := by unfold Parl.wts2; rw [if_neg q1]
      rw [hwt, List.length_nil] at IM
      have hM : Parl.say2 p cc = 1 := by
        rcases q2 with q | q
        · rw [unhide HN] at q; omega
        · rw [q]; exact unhide HN
      rw [hM] at IM
      clear hM
      clear frg hgs g1 g2 g3 g4 q1 q2 hwt
      go_wp2_with fail
      refine (unhide IM).mono ?_
      rintro e wh ⟨oh, ch, rfl, -, hbh⟩
      have HBH := hide ((unhide HBG).trans (hbh.mono (unhide HBG).size))
      clear hbh
      go_wp2_with fail
      go_ret
      exact ⟨rfl, unhide HBH⟩
  · have hL0 : l.length = 0 := by
      have : ¬ 0 < l.length := fun q => by have := (unhide HW2).2 q; omega
      omega
    rw [hL0]
    clear HW2 hL0
    have HNX := hide (fun W (q : SrcA W w1.heap.size) => nextK_any W w1.heap.size 4 q (by omega) (by omega))
    have HNY := hide (fun W (q : SrcA W w1.heap.size) => nextK_any W w1.heap.size 6 q (by omega) (by omega))
    go_wp2_with fail
    refine (unhide HNX _ (unhide HS5)).mono ?_
    rintro e w6 ⟨⟨m, hm, rfl⟩, hs6, fr6⟩
    have hmv : m < vB.size := hm
    obtain ⟨c1, c2, -⟩ := vB_at hmv
    have HS6 := hide (hs6.below ((Below.refl _ _).alloc (Nat.le_refl _) (.cells #[.string ⟨#[97]⟩, .string ⟨#[49]⟩, .string ⟨#[102, 40, 98, 41]⟩, .string ⟨#[88]⟩, .string ⟨#[89]⟩, .string ⟨#[103, 40, 90, 44, 87, 41]⟩] 9)))
    have HB6 := hide ((unhide HB5).trans (fr6.down (b := w.heap.size) (unhide HB5).size (fun k q => by have : k = w1.heap.size := q; omega)))
    have hx6 := hs6.lt
    have i0 : (0 : Int) ≤ (m : Int) := by omega
    have i1 : (m : Int) < 4 := by omega
    have HC1 := hide c1
    have HC2 := hide c2
    clear hs6 fr6 c1 c2
    go_wp2_with fail
    refine (unhide HNY _ (unhide HS6)).mono ?_
    rintro e w7 ⟨⟨m6, hm6, rfl⟩, hs7, fr7⟩
    have f0 : w7.cell? ⟨w6.heap.size, m6, none⟩ = some (.string (Parl.w6B[m6]'hm6)) := by
      rw [strs_at (heap_alloc_new w6 _) (by omega) fr7 m6]
      rcases (show m6 = 0 ∨ m6 = 1 ∨ m6 = 2 ∨ m6 = 3 ∨ m6 = 4 ∨ m6 = 5 by omega) with rfl | rfl | rfl | rfl | rfl | rfl <;> rfl
    obtain ⟨r, r1, r2, r3⟩ := Parl.w6B_is hm6
    have gz : w6.heap.size < w7.heap.size := by have := fr7.size; rw [World.size_alloc] at this; omega
    have k0 : (0 : Int) ≤ (m6 : Int) := by omega
    have k1 : (m6 : Int) < 6 := by omega
    have HS7 := hide hs7
    have HB7 := hide ((unhide HB6).trans (((Below.refl w.heap.size w6).alloc (unhide HB6).size _).trans (fr7.down (b := w.heap.size) (by have := (unhide HB6).size; simp; omega) (fun k q => by have : k = w1.heap.size := q; omega))))
    have IP := hide (fun W => unhide IPT W (Parl.w6B[m6]'hm6) vB[m] r3)
    rw [r2, ← unhide HTT, Parl.ba_list, ← Parl.wr_put (unhide HC1) (unhide HC2) r t (unhide HMT).smp, unhide HTT] at IP
    obtain ⟨s1, s2⟩ := Parl.put_smp (unhide HMT).smp r1 ([vB[m]], 0)
    have HRU := hide (s1.rd (by have := (unhide HMT).hi; omega))
    have HIN := hide (show ∃ θ : Parl.Vr → Parl.U, Parl.sub θ t = Parl.put t ([vB[m]], 0) r from ⟨_, rfl⟩)
    generalize Parl.w6B[m6] = tt at *
    generalize hu : Parl.put t ([vB[m]], 0) r = u at *
    unfold vB at IP
    clear hs7 fr7 r1 r2 r3 s1 s2 hu hm6 IPT HNX HNY HS5 HS6 HC1 HC2
    go_wp2_with fail
    refine (unhide IP _).mono ?_
    rintro e w8 ⟨rfl, hb8⟩
    have HS8 := hide ((unhide HS7).below hb8)
    have HB8 := hide ((unhide HB7).trans (hb8.mono (unhide HB7).size))
    have hsize : (⟨(Parl.wr u).toArray⟩ : ByteArray).size = (Parl.wr u).length := by show (Parl.wr u).toArray.size = _; simp
    have IMU := hide (fun W (q : Env W) (h : (Parl.wr u).length ≤ 64) => maK W q (unhide HMP).rd (unhide HRU) (by omega) h)
    rw [unhide HPP] at IMU
    have IMC := hide (fun W (q : Env W) (cc : Parl.U) (hc : Parl.GS t Parl.vars4 cc) => maK W q (unhide HMP).rd (Parl.gs_rd (unhide HMT) hc).1 (by omega) (Parl.gs_rd (unhide HMT) hc).2.1)
    rw [unhide HPP] at IMC
    have HFP := hide (fun (h : Parl.say2 p t ≠ 3) => Parl.firm_put (unhide HMP).rd (unhide HMT).rd (unhide HRU) (unhide HIN) h)
    clear hb8 f0 IP HS7
    have hUL : (Parl.wr u).length ≤ 64 ∨ 64 < (Parl.wr u).length := by omega
    generalize hUB : (⟨(Parl.wr u).toArray⟩ : ByteArray) = UB at *
    clear hUB
    rcases hUL with hUL | hUL
    · have t1 : decide ((UB.size : Int) ≤ 64) = true := by simp only [decide_eq_true_eq]; omega
      have HIM := hide (fun W (q : Env W) => unhide IMU W q hUL)
      have hiff := unhide HFP (by rw [unhide HN]; decide)
      rw [unhide HN] at hiff
      have hne : Parl.say2 p u ≠ 1 := fun q => by have := hiff.2 q; omega
      have tU : ((Parl.say2 p u : Int) == 1) = false := by rw [beq_eq_false_iff_ne]; omega
      generalize Parl.say2 p u = MU at *
      generalize Parl.wts2 p u = WU at *
      clear hiff hUL hsize hne
      go_wp2_with fail
      refine (unhide HIM _ ((unhide HE).below (unhide HB8))).mono ?_
      rintro e w9 ⟨o9, c9, rfl, -, hb9⟩
      have HS9 := hide ((unhide HS8).below hb9)
      have HB9 := hide ((unhide HB8).trans (hb9.mono (unhide HB8).size))
      clear hb9
      go_wp2_with fail
      refine (unhide IG _ (unhide HS9)).mono ?_
      rintro e wg ⟨⟨cc, hgs, rfl⟩, -, frg⟩
      have HBG := hide ((unhide HB9).trans (frg.down (b := w.heap.size) (unhide HB9).size (fun k q => by have : k = w1.heap.size := q; omega)))
      obtain ⟨g1, g2, g3, g4⟩ := Parl.gs_rd (unhide HMT) hgs
      obtain ⟨q1, q2⟩ := Parl.firm_gnd (unhide HMP).rd (unhide HMT).rd g1 g4 g3
      have IM := hide (unhide IMC wg ((unhide HE).below (unhide HBG)) cc hgs)
      have hwt : Parl.wts2 p cc = [] := by unfold Parl.wts2; rw [if_neg q1]
      rw [hwt, List.length_nil] at IM
      have hM : Parl.say2 p cc = 2 := by
        rcases q2 with q | q
        · rw [unhide HN] at q; omega
        · rw [q]; exact unhide HN
      rw [hM] at IM
      clear hM
      clear frg hgs g1 g2 g3 g4 q1 q2 hwt
      go_wp2_with fail
      refine (unhide IM).mono ?_
      rintro e wh ⟨oh, ch, rfl, -, hbh⟩
      have HBH := hide ((unhide HBG).trans (hbh.mono (unhide HBG).size))
      clear hbh
      go_wp2_with fail
      go_ret
      exact ⟨rfl, unhide HBH⟩
    · have t1 : decide ((UB.size : Int) ≤ 64) = false := by simp only [decide_eq_false_iff_not]; omega
      clear hUL hsize
      go_wp2_with fail
      refine (unhide IG _ (unhide HS8)).mono ?_
      rintro e wg ⟨⟨cc, hgs, rfl⟩, -, frg⟩
      have HBG := hide ((unhide HB8).trans (frg.down (b := w.heap.size) (unhide HB8).size (fun k q => by have : k = w1.heap.size := q; omega)))
      obtain ⟨g1, g2, g3, g4⟩ := Parl.gs_rd (unhide HMT) hgs
      obtain ⟨q1, q2⟩ := Parl.firm_gnd (unhide HMP).rd (unhide HMT).rd g1 g4 g3
      have IM := hide (unhide IMC wg ((unhide HE).below (unhide HBG)) cc hgs)
      have hwt : Parl.wts2 p cc = [] := by unfold Parl.wts2; rw [if_neg q1]
      rw [hwt, List.length_nil] at IM
      have hM : Parl.say2 p cc = 2 := by
        rcases q2 with q | q
        · rw [unhide HN] at q; omega
        · rw [q]; exact unhide HN
      rw [hM] at IM
      clear hM
      clear frg hgs g1 g2 g3 g4 q1 q2 hwt
      go_wp2_with fail
      refine (unhide IM).mono ?_
      rintro e wh ⟨oh, ch, rfl, -, hbh⟩
      have HBH := hide ((unhide HBG).trans (hbh.mono (unhide HBG).size))
      clear hbh
      go_wp2_with fail
      go_ret
      exact ⟨rfl, unhide HBH⟩
  · have hL0 := (unhide HW2).1 rfl
    generalize l.length = L at *
    clear HW2
    have HNX := hide (fun W (q : SrcA W w1.heap.size) => nextK_any W w1.heap.size 4 q (by omega) (by omega))
    have HNY := hide (fun W (q : SrcA W w1.heap.size) => nextK_any W w1.heap.size 6 q (by omega) (by omega))
    go_wp2_with fail
    refine (unhide HNX _ (unhide HS5)).mono ?_
    rintro e w6 ⟨⟨m, hm, rfl⟩, hs6, fr6⟩
    have hmv : m < vB.size := hm
    obtain ⟨c1, c2, -⟩ := vB_at hmv
    have HS6 := hide (hs6.below ((Below.refl _ _).alloc (Nat.le_refl _) (.cells #[.string ⟨#[97]⟩, .string ⟨#[49]⟩, .string ⟨#[102, 40, 98, 41]⟩, .string ⟨#[88]⟩, .string ⟨#[89]⟩, .string ⟨#[103, 40, 90, 44, 87, 41]⟩] 9)))
    have HB6 := hide ((unhide HB5).trans (fr6.down (b := w.heap.size) (unhide HB5).size (fun k q => by have : k = w1.heap.size := q; omega)))
    have hx6 := hs6.lt
    have i0 : (0 : Int) ≤ (m : Int) := by omega
    have i1 : (m : Int) < 4 := by omega
    have HC1 := hide c1
    have HC2 := hide c2
    clear hs6 fr6 c1 c2
    go_wp2_with fail
    refine (unhide HNY _ (unhide HS6)).mono ?_
    rintro e w7 ⟨⟨m6, hm6, rfl⟩, hs7, fr7⟩
    have f0 : w7.cell? ⟨w6.heap.size, m6, none⟩ = some (.string (Parl.w6B[m6]'hm6)) := by
      rw [strs_at (heap_alloc_new w6 _) (by omega) fr7 m6]
      rcases (show m6 = 0 ∨ m6 = 1 ∨ m6 = 2 ∨ m6 = 3 ∨ m6 = 4 ∨ m6 = 5 by omega) with rfl | rfl | rfl | rfl | rfl | rfl <;> rfl
    obtain ⟨r, r1, r2, r3⟩ := Parl.w6B_is hm6
    have gz : w6.heap.size < w7.heap.size := by have := fr7.size; rw [World.size_alloc] at this; omega
    have k0 : (0 : Int) ≤ (m6 : Int) := by omega
    have k1 : (m6 : Int) < 6 := by omega
    have HS7 := hide hs7
    have HB7 := hide ((unhide HB6).trans (((Below.refl w.heap.size w6).alloc (unhide HB6).size _).trans (fr7.down (b := w.heap.size) (by have := (unhide HB6).size; simp; omega) (fun k q => by have : k = w1.heap.size := q; omega))))
    have IP := hide (fun W => unhide IPT W (Parl.w6B[m6]'hm6) vB[m] r3)
    rw [r2, ← unhide HTT, Parl.ba_list, ← Parl.wr_put (unhide HC1) (unhide HC2) r t (unhide HMT).smp, unhide HTT] at IP
    obtain ⟨s1, s2⟩ := Parl.put_smp (unhide HMT).smp r1 ([vB[m]], 0)
    have HRU := hide (s1.rd (by have := (unhide HMT).hi; omega))
    have HIN := hide (show ∃ θ : Parl.Vr → Parl.U, Parl.sub θ t = Parl.put t ([vB[m]], 0) r from ⟨_, rfl⟩)
    generalize Parl.w6B[m6] = tt at *
    generalize hu : Parl.put t ([vB[m]], 0) r = u at *
    unfold vB at IP
    clear hs7 fr7 r1 r2 r3 s1 s2 hu hm6 IPT HNX HNY HS5 HS6 HC1 HC2
    go_wp2_with fail
    refine (unhide IP _).mono ?_
    rintro e w8 ⟨rfl, hb8⟩
    have HS8 := hide ((unhide HS7).below hb8)
    have HB8 := hide ((unhide HB7).trans (hb8.mono (unhide HB7).size))
    have hsize : (⟨(Parl.wr u).toArray⟩ : ByteArray).size = (Parl.wr u).length := by show (Parl.wr u).toArray.size = _; simp
    have IMU := hide (fun W (q : Env W) (h : (Parl.wr u).length ≤ 64) => maK W q (unhide HMP).rd (unhide HRU) (by omega) h)
    rw [unhide HPP] at IMU
    have IMC := hide (fun W (q : Env W) (cc : Parl.U) (hc : Parl.GS t Parl.vars4 cc) => maK W q (unhide HMP).rd (Parl.gs_rd (unhide HMT) hc).1 (by omega) (Parl.gs_rd (unhide HMT) hc).2.1)
    rw [unhide HPP] at IMC
    have HFP := hide (fun (h : Parl.say2 p t ≠ 3) => Parl.firm_put (unhide HMP).rd (unhide HMT).rd (unhide HRU) (unhide HIN) h)
    clear hb8 f0 IP HS7
    have hUL : (Parl.wr u).length ≤ 64 ∨ 64 < (Parl.wr u).length := by omega
    generalize hUB : (⟨(Parl.wr u).toArray⟩ : ByteArray) = UB at *
    clear hUB
    rcases hUL with hUL | hUL
    · have t1 : decide ((UB.size : Int) ≤ 64) = true := by simp only [decide_eq_true_eq]; omega
      clear hUL hsize
      go_wp2_with fail
      refine (unhide IG _ (unhide HS8)).mono ?_
      rintro e wg ⟨⟨cc, hgs, rfl⟩, -, frg⟩
      have HBG := hide ((unhide HB8).trans (frg.down (b := w.heap.size) (unhide HB8).size (fun k q => by have : k = w1.heap.size := q; omega)))
      obtain ⟨g1, g2, g3, g4⟩ := Parl.gs_rd (unhide HMT) hgs
      obtain ⟨q1, q2⟩ := Parl.firm_gnd (unhide HMP).rd (unhide HMT).rd g1 g4 g3
      have IM := hide (unhide IMC wg ((unhide HE).below (unhide HBG)) cc hgs)
      have hwt : Parl.wts2 p cc = [] := by unfold Parl.wts2; rw [if_neg q1]
      rw [hwt, List.length_nil] at IM
      have tM : ((Parl.say2 p cc : Int) == 3) = false := by rw [beq_eq_false_iff_ne]; omega
      generalize Parl.say2 p cc = M at *
      clear frg hgs g1 g2 g3 g4 q1 q2 hwt
      go_wp2_with fail
      refine (unhide IM).mono ?_
      rintro e wh ⟨oh, ch, rfl, -, hbh⟩
      have HBH := hide ((unhide HBG).trans (hbh.mono (unhide HBG).size))
      clear hbh
      go_wp2_with fail
      go_ret
      exact ⟨rfl, unhide HBH⟩
    · have t1 : decide ((UB.size : Int) ≤ 64) = false := by simp only [decide_eq_false_iff_not]; omega
      clear hUL hsize
      go_wp2_with fail
      refine (unhide IG _ (unhide HS8)).mono ?_
      rintro e wg ⟨⟨cc, hgs, rfl⟩, -, frg⟩
      have HBG := hide ((unhide HB8).trans (frg.down (b := w.heap.size) (unhide HB8).size (fun k q => by have : k = w1.heap.size := q; omega)))
      obtain ⟨g1, g2, g3, g4⟩ := Parl.gs_rd (unhide HMT) hgs
      obtain ⟨q1, q2⟩ := Parl.firm_gnd (unhide HMP).rd (unhide HMT).rd g1 g4 g3
      have IM := hide (unhide IMC wg ((unhide HE).below (unhide HBG)) cc hgs)
      have hwt : Parl.wts2 p cc = [] := by unfold Parl.wts2; rw [if_neg q1]
      rw [hwt, List.length_nil] at IM
      have tM : ((Parl.say2 p cc : Int) == 3) = false := by rw [beq_eq_false_iff_ne]; omega
      generalize Parl.say2 p cc = M at *
      clear frg hgs g1 g2 g3 g4 q1 q2 hwt
      go_wp2_with fail
      refine (unhide IM).mono ?_
      rintro e wh ⟨oh, ch, rfl, -, hbh⟩
      have HBH := hide ((unhide HBG).trans (hbh.mono (unhide HBG).size))
      clear hbh
      go_wp2_with fail
      go_ret
      exact ⟨rfl, unhide HBH⟩
end Go.Proofs.YthfjnfcekeknlaaDoor
namespace Go.Proofs.YthfjnfcekeknlaaDoor
open Go.ChangeShapes Go.WideShapes Go.ChangeAt Go.RowKit

set_option maxRecDepth 100000 in
theorem firm_contract (H : Type) (enc : TypeId × Value → H) (W : World) (base : Nat) (args : Array Value) (ds gs : List (DataW H)) (before : List MemPlace)
    (hval : ∀ (j : Nat) t v, Tryd.f5.params[j]? = some t → args[j]? = some v → Value.okWide Tryd.prog W .any base t v)
    (hW : DataW.Whole enc Tryd.prog Tryd.f5.params.toList Rows.firmSpec.vars false W args.toList ds gs before) (hL : laidMetH Tryd.prog Rows.firmRow.laid W) :
    Calls Tryd.prog 5 args W fun e W' => ∃ v, e = .returned v ∧ Rows.firmSpec.post enc Tryd.prog Tryd.f5 false true false false W args v W' := by
  have hW' := hW
  obtain ⟨p, q, hA0, hV, rfl, _, _⟩ := hW
  have hA : DataW.TrodAll enc Tryd.prog W 0 (fun _ => true) true Tryd.f5.params.toList args.toList ds p := hA0
  rw [Tryd.params5] at hA hval
  obtain ⟨v0, d0, rfl, rfl, h0⟩ := trodAll_one hA
  obtain ⟨rfl, rfl⟩ := trodVars_none hV
  obtain ⟨a0, len, cap, rfl⟩ := okWide_slice Tryd.underlying22 (hval 0 22 v0 rfl rfl)
  have h0k := h0
  obtain ⟨fuel, hf⟩ := h0
  clear hA0
  simp only [List.append_nil] at hW'
  have hlt : ∀ x ∈ p, x.block < W.heap.size := fun x hx => by simpa using hW'.lt x hx
  have he := env_of hL
  have walk : Calls Tryd.prog 5 #[.slice a0 len cap] W fun e w' => e = .returned (.bool true) ∧ Below W.heap.size W w' := firm_walk W a0 len cap he (raw_of hf hlt)
  refine walk.mono fun e W' ⟨he, hb⟩ => ?_
  subst he
  exact ⟨_, rfl, _, _, _, [], p, [], hW', trodAll_mk1 (shut_bool Tryd.underlying4 _), trodAll_mk1 (Below.trod lawLaid (by kernel_rfl) (of_decide_eq_true (by kernel_rfl)) h0k hb hlt), rfl, hb.frame _, fun h => by cases h⟩

theorem firm_reads (os : Os) {H : Type} (enc : TypeId × Value → H) : ∃ places, DataW.whole enc Tryd.prog ((laidWorld os).forCall (fun _ _ => 0) ⟨#[], #[.slice Option.none 0 0], []⟩).memory Tryd.f5.params.toList Rows.firmSpec.vars false #[Value.slice Option.none 0 0].toList 8 = some ([.nil], [], places) :=
  ⟨[], by kernel_rfl⟩

set_option maxRecDepth 100000 in
theorem firm_lifted (os : Os) (started : os.Started) (H : Type) (enc : TypeId × Value → H) (F : Stop.Interp) :
    ReturnsInHanded {} Tryd.checked os 5 .any ((OpenSpec.ofChange Rows.firmSpec).preRow enc Tryd.prog Tryd.f5 Rows.firmRow.domain false Rows.firmRow.laid) (((OpenSpec.ofChange Rows.firmSpec).at F).post enc Tryd.prog Tryd.f5 false true false false) := by
  obtain ⟨places, hx⟩ := firm_reads os enc
  refine returnsInHanded_of_row (C := Tryd.checked) (s := OpenSpec.ofChange Rows.firmSpec) lawOwn started (by kernel_rfl) Tryd.func5
    (witness_row_at (enc := enc) (C := Tryd.checked) false (laidWorld os) #[.slice Option.none 0 0] rfl (by kernel_rfl) (by kernel_rfl) (by kernel_rfl)
      (OpenSpec.preRow_of_cond 8 hx (by kernel_rfl) (fun k hk => by cases hk) (by kernel_rfl) (laid_met os))) ?_
  intro W base args ds gs before hval hW _ _ _ hL _ _
  exact firm_contract H enc W base args ds gs before hval hW hL

theorem firm_said : Rows.FirmSaid :=
  OpenClaim.holds_of_cond 5 Tryd.f5 rfl rfl rfl rfl rfl rfl rfl ⟨rfl, rfl, rfl, rfl, rfl⟩ rfl rfl rfl rfl rfl (by kernel_rfl) Tryd.func5 (by kernel_rfl)
    (of_decide_eq_true (by kernel_rfl)) (by unfold Func.isWrapper; first | (rw [if_pos (by decide +kernel)]; kernel_rfl) | (rw [if_neg (by decide +kernel)]; exact ⟨rfl, rfl⟩))
    (fun os started H enc _ F => by rw [OpenClaim.pre_eq_preRow]; exact firm_lifted os started H enc F)

theorem firm_plain (f : FuncId) (fn : Func) (hf : Tryd.pinned.checked.prog.funcNamed "parley/parleykeep.Firm" = some f) (hfn : Tryd.pinned.checked.prog.funcs[f]? = some fn) :
    false = Tryd.pinned.checked.prog.looks [] ∧ ∀ (j : Nat) t, fn.params[j]? = some t → Tryd.pinned.checked.prog.wantsStandIn t = false := by
  obtain rfl : f = 5 := Option.some.inj ((show Tryd.prog.funcNamed "parley/parleykeep.Firm" = some 5 by kernel_rfl).symm.trans hf) |>.symm
  obtain rfl : fn = Tryd.f5 := (Option.some.inj (Tryd.func5.symm.trans hfn)).symm
  refine ⟨by kernel_rfl, fun j t ht => ?_⟩
  rw [Tryd.params5] at ht
  obtain rfl : t = 22 := by simpa using Array.mem_of_getElem? ht
  exact (show Tryd.prog.wantsStandIn 22 = false by kernel_rfl)

theorem firm_holds : Rows.FirmCardSaid :=
  Claim7.holds_tied_plain_at .later [] _ _ _ _ firm_said (fun _ h => by cases h) (by kernel_rfl) (fun _ h => by cases h) firm_row_tie rfl ⟨rfl, rfl⟩ (by kernel_rfl) rfl firm_plain (by kernel_rfl)
end Go.Proofs.YthfjnfcekeknlaaDoor
