import Derived.Test.YthfjnfcekeknlaaDoorC03
import Derived.Test.YthfjnfcekeknlaaDoorC07
import Derived.Test.YthfjnfcekeknlaaDoorC10
import Derived.Test.YthfjnfcekeknlaaDoorC15
import Derived.Test.YthfjnfcekeknlaaDoorC21
import Derived.Deep.LoopGhost
import Derived.Deep.RegionHeld3
import Derived.Deep.RegionWith
namespace Parl
theorem ptT_take (v : UInt8) (r s : List UInt8) {j : Nat} (h : j < s.length) : ptT v r (s.take (j + 1)) = ptT v r (s.take j) ++ (if s[j] = v then r else [s[j]]) := by
  rw [List.take_add_one, List.getElem?_eq_getElem h, ptT_app]
  congr 1
  show (([s[j]] : List UInt8).flatMap fun c => if c = v then r else [c]) = _
  simp
theorem ptT_len (v : UInt8) {r s : List UInt8} (h : r.length ≤ 10) (hs : s.length ≤ 100) : (ptT v r s).length ≤ 1000 := by
  have : ∀ s : List UInt8, (ptT v r s).length ≤ 10 * s.length := by
    intro s
    induction s with
    | nil => simp [ptT]
    | cons c s ih =>
      unfold ptT at ih ⊢
      rw [List.flatMap_cons, List.length_append, List.length_cons]
      have h1 : (if c = v then r else [c]).length ≤ 10 := by
        split
        · exact h
        · simp
      omega
  have := this s
  omega
theorem get_tl {s : ByteArray} {j : Nat} (h : j < s.size) (h' : j < s.toList.length) : s.toList[j] = s[j] := by
  rw [← get_eq h]
  simp only [Go.ByteArray.toList_eq]
theorem ext_one {s : ByteArray} {j : Nat} (h : j < s.size) (h' : j < s.toList.length) : s.extract j (j + 1) = ⟨[s.toList[j]].toArray⟩ := by
  have e : (s.extract j (j + 1)).toList = [s.toList[j]] := by
    have := one_eq h s.toList[j]
    rw [bAt_lt h, ← get_tl h h'] at this
    simpa using this
  rw [← e, Go.Proofs.YthfjnfcekeknlaaDoor.ba_self]
end Parl
namespace Go.Proofs.YthfjnfcekeknlaaDoor
open Go.RowKit

set_option maxHeartbeats 2000000 in
theorem putK_any (w : World) (s t : ByteArray) (v : UInt8) (hs : s.size ≤ 100) (ht : t.size ≤ 10) :
    Calls Tryd.prog 17 #[.string s, .int .u8 (v.toNat : Int), .string t] w fun e w' => e = .returned (.string ⟨(Parl.ptT v t.toList s.toList).toArray⟩) ∧ Below w.heap.size w w' := by
  have hsl : s.toList.length = s.size := Parl.bytes_len s
  have htl : t.toList.length = t.size := Parl.bytes_len t
  have HTL := hide htl
  have HSL := hide hsl
  clear hsl htl
  go_enter Tryd.func17, Tryd.ntmps17
  go_wp2_with fail
  go_loopg [7, 8] s.size (fun k ov iv wr => ∃ j : Nat, k + j = s.size ∧ iv = .int .i64 (j : Int) ∧ ov = .string ⟨(Parl.ptT v t.toList (s.toList.take j)).toArray⟩ ∧ Below w.heap.size w wr)
  case atStart => exact ⟨0, by omega, rfl, rfl, Below.refl _ _⟩
  case round =>
    obtain ⟨j, hkj, rfl, rfl, hB⟩ := hrel
    have HB := hide hB
    have hlo : (Parl.ptT v t.toList (s.toList.take j)).length ≤ 1000 := Parl.ptT_len v (by have := unhide HTL; omega) (by rw [List.length_take]; have := unhide HSL; omega)
    clear hB
    by_cases hlt : j < s.size
    · have hjl : j < s.toList.length := by have := unhide HSL; omega
      have HST := hide (Parl.ptT_take v t.toList s.toList hjl)
      have HKJ := hide hkj
      have i0 : (0 : Int) ≤ (j : Int) := by omega
      have i1 : (j : Int) < (s.size : Int) := by omega
      generalize hSS : Parl.ptT v t.toList (s.toList.take j) = S at *
      have HSS := hide hSS
      clear hSS hkj
      have hget : s.toList[j] = s[j] := Parl.get_tl hlt hjl
      have HEX := hide (Parl.ext_one hlt hjl)
      rw [hget] at HST HEX
      by_cases hc : s[j] = v
      · have tc : ((s[j].toNat : Int) == (v.toNat : Int)) = true := by rw [hc]; simp
        rw [if_pos hc] at HST
        clear hc hget hjl HEX
        go_wp2_with fail
        go_roundg (gk - 1)
        case measure => have := unhide HKJ; omega
        case rel => exact ⟨j + 1, by have := unhide HKJ; omega, by go_num, by rw [unhide HST, ← ba_app, ba_self], unhide HB⟩
      · have tc : ((s[j].toNat : Int) == (v.toNat : Int)) = false := by
          rw [beq_eq_false_iff_ne]
          intro q
          exact hc (UInt8.toNat_inj.1 (by omega))
        rw [if_neg hc] at HST
        clear hc hget hjl
        go_wp2_with fail
        go_roundg (gk - 1)
        case measure => have := unhide HKJ; omega
        case rel => exact ⟨j + 1, by have := unhide HKJ; omega, by go_num, by rw [unhide HST, ← ba_app, unhide HEX], unhide HB⟩
    · obtain rfl : j = s.size := by omega
      have HT := hide (show s.toList.take s.size = s.toList by rw [← unhide HSL, List.take_length])
      rw [unhide HT] at hlo ⊢
      clear hkj
      go_wp2_with fail
      go_ret
      exact ⟨rfl, unhide HB⟩
end Go.Proofs.YthfjnfcekeknlaaDoor
namespace Go.Proofs.YthfjnfcekeknlaaDoor
open Go.RowKit

def gr4B : List ByteArray := [⟨#[48]⟩, ⟨#[49]⟩, ⟨#[97]⟩, ⟨#[102, 40, 97, 41]⟩]
theorem gr4B_is {m : Nat} (h : m < 4) : ∃ r ∈ Parl.gr4, (gr4B[m]'h).toList = Parl.wr r ∧ (gr4B[m]'h).size ≤ 10 := by
  rcases (show m = 0 ∨ m = 1 ∨ m = 2 ∨ m = 3 by omega) with rfl | rfl | rfl | rfl
  · exact ⟨.n 3 [] 0 [], by simp [Parl.gr4], by rw [Parl.wr_n, if_pos rfl, Parl.dec_one (by decide) (by decide), ByteArray.toList_eq]; rfl, by show 1 ≤ 10; decide⟩
  · exact ⟨.n 3 [] 1 [], by simp [Parl.gr4], by rw [Parl.wr_n, if_pos rfl, Parl.dec_one (by decide) (by decide), ByteArray.toList_eq]; rfl, by show 1 ≤ 10; decide⟩
  · exact ⟨Parl.uA, by simp [Parl.gr4], by rw [ByteArray.toList_eq]; simp [gr4B, Parl.uA, Parl.wr, Parl.wrL, Parl.argS], by show 1 ≤ 10; decide⟩
  · exact ⟨.n 1 [102] 0 [Parl.uA], by simp [Parl.gr4], by rw [ByteArray.toList_eq]; simp [gr4B, Parl.uA, Parl.wr, Parl.wrL, Parl.argS], by show 4 ≤ 10; decide⟩
def vB : ByteArray := ⟨#[88, 89, 90, 87]⟩
theorem vB_at {j : Nat} (h : j < vB.size) : 65 ≤ vB[j].toNat ∧ vB[j].toNat ≤ 90 ∧ Parl.vars4.take (j + 1) = Parl.vars4.take j ++ [([vB[j]], 0)] := by
  have h4 : j < 4 := h
  rcases (show j = 0 ∨ j = 1 ∨ j = 2 ∨ j = 3 by omega) with rfl | rfl | rfl | rfl
  · exact ⟨by show 65 ≤ (88 : UInt8).toNat; decide, by show (88 : UInt8).toNat ≤ 90; decide, rfl⟩
  · exact ⟨by show 65 ≤ (89 : UInt8).toNat; decide, by show (89 : UInt8).toNat ≤ 90; decide, rfl⟩
  · exact ⟨by show 65 ≤ (90 : UInt8).toNat; decide, by show (90 : UInt8).toNat ≤ 90; decide, rfl⟩
  · exact ⟨by show 65 ≤ (87 : UInt8).toNat; decide, by show (87 : UInt8).toNat ≤ 90; decide, rfl⟩

set_option maxHeartbeats 4000000 in
set_option maxRecDepth 100000 in
theorem groundK (w : World) (xb : Nat) (a : Parl.U) (h : SrcA w xb) (ha : Parl.smp a) (hl : (Parl.wr a).length ≤ 16) :
    Calls Tryd.prog 13 #[.string ⟨(Parl.wr a).toArray⟩, .pointer (some ⟨xb, 0, none⟩)] w fun e w' => (∃ c, Parl.GS a Parl.vars4 c ∧ e = .returned (.string ⟨(Parl.wr c).toArray⟩)) ∧ SrcA w' xb ∧ FrG (OnX xb) (OnX xb) w w' := by
  have HSM := hide ha
  have HL := hide hl
  have HSRC := hide h
  have hx := h.lt
  clear h ha hl
  go_enter Tryd.func13, Tryd.ntmps13
  go_wp2_with fail
  go_loopg [0, 5] 4 (fun k sv iv wr => ∃ (j : Nat) (u : Parl.U), k + j = 4 ∧ iv = .int .i64 (j : Int) ∧ sv = .string ⟨(Parl.wr u).toArray⟩ ∧ Parl.GS a (Parl.vars4.take j) u ∧ SrcA wr xb ∧ FrG (OnX xb) (OnX xb) w wr)
  case atStart => exact ⟨0, a, by omega, rfl, rfl, Parl.GS.start a, unhide HSRC, FrG.of_below (Below.refl _ _)⟩
  case round =>
    obtain ⟨j, u, hkj, rfl, rfl, hgs, hsr, hfr⟩ := hrel
    have hsm := hgs.smp (unhide HSM)
    have hul : (Parl.wr u).length ≤ 64 := by have := unhide HL; omega
    have hxr := hsr.lt
    have HGS := hide hgs
    have HSR := hide hsr
    have HFR := hide hfr
    have HSU := hide hsm.1
    have zz := hfr.size
    clear hgs hsr hfr hsm
    by_cases hlt : j < 4
    · have hjv : j < vB.size := hlt
      obtain ⟨c1, c2, c3⟩ := vB_at hjv
      have HB1 := hide ((Below.refl wr.heap.size wr).alloc (Nat.le_refl _) (.cells #[.string ⟨#[48]⟩, .string ⟨#[49]⟩, .string ⟨#[97]⟩, .string ⟨#[102, 40, 97, 41]⟩] 9))
      have HN := hide (nextK_any (wr.alloc (.cells #[.string ⟨#[48]⟩, .string ⟨#[49]⟩, .string ⟨#[97]⟩, .string ⟨#[102, 40, 97, 41]⟩] 9)) xb 4 ((unhide HSR).below (unhide HB1)) (by omega) (by omega))
      have HKJ := hide hkj
      have t4 : decide ((j : Int) < 4) = true := by simp; omega
      go_wp2_with fail
      refine (unhide HN).mono ?_
      rintro e w2 ⟨⟨m, hm, rfl⟩, hs2, fr2⟩
      have f0 : w2.cell? ⟨wr.heap.size, m, none⟩ = some (.string (gr4B[m]'hm)) := by
        rw [strs_at (heap_alloc_new wr _) (by omega) fr2 m]
        rcases (show m = 0 ∨ m = 1 ∨ m = 2 ∨ m = 3 by omega) with rfl | rfl | rfl | rfl <;> rfl
      obtain ⟨r, r1, r2, r3⟩ := gr4B_is hm
      have gz : wr.heap.size < w2.heap.size := by have := fr2.size; rw [World.size_alloc] at this; omega
      have i0 : (0 : Int) ≤ (m : Int) := by omega
      have i1 : (m : Int) < 4 := by omega
      have j0 : (0 : Int) ≤ (j : Int) := by omega
      have j1 : (j : Int) < 4 := by omega
      have HS2 := hide hs2
      have HF2 := hide ((unhide HFR).trans ((FrG.of_below (unhide HB1)).trans fr2))
      have HR1 := hide r1
      have IP := hide (fun W => putK_any W ⟨(Parl.wr u).toArray⟩ (gr4B[m]'hm) vB[j] (by show (Parl.wr u).toArray.size ≤ 100; simp; omega) r3)
      rw [r2, Parl.ba_list, ← Parl.wr_put c1 c2 r u (unhide HSU)] at IP
      have HNX := hide ((unhide HGS).put ([vB[j]], 0) r1)
      rw [← c3] at HNX
      generalize gr4B[m] = tt at *
      unfold vB at IP
      clear hs2 fr2 r1 r2 r3 c1 c2 c3
      go_wp2_with fail
      go_region_held3 (fun w' => w'.cell? ⟨wr.heap.size, m, none⟩ = some (.string tt)) (first | go_keep | (exact ((unhide HB2).cell (p := ⟨wr.heap.size, m, none⟩) gz).trans f0)) ((go_at_call 17; refine (unhide IP _).mono ?_; rintro e w3 ⟨rfl, hb3⟩; have HB2 := hide hb3; clear hb3))
      all_goals
        have HS3 := hide (((unhide HS2).below (Below.refl _ _).drew).below (unhide HB2))
        have HF3 := hide ((unhide HF2).trans ((FrG.of_below (Below.refl _ _).drew).trans (FrG.of_below (unhide HB2))))
        clear f0
        go_wp2_with fail
        go_roundg (gk - 1)
        case measure => have := unhide HKJ; omega
        case rel => exact ⟨j + 1, _, by have := unhide HKJ; omega, by go_num, rfl, unhide HNX, unhide HS3, unhide HF3⟩
    · obtain rfl : j = 4 := by omega
      have HGE := hide (show Parl.GS a Parl.vars4 u from unhide HGS)
      clear hkj
      go_wp2_with fail
      go_ret
      exact ⟨⟨u, unhide HGE, rfl⟩, unhide HSR, unhide HFR⟩
end Go.Proofs.YthfjnfcekeknlaaDoor
namespace Go.Proofs.YthfjnfcekeknlaaDoor
open Go.RowKit

theorem unK (W : World) (he : Env W) {x y : Parl.U} (hx : Parl.Rd x) (hy : Parl.Rd y) (sx : (Parl.wr x).length ≤ 64) (sy : (Parl.wr y).length ≤ 64) :
    Calls Tryd.prog 12 #[.string ⟨(Parl.wr x).toArray⟩, .string ⟨(Parl.wr y).toArray⟩] W fun e w' => e = .returned (.tuple #[.string ⟨(Parl.un2 x y).1.toArray⟩, .bool (Parl.un2 x y).2.1, .int .i64 ((Parl.un2 x y).2.2 : Int)]) ∧ Below W.heap.size W w' := by
  obtain ⟨la, hLa, hha, hla⟩ := Parl.toks_of ⟨(Parl.wr x).toArray⟩
  obtain ⟨lb, hLb, hhb, hlb⟩ := Parl.toks_of ⟨(Parl.wr y).toArray⟩
  rw [← Parl.unA_rd hx hy sx sy rfl rfl hLa hha hLb hhb]
  exact unA_any W _ _ la lb hLa hha (fun h => hla (by omega)) hLb hhb (fun h => hlb (by omega)) he.sg he.pow he.pos
theorem maK (W : World) (he : Env W) {x y : Parl.U} (hx : Parl.Rd x) (hy : Parl.Rd y) (sx : (Parl.wr x).length ≤ 64) (sy : (Parl.wr y).length ≤ 64) :
    Calls Tryd.prog 14 #[.string ⟨(Parl.wr x).toArray⟩, .string ⟨(Parl.wr y).toArray⟩] W fun e w' => ∃ (o : Option Addr) (c : Nat), e = .returned (.tuple #[.int .i64 (Parl.say2 x y : Int), .slice o (Parl.wts2 x y).length c, .int .i64 0]) ∧ w'.ownsRow W.heap.size 9 1 (.slice o (Parl.wts2 x y).length c) (Parl.wts2 x y).length ((Parl.wts2 x y).map fun x => .string ⟨x.toArray⟩) ∧ Below W.heap.size W w' := by
  obtain ⟨la, hLa, hha, hla⟩ := Parl.toks_of ⟨(Parl.wr x).toArray⟩
  obtain ⟨lb, hLb, hhb, hlb⟩ := Parl.toks_of ⟨(Parl.wr y).toArray⟩
  obtain ⟨m1, m2, m3⟩ := Parl.mat_rd hx hy sx sy rfl rfl hLa hha hLb hhb
  refine (maA_any W _ _ la lb hLa hha (fun h => hla (by omega)) hLb hhb (fun h => hlb (by omega)) he.sg he.pos).mono ?_
  rintro e w' ⟨ov, h1, h2, h3⟩
  rw [m1, m2] at h1
  rw [m3] at h2
  rcases h2.2 with ⟨q, q0⟩ | ⟨g, cp, cur, q, _⟩
  · refine ⟨none, 0, ?_, ?_, h3⟩
    · rw [h1, q, q0]
      rfl
    · rw [q0] at h2 ⊢
      rw [q] at h2
      exact h2
  · exact ⟨_, cp, by rw [h1, q]; rfl, by rw [q] at h2; exact h2, h3⟩
/-- A row of texts lies there. -/
def RowS (w : World) (o : Option Addr) (xs : List ByteArray) : Prop := xs ≠ [] → ∃ g, o = some ⟨g, 0, none⟩ ∧ g < w.heap.size ∧ ∀ i (h : i < xs.length), w.cell? ⟨g, i, none⟩ = some (.string xs[i])
theorem RowS.below {w w' : World} {o : Option Addr} {xs : List ByteArray} (h : RowS w o xs) (hb : Below w.heap.size w w') : RowS w' o xs := fun q => by
  obtain ⟨g, h1, h2, h3⟩ := h q
  exact ⟨g, h1, Nat.lt_of_lt_of_le h2 hb.size, fun i hi => (hb.cell (p := ⟨g, i, none⟩) h2).trans (h3 i hi)⟩
theorem RowS.of_own {w : World} {b : Nat} {T : TypeId} {o : Option Addr} {n c : Nat} {ys : List (List UInt8)} (h : w.ownsRow b T 1 (.slice o n c) n (ys.map fun x => Value.string ⟨x.toArray⟩)) (hn : n = ys.length) : RowS w o (ys.map fun x => (⟨x.toArray⟩ : ByteArray)) := fun q => by
  rcases h.2 with ⟨q1, q0⟩ | ⟨g, cp, cur, q1, _⟩
  · rw [q0] at hn
    rw [List.length_eq_zero_iff.1 hn.symm] at q
    exact absurd rfl q
  · simp only [Value.slice.injEq] at q1
    have hg := q1.1
    subst hg
    refine ⟨g, rfl, (h.lt g rfl).2, fun i hi => ?_⟩
    rw [List.length_map] at hi
    rw [h.cellAt i (by omega), List.getElem?_map, List.getElem?_eq_getElem hi]
    simp

set_option maxHeartbeats 2000000 in
theorem sameK (w : World) (xs : List ByteArray) (oa ob : Option Addr) (ca cb : Nat) (ha : RowS w oa xs) (hb : RowS w ob xs) (hl : xs.length ≤ 1000000) :
    Calls Tryd.prog 21 #[.slice oa xs.length ca, .slice ob xs.length cb] w fun e w' => e = .returned (.bool true) ∧ Below w.heap.size w w' := by
  have HA := hide ha
  have HB := hide hb
  clear ha hb
  go_enter Tryd.func21, Tryd.ntmps21
  go_wp2_with fail
  go_loopg [5] xs.length (fun k iv wr => ∃ j : Nat, k + j = xs.length ∧ iv = .int .i64 (j : Int) ∧ Below w.heap.size w wr)
  case atStart => exact ⟨0, by omega, rfl, Below.refl _ _⟩
  case round =>
    obtain ⟨j, hkj, rfl, hbe⟩ := hrel
    have HBE := hide hbe
    have zz := hbe.size
    by_cases hlt : j < xs.length
    · obtain ⟨g, rfl, gz, ga⟩ := unhide HA (fun q => by rw [q] at hlt; simp at hlt)
      obtain ⟨g2, rfl, gz2, gb⟩ := unhide HB (fun q => by rw [q] at hlt; simp at hlt)
      have f0 : wr.cell? ⟨g, j, none⟩ = some (.string xs[j]) := (hbe.cell (p := ⟨g, j, none⟩) gz).trans (ga j hlt)
      have f1 : wr.cell? ⟨g2, j, none⟩ = some (.string xs[j]) := (hbe.cell (p := ⟨g2, j, none⟩) gz2).trans (gb j hlt)
      have i0 : (0 : Int) ≤ (j : Int) := by omega
      have i1 : (j : Int) < (xs.length : Int) := by omega
      have gy : g < wr.heap.size := by omega
      have gy2 : g2 < wr.heap.size := by omega
      generalize xs[j] = x at *
      clear hbe ga gb
      go_wp2_with fail
      go_big_region
      go_wp2_with fail
      go_roundg (gk - 1)
      case measure => omega
      case rel => exact ⟨j + 1, by omega, by go_num, (unhide HBE).drew⟩
    · obtain rfl : j = xs.length := by omega
      clear hbe
      go_wp2_with fail
      go_ret
      exact ⟨rfl, unhide HBE⟩

set_option maxHeartbeats 4000000 in
set_option maxRecDepth 100000 in
theorem joinsK (w : World) (he : Env w) :
    Calls Tryd.prog 10 #[] w fun e w' => e = .returned (.bool true) ∧ Below w.heap.size w w' := by
  obtain ⟨rx, ry, rz⟩ := Parl.j_rd
  have IU := hide (unK w he rx ry (by rw [Parl.j_tx.1]; decide) (by rw [Parl.j_tx.2.1]; decide))
  have IM := hide (fun W (q : Env W) => maK W q rx rz (by rw [Parl.j_tx.1]; decide) (by rw [Parl.j_tx.2.2]; decide))
  rw [Parl.j_tx.1, Parl.j_tx.2.1, Parl.j_un] at IU
  rw [Parl.j_tx.1, Parl.j_tx.2.2, Parl.j_says.1, Parl.j_says.2] at IM
  have HE := hide he
  clear he rx ry rz
  go_enter Tryd.func10, Tryd.ntmps10
  go_wp2_with fail
  refine (unhide IU).mono ?_
  rintro e w1 ⟨rfl, hb1⟩
  have HB1 := hide hb1
  have HE1 := hide ((unhide HE).below hb1)
  clear hb1
  go_wp2_with fail
  refine (unhide IM w1 (unhide HE1)).mono ?_
  rintro e w2 ⟨o, c, rfl, ho, hb2⟩
  have hr := RowS.of_own ho rfl
  have HB2 := hide ((unhide HB1).trans (hb2.mono (unhide HB1).size))
  have HR := hide (hr.below ((Below.refl _ _).alloc (Nat.le_refl _) (.cells #[.string ⟨#[90]⟩] 9)))
  have HR2 := hide (show RowS (w2.alloc (.cells #[.string ⟨#[90]⟩] 9)) (some ⟨w2.heap.size, 0, none⟩) [⟨#[90]⟩] from fun _ => ⟨w2.heap.size, rfl, by simp, fun i hi => by
    obtain rfl : i = 0 := by simpa using hi
    exact blkA (heap_alloc_new w2 _) 0⟩)
  clear hb2 ho hr
  have IS := hide (sameK (w2.alloc (.cells #[.string ⟨#[90]⟩] 9)) [⟨#[90]⟩] o (some ⟨w2.heap.size, 0, none⟩) c 1 (unhide HR) (unhide HR2) (by decide))
  go_wp2_with fail
  refine (unhide IS).mono ?_
  rintro e w3 ⟨rfl, hb3⟩
  have HB3 := hide (((unhide HB2).alloc (unhide HB2).size (.cells #[.string ⟨#[90]⟩] 9)).trans (hb3.mono (by have := (unhide HB2).size; simp; omega)))
  clear hb3
  go_wp2_with fail
  go_ret
  exact ⟨rfl, unhide HB3⟩
end Go.Proofs.YthfjnfcekeknlaaDoor
namespace Parl
/-- What is known of a term that was made. -/
structure Mk (u : U) : Prop where
  smp : Parl.smp u
  rd : Rd u
  hi : high u ≤ 3
  np : ncp (subs u) ≤ 3
  sz : size u ≤ 7
  len : (wr u).length ≤ 16
  vs : ∀ x, has x u → x ∈ vars4
theorem mk_of {t : Tm} (h : gT 2 t) : ∃ u, Mk u ∧ tx t = wr u := by
  obtain ⟨u, h1, h2⟩ := gT_mk 2 t (by omega) h
  obtain ⟨k1, k2, k3, k4, k5, k6⟩ := mk_facts 2 u h1
  exact ⟨u, ⟨k1, k1.rd (by omega), k2, by omega, by omega, by omega, k6⟩, h2⟩
theorem un2_refl {a : U} (h : Mk a) : ∃ s, un2 a a = (s, true, 0) := by
  unfold un2
  rw [unR_is (isM_inst h.rd.z0 ⟨.v, sub_self a⟩)]
  have e : size (sdU 1 a) = size a := size_ren _ a
  rw [if_neg (by have := h.sz; omega)]
  exact ⟨_, rfl⟩
theorem gs_rd {a c : U} (h : Mk a) (hc : GS a vars4 c) : Rd c ∧ (wr c).length ≤ 64 ∧ (∀ v, ¬ has v c) ∧ ∃ γ : Vr → U, sub γ a = c := by
  obtain ⟨k1, k2, k3⟩ := hc.smp h.smp
  obtain ⟨k4, k5⟩ := hc.gnd h.vs
  exact ⟨k1.rd (by have := h.hi; omega), by have := h.len; omega, k4, k5⟩
end Parl
namespace Go.Proofs.YthfjnfcekeknlaaDoor
open Go.RowKit

set_option maxHeartbeats 4000000 in
set_option maxRecDepth 100000 in
theorem common_walk (w : World) (o : Option Addr) (n c : Nat) (he : Env w) (hr : RawA w w.heap.size o n) :
    Calls Tryd.prog 4 #[.slice o n c] w fun e w' => e = .returned (.bool true) ∧ Below w.heap.size w w' := by
  have HR := hide (joinsK w he)
  have HE := hide he
  have HRAW := hide hr
  clear he hr
  go_enter Tryd.func4, Tryd.ntmps4
  go_wp2_with fail
  refine (unhide HR).mono ?_
  rintro e w1 ⟨rfl, hb1⟩
  have HB1 := hide hb1
  have z1 := hb1.size
  clear hb1
  go_wp2_with fail
  have HB1a := hide ((unhide HB1).alloc z1 (.cells #[.slice o n c, .int .i64 0] 26))
  refine (term_2 _ _ (src_start (((unhide HRAW).keep fun b q => (unhide HB1).block b q).wide z1))).mono ?_
  rintro e w2 ⟨⟨ta, hta, rfl⟩, hs2, fr2⟩
  obtain ⟨a, ma, ea⟩ := Parl.mk_of hta
  rw [ea]
  have HB2 := hide ((unhide HB1a).trans (fr2.down (b := w.heap.size) (by simp; omega) (fun k q => by have : k = w1.heap.size := q; omega)))
  have HS2 := hide hs2
  have HMA := hide ma
  clear hs2 fr2 hta ea ma
  go_wp2_with fail
  refine (term_2 _ _ (unhide HS2)).mono ?_
  rintro e w3 ⟨⟨tb, htb, rfl⟩, hs3, fr3⟩
  obtain ⟨b, mb, eb⟩ := Parl.mk_of htb
  rw [eb]
  have HB3 := hide ((unhide HB2).trans (fr3.down (b := w.heap.size) (unhide HB2).size (fun k q => by have : k = w1.heap.size := q; omega)))
  have HS3 := hide hs3
  have HMB := hide mb
  clear hs3 fr3 htb eb mb
  have lA := (unhide HMA).len
  have lB := (unhide HMB).len
  have IU1 := hide (fun W (q : Env W) => unK W q (unhide HMA).rd (unhide HMB).rd (by omega) (by omega))
  have IU2 := hide (fun W (q : Env W) => unK W q (unhide HMB).rd (unhide HMA).rd (by omega) (by omega))
  have IU3 := hide (fun W (q : Env W) => unK W q (unhide HMA).rd (unhide HMA).rd (by omega) (by omega))
  obtain ⟨ss, hss⟩ := Parl.un2_refl (unhide HMA)
  rw [Parl.un2_swap b a] at IU2
  rw [hss] at IU3
  have hU := Parl.un2_is (unhide HMA).rd (unhide HMB).rd (by have := (unhide HMA).np; have := (unhide HMB).np; omega)
  generalize hRR : Parl.un2 a b = R at *
  have IM1 := hide (fun W (q : Env W) (c : Parl.U) (hc : Parl.GS a Parl.vars4 c) => maK W q (unhide HMB).rd (Parl.gs_rd (unhide HMA) hc).1 (by omega) (Parl.gs_rd (unhide HMA) hc).2.1)
  have IM2 := hide (fun W (q : Env W) (z : Parl.U) (hz : Parl.Rd z) (hl : (Parl.wr z).length ≤ 64) => maK W q (unhide HMA).rd hz (by omega) hl)
  have IM3 := hide (fun W (q : Env W) (z : Parl.U) (hz : Parl.Rd z) (hl : (Parl.wr z).length ≤ 64) => maK W q (unhide HMB).rd hz (by omega) hl)
  have IU4 := hide (fun W (q : Env W) (z : Parl.U) (hz : Parl.Rd z) (hl : (Parl.wr z).length ≤ 64) => unK W q hz (unhide HMA).rd hl (by omega))
  have IG := hide (fun W (q : SrcA W w1.heap.size) => groundK W w1.heap.size a q (unhide HMA).smp lA)
  clear hRR hss
  generalize hAA : (⟨(Parl.wr a).toArray⟩ : ByteArray) = A at *
  generalize hBB : (⟨(Parl.wr b).toArray⟩ : ByteArray) = B at *
  clear hAA hBB
  go_wp2_with fail
  refine (unhide IU1 _ ((unhide HE).below (unhide HB3))).mono ?_
  rintro e w4 ⟨rfl, hb4⟩
  have HS4 := hide ((unhide HS3).below hb4)
  have HB4 := hide ((unhide HB3).trans (hb4.mono (unhide HB3).size))
  clear hb4
  go_wp2_with fail
  refine (unhide IU2 _ ((unhide HE).below (unhide HB4))).mono ?_
  rintro e w5 ⟨rfl, hb5⟩
  have HS5 := hide ((unhide HS4).below hb5)
  have HB5 := hide ((unhide HB4).trans (hb5.mono (unhide HB4).size))
  clear hb5
  go_wp2_with fail
  refine (unhide IU3 _ ((unhide HE).below (unhide HB5))).mono ?_
  rintro e w6 ⟨rfl, hb6⟩
  have HS6 := hide ((unhide HS5).below hb6)
  have HB6 := hide ((unhide HB5).trans (hb6.mono (unhide HB5).size))
  clear hb6 HS2 HS3 HS4 HS5 IU1 IU2 IU3
  cases hU with
  | large =>
    go_wp2_with fail
    go_ret
    exact ⟨rfl, unhide HB6⟩
  | no hno =>
    have HNO := hide hno
    clear hno
    go_wp2_with fail
    refine (unhide IG _ (unhide HS6)).mono ?_
    rintro e w7 ⟨⟨cc, hgs, rfl⟩, -, fr7⟩
    have HB7 := hide ((unhide HB6).trans (fr7.down (b := w.heap.size) (unhide HB6).size (fun k q => by have : k = w1.heap.size := q; omega)))
    obtain ⟨g1, g2, g3, g4⟩ := Parl.gs_rd (unhide HMA) hgs
    have HSAY := hide (Parl.common_no (unhide HMB).rd g1 (unhide HNO) g3 g4)
    have IM := hide (unhide IM1 w7 ((unhide HE).below (unhide HB7)) cc hgs)
    rw [unhide HSAY] at IM
    clear fr7 hgs g1 g2 g3 g4
    go_wp2_with fail
    refine (unhide IM).mono ?_
    rintro e w8 ⟨o8, c8, rfl, -, hb8⟩
    have HB8 := hide ((unhide HB7).trans (hb8.mono (unhide HB7).size))
    clear hb8
    go_wp2_with fail
    go_ret
    exact ⟨rfl, unhide HB8⟩
  | yes z hz hx hy hsz htx =>
    by_cases hl : (Parl.wr z).length ≤ 64
    · have IMA := hide (fun W (q : Env W) => unhide IM2 W q z hz hl)
      have IMB := hide (fun W (q : Env W) => unhide IM3 W q z hz hl)
      have IUZ := hide (fun W (q : Env W) => unhide IU4 W q z hz hl)
      rw [(Parl.say2_yes (unhide HMA).rd hz).2 hx] at IMA
      rw [(Parl.say2_yes (unhide HMB).rd hz).2 hy] at IMB
      rw [Parl.un2_self hz (unhide HMA).rd hx hsz htx] at IUZ
      have hsize : (⟨(Parl.wr z).toArray⟩ : ByteArray).size = (Parl.wr z).length := by show (Parl.wr z).toArray.size = _; simp
      have hl2 : (⟨(Parl.wr z).toArray⟩ : ByteArray).size ≤ 64 := by omega
      have t1 : decide (((⟨(Parl.wr z).toArray⟩ : ByteArray).size : Int) > 64) = false := by simp only [decide_eq_false_iff_not]; omega
      have t2 : decide ((64 : Int) < ((⟨(Parl.wr z).toArray⟩ : ByteArray).size : Int)) = false := by simp only [decide_eq_false_iff_not]; omega
      clear hz hx hy hsz htx hl hsize
      generalize (⟨(Parl.wr z).toArray⟩ : ByteArray) = S at *
      go_wp2_with fail
      refine (unhide IMA _ ((unhide HE).below (unhide HB6))).mono ?_
      rintro e w7 ⟨o7, c7, rfl, -, hb7⟩
      have HB7 := hide ((unhide HB6).trans (hb7.mono (unhide HB6).size))
      clear hb7
      go_wp2_with fail
      refine (unhide IMB _ ((unhide HE).below (unhide HB7))).mono ?_
      rintro e w8 ⟨o8, c8, rfl, -, hb8⟩
      have HB8 := hide ((unhide HB7).trans (hb8.mono (unhide HB7).size))
      clear hb8
      go_wp2_with fail
      refine (unhide IUZ _ ((unhide HE).below (unhide HB8))).mono ?_
      rintro e w9 ⟨rfl, hb9⟩
      have HB9 := hide ((unhide HB8).trans (hb9.mono (unhide HB8).size))
      clear hb9
      go_wp2_with fail
      go_ret
      exact ⟨rfl, unhide HB9⟩
    · have hsize : (⟨(Parl.wr z).toArray⟩ : ByteArray).size = (Parl.wr z).length := by show (Parl.wr z).toArray.size = _; simp
      have hl2 : 64 < (⟨(Parl.wr z).toArray⟩ : ByteArray).size := by omega
      have t1 : decide (((⟨(Parl.wr z).toArray⟩ : ByteArray).size : Int) > 64) = true := by simp only [decide_eq_true_eq]; omega
      have t2 : decide ((64 : Int) < ((⟨(Parl.wr z).toArray⟩ : ByteArray).size : Int)) = true := by simp only [decide_eq_true_eq]; omega
      clear hz hx hy hsz htx hl hsize
      generalize (⟨(Parl.wr z).toArray⟩ : ByteArray) = S at *
      go_wp2_with fail
      go_ret
      exact ⟨rfl, unhide HB6⟩
end Go.Proofs.YthfjnfcekeknlaaDoor
namespace Go.Proofs.YthfjnfcekeknlaaDoor
open Go.ChangeShapes Go.WideShapes Go.ChangeAt Go.RowKit

set_option maxRecDepth 100000 in
theorem common_contract (H : Type) (enc : TypeId × Value → H) (W : World) (base : Nat) (args : Array Value) (ds gs : List (DataW H)) (before : List MemPlace)
    (hval : ∀ (j : Nat) t v, Tryd.f4.params[j]? = some t → args[j]? = some v → Value.okWide Tryd.prog W .any base t v)
    (hW : DataW.Whole enc Tryd.prog Tryd.f4.params.toList Rows.commonSpec.vars false W args.toList ds gs before) (hL : laidMetH Tryd.prog Rows.commonRow.laid W) :
    Calls Tryd.prog 4 args W fun e W' => ∃ v, e = .returned v ∧ Rows.commonSpec.post enc Tryd.prog Tryd.f4 false true false false W args v W' := by
  have hW' := hW
  obtain ⟨p, q, hA0, hV, rfl, _, _⟩ := hW
  have hA : DataW.TrodAll enc Tryd.prog W 0 (fun _ => true) true Tryd.f4.params.toList args.toList ds p := hA0
  rw [Tryd.params4] at hA hval
  obtain ⟨v0, d0, rfl, rfl, h0⟩ := trodAll_one hA
  obtain ⟨rfl, rfl⟩ := trodVars_none hV
  obtain ⟨a0, len, cap, rfl⟩ := okWide_slice Tryd.underlying22 (hval 0 22 v0 rfl rfl)
  have h0k := h0
  obtain ⟨fuel, hf⟩ := h0
  clear hA0
  simp only [List.append_nil] at hW'
  have hlt : ∀ x ∈ p, x.block < W.heap.size := fun x hx => by simpa using hW'.lt x hx
  have he := env_of hL
  have walk : Calls Tryd.prog 4 #[.slice a0 len cap] W fun e w' => e = .returned (.bool true) ∧ Below W.heap.size W w' := common_walk W a0 len cap he (raw_of hf hlt)
  refine walk.mono fun e W' ⟨he, hb⟩ => ?_
  subst he
  exact ⟨_, rfl, _, _, _, [], p, [], hW', trodAll_mk1 (shut_bool Tryd.underlying4 _), trodAll_mk1 (Below.trod lawLaid (by kernel_rfl) (of_decide_eq_true (by kernel_rfl)) h0k hb hlt), rfl, hb.frame _, fun h => by cases h⟩

theorem common_reads (os : Os) {H : Type} (enc : TypeId × Value → H) : ∃ places, DataW.whole enc Tryd.prog ((laidWorld os).forCall (fun _ _ => 0) ⟨#[], #[.slice Option.none 0 0], []⟩).memory Tryd.f4.params.toList Rows.commonSpec.vars false #[Value.slice Option.none 0 0].toList 8 = some ([.nil], [], places) :=
  ⟨[], by kernel_rfl⟩

set_option maxRecDepth 100000 in
theorem common_lifted (os : Os) (started : os.Started) (H : Type) (enc : TypeId × Value → H) (F : Stop.Interp) :
    ReturnsInHanded {} Tryd.checked os 4 .any ((OpenSpec.ofChange Rows.commonSpec).preRow enc Tryd.prog Tryd.f4 Rows.commonRow.domain false Rows.commonRow.laid) (((OpenSpec.ofChange Rows.commonSpec).at F).post enc Tryd.prog Tryd.f4 false true false false) := by
  obtain ⟨places, hx⟩ := common_reads os enc
  refine returnsInHanded_of_row (C := Tryd.checked) (s := OpenSpec.ofChange Rows.commonSpec) lawOwn started (by kernel_rfl) Tryd.func4
    (witness_row_at (enc := enc) (C := Tryd.checked) false (laidWorld os) #[.slice Option.none 0 0] rfl (by kernel_rfl) (by kernel_rfl) (by kernel_rfl)
      (OpenSpec.preRow_of_cond 8 hx (by kernel_rfl) (fun k hk => by cases hk) (by kernel_rfl) (laid_met os))) ?_
  intro W base args ds gs before hval hW _ _ _ hL _ _
  exact common_contract H enc W base args ds gs before hval hW hL

theorem common_said : Rows.CommonSaid :=
  OpenClaim.holds_of_cond 4 Tryd.f4 rfl rfl rfl rfl rfl rfl rfl ⟨rfl, rfl, rfl, rfl, rfl⟩ rfl rfl rfl rfl rfl (by kernel_rfl) Tryd.func4 (by kernel_rfl)
    (of_decide_eq_true (by kernel_rfl)) (by unfold Func.isWrapper; first | (rw [if_pos (by decide +kernel)]; kernel_rfl) | (rw [if_neg (by decide +kernel)]; exact ⟨rfl, rfl⟩))
    (fun os started H enc _ F => by rw [OpenClaim.pre_eq_preRow]; exact common_lifted os started H enc F)

theorem common_plain (f : FuncId) (fn : Func) (hf : Tryd.pinned.checked.prog.funcNamed "parley/parleykeep.Common" = some f) (hfn : Tryd.pinned.checked.prog.funcs[f]? = some fn) :
    false = Tryd.pinned.checked.prog.looks [] ∧ ∀ (j : Nat) t, fn.params[j]? = some t → Tryd.pinned.checked.prog.wantsStandIn t = false := by
  obtain rfl : f = 4 := Option.some.inj ((show Tryd.prog.funcNamed "parley/parleykeep.Common" = some 4 by kernel_rfl).symm.trans hf) |>.symm
  obtain rfl : fn = Tryd.f4 := (Option.some.inj (Tryd.func4.symm.trans hfn)).symm
  refine ⟨by kernel_rfl, fun j t ht => ?_⟩
  rw [Tryd.params4] at ht
  obtain rfl : t = 22 := by simpa using Array.mem_of_getElem? ht
  exact (show Tryd.prog.wantsStandIn 22 = false by kernel_rfl)

theorem common_holds : Rows.CommonCardSaid :=
  Claim7.holds_tied_plain_at .later [] _ _ _ _ common_said (fun _ h => by cases h) (by kernel_rfl) (fun _ h => by cases h) common_row_tie rfl ⟨rfl, rfl⟩ (by kernel_rfl) rfl common_plain (by kernel_rfl)
end Go.Proofs.YthfjnfcekeknlaaDoor
