import Derived.Test.YthfjnfcekeknlaaGreatDoorU26
import Derived.Deep.RegionHeld3
import Derived.Deep.LoopGhost
import Derived.Deep.DeepCutAuto
import Derived.Deep.AppendLies
import Derived.Deep.RegionLaw
namespace Parl
/-- What is known of an equation once a variable stands on its left, if it has one. -/
def Nrm (θ : Vr → U) (l : List (U × U)) (r : Option (List (Vr × U))) (k : Nat) (a b : U) : Prop :=
  (∃ k1 t1 n1 s1 k2 t2 n2 s2, a = .n k1 t1 n1 s1 ∧ b = .n k2 t2 n2 s2 ∧ ((same2 k2 t2 n2 s2 k1 t1 n1 s1 ∧ ∃ m, k = m + 1 ∧ SolB (fun x y => ltV x y = true) θ (s1.zip s2 ++ l) r m) ∨ (¬ same2 k2 t2 n2 s2 k1 t1 n1 s1 ∧ r = none))) ∨
  ∃ x, a = .v x ∧ ((b = .v x ∧ ∃ m, k = m + 1 ∧ SolB (fun x y => ltV x y = true) θ l r m) ∨ (b ≠ .v x ∧ has x b ∧ r = none) ∨
    (b ≠ .v x ∧ ¬ has x b ∧ ∃ r' m, k = m + 1 ∧ r = r'.map ((x, b) :: ·) ∧ θ x = sub θ b ∧ SolB (fun x y => ltV x y = true) θ (l.map fun e => (put e.1 x b, put e.2 x b)) r' m))
def isVr : U → Bool
  | .v _ => true
  | _ => false
/-- Are the sides put into another order? -/
def swp : U → U → Bool
  | .v x, .v y => ltV x y
  | .v _, .n .. => false
  | .n .., _ => true
theorem SolB.nrm {θ : Vr → U} {l : List (U × U)} {r : Option (List (Vr × U))} {k : Nat} {a b : U} (h : SolB (fun x y => ltV x y = true) θ ((a, b) :: l) r k) : Nrm θ l r k (if swp a b = true then b else a) (if swp a b = true then a else b) := by
  cases a with
  | v x =>
    cases b with
    | v y =>
      show Nrm θ l r k (if ltV x y = true then _ else _) (if ltV x y = true then _ else _)
      rcases h.at_vv with ⟨rfl, hm⟩ | ⟨h1, h2, hm⟩ | ⟨h1, h2, hm⟩
      · have : ltV x x = false := by unfold ltV; rw [if_pos rfl]; simp
        rw [this]
        exact Or.inr ⟨x, rfl, Or.inl ⟨rfl, hm⟩⟩
      · rw [if_neg h2, if_neg h2]
        exact Or.inr ⟨x, rfl, Or.inr (Or.inr ⟨fun e => h1 (by injection e with e; exact e.symm), fun e => h1 (by rw [has] at e; exact e.symm), hm⟩)⟩
      · rw [if_pos h2, if_pos h2]
        exact Or.inr ⟨y, rfl, Or.inr (Or.inr ⟨fun e => h1 (by injection e), fun e => h1 (by rw [has] at e; exact e), hm⟩)⟩
    | n kk tx nu ss =>
      show Nrm θ l r k (if false = true then _ else _) (if false = true then _ else _)
      rw [if_neg (by decide), if_neg (by decide)]
      rcases h.at_vn with ⟨h1, h2⟩ | ⟨h1, hm⟩
      · exact Or.inr ⟨x, rfl, Or.inr (Or.inl ⟨(fun e => by cases e), h1, h2⟩)⟩
      · exact Or.inr ⟨x, rfl, Or.inr (Or.inr ⟨(fun e => by cases e), h1, hm⟩)⟩
  | n kk tx nu ss =>
    have hsw : swp (.n kk tx nu ss) b = true := by cases b <;> rfl
    rw [if_pos hsw, if_pos hsw]
    cases b with
    | v y =>
      rcases h.at_nv with ⟨h1, h2⟩ | ⟨h1, hm⟩
      · exact Or.inr ⟨y, rfl, Or.inr (Or.inl ⟨(fun e => by cases e), h1, h2⟩)⟩
      · exact Or.inr ⟨y, rfl, Or.inr (Or.inr ⟨(fun e => by cases e), h1, hm⟩)⟩
    | n k2 t2 n2 s2 =>
      rcases h.at_nn with ⟨h1, hm⟩ | ⟨h1, h2⟩
      · exact Or.inl ⟨_, _, _, _, _, _, _, _, rfl, rfl, Or.inl ⟨h1, hm⟩⟩
      · exact Or.inl ⟨_, _, _, _, _, _, _, _, rfl, rfl, Or.inr ⟨h1, h2⟩⟩
end Parl
namespace Go.Proofs.YthfjnfcekeknlaaGreatDoor
open Go.RowKit

def bvO (p : BV) : Obj := .cells #[.int .i64 p.k, .string p.nm, .int .i64 p.num, .slice p.ao p.n p.cap] 109
theorem leaf_k {a : BV} {u : Parl.U} (h : LeafU a u) : (a.k == 2) = Parl.isVr u := by
  cases u with
  | v x => rw [h.1]; rfl
  | n k tx num ss => rw [h.1]; have := h.2.1; simp [Parl.isVr]; omega

theorem bd_one (bs : List (BV × BV)) : ∀ u ∈ bs.flatMap buC, u.oneCell' = true := fun u hu => by
  obtain ⟨p, _, hp⟩ := List.mem_flatMap.1 hu
  simp only [buC, bvC, List.cons_append, List.nil_append, List.mem_cons, List.not_mem_nil, or_false] at hp
  rcases hp with rfl | rfl | rfl | rfl | rfl | rfl | rfl | rfl <;> rfl
/-- The cells of a row of equations. -/
theorem RowE.news {w : World} {g off n c : Nat} {l : List (Parl.U × Parl.U)} (h : RowE w (.slice (some ⟨g, off, none⟩) n c) l) : n = l.length ∧ ∃ bl, All2 (EqU w) bl l ∧ (∀ j u, (bl.flatMap buC)[j]? = some u → w.cell? ((⟨g, off, none⟩ : Addr).add j) = some u) ∧ (l ≠ [] → g < w.heap.size) := by
  obtain ⟨o, c', h1, h2, h3⟩ := h
  simp only [Value.slice.injEq] at h1
  obtain ⟨rfl, rfl, rfl⟩ := h1
  refine ⟨rfl, ?_⟩
  by_cases q : l = []
  · subst q
    exact ⟨[], trivial, fun j u hu => by simp at hu, fun r => absurd rfl r⟩
  · obtain ⟨g', off', bs, cs, e1, e2, e3, e4⟩ := h3 q
    cases e1
    refine ⟨bs, e4, fun j u hu => ?_, fun _ => blk_lt' e2⟩
    have hadd : (⟨g, off, none⟩ : Addr).add j = ⟨g, off + j, none⟩ := by unfold Addr.add; split <;> simp_all
    rw [hadd, blkA' e2, ← Array.getElem?_toList, ← List.getElem?_drop]
    rw [← e3, List.getElem?_take] at hu
    split at hu
    · exact hu
    · cases hu
theorem RowE.below {w w' : World} {v : Value} {l : List (Parl.U × Parl.U)} (h : RowE w v l) (hb : Below w.heap.size w w') : RowE w' v l := by
  obtain ⟨o, c, h1, h2, h3⟩ := h
  refine ⟨o, c, h1, h2, fun q => ?_⟩
  obtain ⟨g, off, bs, cs, e1, e2, e3, e4⟩ := h3 q
  exact ⟨g, off, bs, cs, e1, (hb.block g (blk_lt' e2)).trans e2, e3, e4.imp fun p e q => q.below hb⟩
theorem RowE.of_own {w : World} {b : Nat} {v : Value} {n : Nat} {bs : List (BV × BV)} {l : List (Parl.U × Parl.U)} (h : w.ownsRow b 132 8 v n (bs.flatMap buC)) (hn : n = l.length) (ha : All2 (EqU w) bs l) : RowE w v l := by
  subst hn
  rcases h.2 with ⟨e, q⟩ | ⟨g, cap, cur, e, _, hc, hcap, _, _, ht⟩
  · exact ⟨none, 0, by rw [e, q], by omega, fun r => absurd (List.length_eq_zero_iff.1 q) r⟩
  · exact ⟨some ⟨g, 0, none⟩, cap, e, hcap, fun _ => ⟨g, 0, bs, cur, rfl, hc, by rw [List.drop_zero, ha.length]; exact ht, ha⟩⟩
theorem all2_app {α β : Type} {R : α → β → Prop} : ∀ {xs : List α} {ys : List β} {us : List α} {vs : List β}, All2 R xs ys → All2 R us vs → All2 R (xs ++ us) (ys ++ vs)
  | [], [], _, _, _, h => h
  | _ :: _, _ :: _, _, _, h, k => ⟨h.1, all2_app h.2 k⟩
theorem BdU.below {w w' : World} {p : BV × BV} {e : Parl.Vr × Parl.U} (h : BdU w p e) (hb : Below w.heap.size w w') : BdU w' p e := ⟨h.1, h.2.below hb⟩
theorem infoBd : (Tryz.prog.info? 132).map (fun i => (i.zero, i.size, i.bytes)) = some (some (.agg #[.int .i64 0, .string ⟨#[]⟩, .int .i64 0, .slice none 0 0, .int .i64 0, .string ⟨#[]⟩, .int .i64 0, .slice none 0 0]), 8, 112) := by kernel_rfl
/-- The loop that makes equations of the arguments. -/
def LZip (w5 : World) (s1 s2 : List Parl.U) (k : Nat) (mv iv : Value) (wq : World) : Prop :=
  ∃ (j : Nat) (mo : Option Addr) (mc : Nat) (bs : List (BV × BV)), k + j = s1.length ∧ iv = .int .i64 (j : Int) ∧ mv = .slice mo j mc ∧ Below w5.heap.size w5 wq ∧ wq.ownsRow w5.heap.size 132 8 (.slice mo j mc) j (bs.flatMap buC) ∧ All2 (EqU wq) bs ((s1.zip s2).take j)

/-- The equation at a place of a row. -/
theorem RowE.atj {w : World} {g off n c : Nat} {l : List (Parl.U × Parl.U)} (h : RowE w (.slice (some ⟨g, off, none⟩) n c) l) {j : Nat} (hj : j < l.length) : ∃ xa xb, VU anyU w xa l[j].1 ∧ VU anyU w xb l[j].2 ∧ g < w.heap.size ∧ ∀ i u, (buC (xa, xb))[i]? = some u → w.cell? ⟨g, off + j * 8 + i, none⟩ = some u := by
  obtain ⟨-, bl, h1, h2, h3⟩ := h.news
  have hjb : j < bl.length := by have := h1.length; omega
  have e := h1.at j hjb hj
  refine ⟨bl[j].1, bl[j].2, e.1, e.2, h3 (fun q => by rw [q] at hj; simp at hj), fun i u hu => ?_⟩
  have hi : i < 8 := by have := (List.getElem?_eq_some_iff.1 hu).1; rw [buC_len] at this; exact this
  have q := h2 (j * 8 + i) u (by rw [buC_at hjb i hi]; exact hu)
  have hadd : (⟨g, off, none⟩ : Addr).add (j * 8 + i) = ⟨g, off + j * 8 + i, none⟩ := by unfold Addr.add; split <;> simp_all [Nat.add_assoc]
  rw [hadd] at q
  exact q
/-- The cells that the loop reads that puts the value in. -/
def LCells (g o A : Nat) (xa xb pa pb : BV) (w' : World) : Prop := w'.cell? ⟨g, o, none⟩ = some (.int .i64 xa.k) ∧ w'.cell? ⟨g, o + 1, none⟩ = some (.string xa.nm) ∧ w'.cell? ⟨g, o + 2, none⟩ = some (.int .i64 xa.num) ∧ w'.cell? ⟨g, o + 3, none⟩ = some (.slice xa.ao xa.n xa.cap) ∧ w'.cell? ⟨g, o + 4, none⟩ = some (.int .i64 xb.k) ∧ w'.cell? ⟨g, o + 5, none⟩ = some (.string xb.nm) ∧ w'.cell? ⟨g, o + 6, none⟩ = some (.int .i64 xb.num) ∧ w'.cell? ⟨g, o + 7, none⟩ = some (.slice xb.ao xb.n xb.cap) ∧ w'.cell? ⟨A, 0, none⟩ = some (.int .i64 pa.k) ∧ w'.cell? ⟨A, 1, none⟩ = some (.string pa.nm) ∧ w'.cell? ⟨A, 2, none⟩ = some (.int .i64 pa.num) ∧ w'.cell? ⟨A, 3, none⟩ = some (.slice pa.ao pa.n pa.cap) ∧ w'.cell? ⟨A + 1, 0, none⟩ = some (.int .i64 pb.k) ∧ w'.cell? ⟨A + 1, 1, none⟩ = some (.string pb.nm) ∧ w'.cell? ⟨A + 1, 2, none⟩ = some (.int .i64 pb.num) ∧ w'.cell? ⟨A + 1, 3, none⟩ = some (.slice pb.ao pb.n pb.cap)
/-- The loop that puts the value in. -/
def LPm (w6 : World) (l : List (Parl.U × Parl.U)) (x : Parl.Vr) (t : Parl.U) (k : Nat) (mv iv : Value) (wq : World) : Prop :=
  ∃ (j : Nat) (mo : Option Addr) (mc : Nat) (bs : List (BV × BV)), k + j = l.length ∧ iv = .int .i64 (j : Int) ∧ mv = .slice mo j mc ∧ Below w6.heap.size w6 wq ∧ wq.ownsRow w6.heap.size 132 8 (.slice mo j mc) j (bs.flatMap buC) ∧ All2 (EqU wq) bs ((l.map fun e => (Parl.put e.1 x t, Parl.put e.2 x t)).take j)

set_option maxHeartbeats 8000000 in
set_option maxRecDepth 100000 in
theorem solve_any (w : World) (θ : Parl.Vr → Parl.U) (B V0 m : Nat) (R : Option (List (Parl.Vr × Parl.U))) (lv : Value) (l : List (Parl.U × Parl.U)) (hsol : Parl.SolB (fun x y => Parl.ltV x y = true) θ l R m) (hstk : Parl.Stk θ B l) (hvs : (Parl.vs l).length ≤ V0) (hB : B ≤ 1000000) (hV : V0 ≤ 1000000) (hrow : RowE w lv l) :
    Calls Tryz.prog 61 #[lv] w fun e w' => PSol R w e w' := by
  have HST := hide (show LSol w θ B V0 R m lv (.slice none 0 0) w from ⟨l, [], R, none, 0, [], hsol, hstk, by simpa using hvs, by cases R <;> simp, Below.refl _ _, hrow, rfl, World.ownsRow_nil _ _ _ _, trivial, fun o n c _ p q _ h => by cases h⟩)
  obtain ⟨o0, c0, hlv, -⟩ := hrow
  clear hsol hstk hvs
  subst hlv
  go_enter Tryz.func61, Tryz.ntmps61
  go_wp2_with fail
  go_loopg [0, 4] m (fun k lv ov wr => LSol w θ B V0 R k lv ov wr)
  case atStart => exact unhide HST
  case round =>
    clear HST
    obtain ⟨l, outs, r, oo, oc, bo, hsol, hstk, hvs, hR, hbel, hrow, rfl, hown, hall, hap⟩ := hrel
    cases l with
    | nil =>
      obtain ⟨o, c, hlv⟩ := hrow.nil
      subst hlv
      obtain ⟨rfl, -⟩ := hsol.at_nil
      have HFIN := hide (show PSol R w (.returned (.tuple #[.slice oo outs.length oc, .bool true])) wr from by
        rw [hR]
        refine ⟨hbel, oo, oc, bo, ?_, ?_, ?_⟩ <;> simp
        · exact hown
        · exact hall)
      clear hsol hstk hvs hR hbel hrow hown hall hap
      go_wp2_with fail
      go_ret2
      exact unhide HFIN
    | cons e l =>
      obtain ⟨g, off, c, p, hlv, hc, hg, heq, hcell, hrest⟩ := hrow.first
      subst hlv
      have f0 := hcell 0 (by omega)
      have f1 := hcell 1 (by omega)
      have f2 := hcell 2 (by omega)
      have f3 := hcell 3 (by omega)
      have f4 := hcell 4 (by omega)
      have f5 := hcell 5 (by omega)
      have f6 := hcell 6 (by omega)
      have f7 := hcell 7 (by omega)
      simp only [buC, bvC, List.cons_append, List.nil_append, List.getElem?_cons_zero, List.getElem?_cons_succ, Nat.add_zero] at f0 f1 f2 f3 f4 f5 f6 f7
      obtain ⟨a, b⟩ := e
      obtain ⟨pa, pb⟩ := p
      obtain ⟨ha, hb⟩ := heq
      dsimp only at ha hb f0 f1 f2 f3 f4 f5 f6 f7
      have hlen : l.length + 1 ≤ B := by have := hstk.len; simpa using this
      have t0 : decide ((0 : Int) < ((l.length + 1 : Nat) : Int)) = true := by simp
      have HREST := hide hrest
      have HOWN := hide hown
      have HALL := hide hall
      have HAP := hide (show ∀ q, oo = some q → g ≠ q.block from fun q hq => hap _ _ _ rfl ⟨g, off, none⟩ q rfl hq)
      have HBEL := hide hbel
      have HA := hide ha
      have HBB := hide hb
      have HC := hide hc
      have hz := hbel.size
      have HLA := hide ha.leaf
      have HLB := hide hb.leaf
      have HNRM := hide hsol.nrm
      have HSTK := hide hstk
      have HVS := hide hvs
      have HR := hide hR
      have HW2 := hide (show Below wr.heap.size wr ((wr.alloc (.cells #[.int .i64 pa.k, .string pa.nm, .int .i64 pa.num, .slice pa.ao pa.n pa.cap] 109)).alloc (.cells #[.int .i64 pb.k, .string pb.nm, .int .i64 pb.num, .slice pb.ao pb.n pb.cap] 109)) from ((Below.refl _ _).alloc (Nat.le_refl _) _).alloc (by simp) _)
      clear hsol hstk hvs hR hbel hrow hown hall hap ha hb hcell hrest
      go_upto_region 5 with fail
      go_cut [0] (fun lv wx => wx = ((wr.alloc (.cells #[.int .i64 pa.k, .string pa.nm, .int .i64 pa.num, .slice pa.ao pa.n pa.cap] 109)).alloc (.cells #[.int .i64 pb.k, .string pb.nm, .int .i64 pb.num, .slice pb.ao pb.n pb.cap] 109)) ∧ ∃ off2 c2, lv = .slice (some ⟨g, off2, none⟩) l.length c2 ∧ RowE wr (.slice (some ⟨g, off2, none⟩) l.length c2) l)
      case first =>
        have hcl : c = 1 → l = [] := fun q => List.length_eq_zero_iff.1 (by omega)
        have HCL := hide hcl
        clear hcl
        go_wp2_with fail
        all_goals go_meet
        all_goals
          refine ⟨rfl, ?_⟩
          first
            | exact ⟨off + 8, c - 1, rfl, unhide HREST⟩
            | (refine ⟨off, 0, rfl, some ⟨g, off, none⟩, 0, rfl, ?_, fun q => absurd (unhide HCL (by assumption)) q⟩
               rw [unhide HCL (by assumption)]
               exact Nat.le_refl _)
      case rest =>
        obtain ⟨rfl, off2, c2, rfl, hrow2⟩ := hcut
        have HROW := hide hrow2
        clear hrow2 HREST f0 f1 f2 f3 f4 f5 f6 f7
        go_upto_region 6 with fail
        go_cut [38] (fun tv wx => tv = .bool (Parl.swp a b) ∧ Below wr.heap.size wr wx ∧ wx.heap[wr.heap.size]? = some (.cells #[.int .i64 pa.k, .string pa.nm, .int .i64 pa.num, .slice pa.ao pa.n pa.cap] 109 (0, 0)) ∧ wx.heap[wr.heap.size + 1]? = some (.cells #[.int .i64 pb.k, .string pb.nm, .int .i64 pb.num, .slice pb.ao pb.n pb.cap] 109 (0, 0)))
        case first =>
          have e1 := blk_alloc' (heap_alloc_new wr (.cells #[.int .i64 pa.k, .string pa.nm, .int .i64 pa.num, .slice pa.ao pa.n pa.cap] 109)) (.cells #[.int .i64 pb.k, .string pb.nm, .int .i64 pb.num, .slice pb.ao pb.n pb.cap] 109)
          have e2 := heap_alloc_new (wr.alloc (.cells #[.int .i64 pa.k, .string pa.nm, .int .i64 pa.num, .slice pa.ao pa.n pa.cap] 109)) (.cells #[.int .i64 pb.k, .string pb.nm, .int .i64 pb.num, .slice pb.ao pb.n pb.cap] 109)
          rw [World.size_alloc] at e2
          have HE1 := hide e1
          have HE2 := hide e2
          clear e1 e2
          have la := unhide HLA
          have lb := unhide HLB
          cases a with
          | v x =>
            have k1 : (pa.k != 2) = false := by rw [la.1]; rfl
            cases b with
            | v y =>
              have k2 : (pb.k == 2) = true := by rw [lb.1]; rfl
              have HLT := hide (show (if pb.num = pa.num then (!Op.bytesLess pb.nm.toList pa.nm.toList && !pb.nm.toList == pa.nm.toList) else decide (pa.num < pb.num)) = Parl.swp (.v x) (.v y) from by
                show _ = Parl.ltV x y
                unfold Parl.ltV
                rw [la.2.2.1, lb.2.2.1, la.2.1, lb.2.1]
                by_cases q : y.2 = x.2
                · rw [if_pos (by omega), if_pos q]
                · rw [if_neg (by omega), if_neg q]
                  rw [decide_eq_decide]
                  omega)
              clear la lb
              go_wp2_with fail
              refine (laterU pb pa _).mono ?_
              rw [unhide HLT]
              rintro e w3 ⟨rfl, hb3⟩
              have HB3 := hide hb3
              clear hb3
              go_wp2_with fail
              go_meet
              exact ⟨rfl, (unhide HW2).trans ((unhide HB3).mono (by simp; omega)), ((unhide HB3).block _ (by simp; omega)).trans (unhide HE1), ((unhide HB3).block _ (by simp)).trans (unhide HE2)⟩
            | n kk tx nu ss =>
              have k2 : (pb.k == 2) = false := by rw [leaf_k lb]; rfl
              clear la lb
              go_wp2_with fail
              go_meet
              exact ⟨rfl, unhide HW2, unhide HE1, unhide HE2⟩
          | n kk tx nu ss =>
            have k1 : (pa.k != 2) = true := by have := leaf_k la; rw [bne, this]; rfl
            have HS := hide (show Parl.swp (.n kk tx nu ss) b = true by cases b <;> rfl)
            clear la lb
            go_wp2_with fail
            go_meet
            exact ⟨by rw [unhide HS], unhide HW2, unhide HE1, unhide HE2⟩
        case rest =>
          rename_i w3
          obtain ⟨rfl, hb3, hA3, hB3⟩ := hcut
          have HB3 := hide hb3
          have HA3 := hide hA3
          have HBB3 := hide hB3
          have rA := blkA' hA3
          have xA := blkX' hA3
          have zA := blk_lt' hA3
          have rB := blkA' hB3
          have xB := blkX' hB3
          have zB := blk_lt' hB3
          clear hb3 hA3 hB3
          go_upto_if 38 with fail
          go_cut [] (fun wx => Below wr.heap.size wr wx ∧ wx.heap[wr.heap.size]? = some (bvO (if Parl.swp a b = true then pb else pa)) ∧ wx.heap[wr.heap.size + 1]? = some (bvO (if Parl.swp a b = true then pa else pb)))
          case first =>
            cases hsw : Parl.swp a b
            · go_wp2_with fail
              go_meet
              rw [hsw]
              exact ⟨unhide HB3, unhide HA3, unhide HBB3⟩
            · go_wp2_with fail
              go_meet
              rw [hsw]
              refine ⟨?_, ?_, ?_⟩
              · exact ((((((((unhide HB3).setCell (p := ⟨wr.heap.size, 0, none⟩) (Nat.le_refl _) _).setCell (p := ⟨wr.heap.size, 1, none⟩) (Nat.le_refl _) _).setCell (p := ⟨wr.heap.size, 2, none⟩) (Nat.le_refl _) _).setCell (p := ⟨wr.heap.size, 3, none⟩) (Nat.le_refl _) _).setCell (p := ⟨wr.heap.size + 1, 0, none⟩) (Nat.le_succ _) _).setCell (p := ⟨wr.heap.size + 1, 1, none⟩) (Nat.le_succ _) _).setCell (p := ⟨wr.heap.size + 1, 2, none⟩) (Nat.le_succ _) _).setCell (p := ⟨wr.heap.size + 1, 3, none⟩) (Nat.le_succ _) _
              · have := blk_set (blk_set (blk_set (blk_set (unhide HA3) 0 (.int .i64 pb.k)) 1 (.string pb.nm)) 2 (.int .i64 pb.num)) 3 (.slice pb.ao pb.n pb.cap)
                rw [heap_set _ _ _ _ (by omega), heap_set _ _ _ _ (by omega), heap_set _ _ _ _ (by omega), heap_set _ _ _ _ (by omega)]
                rw [if_pos rfl]
                unfold bvO
                simpa using this
              · have h0 := blk_other (blk_other (blk_other (blk_other (unhide HBB3) (show wr.heap.size + 1 ≠ wr.heap.size by omega) 0 (.int .i64 pb.k)) (show wr.heap.size + 1 ≠ wr.heap.size by omega) 1 (.string pb.nm)) (show wr.heap.size + 1 ≠ wr.heap.size by omega) 2 (.int .i64 pb.num)) (show wr.heap.size + 1 ≠ wr.heap.size by omega) 3 (.slice pb.ao pb.n pb.cap)
                have := blk_set (blk_set (blk_set (blk_set h0 0 (.int .i64 pa.k)) 1 (.string pa.nm)) 2 (.int .i64 pa.num)) 3 (.slice pa.ao pa.n pa.cap)
                rw [if_pos rfl]
                unfold bvO
                simpa using this
          case rest =>
            obtain ⟨hb4, hA4, hB4⟩ := hcut
            clear rA xA zA rB xB zB HB3 HA3 HBB3
            have HEQ : ∃ a' b' pa' pb', (if Parl.swp a b = true then b else a) = a' ∧ (if Parl.swp a b = true then a else b) = b' ∧ (if Parl.swp a b = true then pb else pa) = pa' ∧ (if Parl.swp a b = true then pa else pb) = pb' ∧ VU anyU wr pa' a' ∧ VU anyU wr pb' b' := ⟨_, _, _, _, rfl, rfl, rfl, rfl, by split; exact unhide HBB; exact unhide HA, by split; exact unhide HA; exact unhide HBB⟩
            obtain ⟨a', b', pa', pb', e1, e2, e3, e4, va, vb⟩ := HEQ
            rw [e3] at hA4
            rw [e4] at hB4
            have nrm := unhide HNRM
            rw [e1, e2] at nrm
            have hstl : Parl.Stk θ B l := (unhide HSTK).2
            have HSTL := hide hstl
            have hstm : ∀ k1 t1 n1 s1 k2 t2 n2 s2, a' = .n k1 t1 n1 s1 → b' = .n k2 t2 n2 s2 → s1.length ≤ 3 → Parl.Stk θ B (s1.zip s2 ++ l) := fun k1 t1 n1 s1 k2 t2 n2 s2 q1 q2 q3 => by
              have hs := unhide HSTK
              cases a with
              | v x =>
                cases b with
                | v y => exfalso; by_cases q : Parl.swp (.v x) (.v y) = true
                         · rw [if_pos q] at e1; rw [← e1] at q1; cases q1
                         · rw [if_neg q] at e1; rw [← e1] at q1; cases q1
                | n kk tx nu ss => rw [show Parl.swp (.v x) (.n kk tx nu ss) = false from rfl, if_neg (by decide)] at e1; rw [← e1] at q1; cases q1
              | n kk tx nu ss =>
                have hsw : Parl.swp (.n kk tx nu ss) b = true := by cases b <;> rfl
                rw [if_pos hsw] at e1 e2
                subst e1 e2
                subst q1
                injection q2 with r1 r2 r3 r4
                subst r1 r2 r3 r4
                exact hs.args q3
            have HSTM := hide hstm
            have hvars : ∀ v, Parl.hasE v ((a', b') :: l) → Parl.hasE v ((a, b) :: l) := fun v hv => by
              rcases Parl.hasE_cons.1 hv with q | q
              · refine Parl.hasE_cons.2 (Or.inl ?_)
                dsimp only at q ⊢
                rw [← e1, ← e2] at q
                by_cases r : Parl.swp a b = true
                · rw [if_pos r, if_pos r] at q; exact q.symm
                · rw [if_neg r, if_neg r] at q; exact q
              · exact Parl.hasE_cons.2 (Or.inr q)
            have HVS2 := hide (show (Parl.vs ((a', b') :: l)).length + outs.length ≤ V0 from by have := Parl.vs_le hvars; have := unhide HVS; omega)
            have HVA := hide (va.below hb4)
            have HVB := hide (vb.below hb4)
            have HLA' := hide va.leaf
            have HLB' := hide vb.leaf
            have HB4 := hide hb4
            have HA4 := hide hA4
            have HBB4 := hide hB4
            have rA := blkA' hA4
            have xA := blkX' hA4
            have zA := blk_lt' hA4
            have rB := blkA' hB4
            have xB := blkX' hB4
            have zB := blk_lt' hB4
            have hz4 := hb4.size
            generalize hAA : wr.heap.size = A at *
            have HAA := hide hAA
            clear hAA
            clear hstl hstm hvars va vb hb4 hA4 hB4 e1 e2 e3 e4 HLA HLB HA HBB HNRM HSTK HVS HW2 HC hc hlen t0
            rcases nrm with ⟨k1, t1, n1, s1, k2, t2, n2, s2, rfl, rfl, hnn⟩ | ⟨x, rfl, hv⟩
            · have la := unhide HLA'
              have lb := unhide HLB'
              have kA : (pa'.k != 2) = true := by have := leaf_k la; rw [bne, this]; rfl
              obtain ⟨a1, a2, a3, a4, a5, a6⟩ := la
              obtain ⟨b1, b2, b3, b4, b5, b6⟩ := lb
              have hiff : (pa'.k = pb'.k ∧ pa'.nm.toList = pb'.nm.toList ∧ pa'.num = pb'.num ∧ pa'.n = pb'.n) ↔ Parl.same2 k2 t2 n2 s2 k1 t1 n1 s1 := by
                rw [a1, a3, a4, a5, b1, b3, b4, b5]
                unfold Parl.same2
                constructor
                · rintro ⟨q1, q2, q3, q4⟩; exact ⟨by omega, q2.symm, q3.symm, q4.symm⟩
                · rintro ⟨q1, q2, q3, q4⟩; exact ⟨by omega, q2.symm, q3.symm, q4.symm⟩
              have HAL := hide (alikeU pa' pb' wc)

              rcases hnn with ⟨hs, m1, hk, hsol⟩ | ⟨hs, hr⟩
              · rw [decide_eq_true (hiff.2 hs)] at HAL
                have hll : s1.length = s2.length := hs.2.2.2.symm
                have hTA := (unhide HVA).its.2
                have hTB := (unhide HVB).its.2
                have HTA := hide (show s1 ≠ [] → ∃ (g : Nat) (us : List BV) (cs : Array Value), pa'.ao = some ⟨g, 0, none⟩ ∧ True ∧ wc.heap[g]? = some (.cells cs 109 (0, 0)) ∧ cs.toList.take (us.length * 4) = us.flatMap bvC ∧ All2 (VU anyU wc) us s1 from hTA)
                have HTB := hide (show s2 ≠ [] → ∃ (g : Nat) (us : List BV) (cs : Array Value), pb'.ao = some ⟨g, 0, none⟩ ∧ True ∧ wc.heap[g]? = some (.cells cs 109 (0, 0)) ∧ cs.toList.take (us.length * 4) = us.flatMap bvC ∧ All2 (VU anyU wc) us s2 from hTB)
                have HSOL := hide hsol
                have HK := hide hk
                have HLL := hide hll
                have HST2 := hide (unhide HSTM k1 t1 n1 s1 k2 t2 n2 s2 rfl rfl a6)
                have HVS3 := hide (show (Parl.vs (s1.zip s2 ++ l)).length + outs.length ≤ V0 from by
                  have h1 := Parl.vs_le (l := (Parl.U.n k1 t1 n1 s1, Parl.U.n k2 t2 n2 s2) :: l) (l' := s1.zip s2 ++ l) (fun v hv => by
                    rcases Parl.hasE_app.1 hv with q | q
                    · refine Parl.hasE_cons.2 (Or.inl ?_)
                      rw [Parl.has_n, Parl.has_n]
                      exact Parl.hasE_zip q
                    · exact Parl.hasE_cons.2 (Or.inr q))
                  have := unhide HVS2
                  omega)
                obtain ⟨ti, hi, hz0', hz1', hz2'⟩ := info_parts infoBd
                have s13 := a6
                clear hs hiff a1 a2 a3 a4 a6 b1 b2 b3 b4 b6 hsol hk hTA hTB hll
                obtain ⟨ka, nma, numa, aoa, na, capa⟩ := pa'
                obtain ⟨kb, nmb, numb, aob, nb, capb⟩ := pb'
                dsimp only at a5 b5
                subst a5 b5
                go_wp2_with fail
                refine (unhide HAL).mono ?_
                rintro e w5 ⟨rfl, hb5⟩
                have HB5 := hide hb5
                have hz5 := hb5.size
                have HLM := hide (show LZip w5 s1 s2 s1.length (.slice none 0 0) (.int .i64 0) w5 from ⟨0, none, 0, [], by omega, rfl, rfl, Below.refl _ _, World.ownsRow_nil _ _ _ _, trivial⟩)
                have cA := (hb5.block A zA).trans (unhide HA4)
                have cB := (hb5.block (A + 1) zB).trans (unhide HBB4)
                have HCA := hide cA
                have HCB := hide cB
                clear hb5 cA cB rA xA rB xB
                go_wp2_with fail
                go_loopg [8, 9] s1.length (fun k mv iv wq => LZip w5 s1 s2 k mv iv wq)
                case atStart => exact unhide HLM
                case round =>
                  clear HLM
                  obtain ⟨j, mo, mc, bs, hkj, rfl, rfl, hbq, hoq, haq⟩ := hrel
                  have hzq := hbq.size
                  have qA := (hbq.block A (by omega)).trans (unhide HCA)
                  have qB := (hbq.block (A + 1) (by omega)).trans (unhide HCB)
                  have rA := blkA' qA
                  have zA' := blk_lt' qA
                  have rB := blkA' qB
                  have zB' := blk_lt' qB

                  by_cases hlt : j < s1.length
                  · obtain ⟨ga, va, ca, ea, -, hca, hta, haa⟩ := unhide HTA (fun q => by rw [q] at hlt; simp at hlt)
                    obtain ⟨gb, vb, cb, eb, -, hcb, htb, hab⟩ := unhide HTB (fun q => by have := unhide HLL; rw [q] at this; simp at this; rw [this] at hlt; simp at hlt)
                    subst ea eb
                    have hjv : j < va.length := by have := haa.length; omega
                    have hlt2 : j < s2.length := by have := unhide HLL; omega
                    have hjb : j < vb.length := by have := hab.length; omega
                    have hwr : Below wc.heap.size wc wr := (unhide HB5).trans (hbq.mono hz5)
                    have hca' := (hwr.block ga (blk_lt' hca)).trans hca
                    have hcb' := (hwr.block gb (blk_lt' hcb)).trans hcb
                    have fa : ∀ i, i < 4 → wr.cell? ⟨ga, j * 4 + i, none⟩ = (bvC va[j])[i]? := fun i hi => by
                      rw [blkA' hca', ← Array.getElem?_toList, ← bvC_at hjv i hi, ← hta, List.getElem?_take_of_lt (by omega)]
                    have fb : ∀ i, i < 4 → wr.cell? ⟨gb, j * 4 + i, none⟩ = (bvC vb[j])[i]? := fun i hi => by
                      rw [blkA' hcb', ← Array.getElem?_toList, ← bvC_at hjb i hi, ← htb, List.getElem?_take_of_lt (by omega)]
                    have a0 := fa 0 (by omega)
                    have a1 := fa 1 (by omega)
                    have a2 := fa 2 (by omega)
                    have a3 := fa 3 (by omega)
                    have b0 := fb 0 (by omega)
                    have b1 := fb 1 (by omega)
                    have b2 := fb 2 (by omega)
                    have b3 := fb 3 (by omega)
                    simp only [bvC, List.getElem?_cons_zero, List.getElem?_cons_succ, Nat.add_zero] at a0 a1 a2 a3 b0 b1 b2 b3
                    have za := blk_lt' hca'
                    have zb := blk_lt' hcb'
                    have j0 : (0 : Int) ≤ (j : Int) := by omega
                    have j1 : (j : Int) < (s1.length : Int) := by omega
                    have j2 : (j : Int) < (s2.length : Int) := by omega
                    have HEQ := hide (show EqU wr (va[j], vb[j]) (s1[j], s2[j]) from ⟨(haa.at j hjv hlt).below hwr, (hab.at j hjb hlt2).below hwr⟩)
                    have HTK := hide (show (s1.zip s2).take (j + 1) = (s1.zip s2).take j ++ [(s1[j], s2[j])] by rw [List.take_add_one, List.getElem?_eq_getElem (by simp; omega)]; simp)
                    have HBQ := hide hbq
                    have HOQ := hide hoq
                    have HAQ := hide haq
                    have HKJ := hide hkj
                    have HLT := hide hlt
                    have j3 : j ≤ 3 := by omega
                    have HK7 := hide (show ∀ (w7 : World), (∃ W8, Below wr.heap.size wr W8 ∧ W8.grownBy w7 (Value.slice mo j mc).ownBlock) → w7.cell? ⟨A, 3, none⟩ = some (.slice (some ⟨ga, 0, none⟩) s1.length capa) ∧ w7.cell? ⟨A + 1, 3, none⟩ = some (.slice (some ⟨gb, 0, none⟩) s2.length capb) ∧ w7.cell? ⟨ga, j * 4, none⟩ = some (.int .i64 va[j].k) ∧ w7.cell? ⟨ga, j * 4 + 1, none⟩ = some (.string va[j].nm) ∧ w7.cell? ⟨ga, j * 4 + 2, none⟩ = some (.int .i64 va[j].num) ∧ w7.cell? ⟨ga, j * 4 + 3, none⟩ = some (.slice va[j].ao va[j].n va[j].cap) ∧ w7.cell? ⟨gb, j * 4, none⟩ = some (.int .i64 vb[j].k) ∧ w7.cell? ⟨gb, j * 4 + 1, none⟩ = some (.string vb[j].nm) ∧ w7.cell? ⟨gb, j * 4 + 2, none⟩ = some (.int .i64 vb[j].num) ∧ w7.cell? ⟨gb, j * 4 + 3, none⟩ = some (.slice vb[j].ao vb[j].n vb[j].cap) from fun w7 ⟨W, hW, hg⟩ => by
                      have key : ∀ (b i : Nat) (v : Value) (cs : Array Value), wr.heap[b]? = some (.cells cs 109 (0, 0)) → wr.cell? ⟨b, i, none⟩ = some v → w7.cell? ⟨b, i, none⟩ = some v := fun b i v cs hb hv => hg.cell ((hW.cell (p := ⟨b, i, none⟩) (blk_lt' hb)).trans hv) (fun e => by
                        obtain ⟨ds, hd⟩ := row_bind hoq b e.symm
                        rw [hb] at hd
                        simp only [Option.some.injEq, Obj.cells.injEq] at hd
                        exact absurd hd.2.1 (by decide))
                      exact ⟨key _ _ _ _ qA (rA 3), key _ _ _ _ qB (rB 3), key _ _ _ _ hca' a0, key _ _ _ _ hca' a1, key _ _ _ _ hca' a2, key _ _ _ _ hca' a3, key _ _ _ _ hcb' b0, key _ _ _ _ hcb' b1, key _ _ _ _ hcb' b2, key _ _ _ _ hcb' b3⟩)
                    generalize va[j] = xa at *
                    generalize vb[j] = xb at *
                    generalize s1[j] = ua at *
                    generalize s2[j] = ub at *
                    clear hbq hoq haq hca hta haa hcb htb hab hwr hca' hcb' fa fb hkj hlt hlt2 qA qB
                    go_wp2_with fail
                    go_region_held3 (fun w' => w'.cell? ⟨A, 3, none⟩ = some (.slice (some ⟨ga, 0, none⟩) s1.length capa) ∧ w'.cell? ⟨A + 1, 3, none⟩ = some (.slice (some ⟨gb, 0, none⟩) s2.length capb) ∧ w'.cell? ⟨ga, j * 4, none⟩ = some (.int .i64 xa.k) ∧ w'.cell? ⟨ga, j * 4 + 1, none⟩ = some (.string xa.nm) ∧ w'.cell? ⟨ga, j * 4 + 2, none⟩ = some (.int .i64 xa.num) ∧ w'.cell? ⟨ga, j * 4 + 3, none⟩ = some (.slice xa.ao xa.n xa.cap) ∧ w'.cell? ⟨gb, j * 4, none⟩ = some (.int .i64 xb.k) ∧ w'.cell? ⟨gb, j * 4 + 1, none⟩ = some (.string xb.nm) ∧ w'.cell? ⟨gb, j * 4 + 2, none⟩ = some (.int .i64 xb.num) ∧ w'.cell? ⟨gb, j * 4 + 3, none⟩ = some (.slice xb.ao xb.n xb.cap)) (first | (exact unhide HK7 _ (unhide HG7)) | go_keep) (first
                      | (refine step_append_lies _ (by rfl) _ _ _ (by rfl) w5.heap.size 132 ti _ 8 112 Tryz.underlying128 hi hz0' hz1' hz2' rfl (by omega) (.slice mo j mc) j (bs.flatMap buC) (by rfl) ((unhide HOQ).alloc _) ⟨wr.heap.size, 0, none⟩ 1 1 [.int .i64 xa.k, .string xa.nm, .int .i64 xa.num, .slice xa.ao xa.n xa.cap, .int .i64 xb.k, .string xb.nm, .int .i64 xb.num, .slice xb.ao xb.n xb.cap] (by rfl) (by rfl) (World.news_of_block (cs := #[.int .i64 xa.k, .string xa.nm, .int .i64 xa.num, .slice xa.ao xa.n xa.cap, .int .i64 xb.k, .string xb.nm, .int .i64 xb.num, .slice xb.ao xb.n xb.cap]) (t := 132) (fr := (0, 0)) (heap_alloc_new wr _)) (by simp [Value.oneCell']) (by omega) (by unfold maxLen; omega) (by omega) (by simp; omega) (wr.heap.size + 1) (by simp) ?_; intro g' cap' w7 hown7 hgrow hat hlg; have HO7 := hide hown7; have HG7 := hide (show ∃ W8, Below wr.heap.size wr W8 ∧ W8.grownBy w7 (Value.slice mo j mc).ownBlock from ⟨_, (by first | exact (Below.refl _ _).alloc (Nat.le_refl _) _ | exact ((Below.refl _ _).alloc (Nat.le_refl _) _).drew | exact ((Below.refl _ _).drew).alloc (Nat.le_refl _) _), hgrow⟩); clear hown7 hgrow hat hlg))
                    all_goals
                      clear a0 a1 a2 a3 b0 b1 b2 b3 rA rB HK7 HTA HTB
                      go_wp2_with fail
                      go_roundg (gk - 1)
                      case measure => have := unhide HKJ; have := unhide HLT; omega
                      case rel =>
                        refine ⟨j + 1, some ⟨g', 0, none⟩, cap', bs ++ [(xa, xb)], by have := unhide HKJ; have := unhide HLT; omega, by go_num, rfl, ?_, ?_, ?_⟩
                        · obtain ⟨W8, hw8, hg8⟩ := unhide HG7
                          exact ((unhide HBQ).trans (hw8.mono (unhide HBQ).size)).grown hg8 (Nat.le_trans (unhide HBQ).size hw8.size) (fun k q => ((unhide HOQ).lt k q).1)
                        · rw [List.flatMap_append]
                          exact unhide HO7
                        · rw [unhide HTK]
                          obtain ⟨W8, hw8, hg8⟩ := unhide HG7
                          have hrb : ∀ g, (Value.slice mo j mc).ownBlock = some g → ∃ cs, W8.heap[g]? = some (.cells cs 132 (0, 0)) := fun g q => by
                            obtain ⟨cs, hc⟩ := row_bind (unhide HOQ) g q
                            exact ⟨cs, (hw8.block g (blk_lt' hc)).trans hc⟩
                          have key : ∀ p e, EqU wr p e → EqU w7 p e := fun p e q => ⟨(q.1.below hw8).grown hg8 hrb, (q.2.below hw8).grown hg8 hrb⟩
                          exact All2.snoc (key _ _ (unhide HEQ)) ((unhide HAQ).imp key)
                  · obtain rfl : j = s1.length := by omega
                    have hzip : (s1.zip s2).length = s1.length := by have := unhide HLL; rw [List.length_zip]; omega
                    rw [List.take_of_length_le (by rw [hzip]; exact Nat.le_refl _)] at haq
                    have hwq : Below A _ wr := (unhide HB4).trans (((unhide HB5).trans (hbq.mono hz5)).mono hz4)
                    obtain ⟨-, bl, hbl, hnews, -⟩ := RowE.news (unhide HROW)
                    have HOUT := hide (show ∀ (w7 : World) (v' : Value), w7.ownsRow w5.heap.size 132 8 v' (s1.length + l.length) (bs.flatMap buC ++ bl.flatMap buC) → wr.grownBy w7 (Value.slice mo s1.length mc).ownBlock → LSol w θ B V0 R m1 v' (.slice oo outs.length oc) w7 from fun w7 v' h1 h2 => by
                      have hw7 : Below A _ w7 := hwq.grown h2 (by omega) (fun k q => by have := (hoq.lt k q).1; omega)
                      rw [← unhide HAA] at hw7
                      have hrb := row_bind hoq
                      have keyq : ∀ p e, EqU wr p e → EqU w7 p e := fun p e q => ⟨q.1.grown h2 hrb, q.2.grown h2 hrb⟩
                      have ho7 := own_below (unhide HOWN) hw7
                      refine ⟨s1.zip s2 ++ l, outs, r, oo, oc, bo, unhide HSOL, unhide HST2, unhide HVS3, unhide HR, (unhide HBEL).trans (hw7.mono (unhide HBEL).size), RowE.of_own (bs := bs ++ bl) (by rw [List.flatMap_append]; exact h1) (by rw [List.length_append, hzip]) (all2_app (haq.imp keyq) (hbl.imp fun p e q => q.below hw7)), rfl, ho7, (unhide HALL).imp fun p e q => q.below hw7, ?_⟩
                      intro o n c hv p q hp hq e
                      have h3 := ((unhide HOWN).lt q.block (by rw [hq]; rfl)).2
                      rw [unhide HAA] at h3
                      have h4 := (h1.lt p.block (by rw [hv, hp]; rfl)).1
                      omega)
                    have HNEWS := hide (show ∀ j u, (bl.flatMap buC)[j]? = some u → wr.cell? ((⟨g, off2, none⟩ : Addr).add j) = some u from fun j u hu => by
                      have h1 := hnews j u hu
                      have hlt := World.block_lt_of_cell? _ _ h1
                      rw [unhide HAA] at hlt
                      rw [hwq.cell hlt]
                      exact h1)
                    have HBLL := hide (show (bl.flatMap buC).length = l.length * 8 by rw [buC_length, hbl.length])
                    have hlB : l.length ≤ B := (unhide HSTL).len
                    have HOQ := hide hoq
                    have HKK := hide (unhide HK)
                    clear hbq hoq haq hwq hbl hnews hkj qA qB hlt hzip HTA HTB
                    go_wp2_with (first | (at_builtin; go_must (refine wpList_append_own_at _ rfl (.tmp 70) (.tmp 71) 128 rfl w5.heap.size 132 ti (.agg #[.int .i64 0, .string ⟨#[]⟩, .int .i64 0, .slice none 0 0, .int .i64 0, .string ⟨#[]⟩, .int .i64 0, .slice none 0 0]) 8 112 Tryz.underlying128 hi hz0' hz1' hz2' rfl (by decide) _ s1.length (bs.flatMap buC) rfl (unhide HOQ) ⟨g, off2, none⟩ l.length c2 (bl.flatMap buC) rfl (unhide HBLL) (unhide HNEWS) (bd_one bl) (by unfold maxLen; omega) (by omega) (by omega) ?_); go_must (intro v' w7 hown7 hgrow _ _; have HF := hide (unhide HOUT w7 v' hown7 hgrow); obtain ⟨o7, c7, hv7⟩ := own_shapeS hown7; subst hv7; clear hown7 hgrow)))
                    go_roundg m1
                    case measure => have := unhide HKK; omega
                    case rel => exact unhide HF
              · rw [decide_eq_false (fun q => hs (hiff.1 q))] at HAL
                have HFIN := hide (show ∀ W, Below wc.heap.size wc W → PSol R w (.returned (.tuple #[.slice none 0 0, .bool false])) W from fun W hW => by
                  rw [unhide HR, hr]
                  exact ⟨(unhide HBEL).trans ((unhide HB4).mono hz |>.trans (hW.mono (by omega))), rfl⟩)
                clear hs hr hiff a1 a2 a3 a4 a5 a6 b1 b2 b3 b4 b5 b6
                go_wp2_with fail
                refine (unhide HAL).mono ?_
                rintro e w5 ⟨rfl, hb5⟩
                have HF := hide (unhide HFIN _ hb5)
                clear hb5
                go_wp2_with fail
                go_ret2
                exact unhide HF
            · have la := unhide HLA'
              have lb := unhide HLB'
              have kA : (pa'.k != 2) = false := by rw [la.1]; rfl
              have HIV := hide (show IsVr pa' x from ⟨la.2.1, la.2.2.1⟩)
              have HSV : ∃ sv : Bool, (sv = true ↔ b' = .v x) := by
                by_cases q : b' = .v x
                · exact ⟨true, by simp [q]⟩
                · exact ⟨false, by simp [q]⟩
              obtain ⟨sv, hsv⟩ := HSV
              have HSV := hide hsv
              have HV := hide hv
              clear hsv hv
              go_upto_region 18 with fail
              go_cut [80] (fun tv wx => tv = .bool sv ∧ Below wc.heap.size wc wx)
              case first =>
                cases b' with
                | v y =>
                  have k2 : (pb'.k == 2) = true := by rw [lb.1]; rfl
                  have HD := hide (show decide (pa'.nm.toList = pb'.nm.toList ∧ pa'.num = pb'.num) = sv from by
                    rw [la.2.1, la.2.2.1, lb.2.1, lb.2.2.1]
                    have h := unhide HSV
                    cases sv with
                    | true =>
                      have h1 := h.1 rfl
                      injection h1 with h1
                      rw [h1]
                      simp
                    | false =>
                      refine decide_eq_false fun q => ?_
                      have h1 : Parl.U.v y = .v x := by
                        obtain ⟨y1, y2⟩ := y
                        obtain ⟨x1, x2⟩ := x
                        dsimp only at q
                        rw [q.1, show x2 = y2 by omega]
                      exact absurd (h.2 h1) (by decide))
                  clear la lb
                  go_wp2_with fail
                  refine (sameVarU pa' pb' _).mono ?_
                  rw [unhide HD]
                  rintro e w5 ⟨rfl, hb5⟩
                  have HB5 := hide hb5
                  clear hb5
                  go_wp2_with fail
                  go_meet
                  exact ⟨rfl, unhide HB5⟩
                | n kk tx nu ss =>
                  have k2 : (pb'.k == 2) = false := by rw [leaf_k lb]; rfl
                  have HS := hide (show sv = false from by
                    have h := unhide HSV
                    cases sv with
                    | true => exact absurd (h.1 rfl) (fun q => by cases q)
                    | false => rfl)
                  clear la lb
                  go_wp2_with fail
                  go_meet
                  exact ⟨by rw [unhide HS], Below.refl _ _⟩
              case rest =>
                rename World => w5
                obtain ⟨rfl, hb5⟩ := hcut
                have HB5 := hide hb5
                have hz5 := hb5.size
                have qA := (hb5.block A zA).trans (unhide HA4)
                have qB := (hb5.block (A + 1) zB).trans (unhide HBB4)
                have HQA := hide qA
                have HQB := hide qB
                clear rA xA rB xB la lb hb5
                have rA := blkA' qA
                have xA := blkX' qA
                have zA5 := blk_lt' qA
                have rB := blkA' qB
                have xB := blkX' qB
                have zB5 := blk_lt' qB
                clear qA qB
                have HWB := hide (show Below A _ w5 from (unhide HB4).trans ((unhide HB5).mono hz4))
                rcases unhide HV with ⟨hbx, m1, hk, hsol⟩ | ⟨hbx, hhas, hr⟩ | ⟨hbx, hhas, r', m1, hk, hr, hθ, hsol⟩
                · have hs : sv = true := (unhide HSV).2 hbx
                  subst hs
                  have HF := hide (show LSol w θ B V0 R m1 (.slice (some ⟨g, off2, none⟩) l.length c2) (.slice oo outs.length oc) w5 from by
                    have hw := unhide HWB
                    rw [← unhide HAA] at hw
                    refine ⟨l, outs, r, oo, oc, bo, hsol, unhide HSTL, ?_, unhide HR, (unhide HBEL).trans (hw.mono (unhide HBEL).size), (unhide HROW).below hw, rfl, own_below (unhide HOWN) hw, (unhide HALL).imp fun p e q => q.below hw, ?_⟩
                    · have h1 := Parl.vs_le (l := (Parl.U.v x, b') :: l) (l' := l) (fun v q => Parl.hasE_cons.2 (Or.inr q))
                      have := unhide HVS2
                      omega
                    · intro o n c hv p q hp hq
                      simp only [Value.slice.injEq] at hv
                      rw [← hv.1] at hp
                      injection hp with hp
                      subst hp
                      exact unhide HAP q hq)
                  have HK := hide hk
                  clear hsol hk hbx HV
                  go_wp2_with fail
                  go_roundg m1
                  case measure => have := unhide HK; omega
                  case rel => exact unhide HF
                · have hs : sv = false := by
                    cases sv with
                    | true => exact absurd ((unhide HSV).1 rfl) hbx
                    | false => rfl
                  subst hs
                  have HFIN := hide (show ∀ W, Below w5.heap.size w5 W → PSol R w (.returned (.tuple #[.slice none 0 0, .bool false])) W from fun W hW => by
                    rw [unhide HR, hr]
                    exact ⟨(unhide HBEL).trans ((unhide HWB).mono hz |>.trans (hW.mono (by omega))), rfl⟩)
                  have HHB := hide ((Parl.hasB_iff x b').2 hhas)
                  have HHC := hide (hasU w5 anyU pb' pa' b' x ((unhide HVB).below (unhide HB5)) (unhide HIV))
                  rw [unhide HHB] at HHC
                  clear hr hbx hhas HV HHB
                  go_wp2_with fail
                  refine (unhide HHC).mono ?_
                  rintro e w6 ⟨rfl, hb6⟩
                  have HF := hide (unhide HFIN _ hb6)
                  clear hb6 HHC
                  go_wp2_with fail
                  go_ret2
                  exact unhide HF
                · have hs : sv = false := by
                    cases sv with
                    | true => exact absurd ((unhide HSV).1 rfl) hbx
                    | false => rfl
                  subst hs
                  have HHB := hide (show Parl.hasB x b' = false from by
                    cases q : Parl.hasB x b' with
                    | true => exact absurd ((Parl.hasB_iff x b').1 q) hhas
                    | false => rfl)
                  have HHC := hide (hasU w5 anyU pb' pa' b' x ((unhide HVB).below (unhide HB5)) (unhide HIV))
                  rw [unhide HHB] at HHC
                  have HK := hide hk
                  have HSOL := hide hsol
                  have HST2 := hide ((unhide HSTL).put hθ)
                  have HVS3 := hide (show (Parl.vs (l.map fun e => (Parl.put e.1 x b', Parl.put e.2 x b'))).length + (outs ++ [(x, b')]).length ≤ V0 from by
                    have h1 := Parl.vs_left (l := l) hhas
                    have := unhide HVS2
                    rw [List.length_append, List.length_singleton]
                    omega)
                  have hoV : outs.length + 1 ≤ V0 := by
                    have h1 := unhide HVS3
                    rw [List.length_append, List.length_singleton] at h1
                    omega
                  have HR2 := hide (show R = r'.map ((outs ++ [(x, b')]) ++ ·) from by
                    rw [unhide HR, hr]
                    cases r' <;> simp)
                  obtain ⟨ti, hi, hz0', hz1', hz2'⟩ := info_parts infoBd
                  clear hr hbx hhas HV HHB hk hsol hθ
                  go_wp2_with fail
                  refine (unhide HHC).mono ?_
                  rintro e w6 ⟨rfl, hb6⟩
                  have HB6 := hide hb6
                  have hz6 := hb6.size
                  have HWB6 := hide (show Below A _ w6 from (unhide HWB).trans (hb6.mono (by omega)))
                  have HLM := hide (show LPm w6 l x b' l.length (.slice none 0 0) (.int .i64 0) w6 from ⟨0, none, 0, [], by omega, rfl, rfl, Below.refl _ _, World.ownsRow_nil _ _ _ _, trivial⟩)
                  have cA := (hb6.block A zA5).trans (unhide HQA)
                  have cB := (hb6.block (A + 1) zB5).trans (unhide HQB)
                  have HCA := hide cA
                  have HCB := hide cB
                  clear hb6 cA cB rA xA rB xB HHC
                  go_wp2_with fail
                  go_loopg [11, 12] l.length (fun k mv iv wq => LPm w6 l x b' k mv iv wq)
                  case atStart => exact unhide HLM
                  case round =>
                    clear HLM
                    obtain ⟨j, mo, mc, bs, hkj, rfl, rfl, hbq, hoq, haq⟩ := hrel
                    have hzq := hbq.size
                    have qA := (hbq.block A (by omega)).trans (unhide HCA)
                    have qB := (hbq.block (A + 1) (by omega)).trans (unhide HCB)
                    have rA := blkA' qA
                    have zA' := blk_lt' qA
                    have rB := blkA' qB
                    have zB' := blk_lt' qB
                    have hwq : Below A _ wr := (unhide HWB6).trans (hbq.mono (by omega))
                    by_cases hlt : j < l.length
                    · obtain ⟨xa, xb, hva, hvb, hgA, hcl⟩ := (unhide HROW).atj hlt
                      rw [unhide HAA] at hgA
                      have fl : ∀ i u, (buC (xa, xb))[i]? = some u → wr.cell? ⟨g, off2 + j * 8 + i, none⟩ = some u := fun i u hu => (hwq.cell (p := ⟨g, off2 + j * 8 + i, none⟩) hgA).trans (hcl i u hu)
                      have l0 : wr.cell? ⟨g, off2 + j * 8, none⟩ = some (.int .i64 xa.k) := fl 0 _ rfl
                      have l1 : wr.cell? ⟨g, off2 + j * 8 + 1, none⟩ = some (.string xa.nm) := fl 1 _ rfl
                      have l2 : wr.cell? ⟨g, off2 + j * 8 + 2, none⟩ = some (.int .i64 xa.num) := fl 2 _ rfl
                      have l3 : wr.cell? ⟨g, off2 + j * 8 + 3, none⟩ = some (.slice xa.ao xa.n xa.cap) := fl 3 _ rfl
                      have l4 : wr.cell? ⟨g, off2 + j * 8 + 4, none⟩ = some (.int .i64 xb.k) := fl 4 _ rfl
                      have l5 : wr.cell? ⟨g, off2 + j * 8 + 5, none⟩ = some (.string xb.nm) := fl 5 _ rfl
                      have l6 : wr.cell? ⟨g, off2 + j * 8 + 6, none⟩ = some (.int .i64 xb.num) := fl 6 _ rfl
                      have l7 : wr.cell? ⟨g, off2 + j * 8 + 7, none⟩ = some (.slice xb.ao xb.n xb.cap) := fl 7 _ rfl
                      have a0 : wr.cell? ⟨A, 0, none⟩ = some (.int .i64 pa'.k) := rA 0
                      have a1 : wr.cell? ⟨A, 1, none⟩ = some (.string pa'.nm) := rA 1
                      have a2 : wr.cell? ⟨A, 2, none⟩ = some (.int .i64 pa'.num) := rA 2
                      have a3 : wr.cell? ⟨A, 3, none⟩ = some (.slice pa'.ao pa'.n pa'.cap) := rA 3
                      have b0 : wr.cell? ⟨A + 1, 0, none⟩ = some (.int .i64 pb'.k) := rB 0
                      have b1 : wr.cell? ⟨A + 1, 1, none⟩ = some (.string pb'.nm) := rB 1
                      have b2 : wr.cell? ⟨A + 1, 2, none⟩ = some (.int .i64 pb'.num) := rB 2
                      have b3 : wr.cell? ⟨A + 1, 3, none⟩ = some (.slice pb'.ao pb'.n pb'.cap) := rB 3
                      have hgr : g < wr.heap.size := by omega
                      have j0 : (0 : Int) ≤ (j : Int) := by omega
                      have j1 : (j : Int) < (l.length : Int) := by omega
                      have HKB := hide (fun (w7 : World) (hk : ∀ (b i : Nat) (v : Value), b < w6.heap.size → wr.cell? ⟨b, i, none⟩ = some v → w7.cell? ⟨b, i, none⟩ = some v) => (⟨hk _ _ _ (by omega) l0, hk _ _ _ (by omega) l1, hk _ _ _ (by omega) l2, hk _ _ _ (by omega) l3, hk _ _ _ (by omega) l4, hk _ _ _ (by omega) l5, hk _ _ _ (by omega) l6, hk _ _ _ (by omega) l7, hk _ _ _ (by omega) a0, hk _ _ _ (by omega) a1, hk _ _ _ (by omega) a2, hk _ _ _ (by omega) a3, hk _ _ _ (by omega) b0, hk _ _ _ (by omega) b1, hk _ _ _ (by omega) b2, hk _ _ _ (by omega) b3⟩ : LCells g (off2 + j * 8) A xa xb pa' pb' w7))
                      have HKW := hide (show ∀ W, Below wr.heap.size wr W → LCells g (off2 + j * 8) A xa xb pa' pb' W from fun W hW => unhide HKB W (fun b i v hb hv => (hW.cell (p := ⟨b, i, none⟩) (by show b < wr.heap.size; omega)).trans hv))
                      have HK7 := hide (show ∀ (w7 : World), (∃ W8, Below wr.heap.size wr W8 ∧ W8.grownBy w7 (Value.slice mo j mc).ownBlock) → LCells g (off2 + j * 8) A xa xb pa' pb' w7 from fun w7 ⟨W, hW, hg⟩ => unhide HKB w7 (fun b i v hb hv => hg.cell ((hW.cell (p := ⟨b, i, none⟩) (by show b < wr.heap.size; omega)).trans hv) (fun e => by have := (hoq.lt b e.symm).1; omega)))
                      have hvaw := hva.below (show Below _ _ wr from by rw [unhide HAA]; exact hwq)
                      have hvbw := hvb.below (show Below _ _ wr from by rw [unhide HAA]; exact hwq)
                      have hpb : VU anyU wr pb' b' := (unhide HVB).below ((unhide HB5).trans (((unhide HB6).trans (hbq.mono hz6)).mono hz5))
                      have IC := hide (show ∀ (c : BV) (u : Parl.U) (W : World), Below wr.heap.size wr W → VU anyU wr c u → Calls Tryz.prog 108 #[.agg #[.int .i64 c.k, .string c.nm, .int .i64 c.num, .slice c.ao c.n c.cap], .agg #[.int .i64 pa'.k, .string pa'.nm, .int .i64 pa'.num, .slice pa'.ao pa'.n pa'.cap], .agg #[.int .i64 pb'.k, .string pb'.nm, .int .i64 pb'.num, .slice pb'.ao pb'.n pb'.cap]] W fun e w' => ∃ a' : BV, e = .returned (.agg #[.int .i64 a'.k, .string a'.nm, .int .i64 a'.num, .slice a'.ao a'.n a'.cap]) ∧ VU anyU w' a' (Parl.put u x b') ∧ Below wr.heap.size wr w' from fun c u W hW hc => (put_any W anyU c pa' pb' u x b' (hc.below hW) (unhide HIV) (hpb.below hW)).mono fun e w' ⟨a', h1, h2, h3⟩ => ⟨a', h1, h2.imp fun _ _ _ => trivial, hW.trans (h3.mono hW.size)⟩)
                      have IC2 := hide (show ∀ (w2 : World), Below wr.heap.size wr w2 → ∀ (c : BV) (u : Parl.U) (W : World), Below w2.heap.size w2 W → VU anyU wr c u → Calls Tryz.prog 108 #[.agg #[.int .i64 c.k, .string c.nm, .int .i64 c.num, .slice c.ao c.n c.cap], .agg #[.int .i64 pa'.k, .string pa'.nm, .int .i64 pa'.num, .slice pa'.ao pa'.n pa'.cap], .agg #[.int .i64 pb'.k, .string pb'.nm, .int .i64 pb'.num, .slice pb'.ao pb'.n pb'.cap]] W fun e w' => ∃ a' : BV, e = .returned (.agg #[.int .i64 a'.k, .string a'.nm, .int .i64 a'.num, .slice a'.ao a'.n a'.cap]) ∧ VU anyU w' a' (Parl.put u x b') ∧ Below w2.heap.size w2 w' from fun w2 hw2 c u W hW hc => (put_any W anyU c pa' pb' u x b' ((hc.below hw2).below hW) (unhide HIV) ((hpb.below hw2).below hW)).mono fun e w' ⟨a', h1, h2, h3⟩ => ⟨a', h1, h2.imp fun _ _ _ => trivial, hW.trans (h3.mono hW.size)⟩)
                      have HOW := hide (show ∀ W, Below wr.heap.size wr W → W.ownsRow w6.heap.size 132 8 (.slice mo j mc) j (bs.flatMap buC) from fun W hW => own_below hoq hW)
                      have HVXA := hide hvaw
                      have HVXB := hide hvbw
                      have HTK := hide (show (l.map fun e => (Parl.put e.1 x b', Parl.put e.2 x b')).take (j + 1) = (l.map fun e => (Parl.put e.1 x b', Parl.put e.2 x b')).take j ++ [(Parl.put l[j].1 x b', Parl.put l[j].2 x b')] by rw [List.take_add_one, List.getElem?_eq_getElem (by simp; omega)]; simp)
                      have HBQ := hide hbq
                      have HOQ := hide hoq
                      have HAQ := hide haq
                      have HKJ := hide hkj
                      have HLT := hide hlt
                      have hjB : j ≤ B := by have := (unhide HSTL).len; omega
                      generalize l[j].1 = ua at *
                      generalize l[j].2 = ub at *
                      clear hbq hoq haq hwq hva hvb hcl fl hkj hlt qA qB rA rB hvaw hvbw hpb HKB kA l0 l1 l2 l3 l4 l5 l6 l7 a0 a1 a2 a3 b0 b1 b2 b3 zA zB zA5 zB5 zA' zB' hz hz4 hz5 hz6 hgA hgr IC
                      obtain ⟨fn, hfn, hfn1, hfn2⟩ := put_fn
                      go_wp2_with fail
                      go_region_held3 (fun w' => w'.cell? ⟨g, off2 + j * 8, none⟩ = some (.int .i64 xa.k) ∧ w'.cell? ⟨g, off2 + j * 8 + 1, none⟩ = some (.string xa.nm) ∧ w'.cell? ⟨g, off2 + j * 8 + 2, none⟩ = some (.int .i64 xa.num) ∧ w'.cell? ⟨g, off2 + j * 8 + 3, none⟩ = some (.slice xa.ao xa.n xa.cap) ∧ w'.cell? ⟨g, off2 + j * 8 + 4, none⟩ = some (.int .i64 xb.k) ∧ w'.cell? ⟨g, off2 + j * 8 + 5, none⟩ = some (.string xb.nm) ∧ w'.cell? ⟨g, off2 + j * 8 + 6, none⟩ = some (.int .i64 xb.num) ∧ w'.cell? ⟨g, off2 + j * 8 + 7, none⟩ = some (.slice xb.ao xb.n xb.cap) ∧ w'.cell? ⟨A, 0, none⟩ = some (.int .i64 pa'.k) ∧ w'.cell? ⟨A, 1, none⟩ = some (.string pa'.nm) ∧ w'.cell? ⟨A, 2, none⟩ = some (.int .i64 pa'.num) ∧ w'.cell? ⟨A, 3, none⟩ = some (.slice pa'.ao pa'.n pa'.cap) ∧ w'.cell? ⟨A + 1, 0, none⟩ = some (.int .i64 pb'.k) ∧ w'.cell? ⟨A + 1, 1, none⟩ = some (.string pb'.nm) ∧ w'.cell? ⟨A + 1, 2, none⟩ = some (.int .i64 pb'.num) ∧ w'.cell? ⟨A + 1, 3, none⟩ = some (.slice pb'.ao pb'.n pb'.cap)) (first | (exact unhide HKW _ (by first | exact Below.refl _ _ | exact (Below.refl _ _).drew)) | (exact unhide HKW _ (by first | exact unhide HW2 | exact (unhide HW2).drew)) | (exact unhide HKW _ (by first | exact unhide HW3 | exact (unhide HW3).drew | exact (unhide HW3).alloc (unhide HW3).size _ | exact ((unhide HW3).alloc (unhide HW3).size _).drew | exact ((unhide HW3).drew).alloc (unhide HW3).size _)) | (have hg7 := unhide HK7 _ (unhide HG9); exact hg7)) (first
                        | (have hh2 := unhide HW2; clear hh2; refine step_call3 (by rfl) 108 _ hfn hfn1 hfn2 _ _ _ _ _ _ (by rfl) (.agg #[.int .i64 xa.k, .string xa.nm, .int .i64 xa.num, .slice xa.ao xa.n xa.cap]) (.agg #[.int .i64 pa'.k, .string pa'.nm, .int .i64 pa'.num, .slice pa'.ao pa'.n pa'.cap]) (.agg #[.int .i64 pb'.k, .string pb'.nm, .int .i64 pb'.num, .slice pb'.ao pb'.n pb'.cap]) (by rfl) (by rfl) (by rfl) ((unhide IC2 w2 (unhide HW2) xa ua _ (by first | exact Below.refl _ _ | exact (Below.refl _ _).drew) (unhide HVXA)).mono ?_); rintro e w3 ⟨aA, rfl, hrs, hbb⟩; refine ⟨_, rfl, ?_⟩; have HRA := hide hrs; have HRB := hide ((unhide HRB).below hbb); have HW3 := hide ((unhide HW2).trans (hbb.mono (unhide HW2).size)); clear hrs hbb)
                        | (have hh2 := unhide HW2; clear hh2; refine step_call3 (by rfl) 108 _ hfn hfn1 hfn2 _ _ _ _ _ _ (by rfl) (.agg #[.int .i64 xb.k, .string xb.nm, .int .i64 xb.num, .slice xb.ao xb.n xb.cap]) (.agg #[.int .i64 pa'.k, .string pa'.nm, .int .i64 pa'.num, .slice pa'.ao pa'.n pa'.cap]) (.agg #[.int .i64 pb'.k, .string pb'.nm, .int .i64 pb'.num, .slice pb'.ao pb'.n pb'.cap]) (by rfl) (by rfl) (by rfl) ((unhide IC2 w2 (unhide HW2) xb ub _ (by first | exact Below.refl _ _ | exact (Below.refl _ _).drew) (unhide HVXB)).mono ?_); rintro e w3 ⟨aB, rfl, hrs, hbb⟩; refine ⟨_, rfl, ?_⟩; have HRB := hide hrs; have HRA := hide ((unhide HRA).below hbb); have HW3 := hide ((unhide HW2).trans (hbb.mono (unhide HW2).size)); clear hrs hbb)
                        | (refine step_call3 (by rfl) 108 _ hfn hfn1 hfn2 _ _ _ _ _ _ (by rfl) (.agg #[.int .i64 xa.k, .string xa.nm, .int .i64 xa.num, .slice xa.ao xa.n xa.cap]) (.agg #[.int .i64 pa'.k, .string pa'.nm, .int .i64 pa'.num, .slice pa'.ao pa'.n pa'.cap]) (.agg #[.int .i64 pb'.k, .string pb'.nm, .int .i64 pb'.num, .slice pb'.ao pb'.n pb'.cap]) (by rfl) (by rfl) (by rfl) ((unhide IC2 wr (Below.refl _ _) xa ua _ (by first | exact Below.refl _ _ | exact (Below.refl _ _).drew) (unhide HVXA)).mono ?_); rintro e w2 ⟨aA, rfl, hrs, hbb⟩; refine ⟨_, rfl, ?_⟩; have HRA := hide hrs; have HW2 := hide hbb; clear hrs hbb)
                        | (refine step_call3 (by rfl) 108 _ hfn hfn1 hfn2 _ _ _ _ _ _ (by rfl) (.agg #[.int .i64 xb.k, .string xb.nm, .int .i64 xb.num, .slice xb.ao xb.n xb.cap]) (.agg #[.int .i64 pa'.k, .string pa'.nm, .int .i64 pa'.num, .slice pa'.ao pa'.n pa'.cap]) (.agg #[.int .i64 pb'.k, .string pb'.nm, .int .i64 pb'.num, .slice pb'.ao pb'.n pb'.cap]) (by rfl) (by rfl) (by rfl) ((unhide IC2 wr (Below.refl _ _) xb ub _ (by first | exact Below.refl _ _ | exact (Below.refl _ _).drew) (unhide HVXB)).mono ?_); rintro e w2 ⟨aB, rfl, hrs, hbb⟩; refine ⟨_, rfl, ?_⟩; have HRB := hide hrs; have HW2 := hide hbb; clear hrs hbb)
                        | (have hh3 := unhide HW3; clear hh3; refine step_append_lies _ (by rfl) _ _ _ (by rfl) w6.heap.size 132 ti _ 8 112 Tryz.underlying128 hi hz0' hz1' hz2' rfl (by omega) (.slice mo j mc) j (bs.flatMap buC) (by rfl) ((unhide HOW _ (unhide HW3)).alloc _) ⟨w3.heap.size, 0, none⟩ 1 1 [.int .i64 aA.k, .string aA.nm, .int .i64 aA.num, .slice aA.ao aA.n aA.cap, .int .i64 aB.k, .string aB.nm, .int .i64 aB.num, .slice aB.ao aB.n aB.cap] (by rfl) (by rfl) (World.news_of_block (cs := #[.int .i64 aA.k, .string aA.nm, .int .i64 aA.num, .slice aA.ao aA.n aA.cap, .int .i64 aB.k, .string aB.nm, .int .i64 aB.num, .slice aB.ao aB.n aB.cap]) (t := 132) (fr := (0, 0)) (heap_alloc_new w3 _)) (by simp [Value.oneCell']) (by omega) (by unfold maxLen; omega) (by omega) (by have := (unhide HW3).size; simp; omega) (w3.heap.size + 1) (by simp) ?_; intro g' cap' w7 hown7 hgrow hat hlg; have HO7 := hide hown7; have HG7 := hide (show ∃ W8, Below w3.heap.size w3 W8 ∧ W8.grownBy w7 (Value.slice mo j mc).ownBlock from ⟨_, (by first | exact (Below.refl _ _).alloc (Nat.le_refl _) _ | exact ((Below.refl _ _).alloc (Nat.le_refl _) _).drew | exact ((Below.refl _ _).drew).alloc (Nat.le_refl _) _), hgrow⟩); have HG9 := hide (show ∃ W8, Below wr.heap.size wr W8 ∧ W8.grownBy w7 (Value.slice mo j mc).ownBlock from (unhide HG7).elim fun W8 h => ⟨W8, (unhide HW3).trans (h.1.mono (unhide HW3).size), h.2⟩); clear hown7 hgrow hat hlg))
                      all_goals
                        clear HK7 HKW IC2
                        go_wp2_with fail
                        go_roundg (gk - 1)
                        case measure => have := unhide HKJ; have := unhide HLT; omega
                        case rel =>
                          refine ⟨j + 1, some ⟨g', 0, none⟩, cap', bs ++ [(aA, aB)], by have := unhide HKJ; have := unhide HLT; omega, by go_num, rfl, ?_, ?_, ?_⟩
                          · obtain ⟨W8, hw8, hg8⟩ := unhide HG9
                            exact ((unhide HBQ).trans (hw8.mono (unhide HBQ).size)).grown hg8 (Nat.le_trans (unhide HBQ).size hw8.size) (fun k q => ((unhide HOQ).lt k q).1)
                          · rw [List.flatMap_append]
                            exact unhide HO7
                          · rw [unhide HTK]
                            obtain ⟨W8, hw8, hg8⟩ := unhide HG7
                            have hrb : ∀ g, (Value.slice mo j mc).ownBlock = some g → ∃ cs, W8.heap[g]? = some (.cells cs 132 (0, 0)) := fun g q => by
                              obtain ⟨cs, hc⟩ := row_bind (unhide HOW _ (unhide HW3)) g q
                              exact ⟨cs, (hw8.block g (blk_lt' hc)).trans hc⟩
                            have key : ∀ p e, EqU w3 p e → EqU w7 p e := fun p e q => ⟨(q.1.below hw8).grown hg8 hrb, (q.2.below hw8).grown hg8 hrb⟩
                            exact All2.snoc (key _ _ ⟨unhide HRA, unhide HRB⟩) ((unhide HAQ).imp fun p e q => key p e (q.below (unhide HW3)))
                    · obtain rfl : j = l.length := by omega
                      rw [List.take_of_length_le (by rw [List.length_map]; exact Nat.le_refl _)] at haq
                      have hpb : VU anyU wr pb' b' := (unhide HVB).below ((unhide HB5).trans (((unhide HB6).trans (hbq.mono hz6)).mono hz5))
                      have HOUT := hide (show ∀ (w7 : World) (o7 : Option Addr) (c7 : Nat), w7.ownsRow w.heap.size 132 8 (.slice o7 (outs.length + 1) c7) (outs.length + 1) (bo.flatMap buC ++ [.int .i64 pa'.k, .string pa'.nm, .int .i64 pa'.num, .slice pa'.ao pa'.n pa'.cap, .int .i64 pb'.k, .string pb'.nm, .int .i64 pb'.num, .slice pb'.ao pb'.n pb'.cap]) → (∃ W8, Below wr.heap.size wr W8 ∧ W8.grownBy w7 (Value.slice oo outs.length oc).ownBlock ∧ ((Value.slice o7 (outs.length + 1) c7).ownBlock = (Value.slice oo outs.length oc).ownBlock ∨ (Value.slice o7 (outs.length + 1) c7).ownBlock = some W8.heap.size)) → LSol w θ B V0 R m1 (.slice mo l.length mc) (.slice o7 (outs.length + 1) c7) w7 from fun w7 o7 c7 h1 ⟨W8, hW, h2, hat⟩ => by
                        have hw8 : Below A _ W8 := hwq.trans (hW.mono (by omega))
                        rw [← unhide HAA] at hw8
                        have ho8 := own_below (unhide HOWN) hw8
                        have hrb := row_bind ho8
                        have hlo : ∀ k, (Value.slice oo outs.length oc).ownBlock = some k → w.heap.size ≤ k ∧ k < A := fun k q => by
                          have := (unhide HOWN).lt k q
                          rw [unhide HAA] at this
                          exact this
                        have hm7 : w7.ownsRow w6.heap.size 132 8 (.slice mo l.length mc) l.length (bs.flatMap buC) := own_at (own_below hoq hW) (fun k h3 h4 => h2.block k h4 (fun e => by have := (hlo k e.symm).2; omega))
                        have keyq : ∀ p e, EqU wr p e → EqU w7 p e := fun p e q => ⟨(q.1.below hW).grown h2 hrb, (q.2.below hW).grown h2 hrb⟩
                        refine ⟨l.map (fun e => (Parl.put e.1 x b', Parl.put e.2 x b')), outs ++ [(x, b')], r', o7, c7, bo ++ [(pa', pb')], unhide HSOL, unhide HST2, unhide HVS3, unhide HR2, ?_, RowE.of_own hm7 (by rw [List.length_map]) (haq.imp keyq), by rw [List.length_append]; rfl, ?_, ?_, ?_⟩
                        · exact ((unhide HBEL).trans (hw8.mono (unhide HBEL).size)).grown h2 (by have := hW.size; omega) (fun k q => (hlo k q).1)
                        · rw [List.length_append, List.flatMap_append]
                          exact h1
                        · exact All2.snoc ⟨unhide HIV, (hpb.below hW).grown h2 hrb⟩ ((unhide HALL).imp fun p e q => ⟨q.1, (q.2.below hw8).grown h2 hrb⟩)
                        · intro o n c hv p q hp hq e
                          simp only [Value.slice.injEq] at hv
                          have h5 := hoq.lt p.block (by rw [hv.1, hp]; rfl)
                          have h6 : (Value.slice o7 (outs.length + 1) c7).ownBlock = some q.block := by rw [hq]; rfl
                          have h7 := hW.size
                          rcases hat with h8 | h8
                          · rw [h6] at h8
                            have := (hlo _ h8.symm).2
                            omega
                          · rw [h6] at h8
                            injection h8 with h8
                            omega)
                      have HOO := hide (show wr.ownsRow w.heap.size 132 8 (.slice oo outs.length oc) outs.length (bo.flatMap buC) from own_below (unhide HOWN) (by rw [unhide HAA]; exact hwq))
                      have HKK := hide (unhide HK)
                      clear hbq hoq haq hwq hpb hkj qA qB hlt
                      go_wp2_with (first | (at_builtin; go_must (refine wpList_append_own_at _ rfl (.tmp 112) (.tmp 116) 128 rfl w.heap.size 132 ti (.agg #[.int .i64 0, .string ⟨#[]⟩, .int .i64 0, .slice none 0 0, .int .i64 0, .string ⟨#[]⟩, .int .i64 0, .slice none 0 0]) 8 112 Tryz.underlying128 hi hz0' hz1' hz2' rfl (by decide) _ outs.length (bo.flatMap buC) rfl ((unhide HOO).alloc _) ⟨wr.heap.size, 0, none⟩ 1 1 [.int .i64 pa'.k, .string pa'.nm, .int .i64 pa'.num, .slice pa'.ao pa'.n pa'.cap, .int .i64 pb'.k, .string pb'.nm, .int .i64 pb'.num, .slice pb'.ao pb'.n pb'.cap] rfl rfl (World.news_of_block (cs := #[.int .i64 pa'.k, .string pa'.nm, .int .i64 pa'.num, .slice pa'.ao pa'.n pa'.cap, .int .i64 pb'.k, .string pb'.nm, .int .i64 pb'.num, .slice pb'.ao pb'.n pb'.cap]) (t := 132) (fr := (0, 0)) (heap_alloc_new wr _)) (by simp [Value.oneCell']) (by unfold maxLen; omega) (by omega) (by simp; omega) ?_); go_must (intro v' w7 hown7 hgrow _ hat; obtain ⟨o7, c7, hv7⟩ := own_shapeS hown7; subst hv7; have HF := hide (unhide HOUT w7 o7 c7 hown7 ⟨_, (Below.refl _ _).alloc (Nat.le_refl _) _, hgrow, hat⟩); clear hown7 hgrow hat)))
                      go_roundg m1
                      case measure => have := unhide HKK; omega
                      case rel => exact unhide HF
end Go.Proofs.YthfjnfcekeknlaaGreatDoor
