import Derived.Test.YthfjnfcekeknlaaGreatDoorU01
import Derived.Test.YthfjnfcekeknlaaGreatDoorU15
import Derived.Lib.ItoaLen
namespace Parl
mutual
/-- A term as it is written; N: the variables in their order; D: how numbers are. -/
def strU (D : Int → List UInt8) (N : List Vr) : U → List UInt8
  | .v x => 86 :: D (N.idxOf x : Int)
  | .n k tx num ss => if k = 3 then D num else tx ++ argS (strUL D N ss)
def strUL (D : Int → List UInt8) (N : List Vr) : List U → List (List UInt8)
  | [] => []
  | a :: ss => strU D N a :: strUL D N ss
end
theorem strUL_map (D : Int → List UInt8) (N : List Vr) : ∀ ss, strUL D N ss = ss.map (strU D N)
  | [] => rfl
  | a :: ss => by rw [strUL, strUL_map D N ss]; rfl
theorem strU_n (D : Int → List UInt8) (N : List Vr) (k : Nat) (tx : List UInt8) (num : Int) (ss : List U) : strU D N (.n k tx num ss) = if k = 3 then D num else tx ++ argS (ss.map (strU D N)) := by rw [strU, strUL_map]
def addU (N : List Vr) (x : Vr) : List Vr := if x ∈ N then N else N ++ [x]
mutual
/-- The variables that have been met behind it. -/
def namesU (N : List Vr) : U → List Vr
  | .v x => addU N x
  | .n _ _ _ ss => namesUL N ss
def namesUL (N : List Vr) : List U → List Vr
  | [] => N
  | a :: ss => namesUL (namesU N a) ss
end
theorem namesUL_fold : ∀ (ss : List U) (N : List Vr), namesUL N ss = ss.foldl namesU N
  | [], _ => rfl
  | a :: ss, N => by rw [namesUL, namesUL_fold ss]; rfl
theorem namesU_n (N : List Vr) (k : Nat) (tx : List UInt8) (num : Int) (ss : List U) : namesU N (.n k tx num ss) = ss.foldl namesU N := by rw [namesU, namesUL_fold]
theorem mem_addU {N : List Vr} {x y : Vr} : y ∈ addU N x ↔ y ∈ N ∨ y = x := by
  unfold addU
  split
  · rename_i h
    exact ⟨Or.inl, fun q => q.elim id (fun e => e ▸ h)⟩
  · simp
theorem mem_namesU {y : Vr} : ∀ (u : U) (N : List Vr), y ∈ namesU N u ↔ y ∈ N ∨ has y u := by
  refine U.ind (fun x N => ?_) (fun k tx num ss ih N => ?_)
  · rw [namesU, mem_addU, has]
    exact ⟨fun q => q.imp id Eq.symm, fun q => q.imp id Eq.symm⟩
  · rw [namesU_n, has_n]
    induction ss generalizing N with
    | nil => simp
    | cons a ss ihl =>
      rw [List.foldl_cons, ihl (fun b hb => ih b (by simp [hb])), ih a (by simp)]
      simp [or_assoc]
/-- A renaming. -/
def ren (ρ : Vr → Vr) : Vr → U := fun x => .v (ρ x)
def InjOn (ρ : Vr → Vr) (S : Vr → Prop) : Prop := ∀ x y, S x → S y → ρ x = ρ y → x = y
theorem names_ren {ρ : Vr → Vr} {S : Vr → Prop} (hi : InjOn ρ S) : ∀ (u : U) (N : List Vr), (∀ x, has x u → S x) → (∀ x ∈ N, S x) → namesU (N.map ρ) (sub (ren ρ) u) = (namesU N u).map ρ := by
  refine U.ind (fun x N hu hN => ?_) (fun k tx num ss ih N hu hN => ?_)
  · show addU (N.map ρ) (ρ x) = (addU N x).map ρ
    unfold addU
    have hx : S x := hu x rfl
    have e : ρ x ∈ N.map ρ ↔ x ∈ N := by
      constructor
      · intro q
        obtain ⟨y, hy, he⟩ := List.mem_map.1 q
        rwa [hi y x (hN y hy) hx he] at hy
      · exact fun q => List.mem_map_of_mem q
    by_cases q : x ∈ N
    · rw [if_pos q, if_pos (e.2 q)]
    · rw [if_neg q, if_neg (fun r => q (e.1 r)), List.map_append]
      rfl
  · rw [sub_n, namesU_n, namesU_n]
    have hu' : ∀ a ∈ ss, ∀ x, has x a → S x := fun a ha x hx => hu x ((has_n x k tx num ss).2 ⟨a, ha, hx⟩)
    clear hu
    induction ss generalizing N with
    | nil => rfl
    | cons a ss ihl =>
      rw [List.map_cons, List.foldl_cons, List.foldl_cons, ih a (by simp) N (hu' a (by simp)) hN]
      exact ihl (fun b hb => ih b (by simp [hb])) _ (fun x hx => ((mem_namesU a N).1 hx).elim (hN x) (hu' a (by simp) x)) (fun b hb => hu' b (by simp [hb]))
theorem idx_ren {ρ : Vr → Vr} {S : Vr → Prop} (hi : InjOn ρ S) {x : Vr} (hx : S x) : ∀ (N : List Vr), (∀ y ∈ N, S y) → (N.map ρ).idxOf (ρ x) = N.idxOf x
  | [], _ => rfl
  | y :: N, h => by
    rw [List.map_cons, List.idxOf_cons, List.idxOf_cons, idx_ren hi hx N (fun z hz => h z (by simp [hz]))]
    by_cases q : y = x
    · subst q; simp
    · have : ρ y ≠ ρ x := fun e => q (hi y x (h y (by simp)) hx e)
      rw [beq_false_of_ne q, beq_false_of_ne this]
theorem str_ren {D : Int → List UInt8} {ρ : Vr → Vr} {S : Vr → Prop} (hi : InjOn ρ S) {N : List Vr} (hN : ∀ x ∈ N, S x) : ∀ (u : U), (∀ x, has x u → S x) → strU D (N.map ρ) (sub (ren ρ) u) = strU D N u := by
  refine U.ind (fun x hu => ?_) (fun k tx num ss ih hu => ?_)
  · show 86 :: D (((N.map ρ).idxOf (ρ x) : Nat) : Int) = 86 :: D ((N.idxOf x : Nat) : Int)
    rw [idx_ren hi (hu x rfl) N hN]
  · rw [sub_n, strU_n, strU_n, List.map_map]
    congr 3
    exact List.map_congr_left fun a ha => ih a ha fun x hx => hu x ((has_n x k tx num ss).2 ⟨a, ha, hx⟩)
theorem size_ren (ρ : Vr → Vr) : ∀ u, size (sub (ren ρ) u) = size u := by
  refine U.ind (fun x => rfl) (fun k tx num ss ih => ?_)
  rw [sub_n, size, size]
  congr 1
  induction ss with
  | nil => rfl
  | cons a ss ihl => rw [List.map_cons, sizeL, sizeL, ih a (by simp), ihl (fun b hb => ih b (by simp [hb]))]
/-- Each comes of the other. -/
def Vari (z u : U) : Prop := (∃ τ, sub τ z = u) ∧ ∃ τ, sub τ u = z
theorem sub_fix {θ : Vr → U} : ∀ u, sub θ u = u → ∀ x, has x u → θ x = .v x := by
  refine U.ind (fun y h x hx => ?_) (fun k tx num ss ih h x hx => ?_)
  · rw [has] at hx; subst hx; exact h
  · obtain ⟨a, ha, hx⟩ := (has_n x k tx num ss).1 hx
    rw [sub_n] at h
    injection h with _ _ _ h
    obtain ⟨i, hi, rfl⟩ := List.getElem_of_mem ha
    have := congrArg (·[i]?) h
    simp only [List.getElem?_map, List.getElem?_eq_getElem hi, Option.map_some, Option.some.injEq] at this
    exact ih _ (List.getElem_mem hi) this x hx
theorem Vari.ren {z u : U} (h : Vari z u) : ∃ ρ, InjOn ρ (fun x => has x z) ∧ sub (Parl.ren ρ) z = u := by
  obtain ⟨⟨τ, h1⟩, τ', h2⟩ := h
  have hf : ∀ x, has x z → sub τ' (τ x) = .v x := fun x hx => by
    have := sub_fix (θ := fun x => sub τ' (τ x)) z (by rw [← sub_sub, h1, h2]) x hx
    exact this
  have hv : ∀ x, has x z → ∃ y, τ x = .v y := fun x hx => by
    have := hf x hx
    cases hq : τ x with
    | v y => exact ⟨y, rfl⟩
    | n k tx num ss => rw [hq, sub_n] at this; cases this
  refine ⟨fun x => match τ x with | .v y => y | _ => x, fun x y hx hy e => ?_, ?_⟩
  · obtain ⟨x', hx'⟩ := hv x hx
    obtain ⟨y', hy'⟩ := hv y hy
    have e1 := hf x hx
    have e2 := hf y hy
    simp only [hx', hy'] at e e1 e2
    subst e
    rw [e1] at e2
    injection e2
  · rw [← h1]
    refine sub_congr z fun x hx => ?_
    obtain ⟨x', hx'⟩ := hv x hx
    show U.v (match τ x with | .v y => y | _ => x) = τ x
    rw [hx']
theorem Vari.str {z u : U} (h : Vari z u) (D : Int → List UInt8) : strU D (namesU [] z) z = strU D (namesU [] u) u ∧ size z = size u := by
  obtain ⟨ρ, hi, rfl⟩ := h.ren
  have hn := names_ren hi z [] (fun x hx => hx) (fun x hx => by cases hx)
  rw [List.map_nil] at hn
  rw [hn, str_ren hi (fun x hx => by have := (mem_namesU z []).1 hx; simpa using this) z (fun x hx => hx), size_ren]
  exact ⟨rfl, rfl⟩
/-- The most general term that comes of both. -/
def IsM (x y z : U) : Prop := (∃ θ, sub θ x = z ∧ sub θ y = z) ∧ ∀ θ, sub θ x = sub θ y → ∃ τ, sub τ z = sub θ x
theorem IsM.vari {x y z u : U} (h : IsM x y z) (k : IsM x y u) : Vari z u := by
  obtain ⟨⟨θ, h1, h2⟩, h3⟩ := h
  obtain ⟨⟨τ, k1, k2⟩, k3⟩ := k
  obtain ⟨a, ha⟩ := h3 τ (k1.trans k2.symm)
  obtain ⟨b, hb⟩ := k3 θ (h1.trans h2.symm)
  exact ⟨⟨a, ha.trans k1⟩, b, hb.trans h1⟩
theorem IsM.symm {x y z : U} (h : IsM x y z) : IsM y x z := by
  obtain ⟨⟨θ, h1, h2⟩, h3⟩ := h
  exact ⟨⟨θ, h2, h1⟩, fun τ e => by obtain ⟨a, ha⟩ := h3 τ e.symm; exact ⟨a, ha.trans e.symm⟩⟩
/-- With other names for the variables. -/
theorem IsM.of_ren {x y z : U} {ρ ρ' : Vr → Vr} (hx : ∀ v, has v x ∨ has v y → ρ' (ρ v) = v) (h : IsM (sub (ren ρ) x) (sub (ren ρ) y) z) : IsM x y z := by
  obtain ⟨⟨θ, h1, h2⟩, h3⟩ := h
  rw [sub_sub] at h1 h2
  refine ⟨⟨_, h1, h2⟩, fun τ e => ?_⟩
  have back : ∀ w, (∀ v, has v w → ρ' (ρ v) = v) → sub (fun v => τ (ρ' v)) (sub (ren ρ) w) = sub τ w := fun w hw => by
    rw [sub_sub]
    exact sub_congr w fun v hv => by show τ (ρ' (ρ v)) = τ v; rw [hw v hv]
  have bx := back x (fun v q => hx v (Or.inl q))
  have b2 := back y (fun v q => hx v (Or.inr q))
  obtain ⟨a, ha⟩ := h3 (fun v => τ (ρ' v)) (by rw [bx, b2, e])
  exact ⟨a, ha.trans bx⟩
theorem no_ren {x y : U} {ρ ρ' : Vr → Vr} (hx : ∀ v, has v x ∨ has v y → ρ' (ρ v) = v) (h : ∀ θ, sub θ (sub (ren ρ) x) ≠ sub θ (sub (ren ρ) y)) : ∀ θ, sub θ x ≠ sub θ y := by
  intro τ e
  refine h (fun v => τ (ρ' v)) ?_
  have back : ∀ w, (∀ v, has v w → ρ' (ρ v) = v) → sub (fun v => τ (ρ' v)) (sub (ren ρ) w) = sub τ w := fun w hw => by
    rw [sub_sub]
    exact sub_congr w fun v hv => by show τ (ρ' (ρ v)) = τ v; rw [hw v hv]
  rw [back x (fun v q => hx v (Or.inl q)), back y (fun v q => hx v (Or.inr q)), e]
theorem Made.isM {G : List Gn} {fr fr' : Nat → Nat} {T T' : Nat → U} {a b : U} {σ : Vr → U} (h : Made G fr fr' T T' a b σ) : IsM a b (sub σ a) := by
  refine ⟨⟨σ, rfl, h.one.symm⟩, fun θ e => ⟨θ, ?_⟩⟩
  rw [sub_sub]
  exact sub_congr a fun x _ => h.most θ e x
/-- All binds at once. -/
noncomputable def sig (l : List (Vr × U)) : Vr → U := fun x => puts (.v x) l
theorem puts_sub (l : List (Vr × U)) : ∀ u, puts u l = sub (sig l) u := by
  refine U.ind (fun x => rfl) (fun k tx num ss ih => ?_)
  rw [puts_n, sub_n]
  congr 1
  exact List.map_congr_left ih
theorem Sol.isM {lt : Vr → Vr → Prop} {x y : U} {out : List (Vr × U)} {m : Nat} (h : Sol lt [(x, y)] (some out) m) : IsM x y (puts x out) := by
  obtain ⟨h1, h2⟩ := h.good.1 out rfl
  have e := h1 (x, y) (by simp)
  refine ⟨⟨sig out, (puts_sub out x).symm, ?_⟩, fun θ q => ⟨θ, h2 θ ?_ x⟩⟩
  case refine_2 =>
    intro e he
    obtain rfl : e = (x, y) := by simpa using he
    exact q
  rw [← puts_sub, ← e]
theorem Sol.none {lt : Vr → Vr → Prop} {x y : U} {m : Nat} (h : Sol lt [(x, y)] none m) : ∀ θ, sub θ x ≠ sub θ y := fun θ q => h.good.2 rfl θ (fun e he => by
  obtain rfl : e = (x, y) := by simpa using he
  exact q)
end Parl
namespace Parl
mutual
def leaves : U → Nat
  | .v _ => 1
  | .n _ _ _ ss => leavesL ss + (if ss = [] then 1 else 0)
def leavesL : List U → Nat
  | [] => 0
  | a :: ss => leaves a + leavesL ss
end
mutual
def high : U → Nat
  | .v _ => 0
  | .n _ _ _ ss => highL ss + 1
def highL : List U → Nat
  | [] => 0
  | a :: ss => max (high a) (highL ss)
end
theorem highL_mem {a : U} : ∀ {ss : List U}, a ∈ ss → high a ≤ highL ss
  | b :: ss, h => by
    rw [highL]
    rcases List.mem_cons.1 h with rfl | h
    · exact Nat.le_max_left _ _
    · exact Nat.le_trans (highL_mem h) (Nat.le_max_right _ _)
theorem highL_le {c : Nat} : ∀ {ss : List U}, (∀ a ∈ ss, high a ≤ c) → highL ss ≤ c
  | [], _ => by rw [highL]; omega
  | a :: ss, h => by
    rw [highL]
    exact Nat.max_le.2 ⟨h a (by simp), highL_le fun b hb => h b (by simp [hb])⟩
theorem leavesL_le {c : Nat} : ∀ {ss : List U}, (∀ a ∈ ss, leaves a ≤ c) → leavesL ss ≤ ss.length * c
  | [], _ => by simp [leavesL]
  | a :: ss, h => by
    have h1 := h a (by simp)
    have h2 := leavesL_le fun b hb => h b (List.mem_cons_of_mem a hb)
    rw [leavesL, List.length_cons, Nat.add_mul]
    omega
theorem leaves_pos : ∀ u, 1 ≤ leaves u := by
  refine U.ind (fun x => by simp [leaves]) (fun k tx num ss ih => ?_)
  rw [leaves]
  cases ss with
  | nil => simp
  | cons a ss => have := ih a (by simp); rw [leavesL]; omega
theorem size_le_lh : ∀ u, size u ≤ leaves u * (high u + 1) := by
  refine U.ind (fun x => by simp [size, leaves]) (fun k tx num ss ih => ?_)
  rw [size, leaves, high]
  by_cases h : ss = []
  · subst h; simp [sizeL, leavesL, highL]
  · rw [if_neg h, Nat.add_zero]
    have h1 : sizeL ss ≤ leavesL ss * (highL ss + 1) := by
      have : ∀ (bs : List U) (c : Nat), (∀ b ∈ bs, size b ≤ leaves b * (high b + 1)) → (∀ b ∈ bs, high b ≤ c) → sizeL bs ≤ leavesL bs * (c + 1) := by
        intro bs c
        induction bs with
        | nil => intro _ _; simp [sizeL]
        | cons b bs ihb =>
          intro h1 h2
          have e1 := h1 b (by simp)
          have e2 := Nat.mul_le_mul_left (leaves b) (Nat.succ_le_succ (h2 b (by simp)))
          have e3 := ihb (fun d hd => h1 d (by simp [hd])) (fun d hd => h2 d (by simp [hd]))
          rw [sizeL, leavesL, Nat.add_mul]
          have : (c.succ) = c + 1 := rfl
          rw [this] at e2
          have : (high b).succ = high b + 1 := rfl
          rw [this] at e2
          omega
      exact this ss _ ih (fun b hb => highL_mem hb)
    have h2 : 1 ≤ leavesL ss := by
      cases ss with
      | nil => exact absurd rfl h
      | cons a ss => have := leaves_pos a; rw [leavesL]; omega
    rw [Nat.mul_add]
    omega
mutual
def subs : U → List U
  | .v x => [.v x]
  | .n k tx num ss => .n k tx num ss :: subsL ss
def subsL : List U → List U
  | [] => []
  | a :: ss => subs a ++ subsL ss
end
theorem subs_self (u : U) : u ∈ subs u := by cases u <;> simp [subs]
theorem mem_subsL {s : U} : ∀ {ss : List U}, s ∈ subsL ss ↔ ∃ a ∈ ss, s ∈ subs a
  | [] => by simp [subsL]
  | a :: ss => by rw [subsL, List.mem_append, mem_subsL]; simp
theorem subs_arg {k : Nat} {tx : List UInt8} {num : Int} {ss : List U} {a : U} (ha : a ∈ ss) : ∀ u, U.n k tx num ss ∈ subs u → a ∈ subs u := by
  refine U.ind (fun x h => ?_) (fun k' tx' num' bs ih h => ?_)
  · rw [subs] at h; simp at h
  · rw [subs] at h ⊢
    rcases List.mem_cons.1 h with e | e
    · injection e with _ _ _ e
      subst e
      exact List.mem_cons_of_mem _ (mem_subsL.2 ⟨a, ha, subs_self a⟩)
    · obtain ⟨b, hb, hm⟩ := mem_subsL.1 e
      exact List.mem_cons_of_mem _ (mem_subsL.2 ⟨b, hb, ih b hb hm⟩)
def ar : U → Nat
  | .v _ => 0
  | .n _ _ _ ss => ss.length
def isN : U → Bool
  | .v _ => false
  | .n .. => true
/-- A row of parts that has the arguments of each. -/
def Closed (N : List U) : Prop := ∀ k tx num ss, U.n k tx num ss ∈ N → ∀ a ∈ ss, a ∈ N
theorem closed_subs (x y : U) : Closed (subs x ++ subs y) := fun k tx num ss h a ha => by
  rcases List.mem_append.1 h with h | h
  · exact List.mem_append_left _ (subs_arg ha x h)
  · exact List.mem_append_right _ (subs_arg ha y h)
/-- What the variables get are such parts. -/
def Fed (θ : Vr → U) (N : List U) : Prop := ∀ v, (∃ w, θ v = .v w) ∨ ∃ s ∈ N, isN s = true ∧ θ v = sub θ s
def prd (θ : Vr → U) (k : Nat) : List U → Nat
  | [] => 1
  | m :: N => (if size (sub θ m) ≤ k then max 1 (ar m) else 1) * prd θ k N
def cnt (θ : Vr → U) (k : Nat) : List U → Nat
  | [] => 0
  | m :: N => (if size (sub θ m) ≤ k then 1 else 0) + cnt θ k N
def prod : List U → Nat
  | [] => 1
  | m :: N => max 1 (ar m) * prod N
theorem prd_pos (θ : Vr → U) (k : Nat) : ∀ N, 1 ≤ prd θ k N
  | [] => by simp [prd]
  | m :: N => by
    rw [prd]
    refine Nat.mul_pos ?_ (prd_pos θ k N)
    split <;> omega
theorem prd_mono (θ : Vr → U) {k l : Nat} (h : k ≤ l) : ∀ N, prd θ k N ≤ prd θ l N
  | [] => Nat.le_refl _
  | m :: N => by
    rw [prd, prd]
    refine Nat.mul_le_mul ?_ (prd_mono θ h N)
    split <;> split <;> omega
theorem prd_le (θ : Vr → U) (k : Nat) : ∀ N, prd θ k N ≤ prod N
  | [] => Nat.le_refl _
  | m :: N => by
    rw [prd, prod]
    refine Nat.mul_le_mul ?_ (prd_le θ k N)
    split <;> omega
theorem prd_step (θ : Vr → U) {k l : Nat} (h : k < l) : ∀ {N : List U} {s : U}, s ∈ N → size (sub θ s) = l → max 1 (ar s) * prd θ k N ≤ prd θ l N
  | m :: N, s, hs, he => by
    rcases List.mem_cons.1 hs with rfl | hs
    · rw [prd, prd, if_neg (by omega), if_pos (by omega), Nat.one_mul]
      exact Nat.mul_le_mul_left _ (prd_mono θ (Nat.le_of_lt h) N)
    · have ih := prd_step θ h hs he
      rw [prd, prd, ← Nat.mul_assoc, Nat.mul_comm (max 1 (ar s)), Nat.mul_assoc]
      refine Nat.mul_le_mul ?_ ih
      split <;> split <;> omega
theorem cnt_mono (θ : Vr → U) {k l : Nat} (h : k ≤ l) : ∀ N, cnt θ k N ≤ cnt θ l N
  | [] => Nat.le_refl _
  | m :: N => by
    have := cnt_mono θ h N
    rw [cnt, cnt]
    split <;> split <;> omega
theorem cnt_le (θ : Vr → U) (k : Nat) : ∀ N, cnt θ k N ≤ N.length
  | [] => Nat.le_refl _
  | m :: N => by
    have := cnt_le θ k N
    rw [cnt, List.length_cons]
    split <;> omega
theorem cnt_step (θ : Vr → U) {k l : Nat} (h : k < l) : ∀ {N : List U} {s : U}, s ∈ N → size (sub θ s) = l → 1 + cnt θ k N ≤ cnt θ l N
  | m :: N, s, hs, he => by
    rcases List.mem_cons.1 hs with rfl | hs
    · have := cnt_mono θ (Nat.le_of_lt h) N
      rw [cnt, cnt, if_neg (by omega), if_pos (by omega)]
      omega
    · have ih := cnt_step θ h hs he
      rw [cnt, cnt]
      split <;> split <;> omega
theorem size_arg {θ : Vr → U} {k : Nat} {tx : List UInt8} {num : Int} {ss : List U} {a : U} (ha : a ∈ ss) : size (sub θ a) < size (sub θ (.n k tx num ss)) := by
  rw [sub_n, size]
  have := sizeL_mem (List.mem_map_of_mem (f := sub θ) ha)
  omega
theorem fed_bound {θ : Vr → U} {N : List U} (hN : Closed N) (hF : Fed θ N) : ∀ (k : Nat) (s : U), s ∈ N → size (sub θ s) = k → leaves (sub θ s) ≤ prd θ k N ∧ high (sub θ s) ≤ cnt θ k N := by
  intro k
  induction k using Nat.strongRecOn with
  | _ k ih =>
    have nodes : ∀ s, s ∈ N → isN s = true → size (sub θ s) = k → leaves (sub θ s) ≤ prd θ k N ∧ high (sub θ s) ≤ cnt θ k N := fun s hs hn he => by
      cases s with
      | v x => cases hn
      | n kk tx num ss =>
        have harg : ∀ a ∈ ss, leaves (sub θ a) ≤ prd θ (k - 1) N ∧ high (sub θ a) ≤ cnt θ (k - 1) N := fun a ha => by
          have h1 := size_arg (θ := θ) (k := kk) (tx := tx) (num := num) ha
          obtain ⟨i1, i2⟩ := ih (size (sub θ a)) (by omega) a (hN _ _ _ _ hs a ha) rfl
          exact ⟨Nat.le_trans i1 (prd_mono θ (by omega) N), Nat.le_trans i2 (cnt_mono θ (by omega) N)⟩
        have hk : 0 < k := by rw [← he]; exact size_pos _
        have hp := prd_step θ (show k - 1 < k by omega) hs he
        have hc := cnt_step θ (show k - 1 < k by omega) hs he
        rw [sub_n, leaves, high]
        constructor
        · refine Nat.le_trans ?_ hp
          by_cases h0 : ss = []
          · subst h0
            simp only [List.map_nil, leavesL, ar, List.length_nil]
            have := prd_pos θ (k - 1) N
            simp
            omega
          · rw [if_neg (by simpa using h0), Nat.add_zero]
            have := leavesL_le (c := prd θ (k - 1) N) (ss := ss.map (sub θ)) (fun b hb => by
              obtain ⟨a, ha, rfl⟩ := List.mem_map.1 hb
              exact (harg a ha).1)
            rw [List.length_map] at this
            refine Nat.le_trans this (Nat.mul_le_mul_right _ ?_)
            show ss.length ≤ max 1 ss.length
            omega
        · have := highL_le (c := cnt θ (k - 1) N) (ss := ss.map (sub θ)) (fun b hb => by
            obtain ⟨a, ha, rfl⟩ := List.mem_map.1 hb
            exact (harg a ha).2)
          omega
    intro s hs he
    cases s with
    | n kk tx num ss => exact nodes _ hs rfl he
    | v x =>
      rcases hF x with ⟨w, hw⟩ | ⟨s', hs', hn', e'⟩
      · rw [show sub θ (.v x) = θ x from rfl, hw]
        exact ⟨prd_pos θ k N, Nat.zero_le _⟩
      · have e2 : sub θ (.v x) = sub θ s' := e'
        rw [e2] at he ⊢
        exact nodes s' hs' hn' he
theorem fed_all {θ : Vr → U} {N : List U} (hN : Closed N) (hF : Fed θ N) {s : U} (hs : s ∈ N) : leaves (sub θ s) ≤ prod N ∧ high (sub θ s) ≤ N.length := by
  obtain ⟨h1, h2⟩ := fed_bound hN hF _ s hs rfl
  exact ⟨Nat.le_trans h1 (prd_le _ _ _), Nat.le_trans h2 (cnt_le _ _ _)⟩
end Parl
namespace Parl
inductive SolB (lt : Vr → Vr → Prop) (θ : Vr → U) : List (U × U) → Option (List (Vr × U)) → Nat → Prop
  | nil : SolB lt θ [] (some []) 0
  | args {k tx num ss k' tx' num' ss' l r m} (h : same2 k tx num ss k' tx' num' ss') (hs : SolB lt θ ((ss'.zip ss) ++ l) r m) : SolB lt θ ((.n k tx num ss, .n k' tx' num' ss') :: l) r (m + 1)
  | clash {k tx num ss k' tx' num' ss' l} (h : ¬ same2 k tx num ss k' tx' num' ss') : SolB lt θ ((.n k tx num ss, .n k' tx' num' ss') :: l) none 1
  | same {x l r m} (hs : SolB lt θ l r m) : SolB lt θ ((.v x, .v x) :: l) r (m + 1)
  | left {x b l r m} (hθ : θ x = sub θ b) (hv : ∀ y, b = .v y → y ≠ x ∧ ¬ lt x y) (ho : ¬ has x b) (hs : SolB lt θ (l.map fun e => (put e.1 x b, put e.2 x b)) r m) : SolB lt θ ((.v x, b) :: l) (r.map ((x, b) :: ·)) (m + 1)
  | right {a y l r m} (hθ : θ y = sub θ a) (hv : ∀ x, a = .v x → x ≠ y ∧ lt x y) (ho : ¬ has y a) (hs : SolB lt θ (l.map fun e => (put e.1 y a, put e.2 y a)) r m) : SolB lt θ ((a, .v y) :: l) (r.map ((y, a) :: ·)) (m + 1)
  | occL {x b l} (hv : ∀ y, b ≠ .v y) (ho : has x b) : SolB lt θ ((.v x, b) :: l) none 1
  | occR {a y l} (hv : ∀ x, a ≠ .v x) (ho : has y a) : SolB lt θ ((a, .v y) :: l) none 1
theorem SolB.sol {lt : Vr → Vr → Prop} {θ : Vr → U} {l : List (U × U)} {r : Option (List (Vr × U))} {m : Nat} (h : SolB lt θ l r m) : Sol lt l r m := by
  induction h with
  | nil => exact .nil
  | args h _ ih => exact .args h ih
  | clash h => exact .clash h
  | same _ ih => exact .same ih
  | left _ hv ho _ ih => exact .left hv ho ih
  | right _ hv ho _ ih => exact .right hv ho ih
  | occL hv ho => exact .occL hv ho
  | occR hv ho => exact .occR hv ho
def hasE (v : Vr) (l : List (U × U)) : Prop := ∃ e ∈ l, has v e.1 ∨ has v e.2
theorem hasE_cons {v : Vr} {e : U × U} {l : List (U × U)} : hasE v (e :: l) ↔ (has v e.1 ∨ has v e.2) ∨ hasE v l := by
  unfold hasE
  simp
theorem hasE_app {v : Vr} {l l' : List (U × U)} : hasE v (l ++ l') ↔ hasE v l ∨ hasE v l' := by
  unfold hasE
  simp [or_and_right, exists_or]
theorem has_put {v x : Vr} {b : U} : ∀ u, has v (put u x b) ↔ (has v u ∧ v ≠ x) ∨ (has x u ∧ has v b) := by
  unfold put
  refine U.ind (fun y => ?_) (fun k tx num ss ih => ?_)
  · show has v (one x b y) ↔ _
    unfold one
    simp only [has]
    split
    · rename_i e; subst e
      constructor
      · exact fun q => Or.inr ⟨rfl, q⟩
      · rintro (⟨rfl, q⟩ | ⟨_, q⟩)
        · exact absurd rfl q
        · exact q
    · rename_i e
      simp only [has]
      constructor
      · rintro rfl; exact Or.inl ⟨rfl, e⟩
      · rintro (⟨q, _⟩ | ⟨q, _⟩)
        · exact q
        · exact absurd q e
  · rw [sub_n, has_n, has_n, has_n]
    simp only [List.mem_map]
    constructor
    · rintro ⟨_, ⟨a, ha, rfl⟩, hv⟩
      rcases (ih a ha).1 hv with ⟨h1, h2⟩ | ⟨h1, h2⟩
      · exact Or.inl ⟨⟨a, ha, h1⟩, h2⟩
      · exact Or.inr ⟨⟨a, ha, h1⟩, h2⟩
    · rintro (⟨⟨a, ha, h1⟩, h2⟩ | ⟨⟨a, ha, h1⟩, h2⟩)
      · exact ⟨_, ⟨a, ha, rfl⟩, (ih a ha).2 (Or.inl ⟨h1, h2⟩)⟩
      · exact ⟨_, ⟨a, ha, rfl⟩, (ih a ha).2 (Or.inr ⟨h1, h2⟩)⟩
theorem hasE_put {v x : Vr} {b : U} {l : List (U × U)} (ho : ¬ has x b) (h : hasE v (l.map fun e => (put e.1 x b, put e.2 x b))) : v ≠ x ∧ (has v b ∨ hasE v l) := by
  obtain ⟨e, he, hv⟩ := h
  obtain ⟨e', he', rfl⟩ := List.mem_map.1 he
  dsimp only at hv
  rcases hv with hv | hv
  · rcases (has_put _).1 hv with ⟨h1, h2⟩ | ⟨_, h2⟩
    · exact ⟨h2, Or.inr ⟨e', he', Or.inl h1⟩⟩
    · exact ⟨fun e => ho (e ▸ h2), Or.inl h2⟩
  · rcases (has_put _).1 hv with ⟨h1, h2⟩ | ⟨_, h2⟩
    · exact ⟨h2, Or.inr ⟨e', he', Or.inr h1⟩⟩
    · exact ⟨fun e => ho (e ▸ h2), Or.inl h2⟩
theorem hasE_zip {v : Vr} {ss bs : List U} (h : hasE v (ss.zip bs)) : (∃ a ∈ ss, has v a) ∨ ∃ b ∈ bs, has v b := by
  obtain ⟨e, he, hv⟩ := h
  have := List.of_mem_zip he
  rcases hv with hv | hv
  · exact Or.inl ⟨_, this.1, hv⟩
  · exact Or.inr ⟨_, this.2, hv⟩
theorem SolB.congr {lt : Vr → Vr → Prop} {θ τ : Vr → U} {l : List (U × U)} {r : Option (List (Vr × U))} {m : Nat} (h : SolB lt θ l r m) : (∀ v, hasE v l → θ v = τ v) → SolB lt τ l r m := by
  induction h with
  | nil => exact fun _ => .nil
  | args h _ ih =>
    refine fun q => .args h (ih fun v hv => q v ?_)
    rcases hasE_app.1 hv with hv | hv
    · refine hasE_cons.2 (Or.inl ?_)
      rw [has_n, has_n]
      exact (hasE_zip hv).symm
    · exact hasE_cons.2 (Or.inr hv)
  | clash h => exact fun _ => .clash h
  | same _ ih => exact fun q => .same (ih fun v hv => q v (hasE_cons.2 (Or.inr hv)))
  | @left x b l r m hθ hv ho _ ih =>
    refine fun q => .left ?_ hv ho (ih fun v hv => q v ?_)
    · rw [← q x (hasE_cons.2 (Or.inl (Or.inl rfl))), hθ]
      exact sub_congr b fun v hv => q v (hasE_cons.2 (Or.inl (Or.inr hv)))
    · rcases (hasE_put ho hv).2 with h1 | h1
      · exact hasE_cons.2 (Or.inl (Or.inr h1))
      · exact hasE_cons.2 (Or.inr h1)
  | @right a y l r m hθ hv ho _ ih =>
    refine fun q => .right ?_ hv ho (ih fun v hv => q v ?_)
    · rw [← q y (hasE_cons.2 (Or.inl (Or.inr rfl))), hθ]
      exact sub_congr a fun v hv => q v (hasE_cons.2 (Or.inl (Or.inl hv)))
    · rcases (hasE_put ho hv).2 with h1 | h1
      · exact hasE_cons.2 (Or.inl (Or.inl h1))
      · exact hasE_cons.2 (Or.inr h1)
  | occL hv ho => exact fun _ => .occL hv ho
  | occR hv ho => exact fun _ => .occR hv ho
/-- The variables of the equations. -/
def vs : List (U × U) → List Vr
  | [] => []
  | e :: l => namesU (namesU (vs l) e.1) e.2
theorem mem_vs {v : Vr} : ∀ {l : List (U × U)}, v ∈ vs l ↔ hasE v l
  | [] => by simp [vs, hasE]
  | e :: l => by
    rw [vs, mem_namesU, mem_namesU, mem_vs, hasE_cons]
    constructor
    · rintro ((h | h) | h)
      · exact Or.inr h
      · exact Or.inl (Or.inl h)
      · exact Or.inl (Or.inr h)
    · rintro ((h | h) | h)
      · exact Or.inl (Or.inr h)
      · exact Or.inr h
      · exact Or.inl (Or.inl h)
theorem addU_nodup {N : List Vr} (h : N.Nodup) (x : Vr) : (addU N x).Nodup := by
  unfold addU
  split
  · exact h
  · rename_i q
    rw [List.nodup_append]
    exact ⟨h, by simp, fun a ha b hb e => by
      obtain rfl : b = x := by simpa using hb
      subst e
      exact q ha⟩
theorem namesU_nodup : ∀ (u : U) (N : List Vr), N.Nodup → (namesU N u).Nodup := by
  refine U.ind (fun x N h => addU_nodup h x) (fun k tx num ss ih N h => ?_)
  rw [namesU_n]
  induction ss generalizing N with
  | nil => exact h
  | cons a ss ihl => exact ihl (fun b hb => ih b (by simp [hb])) _ (ih a (by simp) N h)
theorem vs_nodup : ∀ l, (vs l).Nodup
  | [] => by simp [vs]
  | e :: l => namesU_nodup _ _ (namesU_nodup _ _ (vs_nodup l))
theorem vs_le {l l' : List (U × U)} (h : ∀ v, hasE v l' → hasE v l) : (vs l').length ≤ (vs l).length :=
  (vs_nodup l').length_le_of_subset fun v hv => mem_vs.2 (h v (mem_vs.1 hv))
theorem vs_lt {l l' : List (U × U)} {x : Vr} (h : ∀ v, hasE v l' → v ≠ x ∧ hasE v l) (hx : hasE x l) : (vs l').length + 1 ≤ (vs l).length := by
  have h1 : (x :: vs l').Nodup := List.nodup_cons.2 ⟨fun q => (h x (mem_vs.1 q)).1 rfl, vs_nodup l'⟩
  have := h1.length_le_of_subset (l₂ := vs l) fun v hv => by
    rcases List.mem_cons.1 hv with rfl | hv
    · exact mem_vs.2 hx
    · exact mem_vs.2 (h v (mem_vs.1 hv)).2
  simpa using this
theorem vs_left {x : Vr} {b : U} {l : List (U × U)} (ho : ¬ has x b) : (vs (l.map fun e => (put e.1 x b, put e.2 x b))).length + 1 ≤ (vs ((.v x, b) :: l)).length :=
  vs_lt (x := x) (fun v hv => by
    obtain ⟨h1, h2⟩ := hasE_put ho hv
    exact ⟨h1, hasE_cons.2 (h2.imp Or.inr id)⟩) (hasE_cons.2 (Or.inl (Or.inl rfl)))
theorem vs_right {y : Vr} {a : U} {l : List (U × U)} (ho : ¬ has y a) : (vs (l.map fun e => (put e.1 y a, put e.2 y a))).length + 1 ≤ (vs ((a, .v y) :: l)).length :=
  vs_lt (x := y) (fun v hv => by
    obtain ⟨h1, h2⟩ := hasE_put ho hv
    exact ⟨h1, hasE_cons.2 (h2.imp Or.inl id)⟩) (hasE_cons.2 (Or.inl (Or.inr rfl)))
theorem vs_args {k k' : Nat} {tx tx' : List UInt8} {num num' : Int} {ss ss' : List U} {l : List (U × U)} : (vs (ss'.zip ss ++ l)).length ≤ (vs ((.n k tx num ss, .n k' tx' num' ss') :: l)).length :=
  vs_le fun v hv => by
    rcases hasE_app.1 hv with hv | hv
    · refine hasE_cons.2 (Or.inl ?_)
      rw [has_n, has_n]
      exact (hasE_zip hv).symm
    · exact hasE_cons.2 (Or.inr hv)
theorem vs_tail {e : U × U} {l : List (U × U)} : (vs l).length ≤ (vs (e :: l)).length := vs_le fun _ hv => hasE_cons.2 (Or.inr hv)
def sizeE : List (U × U) → Nat
  | [] => 0
  | e :: l => size e.1 + size e.2 + sizeE l
theorem sizeE_app (l l' : List (U × U)) : sizeE (l ++ l') = sizeE l + sizeE l' := by
  induction l with
  | nil => simp [sizeE]
  | cons e l ih => rw [List.cons_append, sizeE, sizeE, ih]; omega
theorem sizeE_zip : ∀ (ss bs : List U), sizeE (ss.zip bs) ≤ sizeL ss + sizeL bs
  | [], _ => by simp [sizeE]
  | _ :: _, [] => by simp [sizeE]
  | a :: ss, b :: bs => by
    have := sizeE_zip ss bs
    rw [List.zip_cons_cons, sizeE, sizeL, sizeL]
    dsimp only
    omega
/-- The parts of the equations. -/
def nodes (l : List (U × U)) : List U := l.flatMap fun e => subs e.1 ++ subs e.2
theorem mem_nodes {s : U} {l : List (U × U)} : s ∈ nodes l ↔ ∃ e ∈ l, s ∈ subs e.1 ∨ s ∈ subs e.2 := by
  unfold nodes
  simp
theorem subs_put {x : Vr} {b s' : U} : ∀ u, s' ∈ subs (put u x b) → (∃ s ∈ subs u, s' = put s x b) ∨ s' ∈ subs b := by
  unfold put
  refine U.ind (fun y h => ?_) (fun k tx num ss ih h => ?_)
  · by_cases e : y = x
    · right
      have : sub (one x b) (.v y) = b := by show one x b y = b; unfold one; rw [if_pos e]
      rwa [this] at h
    · left
      have : sub (one x b) (.v y) = .v y := by show one x b y = _; unfold one; rw [if_neg e]
      rw [this, subs] at h
      exact ⟨.v y, by rw [subs]; simp, by rw [this]; simpa using h⟩
  · rw [sub_n, subs] at h
    rcases List.mem_cons.1 h with rfl | h
    · left; exact ⟨_, subs_self _, (sub_n ..).symm⟩
    · obtain ⟨c, hc, hs⟩ := mem_subsL.1 h
      obtain ⟨a, ha, rfl⟩ := List.mem_map.1 hc
      rcases ih a ha hs with ⟨s, h1, h2⟩ | h1
      · left; exact ⟨s, by rw [subs]; exact List.mem_cons_of_mem _ (mem_subsL.2 ⟨a, ha, h1⟩), h2⟩
      · right; exact h1
theorem has_subs {v : Vr} {s : U} : ∀ b, s ∈ subs b → has v s → has v b := by
  refine U.ind (fun y h hv => ?_) (fun k tx num ss ih h hv => ?_)
  · rw [subs] at h; obtain rfl : s = .v y := by simpa using h
    exact hv
  · rw [subs] at h
    rcases List.mem_cons.1 h with rfl | h
    · exact hv
    · obtain ⟨a, ha, hs⟩ := mem_subsL.1 h
      exact (has_n ..).2 ⟨a, ha, ih a ha hs hv⟩
open Classical in
/-- x gets what b is. -/
noncomputable def also (θ : Vr → U) (x : Vr) (b : U) : Vr → U := fun v => if v = x then sub θ b else θ v
theorem also_ne {θ : Vr → U} {x v : Vr} {b : U} (h : v ≠ x) : also θ x b v = θ v := by unfold also; rw [if_neg h]
theorem also_at (θ : Vr → U) (x : Vr) (b : U) : also θ x b x = sub θ b := by unfold also; rw [if_pos rfl]
theorem also_no {θ : Vr → U} {x : Vr} {b u : U} (h : ¬ has x u) : sub (also θ x b) u = sub θ u := sub_congr u fun _ hv => also_ne (fun e => h (e ▸ hv))
theorem also_put (θ : Vr → U) (x : Vr) (b u : U) : sub θ (put u x b) = sub (also θ x b) u := by
  unfold put
  rw [sub_sub]
  refine sub_congr u fun v _ => ?_
  unfold one also
  split <;> rfl
theorem fed_also {θ : Vr → U} {x : Vr} {b : U} {l L : List (U × U)} (ho : ¬ has x b) (hF : Fed θ (nodes (l.map fun e => (put e.1 x b, put e.2 x b)))) (hL : ∀ s, s ∈ subs b ∨ s ∈ nodes l → s ∈ nodes L) : Fed (also θ x b) (nodes L) := by
  have key : ∀ v, v ≠ x → (∃ w, also θ x b v = .v w) ∨ ∃ s ∈ nodes L, isN s = true ∧ also θ x b v = sub (also θ x b) s := fun v hv => by
    rw [also_ne hv]
    rcases hF v with ⟨w, hw⟩ | ⟨s', hs', hn', e'⟩
    · exact Or.inl ⟨w, hw⟩
    · right
      obtain ⟨e, he, hs⟩ := mem_nodes.1 hs'
      obtain ⟨d, hd, rfl⟩ := List.mem_map.1 he
      dsimp only at hs
      have inb : s' ∈ subs b → ∃ s ∈ nodes L, isN s = true ∧ θ v = sub (also θ x b) s := fun q => ⟨s', hL _ (Or.inl q), hn', by rw [also_no (fun r => ho (has_subs b q r)), e']⟩
      have input : ∀ u, (u = d.1 ∨ u = d.2) → s' ∈ subs (put u x b) → ∃ s ∈ nodes L, isN s = true ∧ θ v = sub (also θ x b) s := fun u hu q => by
        rcases subs_put u q with ⟨s, h1, h2⟩ | h1
        · cases hs0 : s with
          | v y =>
            subst hs0
            by_cases e : y = x
            · subst e
              rw [put_v] at h2
              subst h2
              exact inb (subs_self _)
            · have : put (.v y) x b = .v y := by show one x b y = _; unfold one; rw [if_neg e]
              rw [this] at h2
              subst h2
              cases hn'
          | n k tx num ss =>
            refine ⟨s, hL _ (Or.inr (mem_nodes.2 ⟨d, hd, ?_⟩)), by rw [hs0]; rfl, ?_⟩
            · rcases hu with rfl | rfl
              · exact Or.inl h1
              · exact Or.inr h1
            · rw [e', h2, also_put]
        · exact inb h1
      rcases hs with hs | hs
      · exact input _ (Or.inl rfl) hs
      · exact input _ (Or.inr rfl) hs
  intro v
  by_cases e : v = x
  · subst e
    rw [also_at]
    cases hb : b with
    | v y =>
      subst hb
      have hne : y ≠ v := fun e => ho e
      rcases key y hne with ⟨w, hw⟩ | ⟨s, h1, h2, h3⟩
      · left; exact ⟨w, by rw [also_ne hne] at hw; exact hw⟩
      · right; exact ⟨s, h1, h2, by rw [also_ne hne] at h3; exact h3⟩
    | n k tx num ss =>
      right
      subst hb
      exact ⟨_, hL _ (Or.inl (subs_self _)), rfl, (also_no ho).symm⟩
  · exact key v e
theorem fed_id (N : List U) : Fed .v N := fun v => Or.inl ⟨v, rfl⟩
theorem Fed.more {θ : Vr → U} {N M : List U} (h : Fed θ N) (hs : ∀ s ∈ N, s ∈ M) : Fed θ M := fun v => (h v).imp id fun ⟨s, h1, h2⟩ => ⟨s, hs s h1, h2⟩
/-- There is an end. -/
theorem sol_ex (lt : Vr → Vr → Prop) : ∀ (n z : Nat) (l : List (U × U)), (vs l).length ≤ n → sizeE l ≤ z → ∃ θ r m, SolB lt θ l r m ∧ Fed θ (nodes l) := by
  intro n
  induction n using Nat.strongRecOn with
  | _ n ihn =>
    intro z
    induction z using Nat.strongRecOn with
    | _ z ihz =>
      intro l hn hz
      have bind : ∀ (x : Vr) (b : U) (l' : List (U × U)), ¬ has x b → (vs (l'.map fun e => (put e.1 x b, put e.2 x b))).length + 1 ≤ (vs l).length → (∀ s, s ∈ subs b ∨ s ∈ nodes l' → s ∈ nodes l) → ∃ θ r m, SolB lt θ (l'.map fun e => (put e.1 x b, put e.2 x b)) r m ∧ θ x = sub θ b ∧ Fed θ (nodes l) := fun x b l' ho hv hL => by
        obtain ⟨θ, r, m, h1, h2⟩ := ihn _ (by omega) _ (l'.map fun e => (put e.1 x b, put e.2 x b)) (Nat.le_refl _) (Nat.le_refl _)
        refine ⟨also θ x b, r, m, h1.congr fun v hv => (also_ne (hasE_put ho hv).1).symm, ?_, fed_also ho h2 hL⟩
        rw [also_at, also_no ho]
      cases l with
      | nil => exact ⟨.v, _, _, .nil, fed_id _⟩
      | cons e l =>
        obtain ⟨a, b⟩ := e
        have hb : ∀ s, s ∈ subs b ∨ s ∈ nodes l → s ∈ nodes ((a, b) :: l) := fun s h => by
          rcases h with h | h
          · exact mem_nodes.2 ⟨(a, b), by simp, Or.inr h⟩
          · obtain ⟨d, hd, h⟩ := mem_nodes.1 h
            exact mem_nodes.2 ⟨d, by simp [hd], h⟩
        have ha : ∀ s, s ∈ subs a ∨ s ∈ nodes l → s ∈ nodes ((a, b) :: l) := fun s h => by
          rcases h with h | h
          · exact mem_nodes.2 ⟨(a, b), by simp, Or.inl h⟩
          · obtain ⟨d, hd, h⟩ := mem_nodes.1 h
            exact mem_nodes.2 ⟨d, by simp [hd], h⟩
        cases a with
        | v x =>
          cases b with
          | v y =>
            by_cases e : y = x
            · subst e
              have hz' : sizeE l < z := by rw [sizeE] at hz; have := size_pos (.v y); dsimp only at hz; omega
              obtain ⟨θ, r, m, h1, h2⟩ := ihz _ hz' l (Nat.le_trans vs_tail hn) (Nat.le_refl _)
              exact ⟨θ, r, m + 1, .same h1, h2.more fun s hs => hb s (Or.inr hs)⟩
            · by_cases hl : lt x y
              · have ho : ¬ has y (.v x) := fun q => e (by rw [has] at q; exact q.symm)
                obtain ⟨θ, r, m, h1, h2, h3⟩ := bind y (.v x) l ho (vs_right ho) ha
                exact ⟨θ, _, _, .right h2 (fun x' q => by injection q with q; subst q; exact ⟨fun r => e r.symm, hl⟩) ho h1, h3⟩
              · have ho : ¬ has x (.v y) := fun q => e (by rw [has] at q; exact q)
                obtain ⟨θ, r, m, h1, h2, h3⟩ := bind x (.v y) l ho (vs_left ho) hb
                exact ⟨θ, _, _, .left h2 (fun y' q => by injection q with q; subst q; exact ⟨e, hl⟩) ho h1, h3⟩
          | n k tx num ss =>
            by_cases ho : has x (.n k tx num ss)
            · exact ⟨.v, _, _, .occL (fun y q => by cases q) ho, fed_id _⟩
            · obtain ⟨θ, r, m, h1, h2, h3⟩ := bind x _ l ho (vs_left ho) hb
              exact ⟨θ, _, _, .left h2 (fun y q => by cases q) ho h1, h3⟩
        | n k tx num ss =>
          cases b with
          | v y =>
            by_cases ho : has y (.n k tx num ss)
            · exact ⟨.v, _, _, .occR (fun y q => by cases q) ho, fed_id _⟩
            · obtain ⟨θ, r, m, h1, h2, h3⟩ := bind y _ l ho (vs_right ho) ha
              exact ⟨θ, _, _, .right h2 (fun y q => by cases q) ho h1, h3⟩
          | n k' tx' num' ss' =>
            by_cases hs : same2 k tx num ss k' tx' num' ss'
            · have hz' : sizeE (ss'.zip ss ++ l) < z := by
                rw [sizeE_app]
                have := sizeE_zip ss' ss
                rw [sizeE, size, size] at hz
                omega
              obtain ⟨θ, r, m, h1, h2⟩ := ihz _ hz' (ss'.zip ss ++ l) (Nat.le_trans vs_args hn) (Nat.le_refl _)
              refine ⟨θ, r, m + 1, .args hs h1, h2.more fun s q => ?_⟩
              obtain ⟨d, hd, q⟩ := mem_nodes.1 q
              rcases List.mem_append.1 hd with hd | hd
              · have := List.of_mem_zip hd
                refine mem_nodes.2 ⟨_, List.mem_cons_self .., ?_⟩
                dsimp only
                rw [subs, subs]
                rcases q with q | q
                · exact Or.inr (List.mem_cons_of_mem _ (mem_subsL.2 ⟨_, this.1, q⟩))
                · exact Or.inl (List.mem_cons_of_mem _ (mem_subsL.2 ⟨_, this.2, q⟩))
              · exact mem_nodes.2 ⟨d, by simp [hd], q⟩
            · exact ⟨.v, _, _, .clash hs, fed_id _⟩
/-- How long the row of equations can become. -/
def Stk (θ : Vr → U) (B : Nat) : List (U × U) → Prop
  | [] => True
  | e :: l => 2 * max (high (sub θ e.1)) (high (sub θ e.2)) + (l.length + 1) ≤ B ∧ Stk θ B l
theorem Stk.len {θ : Vr → U} {B : Nat} {l : List (U × U)} (h : Stk θ B l) : l.length ≤ B := by
  cases l with
  | nil => exact Nat.zero_le _
  | cons e l => have := h.1; rw [List.length_cons]; omega
theorem Stk.put {θ : Vr → U} {B : Nat} {x : Vr} {b : U} (hθ : θ x = sub θ b) : ∀ {l : List (U × U)}, Stk θ B l → Stk θ B (l.map fun e => (put e.1 x b, put e.2 x b))
  | [], _ => trivial
  | e :: l, h => by
    rw [List.map_cons]
    refine ⟨?_, Stk.put hθ h.2⟩
    have := h.1
    dsimp only
    rw [sub_put hθ, sub_put hθ, List.length_map]
    exact this
theorem Stk.args {θ : Vr → U} {B k k' : Nat} {tx tx' : List UInt8} {num num' : Int} {ss ss' : List U} {l : List (U × U)} (h : Stk θ B ((.n k tx num ss, .n k' tx' num' ss') :: l)) (h3 : ss'.length ≤ 3) : Stk θ B (ss'.zip ss ++ l) := by
  obtain ⟨h1, h2⟩ := h
  dsimp only at h1
  rw [sub_n, sub_n, high, high] at h1
  have hA : ∀ a ∈ ss, high (sub θ a) ≤ highL (ss.map (sub θ)) := fun a ha => highL_mem (List.mem_map_of_mem ha)
  have hB : ∀ a ∈ ss', high (sub θ a) ≤ highL (ss'.map (sub θ)) := fun a ha => highL_mem (List.mem_map_of_mem ha)
  generalize highL (ss.map (sub θ)) = p at *
  generalize highL (ss'.map (sub θ)) = q at *
  have : ∀ (xs ys : List U) (c : Nat), xs.length ≤ c → c ≤ 3 → (∀ a ∈ xs, high (sub θ a) ≤ q) → (∀ a ∈ ys, high (sub θ a) ≤ p) → Stk θ B (xs.zip ys ++ l) := by
    intro xs
    induction xs with
    | nil => intro ys c _ _ _ _; exact h2
    | cons x xs ih =>
      intro ys c hc h3 hx hy
      cases ys with
      | nil => exact h2
      | cons y ys =>
        rw [List.zip_cons_cons, List.cons_append]
        rw [List.length_cons] at hc
        refine ⟨?_, ih ys (c - 1) (by omega) (by omega) (fun a ha => hx a (by simp [ha])) (fun a ha => hy a (by simp [ha]))⟩
        have e1 := hx x (by simp)
        have e2 := hy y (by simp)
        have e3 : (xs.zip ys).length ≤ xs.length := by rw [List.length_zip]; omega
        rw [List.length_append]
        dsimp only
        omega
  exact this ss' ss 3 h3 (Nat.le_refl _) hB hA
theorem Stk.tail {θ : Vr → U} {B : Nat} {e : U × U} {l : List (U × U)} (h : Stk θ B (e :: l)) : Stk θ B l := h.2
end Parl
namespace Parl
def smU (u : U) : Prop := ∀ k tx num ss, U.n k tx num ss ∈ subs u → tx.length ≤ 240 ∧ -1000000000 ≤ num ∧ num ≤ 1000000000 ∧ ss.length ≤ 3
theorem smU.arg {k : Nat} {tx : List UInt8} {num : Int} {ss : List U} (h : smU (.n k tx num ss)) {a : U} (ha : a ∈ ss) : smU a := fun k' tx' num' ss' hm => h k' tx' num' ss' (by rw [subs]; exact List.mem_cons_of_mem _ (mem_subsL.2 ⟨a, ha, hm⟩))
theorem smU.own {k : Nat} {tx : List UInt8} {num : Int} {ss : List U} (h : smU (.n k tx num ss)) : tx.length ≤ 240 ∧ -1000000000 ≤ num ∧ num ≤ 1000000000 ∧ ss.length ≤ 3 := h k tx num ss (subs_self _)
theorem smU.mk {k : Nat} {tx : List UInt8} {num : Int} {ss : List U} (h : tx.length ≤ 240 ∧ -1000000000 ≤ num ∧ num ≤ 1000000000 ∧ ss.length ≤ 3) (hs : ∀ a ∈ ss, smU a) : smU (.n k tx num ss) := fun k' tx' num' ss' hm => by
  rw [subs] at hm
  rcases List.mem_cons.1 hm with e | e
  · injection e with e1 e2 e3 e4
    subst e2 e3 e4
    exact h
  · obtain ⟨a, ha, hm⟩ := mem_subsL.1 e
    exact hs a ha k' tx' num' ss' hm
theorem smU_v (x : Vr) : smU (.v x) := fun k tx num ss h => by rw [subs] at h; simp at h
theorem smU_put {x : Vr} {b : U} (hb : smU b) : ∀ u, smU u → smU (put u x b) := by
  unfold put
  refine U.ind (fun y h => ?_) (fun k tx num ss ih h => ?_)
  · show smU (one x b y)
    unfold one
    split
    · exact hb
    · exact smU_v _
  · rw [sub_n]
    obtain ⟨h1, h2, h3, h4⟩ := h.own
    refine smU.mk ⟨h1, h2, h3, by rw [List.length_map]; exact h4⟩ fun a ha => ?_
    obtain ⟨c, hc, rfl⟩ := List.mem_map.1 ha
    exact ih c hc (h.arg hc)
theorem argS_len : ∀ (l : List (List UInt8)), (argS l).length ≤ 2 + (l.map fun x => x.length + 1).sum
  | [] => by simp [argS]
  | x :: xs => by
    have : ∀ (ys : List (List UInt8)), (ys.flatMap (fun y => 44 :: y)).length ≤ (ys.map fun x => x.length + 1).sum := by
      intro ys
      induction ys with
      | nil => simp
      | cons y ys ih => rw [List.flatMap_cons, List.length_append, List.map_cons, List.sum_cons, List.length_cons]; omega
    have := this xs
    simp only [argS, List.cons_append, List.length_cons, List.length_append, List.length_nil, List.map_cons, List.sum_cons]
    omega
theorem strU_len {N : List Vr} (hN : N.length ≤ 100000000) : ∀ u, smU u → (strU Go.Lib.itoa N u).length ≤ 300 * size u := by
  refine U.ind (fun x _ => ?_) (fun k tx num ss ih h => ?_)
  · rw [strU, size]
    have := List.idxOf_le_length (l := N) (a := x)
    have := Go.Lib.itoa_length_le (N.idxOf x : Int) (by omega) (by omega)
    rw [List.length_cons]
    omega
  · obtain ⟨h1, h2, h3, h4⟩ := h.own
    rw [strU_n, size]
    split
    · have := Go.Lib.itoa_length_le num (by omega) (by omega)
      omega
    · rw [List.length_append]
      have := argS_len (ss.map (strU Go.Lib.itoa N))
      have h5 : ((ss.map (strU Go.Lib.itoa N)).map fun x => x.length + 1).sum ≤ 300 * sizeL ss + ss.length := by
        have hh : ∀ a ∈ ss, (strU Go.Lib.itoa N a).length ≤ 300 * size a := fun a ha => ih a ha (h.arg ha)
        clear this h h4 ih
        induction ss with
        | nil => simp
        | cons a ss ihl =>
          have e1 := ihl (fun b hb => hh b (by simp [hb]))
          have e2 := hh a (by simp)
          rw [List.map_cons, List.map_cons, List.sum_cons, sizeL, List.length_cons]
          omega
      omega
end Parl
