import Derived.Test.YthfjnfcekeknlaaDoorF01
import Derived.Test.YthfjnfcekeknlaaDoorF08
import Derived.Lib.ItoaLen
namespace Parl
mutual
/-- A term as it is written; N: the variables in their order; D: how numbers are. -/
def strU (D : Int → List UInt8) (N : List Vr) : U → List UInt8
  | .v x => 86 :: D (N.idxOf x : Int)
  | .n k tx num ss => if k = 3 then D num else tx ++ argS (strUL D N ss)
def strUL (D : Int → List UInt8) (N : List Vr) : List U → List (List UInt8)
  | [] => []
  | a :: ss => strU D N a :: strUL D N ss
end
theorem strUL_map (D : Int → List UInt8) (N : List Vr) : ∀ ss, strUL D N ss = ss.map (strU D N)
  | [] => rfl
  | a :: ss => by rw [strUL, strUL_map D N ss]; rfl
theorem strU_n (D : Int → List UInt8) (N : List Vr) (k : Nat) (tx : List UInt8) (num : Int) (ss : List U) : strU D N (.n k tx num ss) = if k = 3 then D num else tx ++ argS (ss.map (strU D N)) := by rw [strU, strUL_map]
def addU (N : List Vr) (x : Vr) : List Vr := if x ∈ N then N else N ++ [x]
mutual
/-- The variables that have been met behind it. -/
def namesU (N : List Vr) : U → List Vr
  | .v x => addU N x
  | .n _ _ _ ss => namesUL N ss
def namesUL (N : List Vr) : List U → List Vr
  | [] => N
  | a :: ss => namesUL (namesU N a) ss
end
theorem namesUL_fold : ∀ (ss : List U) (N : List Vr), namesUL N ss = ss.foldl namesU N
  | [], _ => rfl
  | a :: ss, N => by rw [namesUL, namesUL_fold ss]; rfl
theorem namesU_n (N : List Vr) (k : Nat) (tx : List UInt8) (num : Int) (ss : List U) : namesU N (.n k tx num ss) = ss.foldl namesU N := by rw [namesU, namesUL_fold]
theorem mem_addU {N : List Vr} {x y : Vr} : y ∈ addU N x ↔ y ∈ N ∨ y = x := by
  unfold addU
  split
  · rename_i h
    exact ⟨Or.inl, fun q => q.elim id (fun e => e ▸ h)⟩
  · simp
theorem mem_namesU {y : Vr} : ∀ (u : U) (N : List Vr), y ∈ namesU N u ↔ y ∈ N ∨ has y u := by
  refine U.ind (fun x N => ?_) (fun k tx num ss ih N => ?_)
  · rw [namesU, mem_addU, has]
    exact ⟨fun q => q.imp id Eq.symm, fun q => q.imp id Eq.symm⟩
  · rw [namesU_n, has_n]
    induction ss generalizing N with
    | nil => simp
    | cons a ss ihl =>
      rw [List.foldl_cons, ihl (fun b hb => ih b (by simp [hb])), ih a (by simp)]
      simp [or_assoc]
/-- A renaming. -/
def ren (ρ : Vr → Vr) : Vr → U := fun x => .v (ρ x)
def InjOn (ρ : Vr → Vr) (S : Vr → Prop) : Prop := ∀ x y, S x → S y → ρ x = ρ y → x = y
theorem names_ren {ρ : Vr → Vr} {S : Vr → Prop} (hi : InjOn ρ S) : ∀ (u : U) (N : List Vr), (∀ x, has x u → S x) → (∀ x ∈ N, S x) → namesU (N.map ρ) (sub (ren ρ) u) = (namesU N u).map ρ := by
  refine U.ind (fun x N hu hN => ?_) (fun k tx num ss ih N hu hN => ?_)
  · show addU (N.map ρ) (ρ x) = (addU N x).map ρ
    unfold addU
    have hx : S x := hu x rfl
    have e : ρ x ∈ N.map ρ ↔ x ∈ N := by
      constructor
      · intro q
        obtain ⟨y, hy, he⟩ := List.mem_map.1 q
        rwa [hi y x (hN y hy) hx he] at hy
      · exact fun q => List.mem_map_of_mem q
    by_cases q : x ∈ N
    · rw [if_pos q, if_pos (e.2 q)]
    · rw [if_neg q, if_neg (fun r => q (e.1 r)), List.map_append]
      rfl
  · rw [sub_n, namesU_n, namesU_n]
    have hu' : ∀ a ∈ ss, ∀ x, has x a → S x := fun a ha x hx => hu x ((has_n x k tx num ss).2 ⟨a, ha, hx⟩)
    clear hu
    induction ss generalizing N with
    | nil => rfl
    | cons a ss ihl =>
      rw [List.map_cons, List.foldl_cons, List.foldl_cons, ih a (by simp) N (hu' a (by simp)) hN]
      exact ihl (fun b hb => ih b (by simp [hb])) _ (fun x hx => ((mem_namesU a N).1 hx).elim (hN x) (hu' a (by simp) x)) (fun b hb => hu' b (by simp [hb]))
theorem idx_ren {ρ : Vr → Vr} {S : Vr → Prop} (hi : InjOn ρ S) {x : Vr} (hx : S x) : ∀ (N : List Vr), (∀ y ∈ N, S y) → (N.map ρ).idxOf (ρ x) = N.idxOf x
  | [], _ => rfl
  | y :: N, h => by
    rw [List.map_cons, List.idxOf_cons, List.idxOf_cons, idx_ren hi hx N (fun z hz => h z (by simp [hz]))]
    by_cases q : y = x
    · subst q; simp
    · have : ρ y ≠ ρ x := fun e => q (hi y x (h y (by simp)) hx e)
      rw [beq_false_of_ne q, beq_false_of_ne this]
theorem str_ren {D : Int → List UInt8} {ρ : Vr → Vr} {S : Vr → Prop} (hi : InjOn ρ S) {N : List Vr} (hN : ∀ x ∈ N, S x) : ∀ (u : U), (∀ x, has x u → S x) → strU D (N.map ρ) (sub (ren ρ) u) = strU D N u := by
  refine U.ind (fun x hu => ?_) (fun k tx num ss ih hu => ?_)
  · show 86 :: D (((N.map ρ).idxOf (ρ x) : Nat) : Int) = 86 :: D ((N.idxOf x : Nat) : Int)
    rw [idx_ren hi (hu x rfl) N hN]
  · rw [sub_n, strU_n, strU_n, List.map_map]
    congr 3
    exact List.map_congr_left fun a ha => ih a ha fun x hx => hu x ((has_n x k tx num ss).2 ⟨a, ha, hx⟩)
theorem size_ren (ρ : Vr → Vr) : ∀ u, size (sub (ren ρ) u) = size u := by
  refine U.ind (fun x => rfl) (fun k tx num ss ih => ?_)
  rw [sub_n, size, size]
  congr 1
  induction ss with
  | nil => rfl
  | cons a ss ihl => rw [List.map_cons, sizeL, sizeL, ih a (by simp), ihl (fun b hb => ih b (by simp [hb]))]
/-- Each comes of the other. -/
def Vari (z u : U) : Prop := (∃ τ, sub τ z = u) ∧ ∃ τ, sub τ u = z
theorem sub_fix {θ : Vr → U} : ∀ u, sub θ u = u → ∀ x, has x u → θ x = .v x := by
  refine U.ind (fun y h x hx => ?_) (fun k tx num ss ih h x hx => ?_)
  · rw [has] at hx; subst hx; exact h
  · obtain ⟨a, ha, hx⟩ := (has_n x k tx num ss).1 hx
    rw [sub_n] at h
    injection h with _ _ _ h
    obtain ⟨i, hi, rfl⟩ := List.getElem_of_mem ha
    have := congrArg (·[i]?) h
    simp only [List.getElem?_map, List.getElem?_eq_getElem hi, Option.map_some, Option.some.injEq] at this
    exact ih _ (List.getElem_mem hi) this x hx
theorem Vari.ren {z u : U} (h : Vari z u) : ∃ ρ, InjOn ρ (fun x => has x z) ∧ sub (Parl.ren ρ) z = u := by
  obtain ⟨⟨τ, h1⟩, τ', h2⟩ := h
  have hf : ∀ x, has x z → sub τ' (τ x) = .v x := fun x hx => by
    have := sub_fix (θ := fun x => sub τ' (τ x)) z (by rw [← sub_sub, h1, h2]) x hx
    exact this
  have hv : ∀ x, has x z → ∃ y, τ x = .v y := fun x hx => by
    have := hf x hx
    cases hq : τ x with
    | v y => exact ⟨y, rfl⟩
    | n k tx num ss => rw [hq, sub_n] at this; cases this
  refine ⟨fun x => match τ x with | .v y => y | _ => x, fun x y hx hy e => ?_, ?_⟩
  · obtain ⟨x', hx'⟩ := hv x hx
    obtain ⟨y', hy'⟩ := hv y hy
    have e1 := hf x hx
    have e2 := hf y hy
    simp only [hx', hy'] at e e1 e2
    subst e
    rw [e1] at e2
    injection e2
  · rw [← h1]
    refine sub_congr z fun x hx => ?_
    obtain ⟨x', hx'⟩ := hv x hx
    show U.v (match τ x with | .v y => y | _ => x) = τ x
    rw [hx']
theorem Vari.str {z u : U} (h : Vari z u) (D : Int → List UInt8) : strU D (namesU [] z) z = strU D (namesU [] u) u ∧ size z = size u := by
  obtain ⟨ρ, hi, rfl⟩ := h.ren
  have hn := names_ren hi z [] (fun x hx => hx) (fun x hx => by cases hx)
  rw [List.map_nil] at hn
  rw [hn, str_ren hi (fun x hx => by have := (mem_namesU z []).1 hx; simpa using this) z (fun x hx => hx), size_ren]
  exact ⟨rfl, rfl⟩
/-- The most general term that comes of both. -/
def IsM (x y z : U) : Prop := (∃ θ, sub θ x = z ∧ sub θ y = z) ∧ ∀ θ, sub θ x = sub θ y → ∃ τ, sub τ z = sub θ x
theorem IsM.vari {x y z u : U} (h : IsM x y z) (k : IsM x y u) : Vari z u := by
  obtain ⟨⟨θ, h1, h2⟩, h3⟩ := h
  obtain ⟨⟨τ, k1, k2⟩, k3⟩ := k
  obtain ⟨a, ha⟩ := h3 τ (k1.trans k2.symm)
  obtain ⟨b, hb⟩ := k3 θ (h1.trans h2.symm)
  exact ⟨⟨a, ha.trans k1⟩, b, hb.trans h1⟩
theorem IsM.symm {x y z : U} (h : IsM x y z) : IsM y x z := by
  obtain ⟨⟨θ, h1, h2⟩, h3⟩ := h
  exact ⟨⟨θ, h2, h1⟩, fun τ e => by obtain ⟨a, ha⟩ := h3 τ e.symm; exact ⟨a, ha.trans e.symm⟩⟩
/-- With other names for the variables. -/
theorem IsM.of_ren {x y z : U} {ρ ρ' : Vr → Vr} (hx : ∀ v, has v x ∨ has v y → ρ' (ρ v) = v) (h : IsM (sub (ren ρ) x) (sub (ren ρ) y) z) : IsM x y z := by
  obtain ⟨⟨θ, h1, h2⟩, h3⟩ := h
  rw [sub_sub] at h1 h2
  refine ⟨⟨_, h1, h2⟩, fun τ e => ?_⟩
  have back : ∀ w, (∀ v, has v w → ρ' (ρ v) = v) → sub (fun v => τ (ρ' v)) (sub (ren ρ) w) = sub τ w := fun w hw => by
    rw [sub_sub]
    exact sub_congr w fun v hv => by show τ (ρ' (ρ v)) = τ v; rw [hw v hv]
  have bx := back x (fun v q => hx v (Or.inl q))
  have b2 := back y (fun v q => hx v (Or.inr q))
  obtain ⟨a, ha⟩ := h3 (fun v => τ (ρ' v)) (by rw [bx, b2, e])
  exact ⟨a, ha.trans bx⟩
theorem no_ren {x y : U} {ρ ρ' : Vr → Vr} (hx : ∀ v, has v x ∨ has v y → ρ' (ρ v) = v) (h : ∀ θ, sub θ (sub (ren ρ) x) ≠ sub θ (sub (ren ρ) y)) : ∀ θ, sub θ x ≠ sub θ y := by
  intro τ e
  refine h (fun v => τ (ρ' v)) ?_
  have back : ∀ w, (∀ v, has v w → ρ' (ρ v) = v) → sub (fun v => τ (ρ' v)) (sub (ren ρ) w) = sub τ w := fun w hw => by
    rw [sub_sub]
    exact sub_congr w fun v hv => by show τ (ρ' (ρ v)) = τ v; rw [hw v hv]
  rw [back x (fun v q => hx v (Or.inl q)), back y (fun v q => hx v (Or.inr q)), e]
theorem Made.isM {G : List Gn} {fr fr' : Nat → Nat} {T T' : Nat → U} {a b : U} {σ : Vr → U} (h : Made G fr fr' T T' a b σ) : IsM a b (sub σ a) := by
  refine ⟨⟨σ, rfl, h.one.symm⟩, fun θ e => ⟨θ, ?_⟩⟩
  rw [sub_sub]
  exact sub_congr a fun x _ => h.most θ e x
/-- All binds at once. -/
noncomputable def sig (l : List (Vr × U)) : Vr → U := fun x => puts (.v x) l
theorem puts_sub (l : List (Vr × U)) : ∀ u, puts u l = sub (sig l) u := by
  refine U.ind (fun x => rfl) (fun k tx num ss ih => ?_)
  rw [puts_n, sub_n]
  congr 1
  exact List.map_congr_left ih
theorem Sol.isM {lt : Vr → Vr → Prop} {x y : U} {out : List (Vr × U)} {m : Nat} (h : Sol lt [(x, y)] (some out) m) : IsM x y (puts x out) := by
  obtain ⟨h1, h2⟩ := h.good.1 out rfl
  have e := h1 (x, y) (by simp)
  refine ⟨⟨sig out, (puts_sub out x).symm, ?_⟩, fun θ q => ⟨θ, h2 θ ?_ x⟩⟩
  case refine_2 =>
    intro e he
    obtain rfl : e = (x, y) := by simpa using he
    exact q
  rw [← puts_sub, ← e]
theorem Sol.none {lt : Vr → Vr → Prop} {x y : U} {m : Nat} (h : Sol lt [(x, y)] none m) : ∀ θ, sub θ x ≠ sub θ y := fun θ q => h.good.2 rfl θ (fun e he => by
  obtain rfl : e = (x, y) := by simpa using he
  exact q)
end Parl
namespace Parl
/-- A term as it was read, with what its variables are. -/
def tmU (η : List UInt8 → U) : Nat → Tm → U
  | 0, _ => .v ([], 0)
  | f + 1, t => if t.kind = 3 then η t.text.toList else if t.kind = 4 then .n 3 [] (numOf t.text : Int) [] else .n 1 t.text.toList 0 (t.args.map (tmU η f))
/-- Its variables being of a side. -/
def toU (f sd : Nat) (t : Tm) : U := tmU (fun x => .v (x, sd)) f t
theorem tmU_sub (η : List UInt8 → U) (sd : Nat) : ∀ (f : Nat) (t : Tm), wfK f t → tmU η f t = sub (fun v => η v.1) (toU f sd t)
  | f + 1, t, h => by
    unfold toU tmU
    by_cases k : t.kind = 3
    · rw [if_pos k, if_pos k]; rfl
    · rw [if_neg k, if_neg k]
      by_cases k4 : t.kind = 4
      · rw [if_pos k4, if_pos k4, sub_n]; rfl
      · rw [if_neg k4, if_neg k4, sub_n, List.map_map]
        congr 1
        exact List.map_congr_left fun a ha => tmU_sub η sd f a (h.2.2.2 a ha)
/-- The variables that it has. -/
theorem toU_has (sd : Nat) {v : Vr} : ∀ (f : Nat) (t : Tm), wfK f t → has v (toU f sd t) → v.2 = sd ∧ ∀ ns, v.1 ∈ namesF f ns t
  | f + 1, t, h, hv => by
    unfold toU tmU at hv
    unfold namesF
    by_cases k : t.kind = 3
    · rw [if_pos k] at hv
      rw [has] at hv
      subst hv
      refine ⟨rfl, fun ns => ?_⟩
      rw [if_pos k]
      unfold addN
      split
      · assumption
      · simp
    · rw [if_neg k] at hv
      by_cases k4 : t.kind = 4
      · rw [if_pos k4, has_n] at hv
        obtain ⟨a, ha, _⟩ := hv
        cases ha
      · rw [if_neg k4, has_n] at hv
        obtain ⟨a, ha, hv⟩ := hv
        obtain ⟨c, hc, rfl⟩ := List.mem_map.1 ha
        obtain ⟨i1, i2⟩ := toU_has sd f c (h.2.2.2 c hc) hv
        refine ⟨i1, fun ns => ?_⟩
        rw [if_neg k, if_neg k4]
        obtain ⟨l1, l2, he⟩ := List.append_of_mem hc
        rw [he, List.foldl_append, List.foldl_cons]
        obtain ⟨K, hK⟩ := namesW_ext f l2 (namesF f (l1.foldl (namesF f) ns) c)
        rw [hK]
        exact List.mem_append_left _ (i2 _)
end Parl
namespace Parl
theorem tmU_eq (η : List UInt8 → U) (f : Nat) (t : Tm) : tmU η (f + 1) t = if t.kind = 3 then η t.text.toList else if t.kind = 4 then .n 3 [] (numOf t.text : Int) [] else .n 1 t.text.toList 0 (t.args.map (tmU η f)) := rfl
theorem tmU_var (η : List UInt8 → U) (f : Nat) {t : Tm} (h : t.kind = 3) : tmU η (f + 1) t = η t.text.toList := by rw [tmU_eq, if_pos h]
theorem tmU_up (η : List UInt8 → U) : ∀ (f : Nat) (t : Tm), wfK f t → tmU η (f + 1) t = tmU η f t
  | f + 1, t, h => by
    rw [tmU_eq, tmU_eq η f]
    split
    · rfl
    · split
      · rfl
      · rw [List.map_congr_left fun a ha => tmU_up η f a (h.2.2.2 a ha)]
theorem wfK_up : ∀ (f : Nat) (t : Tm), wfK f t → wfK (f + 1) t
  | f + 1, _, h => ⟨h.1, h.2.1, h.2.2.1, fun a ha => wfK_up f a (h.2.2.2 a ha)⟩
theorem tmU_le (η : List UInt8 → U) {f g : Nat} (hg : f ≤ g) {t : Tm} (h : wfK f t) : tmU η g t = tmU η f t ∧ wfK g t := by
  induction hg with
  | refl => exact ⟨rfl, h⟩
  | step _ ih => exact ⟨(tmU_up η _ t ih.2).trans ih.1, wfK_up _ t ih.2⟩
/-- Two parts that are made one have the same root. -/
theorem root_alike {η ζ : List UInt8 → U} {f : Nat} {a b : Tm} (ha : wfK (f + 1) a) (hb : wfK (f + 1) b) (ka : a.kind ≠ 3) (kb : b.kind ≠ 3) (h : tmU η (f + 1) a = tmU ζ (f + 1) b) : alike a b = true ∧ a.args.map (tmU η f) = b.args.map (tmU ζ f) := by
  rw [tmU_eq, tmU_eq, if_neg ka, if_neg kb] at h
  unfold alike
  by_cases k4 : a.kind = 4
  · rw [if_pos k4] at h
    by_cases k4' : b.kind = 4
    · rw [if_pos k4'] at h
      injection h with _ _ h3 _
      have e1 := ha.2.1 (by omega)
      have e2 := hb.2.1 (by omega)
      rw [e1, e2]
      refine ⟨?_, rfl⟩
      rw [if_pos k4]
      simp [k4, k4']
      omega
    · rw [if_neg k4'] at h
      injection h with h1
      exact absurd h1 (by decide)
  · rw [if_neg k4] at h
    by_cases k4' : b.kind = 4
    · rw [if_pos k4'] at h
      injection h with h1
      exact absurd h1 (by decide)
    · rw [if_neg k4'] at h
      injection h with _ h2 _ h4
      have hl := congrArg List.length h4
      rw [List.length_map, List.length_map] at hl
      refine ⟨?_, h4⟩
      have q1 : a.kind = 2 := by rcases ha.1 with q | q | q <;> omega
      have q2 : b.kind = 2 := by rcases hb.1 with q | q | q <;> omega
      rw [if_neg k4]
      simp [q1, q2, h2, hl]
theorem alike_root {η ζ : List UInt8 → U} {f : Nat} {a b : Tm} (ka : a.kind ≠ 3) (kb : b.kind ≠ 3) (h : alike a b = true) (hm : a.args.map (tmU η f) = b.args.map (tmU ζ f)) : tmU η (f + 1) a = tmU ζ (f + 1) b := by
  rw [tmU_eq, tmU_eq, if_neg ka, if_neg kb]
  unfold alike at h
  simp only [Bool.and_eq_true, beq_iff_eq] at h
  obtain ⟨h1, h2, h3⟩ := h
  by_cases k4 : a.kind = 4
  · rw [if_pos k4] at h2 ⊢
    rw [if_pos (by omega)]
    rw [show numOf a.text = numOf b.text by simpa using h2]
  · rw [if_neg k4] at h2 ⊢
    rw [if_neg (by omega)]
    rw [hm, show a.text.toList = b.text.toList by simpa using h2]
theorem two_no {g : Tm → Tm → Lk → Lk} {Q : Lk → Prop} {η ζ : Tm → U} : ∀ (xs bs : List Tm) (l : Lk), xs.map η = bs.map ζ → (∀ a ∈ xs, ∀ b ∈ bs, ∀ l, η a = ζ b → Q l → Q (g a b l)) → Q l → Q (two g xs bs l)
  | [], [], _, _, _, hq => hq
  | a :: xs, b :: bs, l, h, hg, hq => by
    rw [two]
    simp only [List.map_cons, List.cons.injEq] at h
    exact two_no xs bs _ h.2 (fun c hc d hd => hg c (by simp [hc]) d (by simp [hd])) (hg a (by simp) b (by simp) l h.1 hq)
/-- What can be made one is never a No. -/
theorem cmp_no (θ : List UInt8 → U) : ∀ (f : Nat) (a b : Tm) (l : Lk), wfK f a → wfK f b → tmU θ f a = tmU θ f b → (cmpF f a b l).no = l.no
  | f + 1, a, b, l, ha, hb, h => by
    unfold cmpF
    by_cases ka : a.kind = 3
    · rw [if_pos ka]
      split
      · split <;> rfl
      · rfl
    · rw [if_neg ka]
      by_cases kb : b.kind = 3
      · rw [if_pos kb]; rfl
      · rw [if_neg kb]
        obtain ⟨h1, h2⟩ := root_alike ha hb ka kb h
        rw [if_pos h1]
        exact two_no (Q := fun l' => l'.no = l.no) a.args b.args l h2 (fun c hc d hd l' he hq => (cmp_no θ f c d l' (ha.2.2.2 c hc) (hb.2.2.2 d hd) he).trans hq) rfl
/-- What is the same changes nothing. -/
theorem cmp_eq : ∀ (f : Nat) (a b : Tm) (l : Lk), wfK f a → wfK f b → toU f 0 a = toU f 0 b → cmpF f a b l = l
  | f + 1, a, b, l, ha, hb, h => by
    unfold toU at h
    unfold cmpF
    by_cases ka : a.kind = 3
    · rw [tmU_var _ f ka] at h
      by_cases kb : b.kind = 3
      · rw [tmU_var _ f kb] at h
        injection h with h
        injection h with h _
        rw [if_pos ka, if_pos kb, if_pos h]
      · rw [tmU_eq, if_neg kb] at h
        split at h <;> cases h
    · rw [if_neg ka]
      by_cases kb : b.kind = 3
      · rw [tmU_var _ f kb, tmU_eq, if_neg ka] at h
        split at h <;> cases h
      · rw [if_neg kb]
        obtain ⟨h1, h2⟩ := root_alike ha hb ka kb h
        rw [if_pos h1]
        exact two_no (Q := fun l' => l' = l) a.args b.args l h2 (fun c hc d hd l' he hq => by rw [hq]; exact cmp_eq f c d l (ha.2.2.2 c hc) (hb.2.2.2 d hd) he) rfl
/-- What was there stays. -/
def Lk.le (l m : Lk) : Prop := (m.no = false → l.no = false) ∧ (m.wt = [] → l.wt = [])
theorem Lk.le.refl (l : Lk) : l.le l := ⟨id, id⟩
theorem Lk.le.trans {l m k : Lk} (h : l.le m) (q : m.le k) : l.le k := ⟨fun r => h.1 (q.1 r), fun r => h.2 (q.2 r)⟩
theorem addN_ne (ns : List (List UInt8)) (x : List UInt8) : addN ns x ≠ [] := by
  unfold addN
  split
  · rename_i h
    exact List.ne_nil_of_mem h
  · simp
theorem le_wait (l : Lk) (x : List UInt8) : l.le (l.wait x) := ⟨id, fun h => absurd h (addN_ne _ _)⟩
theorem le_bad (l : Lk) : l.le l.bad := ⟨(fun h => by cases h), id⟩
theorem two_le {g : Tm → Tm → Lk → Lk} (hg : ∀ (a b : Tm) (l : Lk), l.le (g a b l)) : ∀ (xs bs : List Tm) (l : Lk), l.le (two g xs bs l)
  | a :: xs, b :: bs, l => by rw [two]; exact (hg a b l).trans (two_le hg xs bs _)
  | [], [], l => Lk.le.refl l
  | [], _ :: _, l => Lk.le.refl l
  | _ :: _, [], l => Lk.le.refl l
theorem cmp_le : ∀ (f : Nat) (a b : Tm) (l : Lk), l.le (cmpF f a b l)
  | 0, _, _, l => Lk.le.refl l
  | f + 1, a, b, l => by
    unfold cmpF
    split
    · split
      · split
        · exact Lk.le.refl l
        · exact (le_wait l _).trans (le_wait _ _)
      · exact le_wait l _
    · split
      · exact le_wait l _
      · split
        · exact two_le (cmp_le f) _ _ l
        · exact le_bad l
/-- All is quiet: nobody waits, there is no No. -/
def Lk.quiet (l : Lk) : Prop := l.no = false ∧ l.wt = []
theorem Lk.le.quiet {l m : Lk} (h : l.le m) (q : m.quiet) : l.quiet := ⟨h.1 q.1, h.2 q.2⟩
theorem cmp_quiet : ∀ (f : Nat) (a b : Tm) (l : Lk), wfK f a → wfK f b → (cmpF f a b l).quiet → toU f 0 a = toU f 0 b
  | f + 1, a, b, l, ha, hb, h => by
    unfold cmpF at h
    unfold toU
    by_cases ka : a.kind = 3
    · rw [if_pos ka] at h
      by_cases kb : b.kind = 3
      · rw [if_pos kb] at h
        by_cases he : a.text.toList = b.text.toList
        · rw [tmU_var _ f ka, tmU_var _ f kb, he]
        · rw [if_neg he] at h
          exact absurd h.2 (addN_ne _ _)
      · rw [if_neg kb] at h
        exact absurd h.2 (addN_ne _ _)
    · rw [if_neg ka] at h
      by_cases kb : b.kind = 3
      · rw [if_pos kb] at h
        exact absurd h.2 (addN_ne _ _)
      · rw [if_neg kb] at h
        by_cases hal : alike a b = true
        · rw [if_pos hal] at h
          refine alike_root ka kb hal ?_
          have hlen : a.args.length = b.args.length := by
            unfold alike at hal
            simp only [Bool.and_eq_true, beq_iff_eq] at hal
            exact hal.2.2
          have : ∀ (xs bs : List Tm) (l : Lk), xs.length = bs.length → (∀ c ∈ xs, wfK f c) → (∀ d ∈ bs, wfK f d) → (two (cmpF f) xs bs l).quiet → xs.map (toU f 0) = bs.map (toU f 0) := by
            intro xs
            induction xs with
            | nil =>
              intro bs l hl _ _ _
              cases bs with
              | nil => rfl
              | cons d bs => simp at hl
            | cons c xs ih =>
              intro bs l hl h1 h2 hq
              cases bs with
              | nil => simp at hl
              | cons d bs =>
                rw [two] at hq
                have q1 := (two_le (cmp_le f) xs bs _).quiet hq
                rw [List.map_cons, List.map_cons, cmp_quiet f c d l (h1 c (by simp)) (h2 d (by simp)) q1, ih bs _ (by simpa using hl) (fun x hx => h1 x (by simp [hx])) (fun x hx => h2 x (by simp [hx])) hq]
          exact this _ _ l hlen ha.2.2.2 hb.2.2.2 h
        · rw [if_neg hal] at h
          exact absurd h.1 (by simp [Lk.bad])
/-- Without variables nobody waits. -/
def gndT (f : Nat) (t : Tm) : Prop := ∀ v, ¬ has v (toU f 0 t)
theorem gnd_arg {f : Nat} {t a : Tm} (h : gndT (f + 1) t) (h3 : t.kind ≠ 3) (h4 : t.kind ≠ 4) (ha : a ∈ t.args) : gndT f a := fun v hv => h v (by
  unfold toU
  rw [tmU_eq, if_neg h3, if_neg h4, has_n]
  exact ⟨_, List.mem_map_of_mem ha, hv⟩)
theorem gnd_kind {f : Nat} {t : Tm} (h : gndT (f + 1) t) : t.kind ≠ 3 := fun k => h (t.text.toList, 0) (by
  unfold toU
  rw [tmU_var _ f k]
  rfl)
theorem two_wt {g : Tm → Tm → Lk → Lk} {Q : Lk → Prop} : ∀ (xs bs : List Tm) (l : Lk), (∀ a ∈ xs, ∀ b ∈ bs, ∀ l, Q l → Q (g a b l)) → Q l → Q (two g xs bs l)
  | a :: xs, b :: bs, l, hg, hq => by rw [two]; exact two_wt xs bs _ (fun c hc d hd => hg c (by simp [hc]) d (by simp [hd])) (hg a (by simp) b (by simp) l hq)
  | [], [], _, _, hq => hq
  | [], _ :: _, _, _, hq => hq
  | _ :: _, [], _, _, hq => hq
theorem cmp_gnd : ∀ (f : Nat) (a b : Tm) (l : Lk), wfK f a → wfK f b → gndT f a → gndT f b → (cmpF f a b l).wt = l.wt
  | f + 1, a, b, l, ha, hb, ga, gb => by
    unfold cmpF
    rw [if_neg (gnd_kind ga), if_neg (gnd_kind gb)]
    split
    · rename_i hal
      by_cases k4 : a.kind = 4
      · rw [ha.2.1 (by omega)]
        cases b.args <;> rfl
      · have k4' : b.kind ≠ 4 := by
          unfold alike at hal
          simp only [Bool.and_eq_true, beq_iff_eq] at hal
          omega
        exact two_wt (Q := fun l' => l'.wt = l.wt) _ _ l (fun c hc d hd l' hq => (cmp_gnd f c d l' (ha.2.2.2 c hc) (hb.2.2.2 d hd) (gnd_arg ga (gnd_kind ga) k4 hc) (gnd_arg gb (gnd_kind gb) k4' hd)).trans hq) rfl
    · rfl
end Parl
namespace Parl
theorem find_key {st : List (List UInt8 × Tm)} {x : List UInt8} {q : List UInt8 × Tm} (h : st.find? (fun q => q.1 == x) = some q) : q ∈ st ∧ q.1 = x := ⟨List.mem_of_find?_eq_some h, by have := List.find?_some h; simpa using this⟩
/-- The stores' terms are as the pattern's variables say. -/
def StOk (θ σ : List UInt8 → U) (st : List (List UInt8 × Tm)) : Prop := ∀ q ∈ st, wfK 8 q.2 ∧ tmU θ 8 q.2 = σ q.1
/-- What comes of a term matches: then there is no No. -/
theorem mat_no (θ σ : List UInt8 → U) : ∀ (f : Nat) (p t : Tm) (l : Lk), wfK f p → wfK f t → f ≤ 8 → tmU σ f p = tmU θ f t → StOk θ σ l.st → (matF f p t l).no = l.no ∧ StOk θ σ (matF f p t l).st
  | f + 1, p, t, l, hp, ht, hf, h, hs => by
    unfold matF
    by_cases kp : p.kind = 3
    · rw [if_pos kp]
      rw [tmU_var σ f kp] at h
      obtain ⟨e8, w8⟩ := tmU_le θ hf ht
      unfold Lk.meet
      cases hq : l.st.find? (fun q => q.1 == p.text.toList) with
      | none =>
        refine ⟨rfl, fun q hq' => ?_⟩
        rcases List.mem_append.1 hq' with hq' | hq'
        · exact hs q hq'
        · obtain rfl : q = (p.text.toList, t) := by simpa using hq'
          exact ⟨w8, e8.trans h.symm⟩
      | some q =>
        obtain ⟨q1, q2⟩ := find_key hq
        obtain ⟨s1, s2⟩ := hs q q1
        refine ⟨cmp_no θ 8 q.2 t l s1 w8 (by rw [s2, q2, h, e8]), ?_⟩
        show StOk θ σ (cmpF 8 q.2 t l).st
        rw [cmpF_st]
        exact hs
    · rw [if_neg kp]
      by_cases kt : t.kind = 3
      · rw [if_pos kt]
        exact ⟨rfl, hs⟩
      · rw [if_neg kt]
        obtain ⟨h1, h2⟩ := root_alike hp ht kp kt h
        rw [if_pos h1]
        exact two_no (Q := fun l' => l'.no = l.no ∧ StOk θ σ l'.st) p.args t.args l h2 (fun c hc d hd l' he hq => by
          obtain ⟨i1, i2⟩ := mat_no θ σ f c d l' (hp.2.2.2 c hc) (ht.2.2.2 d hd) (by omega) he hq.2
          exact ⟨i1.trans hq.1, i2⟩) ⟨rfl, hs⟩
/-- What is an instance is a Yes. -/
theorem mat_yes (σ : List UInt8 → U) : ∀ (f : Nat) (p t : Tm) (l : Lk), wfK f p → wfK f t → f ≤ 8 → tmU σ f p = toU f 0 t → StOk (fun x => .v (x, 0)) σ l.st → (matF f p t l).no = l.no ∧ (matF f p t l).wt = l.wt ∧ StOk (fun x => .v (x, 0)) σ (matF f p t l).st
  | f + 1, p, t, l, hp, ht, hf, h, hs => by
    unfold toU at h
    unfold matF
    by_cases kp : p.kind = 3
    · rw [if_pos kp]
      rw [tmU_var σ f kp] at h
      obtain ⟨e8, w8⟩ := tmU_le (fun x => .v (x, 0)) hf ht
      unfold Lk.meet
      cases hq : l.st.find? (fun q => q.1 == p.text.toList) with
      | none =>
        refine ⟨rfl, rfl, fun q hq' => ?_⟩
        rcases List.mem_append.1 hq' with hq' | hq'
        · exact hs q hq'
        · obtain rfl : q = (p.text.toList, t) := by simpa using hq'
          exact ⟨w8, e8.trans h.symm⟩
      | some q =>
        obtain ⟨q1, q2⟩ := find_key hq
        obtain ⟨s1, s2⟩ := hs q q1
        have := cmp_eq 8 q.2 t l s1 w8 (by show tmU _ 8 q.2 = tmU _ 8 t; rw [s2, q2, h, e8])
        show (cmpF 8 q.2 t l).no = _ ∧ (cmpF 8 q.2 t l).wt = _ ∧ StOk _ σ (cmpF 8 q.2 t l).st
        rw [this]
        exact ⟨rfl, rfl, hs⟩
    · rw [if_neg kp]
      by_cases kt : t.kind = 3
      · rw [tmU_var _ f kt, tmU_eq, if_neg kp] at h
        split at h <;> cases h
      · rw [if_neg kt]
        obtain ⟨h1, h2⟩ := root_alike hp ht kp kt h
        rw [if_pos h1]
        exact two_no (Q := fun l' => l'.no = l.no ∧ l'.wt = l.wt ∧ StOk (fun x => .v (x, 0)) σ l'.st) p.args t.args l h2 (fun c hc d hd l' he hq => by
          obtain ⟨i1, i2, i3⟩ := mat_yes σ f c d l' (hp.2.2.2 c hc) (ht.2.2.2 d hd) (by omega) he hq.2.2
          exact ⟨i1.trans hq.1, i2.trans hq.2.1, i3⟩) ⟨rfl, rfl, hs⟩
/-- What the stores give the variables. -/
def StGives (st : List (List UInt8 × Tm)) (σ : List UInt8 → U) : Prop := ∀ x q, st.find? (fun q => q.1 == x) = some q → σ x = toU 8 0 q.2
theorem StGives.more {st st' : List (List UInt8 × Tm)} {σ : List UInt8 → U} (h : StGives st' σ) (hs : ∃ m, st' = st ++ m) : StGives st σ := fun x q hq => by
  obtain ⟨m, rfl⟩ := hs
  exact h x q (by rw [List.find?_append, hq]; rfl)
theorem meet_le (l : Lk) (x : List UInt8) (t : Tm) : l.le (l.meet x t) ∧ ∃ m, (l.meet x t).st = l.st ++ m := by
  unfold Lk.meet
  cases l.st.find? (fun q => q.1 == x) with
  | none => exact ⟨⟨id, id⟩, [(x, t)], rfl⟩
  | some q => exact ⟨cmp_le 8 q.2 t l, [], by show (cmpF 8 q.2 t l).st = _; rw [cmpF_st]; simp⟩
theorem two_more {g : Tm → Tm → Lk → Lk} (hg : ∀ (a b : Tm) (l : Lk), l.le (g a b l) ∧ ∃ m, (g a b l).st = l.st ++ m) : ∀ (xs ys : List Tm) (l : Lk), l.le (two g xs ys l) ∧ ∃ m, (two g xs ys l).st = l.st ++ m
  | a :: xs, b :: ys, l => by
    rw [two]
    obtain ⟨h1, m1, h2⟩ := hg a b l
    obtain ⟨h3, m2, h4⟩ := two_more hg xs ys (g a b l)
    exact ⟨h1.trans h3, m1 ++ m2, by rw [h4, h2, List.append_assoc]⟩
  | [], [], l => ⟨Lk.le.refl l, [], by simp [two]⟩
  | [], _ :: _, l => ⟨Lk.le.refl l, [], by simp [two]⟩
  | _ :: _, [], l => ⟨Lk.le.refl l, [], by simp [two]⟩
theorem mat_le : ∀ (f : Nat) (p t : Tm) (l : Lk), l.le (matF f p t l) ∧ ∃ m, (matF f p t l).st = l.st ++ m
  | 0, _, _, l => ⟨Lk.le.refl l, [], by simp [matF]⟩
  | f + 1, p, t, l => by
    unfold matF
    split
    · exact meet_le l _ t
    · split
      · exact ⟨le_wait l _, [], by simp [Lk.wait]⟩
      · split
        · exact two_more (mat_le f) _ _ l
        · exact ⟨le_bad l, [], by simp [Lk.bad]⟩
/-- A Yes: the term is an instance. -/
def StWf (st : List (List UInt8 × Tm)) : Prop := ∀ q ∈ st, wfK 8 q.2
theorem mat_wf : ∀ (f : Nat) (p t : Tm) (l : Lk), wfK f t → f ≤ 8 → StWf l.st → StWf (matF f p t l).st
  | 0, _, _, _, h, _, _ => h.elim
  | f + 1, p, t, l, ht, hf, hs => by
    unfold matF
    split
    · unfold Lk.meet
      cases l.st.find? (fun q => q.1 == p.text.toList) with
      | none =>
        intro q hq'
        rcases List.mem_append.1 hq' with hq' | hq'
        · exact hs q hq'
        · obtain rfl : q = (p.text.toList, t) := by simpa using hq'
          exact (tmU_le (fun x => .v (x, 0)) hf ht).2
      | some q =>
        show StWf (cmpF 8 q.2 t l).st
        rw [cmpF_st]
        exact hs
    · split
      · exact hs
      · split
        · exact two_wt (Q := fun l' => StWf l'.st) _ _ l (fun c _ d hd l' hq => mat_wf f c d l' (ht.2.2.2 d hd) (by omega) hq) hs
        · exact hs
theorem mat_quiet (σ : List UInt8 → U) : ∀ (f : Nat) (p t : Tm) (l : Lk), wfK f p → wfK f t → f ≤ 8 → StWf l.st → (matF f p t l).quiet → StGives (matF f p t l).st σ → tmU σ f p = toU f 0 t
  | f + 1, p, t, l, hp, ht, hf, hw, h, hs => by
    unfold matF at h hs
    by_cases kp : p.kind = 3
    · rw [if_pos kp] at h hs
      rw [tmU_var σ f kp]
      obtain ⟨e8, w8⟩ := tmU_le (fun x => .v (x, 0)) hf ht
      unfold Lk.meet at h hs
      cases hq : l.st.find? (fun q => q.1 == p.text.toList) with
      | none =>
        rw [hq] at h hs
        have := hs p.text.toList (p.text.toList, t) (by
          show (l.st ++ [(p.text.toList, t)]).find? _ = _
          rw [List.find?_append, hq]
          simp)
        exact this.trans e8
      | some q =>
        rw [hq] at h hs
        obtain ⟨q1, q2⟩ := find_key hq
        have h1 := cmp_quiet 8 q.2 t l (hw q q1) w8 h
        have hs' : StGives (cmpF 8 q.2 t l).st σ := hs
        rw [cmpF_st] at hs'
        rw [hs' _ q hq, h1]
        exact e8
    · rw [if_neg kp] at h hs
      by_cases kt : t.kind = 3
      · rw [if_pos kt] at h
        exact absurd h.2 (addN_ne _ _)
      · rw [if_neg kt] at h hs
        by_cases hal : alike p t = true
        · rw [if_pos hal] at h hs
          refine alike_root kp kt hal ?_
          have hlen : p.args.length = t.args.length := by
            unfold alike at hal
            simp only [Bool.and_eq_true, beq_iff_eq] at hal
            exact hal.2.2
          have : ∀ (xs ys : List Tm) (l : Lk), xs.length = ys.length → (∀ c ∈ xs, wfK f c) → (∀ d ∈ ys, wfK f d) → StWf l.st → (two (matF f) xs ys l).quiet → StGives (two (matF f) xs ys l).st σ → xs.map (tmU σ f) = ys.map (toU f 0) := by
            intro xs
            induction xs with
            | nil =>
              intro ys l hl _ _ _ _ _
              cases ys with
              | nil => rfl
              | cons d ys => simp at hl
            | cons c xs ih =>
              intro ys l hl h1 h2 hw hq hr
              cases ys with
              | nil => simp at hl
              | cons d ys =>
                rw [two] at hq hr
                obtain ⟨m1, m2⟩ := two_more (mat_le f) xs ys (matF f c d l)
                rw [List.map_cons, List.map_cons, mat_quiet σ f c d l (h1 c (by simp)) (h2 d (by simp)) (by omega) hw (m1.quiet hq) (hr.more m2), ih ys _ (by simpa using hl) (fun x hx => h1 x (by simp [hx])) (fun x hx => h2 x (by simp [hx])) (mat_wf f c d l (h2 d (by simp)) (by omega) hw) hq hr]
          exact this _ _ l hlen hp.2.2.2 ht.2.2.2 hw h hs
        · rw [if_neg hal] at h
          exact absurd h.1 (by simp [Lk.bad])
/-- Without variables nobody waits. -/
theorem mat_gnd : ∀ (f : Nat) (p t : Tm) (l : Lk), wfK f t → f ≤ 8 → gndT f t → (∀ q ∈ l.st, wfK 8 q.2 ∧ gndT 8 q.2) → (matF f p t l).wt = l.wt ∧ ∀ q ∈ (matF f p t l).st, wfK 8 q.2 ∧ gndT 8 q.2
  | 0, _, _, _, h, _, _, _ => h.elim
  | f + 1, p, t, l, ht, hf, hg, hs => by
    have g8 : wfK 8 t ∧ gndT 8 t := by
      obtain ⟨e8, w8⟩ := tmU_le (fun x => .v (x, 0)) hf ht
      refine ⟨w8, fun v hv => hg v ?_⟩
      unfold toU at hv ⊢
      rw [e8] at hv
      exact hv
    unfold matF
    split
    · unfold Lk.meet
      cases hq : l.st.find? (fun q => q.1 == p.text.toList) with
      | none =>
        refine ⟨rfl, fun q hq' => ?_⟩
        rcases List.mem_append.1 hq' with hq' | hq'
        · exact hs q hq'
        · obtain rfl : q = (p.text.toList, t) := by simpa using hq'
          exact g8
      | some q =>
        obtain ⟨q1, q2⟩ := find_key hq
        refine ⟨cmp_gnd 8 q.2 t l (hs q q1).1 g8.1 (hs q q1).2 g8.2, ?_⟩
        show ∀ r ∈ (cmpF 8 q.2 t l).st, _
        rw [cmpF_st]
        exact hs
    · rw [if_neg (gnd_kind hg)]
      split
      · rename_i hal
        by_cases k4 : t.kind = 4
        · rw [ht.2.1 (by omega)]
          cases p.args <;> exact ⟨rfl, hs⟩
        · exact two_wt (Q := fun l' => l'.wt = l.wt ∧ ∀ q ∈ l'.st, wfK 8 q.2 ∧ gndT 8 q.2) _ _ l (fun c _ d hd l' hq => by
            obtain ⟨i1, i2⟩ := mat_gnd f c d l' (ht.2.2.2 d hd) (by omega) (gnd_arg hg (gnd_kind hg) k4 hd) hq.2
            exact ⟨i1.trans hq.1, i2⟩) ⟨rfl, hs⟩
      · exact ⟨rfl, hs⟩
/-- What Match says of two terms. -/
def sayT (p t : Tm) : Nat := (matF 8 p t Lk.none).says
theorem says_or (l : Lk) : l.says = 1 ∨ l.says = 2 ∨ l.says = 3 := by unfold Lk.says; split; exact Or.inr (Or.inl rfl); split; exact Or.inl rfl; exact Or.inr (Or.inr rfl)
theorem say_yes {p t : Tm} (hp : wfK 8 p) (ht : wfK 8 t) : sayT p t = 1 ↔ ∃ σ, tmU σ 8 p = toU 8 0 t := by
  constructor
  · intro h
    have hq : (matF 8 p t Lk.none).quiet := by
      unfold sayT Lk.says at h
      split at h
      · cases h
      · split at h
        · rename_i h1 h2
          exact ⟨by simpa using h1, h2⟩
        · cases h
    refine ⟨fun x => match (matF 8 p t Lk.none).st.find? (fun q => q.1 == x) with | some q => toU 8 0 q.2 | Option.none => .v (x, 0), mat_quiet _ 8 p t Lk.none hp ht (by omega) (fun q hq => by cases hq) hq (fun x q hx => by rw [hx])⟩
  · rintro ⟨σ, h⟩
    obtain ⟨h1, h2, _⟩ := mat_yes σ 8 p t Lk.none hp ht (by omega) h (fun q hq => by cases hq)
    unfold sayT Lk.says
    rw [h1, h2]
    rfl
theorem say_not_no {p t : Tm} (hp : wfK 8 p) (ht : wfK 8 t) {θ σ : List UInt8 → U} (h : tmU σ 8 p = tmU θ 8 t) : sayT p t ≠ 2 := by
  obtain ⟨h1, _⟩ := mat_no θ σ 8 p t Lk.none hp ht (by omega) h (fun q hq => by cases hq)
  unfold sayT Lk.says
  rw [h1]
  rw [if_neg (by decide)]
  split <;> decide
theorem say_gnd {p t : Tm} (ht : wfK 8 t) (hg : gndT 8 t) : sayT p t ≠ 3 := by
  obtain ⟨h1, _⟩ := mat_gnd 8 p t Lk.none ht (by omega) hg (fun q hq => by cases hq)
  unfold sayT Lk.says
  rw [h1]
  split
  · decide
  · rw [if_pos (show Lk.none.wt = [] from rfl)]; decide
end Parl
namespace Parl
mutual
def leaves : U → Nat
  | .v _ => 1
  | .n _ _ _ ss => leavesL ss + (if ss = [] then 1 else 0)
def leavesL : List U → Nat
  | [] => 0
  | a :: ss => leaves a + leavesL ss
end
mutual
def high : U → Nat
  | .v _ => 0
  | .n _ _ _ ss => highL ss + 1
def highL : List U → Nat
  | [] => 0
  | a :: ss => max (high a) (highL ss)
end
theorem highL_mem {a : U} : ∀ {ss : List U}, a ∈ ss → high a ≤ highL ss
  | b :: ss, h => by
    rw [highL]
    rcases List.mem_cons.1 h with rfl | h
    · exact Nat.le_max_left _ _
    · exact Nat.le_trans (highL_mem h) (Nat.le_max_right _ _)
theorem highL_le {c : Nat} : ∀ {ss : List U}, (∀ a ∈ ss, high a ≤ c) → highL ss ≤ c
  | [], _ => by rw [highL]; omega
  | a :: ss, h => by
    rw [highL]
    exact Nat.max_le.2 ⟨h a (by simp), highL_le fun b hb => h b (by simp [hb])⟩
mutual
def subs : U → List U
  | .v x => [.v x]
  | .n k tx num ss => .n k tx num ss :: subsL ss
def subsL : List U → List U
  | [] => []
  | a :: ss => subs a ++ subsL ss
end
theorem subs_self (u : U) : u ∈ subs u := by cases u <;> simp [subs]
theorem mem_subsL {s : U} : ∀ {ss : List U}, s ∈ subsL ss ↔ ∃ a ∈ ss, s ∈ subs a
  | [] => by simp [subsL]
  | a :: ss => by rw [subsL, List.mem_append, mem_subsL]; simp
def ar : U → Nat
  | .v _ => 0
  | .n _ _ _ ss => ss.length
def isN : U → Bool
  | .v _ => false
  | .n .. => true
/-- What the variables get are such parts. -/
def Fed (θ : Vr → U) (N : List U) : Prop := ∀ v, (∃ w, θ v = .v w) ∨ ∃ s ∈ N, isN s = true ∧ θ v = sub θ s
def cnt (θ : Vr → U) (k : Nat) : List U → Nat
  | [] => 0
  | m :: N => (if size (sub θ m) ≤ k then 1 else 0) + cnt θ k N
end Parl
namespace Parl
inductive SolB (lt : Vr → Vr → Prop) (θ : Vr → U) : List (U × U) → Option (List (Vr × U)) → Nat → Prop
  | nil : SolB lt θ [] (some []) 0
  | args {k tx num ss k' tx' num' ss' l r m} (h : same2 k tx num ss k' tx' num' ss') (hs : SolB lt θ ((ss'.zip ss) ++ l) r m) : SolB lt θ ((.n k tx num ss, .n k' tx' num' ss') :: l) r (m + 1)
  | clash {k tx num ss k' tx' num' ss' l} (h : ¬ same2 k tx num ss k' tx' num' ss') : SolB lt θ ((.n k tx num ss, .n k' tx' num' ss') :: l) none 1
  | same {x l r m} (hs : SolB lt θ l r m) : SolB lt θ ((.v x, .v x) :: l) r (m + 1)
  | left {x b l r m} (hθ : θ x = sub θ b) (hv : ∀ y, b = .v y → y ≠ x ∧ ¬ lt x y) (ho : ¬ has x b) (hs : SolB lt θ (l.map fun e => (put e.1 x b, put e.2 x b)) r m) : SolB lt θ ((.v x, b) :: l) (r.map ((x, b) :: ·)) (m + 1)
  | right {a y l r m} (hθ : θ y = sub θ a) (hv : ∀ x, a = .v x → x ≠ y ∧ lt x y) (ho : ¬ has y a) (hs : SolB lt θ (l.map fun e => (put e.1 y a, put e.2 y a)) r m) : SolB lt θ ((a, .v y) :: l) (r.map ((y, a) :: ·)) (m + 1)
  | occL {x b l} (hv : ∀ y, b ≠ .v y) (ho : has x b) : SolB lt θ ((.v x, b) :: l) none 1
  | occR {a y l} (hv : ∀ x, a ≠ .v x) (ho : has y a) : SolB lt θ ((a, .v y) :: l) none 1
def hasE (v : Vr) (l : List (U × U)) : Prop := ∃ e ∈ l, has v e.1 ∨ has v e.2
theorem hasE_cons {v : Vr} {e : U × U} {l : List (U × U)} : hasE v (e :: l) ↔ (has v e.1 ∨ has v e.2) ∨ hasE v l := by
  unfold hasE
  simp
theorem hasE_app {v : Vr} {l l' : List (U × U)} : hasE v (l ++ l') ↔ hasE v l ∨ hasE v l' := by
  unfold hasE
  simp [or_and_right, exists_or]
theorem has_put {v x : Vr} {b : U} : ∀ u, has v (put u x b) ↔ (has v u ∧ v ≠ x) ∨ (has x u ∧ has v b) := by
  unfold put
  refine U.ind (fun y => ?_) (fun k tx num ss ih => ?_)
  · show has v (one x b y) ↔ _
    unfold one
    simp only [has]
    split
    · rename_i e; subst e
      constructor
      · exact fun q => Or.inr ⟨rfl, q⟩
      · rintro (⟨rfl, q⟩ | ⟨_, q⟩)
        · exact absurd rfl q
        · exact q
    · rename_i e
      simp only [has]
      constructor
      · rintro rfl; exact Or.inl ⟨rfl, e⟩
      · rintro (⟨q, _⟩ | ⟨q, _⟩)
        · exact q
        · exact absurd q e
  · rw [sub_n, has_n, has_n, has_n]
    simp only [List.mem_map]
    constructor
    · rintro ⟨_, ⟨a, ha, rfl⟩, hv⟩
      rcases (ih a ha).1 hv with ⟨h1, h2⟩ | ⟨h1, h2⟩
      · exact Or.inl ⟨⟨a, ha, h1⟩, h2⟩
      · exact Or.inr ⟨⟨a, ha, h1⟩, h2⟩
    · rintro (⟨⟨a, ha, h1⟩, h2⟩ | ⟨⟨a, ha, h1⟩, h2⟩)
      · exact ⟨_, ⟨a, ha, rfl⟩, (ih a ha).2 (Or.inl ⟨h1, h2⟩)⟩
      · exact ⟨_, ⟨a, ha, rfl⟩, (ih a ha).2 (Or.inr ⟨h1, h2⟩)⟩
theorem hasE_put {v x : Vr} {b : U} {l : List (U × U)} (ho : ¬ has x b) (h : hasE v (l.map fun e => (put e.1 x b, put e.2 x b))) : v ≠ x ∧ (has v b ∨ hasE v l) := by
  obtain ⟨e, he, hv⟩ := h
  obtain ⟨e', he', rfl⟩ := List.mem_map.1 he
  dsimp only at hv
  rcases hv with hv | hv
  · rcases (has_put _).1 hv with ⟨h1, h2⟩ | ⟨_, h2⟩
    · exact ⟨h2, Or.inr ⟨e', he', Or.inl h1⟩⟩
    · exact ⟨fun e => ho (e ▸ h2), Or.inl h2⟩
  · rcases (has_put _).1 hv with ⟨h1, h2⟩ | ⟨_, h2⟩
    · exact ⟨h2, Or.inr ⟨e', he', Or.inr h1⟩⟩
    · exact ⟨fun e => ho (e ▸ h2), Or.inl h2⟩
theorem hasE_zip {v : Vr} {ss bs : List U} (h : hasE v (ss.zip bs)) : (∃ a ∈ ss, has v a) ∨ ∃ b ∈ bs, has v b := by
  obtain ⟨e, he, hv⟩ := h
  have := List.of_mem_zip he
  rcases hv with hv | hv
  · exact Or.inl ⟨_, this.1, hv⟩
  · exact Or.inr ⟨_, this.2, hv⟩
theorem SolB.congr {lt : Vr → Vr → Prop} {θ τ : Vr → U} {l : List (U × U)} {r : Option (List (Vr × U))} {m : Nat} (h : SolB lt θ l r m) : (∀ v, hasE v l → θ v = τ v) → SolB lt τ l r m := by
  induction h with
  | nil => exact fun _ => .nil
  | args h _ ih =>
    refine fun q => .args h (ih fun v hv => q v ?_)
    rcases hasE_app.1 hv with hv | hv
    · refine hasE_cons.2 (Or.inl ?_)
      rw [has_n, has_n]
      exact (hasE_zip hv).symm
    · exact hasE_cons.2 (Or.inr hv)
  | clash h => exact fun _ => .clash h
  | same _ ih => exact fun q => .same (ih fun v hv => q v (hasE_cons.2 (Or.inr hv)))
  | @left x b l r m hθ hv ho _ ih =>
    refine fun q => .left ?_ hv ho (ih fun v hv => q v ?_)
    · rw [← q x (hasE_cons.2 (Or.inl (Or.inl rfl))), hθ]
      exact sub_congr b fun v hv => q v (hasE_cons.2 (Or.inl (Or.inr hv)))
    · rcases (hasE_put ho hv).2 with h1 | h1
      · exact hasE_cons.2 (Or.inl (Or.inr h1))
      · exact hasE_cons.2 (Or.inr h1)
  | @right a y l r m hθ hv ho _ ih =>
    refine fun q => .right ?_ hv ho (ih fun v hv => q v ?_)
    · rw [← q y (hasE_cons.2 (Or.inl (Or.inr rfl))), hθ]
      exact sub_congr a fun v hv => q v (hasE_cons.2 (Or.inl (Or.inl hv)))
    · rcases (hasE_put ho hv).2 with h1 | h1
      · exact hasE_cons.2 (Or.inl (Or.inl h1))
      · exact hasE_cons.2 (Or.inr h1)
  | occL hv ho => exact fun _ => .occL hv ho
  | occR hv ho => exact fun _ => .occR hv ho
/-- The variables of the equations. -/
def vs : List (U × U) → List Vr
  | [] => []
  | e :: l => namesU (namesU (vs l) e.1) e.2
theorem mem_vs {v : Vr} : ∀ {l : List (U × U)}, v ∈ vs l ↔ hasE v l
  | [] => by simp [vs, hasE]
  | e :: l => by
    rw [vs, mem_namesU, mem_namesU, mem_vs, hasE_cons]
    constructor
    · rintro ((h | h) | h)
      · exact Or.inr h
      · exact Or.inl (Or.inl h)
      · exact Or.inl (Or.inr h)
    · rintro ((h | h) | h)
      · exact Or.inl (Or.inr h)
      · exact Or.inr h
      · exact Or.inl (Or.inl h)
theorem addU_nodup {N : List Vr} (h : N.Nodup) (x : Vr) : (addU N x).Nodup := by
  unfold addU
  split
  · exact h
  · rename_i q
    rw [List.nodup_append]
    exact ⟨h, by simp, fun a ha b hb e => by
      obtain rfl : b = x := by simpa using hb
      subst e
      exact q ha⟩
theorem namesU_nodup : ∀ (u : U) (N : List Vr), N.Nodup → (namesU N u).Nodup := by
  refine U.ind (fun x N h => addU_nodup h x) (fun k tx num ss ih N h => ?_)
  rw [namesU_n]
  induction ss generalizing N with
  | nil => exact h
  | cons a ss ihl => exact ihl (fun b hb => ih b (by simp [hb])) _ (ih a (by simp) N h)
theorem vs_nodup : ∀ l, (vs l).Nodup
  | [] => by simp [vs]
  | e :: l => namesU_nodup _ _ (namesU_nodup _ _ (vs_nodup l))
theorem vs_le {l l' : List (U × U)} (h : ∀ v, hasE v l' → hasE v l) : (vs l').length ≤ (vs l).length :=
  (vs_nodup l').length_le_of_subset fun v hv => mem_vs.2 (h v (mem_vs.1 hv))
theorem vs_lt {l l' : List (U × U)} {x : Vr} (h : ∀ v, hasE v l' → v ≠ x ∧ hasE v l) (hx : hasE x l) : (vs l').length + 1 ≤ (vs l).length := by
  have h1 : (x :: vs l').Nodup := List.nodup_cons.2 ⟨fun q => (h x (mem_vs.1 q)).1 rfl, vs_nodup l'⟩
  have := h1.length_le_of_subset (l₂ := vs l) fun v hv => by
    rcases List.mem_cons.1 hv with rfl | hv
    · exact mem_vs.2 hx
    · exact mem_vs.2 (h v (mem_vs.1 hv)).2
  simpa using this
theorem vs_left {x : Vr} {b : U} {l : List (U × U)} (ho : ¬ has x b) : (vs (l.map fun e => (put e.1 x b, put e.2 x b))).length + 1 ≤ (vs ((.v x, b) :: l)).length :=
  vs_lt (x := x) (fun v hv => by
    obtain ⟨h1, h2⟩ := hasE_put ho hv
    exact ⟨h1, hasE_cons.2 (h2.imp Or.inr id)⟩) (hasE_cons.2 (Or.inl (Or.inl rfl)))
theorem vs_right {y : Vr} {a : U} {l : List (U × U)} (ho : ¬ has y a) : (vs (l.map fun e => (put e.1 y a, put e.2 y a))).length + 1 ≤ (vs ((a, .v y) :: l)).length :=
  vs_lt (x := y) (fun v hv => by
    obtain ⟨h1, h2⟩ := hasE_put ho hv
    exact ⟨h1, hasE_cons.2 (h2.imp Or.inl id)⟩) (hasE_cons.2 (Or.inl (Or.inr rfl)))
theorem vs_args {k k' : Nat} {tx tx' : List UInt8} {num num' : Int} {ss ss' : List U} {l : List (U × U)} : (vs (ss'.zip ss ++ l)).length ≤ (vs ((.n k tx num ss, .n k' tx' num' ss') :: l)).length :=
  vs_le fun v hv => by
    rcases hasE_app.1 hv with hv | hv
    · refine hasE_cons.2 (Or.inl ?_)
      rw [has_n, has_n]
      exact (hasE_zip hv).symm
    · exact hasE_cons.2 (Or.inr hv)
theorem vs_tail {e : U × U} {l : List (U × U)} : (vs l).length ≤ (vs (e :: l)).length := vs_le fun _ hv => hasE_cons.2 (Or.inr hv)
/-- The parts of the equations. -/
def nodes (l : List (U × U)) : List U := l.flatMap fun e => subs e.1 ++ subs e.2
theorem Fed.more {θ : Vr → U} {N M : List U} (h : Fed θ N) (hs : ∀ s ∈ N, s ∈ M) : Fed θ M := fun v => (h v).imp id fun ⟨s, h1, h2⟩ => ⟨s, hs s h1, h2⟩
/-- How long the row of equations can become. -/
def Stk (θ : Vr → U) (B : Nat) : List (U × U) → Prop
  | [] => True
  | e :: l => 2 * max (high (sub θ e.1)) (high (sub θ e.2)) + (l.length + 1) ≤ B ∧ Stk θ B l
theorem Stk.len {θ : Vr → U} {B : Nat} {l : List (U × U)} (h : Stk θ B l) : l.length ≤ B := by
  cases l with
  | nil => exact Nat.zero_le _
  | cons e l => have := h.1; rw [List.length_cons]; omega
theorem Stk.put {θ : Vr → U} {B : Nat} {x : Vr} {b : U} (hθ : θ x = sub θ b) : ∀ {l : List (U × U)}, Stk θ B l → Stk θ B (l.map fun e => (put e.1 x b, put e.2 x b))
  | [], _ => trivial
  | e :: l, h => by
    rw [List.map_cons]
    refine ⟨?_, Stk.put hθ h.2⟩
    have := h.1
    dsimp only
    rw [sub_put hθ, sub_put hθ, List.length_map]
    exact this
theorem Stk.args {θ : Vr → U} {B k k' : Nat} {tx tx' : List UInt8} {num num' : Int} {ss ss' : List U} {l : List (U × U)} (h : Stk θ B ((.n k tx num ss, .n k' tx' num' ss') :: l)) (h3 : ss'.length ≤ 3) : Stk θ B (ss'.zip ss ++ l) := by
  obtain ⟨h1, h2⟩ := h
  dsimp only at h1
  rw [sub_n, sub_n, high, high] at h1
  have hA : ∀ a ∈ ss, high (sub θ a) ≤ highL (ss.map (sub θ)) := fun a ha => highL_mem (List.mem_map_of_mem ha)
  have hB : ∀ a ∈ ss', high (sub θ a) ≤ highL (ss'.map (sub θ)) := fun a ha => highL_mem (List.mem_map_of_mem ha)
  generalize highL (ss.map (sub θ)) = p at *
  generalize highL (ss'.map (sub θ)) = q at *
  have : ∀ (xs ys : List U) (c : Nat), xs.length ≤ c → c ≤ 3 → (∀ a ∈ xs, high (sub θ a) ≤ q) → (∀ a ∈ ys, high (sub θ a) ≤ p) → Stk θ B (xs.zip ys ++ l) := by
    intro xs
    induction xs with
    | nil => intro ys c _ _ _ _; exact h2
    | cons x xs ih =>
      intro ys c hc h3 hx hy
      cases ys with
      | nil => exact h2
      | cons y ys =>
        rw [List.zip_cons_cons, List.cons_append]
        rw [List.length_cons] at hc
        refine ⟨?_, ih ys (c - 1) (by omega) (by omega) (fun a ha => hx a (by simp [ha])) (fun a ha => hy a (by simp [ha]))⟩
        have e1 := hx x (by simp)
        have e2 := hy y (by simp)
        have e3 : (xs.zip ys).length ≤ xs.length := by rw [List.length_zip]; omega
        rw [List.length_append]
        dsimp only
        omega
  exact this ss' ss 3 h3 (Nat.le_refl _) hB hA
theorem Stk.tail {θ : Vr → U} {B : Nat} {e : U × U} {l : List (U × U)} (h : Stk θ B (e :: l)) : Stk θ B l := h.2
end Parl
namespace Parl
def smU (u : U) : Prop := ∀ k tx num ss, U.n k tx num ss ∈ subs u → tx.length ≤ 240 ∧ -1000000000 ≤ num ∧ num ≤ 1000000000 ∧ ss.length ≤ 3
theorem smU.arg {k : Nat} {tx : List UInt8} {num : Int} {ss : List U} (h : smU (.n k tx num ss)) {a : U} (ha : a ∈ ss) : smU a := fun k' tx' num' ss' hm => h k' tx' num' ss' (by rw [subs]; exact List.mem_cons_of_mem _ (mem_subsL.2 ⟨a, ha, hm⟩))
theorem smU.own {k : Nat} {tx : List UInt8} {num : Int} {ss : List U} (h : smU (.n k tx num ss)) : tx.length ≤ 240 ∧ -1000000000 ≤ num ∧ num ≤ 1000000000 ∧ ss.length ≤ 3 := h k tx num ss (subs_self _)
theorem smU.mk {k : Nat} {tx : List UInt8} {num : Int} {ss : List U} (h : tx.length ≤ 240 ∧ -1000000000 ≤ num ∧ num ≤ 1000000000 ∧ ss.length ≤ 3) (hs : ∀ a ∈ ss, smU a) : smU (.n k tx num ss) := fun k' tx' num' ss' hm => by
  rw [subs] at hm
  rcases List.mem_cons.1 hm with e | e
  · injection e with e1 e2 e3 e4
    subst e2 e3 e4
    exact h
  · obtain ⟨a, ha, hm⟩ := mem_subsL.1 e
    exact hs a ha k' tx' num' ss' hm
theorem smU_v (x : Vr) : smU (.v x) := fun k tx num ss h => by rw [subs] at h; simp at h
theorem smU_put {x : Vr} {b : U} (hb : smU b) : ∀ u, smU u → smU (put u x b) := by
  unfold put
  refine U.ind (fun y h => ?_) (fun k tx num ss ih h => ?_)
  · show smU (one x b y)
    unfold one
    split
    · exact hb
    · exact smU_v _
  · rw [sub_n]
    obtain ⟨h1, h2, h3, h4⟩ := h.own
    refine smU.mk ⟨h1, h2, h3, by rw [List.length_map]; exact h4⟩ fun a ha => ?_
    obtain ⟨c, hc, rfl⟩ := List.mem_map.1 ha
    exact ih c hc (h.arg hc)
theorem argS_len : ∀ (l : List (List UInt8)), (argS l).length ≤ 2 + (l.map fun x => x.length + 1).sum
  | [] => by simp [argS]
  | x :: xs => by
    have : ∀ (ys : List (List UInt8)), (ys.flatMap (fun y => 44 :: y)).length ≤ (ys.map fun x => x.length + 1).sum := by
      intro ys
      induction ys with
      | nil => simp
      | cons y ys ih => rw [List.flatMap_cons, List.length_append, List.map_cons, List.sum_cons, List.length_cons]; omega
    have := this xs
    simp only [argS, List.cons_append, List.length_cons, List.length_append, List.length_nil, List.map_cons, List.sum_cons]
    omega
theorem strU_len {N : List Vr} (hN : N.length ≤ 100000000) : ∀ u, smU u → (strU Go.Lib.itoa N u).length ≤ 300 * size u := by
  refine U.ind (fun x _ => ?_) (fun k tx num ss ih h => ?_)
  · rw [strU, size]
    have := List.idxOf_le_length (l := N) (a := x)
    have := Go.Lib.itoa_length_le (N.idxOf x : Int) (by omega) (by omega)
    rw [List.length_cons]
    omega
  · obtain ⟨h1, h2, h3, h4⟩ := h.own
    rw [strU_n, size]
    split
    · have := Go.Lib.itoa_length_le num (by omega) (by omega)
      omega
    · rw [List.length_append]
      have := argS_len (ss.map (strU Go.Lib.itoa N))
      have h5 : ((ss.map (strU Go.Lib.itoa N)).map fun x => x.length + 1).sum ≤ 300 * sizeL ss + ss.length := by
        have hh : ∀ a ∈ ss, (strU Go.Lib.itoa N a).length ≤ 300 * size a := fun a ha => ih a ha (h.arg ha)
        clear this h h4 ih
        induction ss with
        | nil => simp
        | cons a ss ihl =>
          have e1 := ihl (fun b hb => hh b (by simp [hb]))
          have e2 := hh a (by simp)
          rw [List.map_cons, List.map_cons, List.sum_cons, sizeL, List.length_cons]
          omega
      omega
end Parl
namespace Parl
open Classical in
/-- Of two terms: the text, whether there is one, the error. -/
noncomputable def unR (x y : U) : List UInt8 × Bool × Nat :=
  if h : ∃ z, IsM x y z then (if 40 < size (choose h) then ([], false, 4) else (strU Go.Lib.itoa (namesU [] (choose h)) (choose h), true, 0)) else ([], false, 0)
theorem unR_is {x y z : U} (h : IsM x y z) : unR x y = if 40 < size z then ([], false, 4) else (strU Go.Lib.itoa (namesU [] z) z, true, 0) := by
  unfold unR
  have hx : ∃ z, IsM x y z := ⟨z, h⟩
  rw [dif_pos hx]
  have := (IsM.vari (Classical.choose_spec hx) h).str Go.Lib.itoa
  rw [this.1, this.2]
theorem unR_no {x y : U} (h : ∀ θ, sub θ x ≠ sub θ y) : unR x y = ([], false, 0) := by
  unfold unR
  rw [dif_neg]
  rintro ⟨z, ⟨θ, h1, h2⟩, _⟩
  exact h θ (h1.trans h2.symm)
/-- Of two texts. -/
noncomputable def unA (a b : ByteArray) (la lb : List Tok) : List UInt8 × Bool × Nat :=
  if bothE a b la lb = 0 then (match whole la, whole lb with
    | .inr (p, _), .inr (t, _) => unR (toU 8 1 p) (toU 8 2 t)
    | _, _ => ([], false, 0)) else ([], false, bothE a b la lb)
theorem unA_is {a b : ByteArray} {la lb l1 l2 : List Tok} {p t : Tm} (h0 : bothE a b la lb = 0) (hp : whole la = .inr (p, l1)) (ht : whole lb = .inr (t, l2)) : unA a b la lb = unR (toU 8 1 p) (toU 8 2 t) := by
  unfold unA
  rw [if_pos h0, hp, ht]
theorem unA_err {a b : ByteArray} {la lb : List Tok} (h : bothE a b la lb ≠ 0) : unA a b la lb = ([], false, bothE a b la lb) := by
  unfold unA
  rw [if_neg h]
end Parl
