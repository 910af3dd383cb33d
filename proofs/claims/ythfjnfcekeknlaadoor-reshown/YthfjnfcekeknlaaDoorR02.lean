import Derived.Test.YthfjnfcekeknlaaDoorR01
import Derived.OpenShut
import Derived.Maps.AppendAt
import Derived.Deep.LoopGhost
namespace Parl
open Go

theorem numL_dec (n : Nat) : numL (Lib.decDigits n) = n := by
  induction n using Nat.strongRecOn with
  | ind n ih =>
    have one : ∀ d, d < 10 → ((UInt8.ofNat (48 + d)).toNat + 208) % 256 = d := fun d h => by
      have e : (UInt8.ofNat (48 + d)).toNat = 48 + d := by rw [UInt8.toNat_ofNat']; omega
      rw [e]
      omega
    by_cases h : n < 10
    · rw [Lib.decDigits, dif_pos h]
      show numL ([] ++ [UInt8.ofNat (48 + n)]) = n
      rw [numL_snoc, one n h]
      simp [numL]
    · rw [Lib.decDigits, dif_neg h, numL_snoc, ih (n / 10) (by omega), one (n % 10) (by omega)]
      omega
/-- How Show calls the variables N. -/
def nu (N : List (List UInt8)) (x : List UInt8) : List UInt8 := 86 :: Lib.decDigits (N.idxOf x)
def sty (N : List (List UInt8)) : Sty := ⟨fun x => ⟨(nu N x.toList).toArray⟩, fun x => ⟨(Lib.decDigits (numOf x)).toArray⟩⟩
theorem idxOf_one {N : List (List UInt8)} {x y : List UInt8} (hx : x ∈ N) (hy : y ∈ N) (h : N.idxOf x = N.idxOf y) : x = y := by
  have h1 := List.getElem_idxOf (List.idxOf_lt_length_of_mem hx)
  have h2 := List.getElem_idxOf (List.idxOf_lt_length_of_mem hy)
  rw [← h1, ← h2]
  simp only [h]
theorem nu_one {N : List (List UInt8)} {x y : List UInt8} (hx : x ∈ N) (hy : y ∈ N) (h : nu N x = nu N y) : x = y := by
  unfold nu at h
  injection h with _ h
  have := congrArg numL h
  rw [numL_dec, numL_dec] at this
  exact idxOf_one hx hy this
theorem nu_mem {N ns : List (List UInt8)} {x : List UInt8} (hn : ∀ y ∈ ns, y ∈ N) (hx : x ∈ N) : nu N x ∈ ns.map (nu N) ↔ x ∈ ns := by
  constructor
  · intro q
    obtain ⟨y, hy, e⟩ := List.mem_map.1 q
    exact nu_one (hn y hy) hx e ▸ hy
  · exact fun q => List.mem_map.2 ⟨x, q, rfl⟩
theorem addN_map {N ns : List (List UInt8)} {x : List UInt8} (hn : ∀ y ∈ ns, y ∈ N) (hx : x ∈ N) : addN (ns.map (nu N)) (nu N x) = (addN ns x).map (nu N) := by
  unfold addN
  by_cases q : x ∈ ns
  · rw [if_pos q, if_pos ((nu_mem hn hx).2 q)]
  · rw [if_neg q, if_neg (fun r => q ((nu_mem hn hx).1 r))]
    simp
theorem nu_idx {N : List (List UInt8)} : ∀ {ns : List (List UInt8)} {x : List UInt8}, (∀ y ∈ ns, y ∈ N) → x ∈ N → (ns.map (nu N)).idxOf (nu N x) = ns.idxOf x
  | [], _, _, _ => rfl
  | y :: ns, x, hn, hx => by
    rw [List.map_cons, List.idxOf_cons, List.idxOf_cons]
    by_cases e : y = x
    · subst e; simp
    · have e' : nu N y ≠ nu N x := fun q => e (nu_one (hn y (by simp)) hx q)
      rw [nu_idx (fun z hz => hn z (by simp [hz])) hx, show (nu N y == nu N x) = false by simpa using e', show (y == x) = false by simpa using e]
/-- All of its variables are among N. -/
def varsIn (N : List (List UInt8)) : Nat → Tm → Prop
  | 0, _ => True
  | f + 1, t => if t.kind = 3 then t.text.toList ∈ N else if t.kind = 4 then True else ∀ a ∈ t.args, varsIn N f a
theorem fold_sub {N : List (List UInt8)} {F : List (List UInt8) → Tm → List (List UInt8)} : ∀ (ts : List Tm) (ns : List (List UInt8)), (∀ t ∈ ts, ∀ ns, (∀ y ∈ ns, y ∈ N) → ∀ y ∈ F ns t, y ∈ N) → (∀ y ∈ ns, y ∈ N) → ∀ y ∈ ts.foldl F ns, y ∈ N
  | [], _, _, h => h
  | t :: ts, ns, hF, h => fold_sub ts (F ns t) (fun u hu => hF u (by simp [hu])) (hF t (by simp) ns h)
theorem names_sub {N : List (List UInt8)} : ∀ (f : Nat) (t : Tm) (ns : List (List UInt8)), varsIn N f t → (∀ y ∈ ns, y ∈ N) → ∀ y ∈ namesF f ns t, y ∈ N
  | 0, _, _, _, h => h
  | f + 1, t, ns, hv, h => by
    unfold varsIn at hv
    unfold namesF
    by_cases h3 : t.kind = 3
    · rw [if_pos h3] at hv ⊢
      intro y hy
      unfold addN at hy
      split at hy
      · exact h y hy
      · rcases List.mem_append.1 hy with q | q
        · exact h y q
        · rw [List.mem_singleton.1 q]; exact hv
    · rw [if_neg h3] at hv ⊢
      by_cases h4 : t.kind = 4
      · rw [if_pos h4]; exact h
      · rw [if_neg h4] at hv ⊢
        exact fold_sub t.args ns (fun u hu ns hn => names_sub f u ns (hv u hu) hn) h
theorem names_map {N : List (List UInt8)} : ∀ (f : Nat) (t : Tm) (ns : List (List UInt8)), varsIn N f t → (∀ y ∈ ns, y ∈ N) → namesF f (ns.map (nu N)) (mpT (sty N) f t) = (namesF f ns t).map (nu N)
  | 0, _, _, _, _ => rfl
  | f + 1, t, ns, hv, h => by
    unfold varsIn at hv
    unfold mpT
    by_cases h3 : t.kind = 3
    · rw [if_pos h3] at hv ⊢
      unfold namesF
      rw [if_pos rfl, if_pos h3, show (Tm.mk 3 ((sty N).v t.text) []).text.toList = nu N t.text.toList from ba_list _]
      exact addN_map h hv
    · rw [if_neg h3] at hv ⊢
      by_cases h4 : t.kind = 4
      · rw [if_pos h4]
        unfold namesF
        rw [if_neg h3, if_pos h4]
        rfl
      · rw [if_neg h4] at hv ⊢
        unfold namesF
        rw [if_neg h3, if_neg h4]
        show (t.args.map (mpT (sty N) f)).foldl (namesF f) (ns.map (nu N)) = _
        have fold : ∀ (ts : List Tm) (ns : List (List UInt8)), (∀ u ∈ ts, varsIn N f u) → (∀ y ∈ ns, y ∈ N) → (ts.map (mpT (sty N) f)).foldl (namesF f) (ns.map (nu N)) = (ts.foldl (namesF f) ns).map (nu N) := by
          intro ts
          induction ts with
          | nil => intro ns _ _; rfl
          | cons u ts ih =>
            intro ns hu hn
            rw [List.map_cons, List.foldl_cons, List.foldl_cons, names_map f u ns (hu u (by simp)) hn]
            exact ih _ (fun v hv => hu v (by simp [hv])) (names_sub f u ns (hu u (by simp)) hn)
        exact fold t.args ns hv h
theorem varsIn_names {N : List (List UInt8)} : ∀ (f : Nat) (t : Tm) (ns : List (List UInt8)), (∀ y ∈ namesF f ns t, y ∈ N) → varsIn N f t
  | 0, _, _, _ => trivial
  | f + 1, t, ns, h => by
    unfold varsIn
    unfold namesF at h
    by_cases h3 : t.kind = 3
    · rw [if_pos h3] at h ⊢
      refine h _ ?_
      unfold addN
      split
      · assumption
      · simp
    · rw [if_neg h3] at h ⊢
      by_cases h4 : t.kind = 4
      · rw [if_pos h4]; trivial
      · rw [if_neg h4] at h ⊢
        have fold : ∀ (ts : List Tm) (ns : List (List UInt8)), (∀ y ∈ ts.foldl (namesF f) ns, y ∈ N) → ∀ a ∈ ts, varsIn N f a := by
          intro ts
          induction ts with
          | nil => intro ns _ a ha; cases ha
          | cons u ts ih =>
            intro ns hn a ha
            rw [List.foldl_cons] at hn
            rcases List.mem_cons.1 ha with rfl | ha
            · refine varsIn_names f a ns fun y hy => hn y ?_
              obtain ⟨K, hK⟩ := namesW_ext f ts (namesF f ns a)
              rw [hK]
              exact List.mem_append_left _ hy
            · exact ih _ hn a ha
        exact fold t.args ns h
theorem arS_is (l : List (List UInt8)) : arS l = argS l := by cases l <;> rfl
/-- Show writes a term so. -/
theorem strF_prT (N : List (List UInt8)) : ∀ (f : Nat) (t : Tm), strF f N t = prT (sty N) f t
  | 0, _ => rfl
  | f + 1, t => by
    unfold strF prT
    by_cases h3 : t.kind = 3
    · rw [if_pos h3, if_pos h3]
      exact (ba_list _).symm
    · rw [if_neg h3, if_neg h3]
      by_cases h4 : t.kind = 4
      · rw [if_pos h4, if_pos h4]
        exact (ba_list _).symm
      · rw [if_neg h4, if_neg h4, arS_is]
        congr 2
        exact List.map_congr_left fun a _ => strF_prT N f a
/-- What has been shown is shown as it is: a term. -/
theorem strF_map {N : List (List UInt8)} : ∀ (f : Nat) (t : Tm), varsIn N f t → strF f (N.map (nu N)) (mpT (sty N) f t) = strF f N t
  | 0, _, _ => rfl
  | f + 1, t, hv => by
    unfold varsIn at hv
    unfold mpT
    by_cases h3 : t.kind = 3
    · rw [if_pos h3] at hv ⊢
      unfold strF
      rw [if_pos rfl, if_pos h3, show (Tm.mk 3 ((sty N).v t.text) []).text.toList = nu N t.text.toList from ba_list _, nu_idx (fun _ h => h) hv]
    · rw [if_neg h3] at hv ⊢
      by_cases h4 : t.kind = 4
      · rw [if_pos h4]
        unfold strF
        rw [if_neg (show ¬ (4 : Nat) = 3 by decide), if_pos rfl, if_neg h3, if_pos h4]
        show Lib.decDigits (numOf ⟨(Lib.decDigits (numOf t.text)).toArray⟩) = _
        unfold numOf
        rw [ba_list, numL_dec]
      · rw [if_neg h4] at hv ⊢
        unfold strF
        rw [if_neg (show ¬ (2 : Nat) = 3 by decide), if_neg (show ¬ (2 : Nat) = 4 by decide), if_neg h3, if_neg h4]
        congr 2
        show (t.args.map (mpT (sty N) f)).map (strF f (N.map (nu N))) = _
        rw [List.map_map]
        exact List.map_congr_left fun a ha => strF_map f a (hv a ha)
/-- The same of items, without what stands behind an operator. -/
def iVars (N : List (List UInt8)) (x : Itm) : Prop := varsIn N 8 x.left ∧ (∀ r, x.right = some r → varsIn N 8 r) ∧ x.last = none
theorem namesI_map {N : List (List UInt8)} {x : Itm} (h : iVars N x) {ns : List (List UInt8)} (hn : ∀ y ∈ ns, y ∈ N) : namesI (ns.map (nu N)) (mpI (sty N) x) = (namesI ns x).map (nu N) ∧ ∀ y ∈ namesI ns x, y ∈ N := by
  obtain ⟨h1, h2, h3⟩ := h
  have s1 := names_sub 8 x.left ns h1 hn
  have m1 := names_map 8 x.left ns h1 hn
  unfold namesI
  rw [h3]
  show nameO (nameO (namesF 8 (ns.map (nu N)) (mpT (sty N) 8 x.left)) (x.right.map (mpT (sty N) 8))) none = _ ∧ _
  rw [m1]
  cases hr : x.right with
  | none => exact ⟨rfl, s1⟩
  | some r => exact ⟨names_map 8 r _ (h2 r hr) s1, names_sub 8 r _ (h2 r hr) s1⟩
theorem namesL_map {N : List (List UInt8)} : ∀ (xs : List Itm) (ns : List (List UInt8)), (∀ x ∈ xs, iVars N x) → (∀ y ∈ ns, y ∈ N) → namesL (ns.map (nu N)) (xs.map (mpI (sty N))) = (namesL ns xs).map (nu N) ∧ ∀ y ∈ namesL ns xs, y ∈ N
  | [], ns, _, hn => ⟨rfl, hn⟩
  | x :: xs, ns, hx, hn => by
    obtain ⟨h1, h2⟩ := namesI_map (hx x (by simp)) hn
    have := namesL_map xs (namesI ns x) (fun y hy => hx y (by simp [hy])) h2
    unfold namesL at this ⊢
    rw [List.map_cons, List.foldl_cons, List.foldl_cons, h1]
    exact this
theorem strI_map {N : List (List UInt8)} {x : Itm} (h : iVars N x) : strI (N.map (nu N)) (mpI (sty N) x) = strI N x := by
  obtain ⟨h1, h2, h3⟩ := h
  unfold strI
  rw [h3]
  show strF 8 (N.map (nu N)) (mpT (sty N) 8 x.left) ++ (match x.right.map (mpT (sty N) 8) with | none => [] | some r => x.sign ++ strF 8 (N.map (nu N)) r) ++ [] = _
  rw [strF_map 8 x.left h1]
  cases hr : x.right with
  | none => rfl
  | some r =>
    show strF 8 N x.left ++ (x.sign ++ strF 8 (N.map (nu N)) (mpT (sty N) 8 r)) ++ [] = _
    rw [strF_map 8 r (h2 r hr)]
theorem strL_map {N : List (List UInt8)} (xs : List Itm) (h : ∀ x ∈ xs, iVars N x) : strL (N.map (nu N)) (xs.map (mpI (sty N))) = strL N xs := by
  unfold strL
  rw [List.map_map]
  congr 1
  exact List.map_congr_left fun x hx => strI_map (h x hx)
structure cVars (c : Cls) : Prop where
  head : varsIn (NG c) 8 c.head
  tests : ∀ x ∈ c.tests, iVars (NG c) x
  goals : ∀ x ∈ c.goals, iVars (NG c) x
theorem NG_map {c : Cls} (h : cVars c) : NG (mpC (sty (NG c)) c) = (NG c).map (nu (NG c)) := by
  have e1 : NH (mpC (sty (NG c)) c) = (NH c).map (nu (NG c)) := names_map 8 c.head [] h.head (by simp)
  have s1 := names_sub 8 c.head [] h.head (by simp)
  obtain ⟨e2, s2⟩ := namesL_map c.tests (NH c) h.tests s1
  obtain ⟨e3, s3⟩ := namesL_map c.goals (NT c) h.goals s2
  have q2 : NT (mpC (sty (NG c)) c) = (NT c).map (nu (NG c)) := by
    show namesL (NH (mpC (sty (NG c)) c)) (c.tests.map (mpI (sty (NG c)))) = _
    rw [e1]
    exact e2
  show namesL (NT (mpC (sty (NG c)) c)) (c.goals.map (mpI (sty (NG c)))) = _
  rw [q2]
  exact e3
/-- What has been shown is shown as it is: a clause. -/
theorem strC_map {c : Cls} (h : cVars c) : strC (mpC (sty (NG c)) c) = strC c := by
  unfold strC
  rw [NG_map h]
  unfold midC guardC
  show strF 8 ((NG c).map (nu (NG c))) (mpT (sty (NG c)) 8 c.head) ++ (if (c.goals.map (mpI (sty (NG c)))).length = 0 then [] else [32, 58, 45, 32]) ++ (if (c.tests.map (mpI (sty (NG c)))).length = 0 then [] else strL ((NG c).map (nu (NG c))) (c.tests.map (mpI (sty (NG c)))) ++ [32, 124, 32]) ++ strL ((NG c).map (nu (NG c))) (c.goals.map (mpI (sty (NG c)))) ++ [46, 10] = _
  rw [strF_map 8 c.head h.head, strL_map c.tests h.tests, strL_map c.goals h.goals, List.length_map, List.length_map]
theorem strP_map {cs : List Cls} (h : ∀ c ∈ cs, cVars c) : strP (cs.map fun c => mpC (sty (NG c)) c) = strP cs := by
  unfold strP
  induction cs with
  | nil => rfl
  | cons c cs ih => rw [List.map_cons, List.flatMap_cons, List.flatMap_cons, strC_map (h c (by simp)), ih (fun d hd => h d (by simp [hd]))]
/-- Each clause has its variables. -/
theorem nameO_more (ns : List (List UInt8)) (t : Option Tm) : ∃ K, nameO ns t = ns ++ K := by
  cases t with
  | none => exact ⟨[], by simp [nameO]⟩
  | some r => exact namesV_ext 8 r ns
theorem namesI_more (ns : List (List UInt8)) (x : Itm) : ∃ K, namesI ns x = ns ++ K := by
  obtain ⟨K1, h1⟩ := namesV_ext 8 x.left ns
  obtain ⟨K2, h2⟩ := nameO_more (namesF 8 ns x.left) x.right
  obtain ⟨K3, h3⟩ := nameO_more (nameO (namesF 8 ns x.left) x.right) x.last
  exact ⟨K1 ++ K2 ++ K3, by unfold namesI; rw [h3, h2, h1]; simp⟩
theorem namesL_more : ∀ (xs : List Itm) (ns : List (List UInt8)), ∃ K, namesL ns xs = ns ++ K
  | [], ns => ⟨[], by simp [namesL]⟩
  | x :: xs, ns => by
    obtain ⟨K1, h1⟩ := namesI_more ns x
    obtain ⟨K2, h2⟩ := namesL_more xs (namesI ns x)
    exact ⟨K1 ++ K2, by show namesL (namesI ns x) xs = _; rw [h2, h1]; simp⟩
theorem namesI_vars {N ns : List (List UInt8)} {x : Itm} (hl : x.last = none) (h : ∀ y ∈ namesI ns x, y ∈ N) : iVars N x := by
  unfold namesI at h
  rw [hl] at h
  refine ⟨varsIn_names 8 x.left ns fun y hy => h y ?_, fun r hr => varsIn_names 8 r (namesF 8 ns x.left) fun y hy => h y ?_, hl⟩
  · obtain ⟨K, hK⟩ := nameO_more (namesF 8 ns x.left) x.right
    show y ∈ nameO (namesF 8 ns x.left) x.right
    rw [hK]
    exact List.mem_append_left _ hy
  · show y ∈ nameO (namesF 8 ns x.left) x.right
    rw [hr]
    exact hy
theorem namesL_vars {N : List (List UInt8)} : ∀ (xs : List Itm) (ns : List (List UInt8)), (∀ x ∈ xs, x.last = none) → (∀ y ∈ namesL ns xs, y ∈ N) → ∀ x ∈ xs, iVars N x
  | [], _, _, _, x, hx => by cases hx
  | z :: xs, ns, hl, h, x, hx => by
    have h' : ∀ y ∈ namesL (namesI ns z) xs, y ∈ N := h
    rcases List.mem_cons.1 hx with rfl | hx
    · refine namesI_vars (hl x (by simp)) (ns := ns) fun y hy => h' y ?_
      obtain ⟨K, hK⟩ := namesL_more xs (namesI ns x)
      rw [hK]
      exact List.mem_append_left _ hy
    · exact namesL_vars xs _ (fun y hy => hl y (by simp [hy])) h' x hx
theorem cVars_of {c : Cls} (h1 : ∀ x ∈ c.tests, x.last = none) (h2 : ∀ x ∈ c.goals, x.last = none) : cVars c := by
  obtain ⟨K1, e1⟩ := namesL_more c.tests (NH c)
  obtain ⟨K2, e2⟩ := namesL_more c.goals (NT c)
  have sT : ∀ y ∈ NT c, y ∈ NG c := fun y hy => by unfold NG; rw [e2]; exact List.mem_append_left _ hy
  have sH : ∀ y ∈ NH c, y ∈ NG c := fun y hy => sT y (by unfold NT; rw [e1]; exact List.mem_append_left _ hy)
  exact ⟨varsIn_names 8 c.head [] sH, namesL_vars c.tests (NH c) h1 sT, namesL_vars c.goals (NT c) h2 (fun _ h => h)⟩
end Parl
namespace Parl
open Go

/-! What the statements' own programs are made of. -/
def gVars : List ByteArray := [⟨#[88]⟩, ⟨#[89]⟩, ⟨#[90]⟩, ⟨#[87]⟩]
def gNums : List ByteArray := [⟨#[48]⟩, ⟨#[49]⟩, ⟨#[55]⟩]
def gNames : List ByteArray := [⟨#[97]⟩, ⟨#[98]⟩, ⟨#[110]⟩]
def gLeaf (t : Tm) : Prop := t.args = [] ∧ ((t.kind = 3 ∧ t.text ∈ gVars) ∨ (t.kind = 4 ∧ t.text ∈ gNums) ∨ (t.kind = 2 ∧ t.text ∈ gNames))
def gT : Nat → Tm → Prop
  | 0, t => gLeaf t
  | d + 1, t => gLeaf t ∨ (t.kind = 2 ∧ t.text = ⟨#[102]⟩ ∧ ∃ a, t.args = [a] ∧ gT d a) ∨ (t.kind = 2 ∧ t.text = ⟨#[103]⟩ ∧ ∃ a b, t.args = [a, b] ∧ gT d a ∧ gT d b)
def gFuns : List ByteArray := [⟨#[112]⟩, ⟨#[113]⟩, ⟨#[114]⟩]
def gCall (t : Tm) : Prop := t.kind = 2 ∧ ((t.text = ⟨#[116, 114, 117, 101]⟩ ∧ t.args = []) ∨ (t.text ∈ gFuns ∧ (t.args = [] ∨ (∃ a, t.args = [a] ∧ gT 1 a) ∨ ∃ a b, t.args = [a, b] ∧ gT 1 a ∧ gT 1 b)))
inductive gGl : Itm → Prop
  | call (t : Tm) (h : gCall t) : gGl ⟨t, [], none, [], none⟩
  | eq (a b : Tm) (ha : gT 1 a) (hb : gT 1 b) : gGl ⟨a, [61], some b, [], none⟩
inductive gTs : Itm → Prop
  | int (a : Tm) (h : gLeaf a) : gTs ⟨⟨2, ⟨#[105, 110, 116]⟩, [a]⟩, [], none, [], none⟩
  | rel (a b : Tm) (g : List UInt8) (ha : gLeaf a) (hb : gLeaf b) (hg : g = [61, 61] ∨ g = [92, 61] ∨ g = [60] ∨ g = [61, 60]) : gTs ⟨a, g, some b, [], none⟩
structure gC (c : Cls) : Prop where
  head : gCall c.head
  tests : c.tests = [] ∨ ∃ x, c.tests = [x] ∧ gTs x
  goals : ∀ x ∈ c.goals, gGl x
  few : c.goals.length ≤ 3
  fact : c.goals = [] → c.tests = []
/-- A way of writing in which no variable and no number is longer than a. -/
structure okS (σ : Sty) (a : Nat) : Prop where
  one : 1 ≤ a
  v : ∀ x ∈ gVars, wordy 3 (σ.v x).toList ∧ (σ.v x).toList.length ≤ a
  n : ∀ x ∈ gNums, wordy 4 (σ.n x).toList ∧ (σ.n x).size ≤ 6 ∧ (σ.n x).toList.length ≤ a
def lenG (a : Nat) : Nat → Nat
  | 0 => a
  | d + 1 => 4 + 2 * lenG a d
theorem lenG_ge (a : Nat) : ∀ d, a ≤ lenG a d
  | 0 => Nat.le_refl _
  | d + 1 => by have := lenG_ge a d; simp only [lenG]; omega
theorem lit_wordy (b : ByteArray) (k : Nat) (c : UInt8) (r : List UInt8) (hb : b.data.toList = c :: r) (hc : k = 2 ∧ low c.toNat = true ∨ k = 3 ∧ upp c.toNat = true ∨ k = 4 ∧ dig c.toNat = true) (hr : ∀ d ∈ c :: r, inWord k d.toNat = true) : wordy k b.toList := by
  rw [ByteArray.toList_eq]
  exact ⟨c, r, hb, hc, by rw [hb]; exact hr⟩
theorem names_wordy {x : ByteArray} (h : x ∈ gNames) : wordy 2 x.toList ∧ x.toList.length = 1 := by
  simp only [gNames, List.mem_cons, List.not_mem_nil, or_false] at h
  rcases h with rfl | rfl | rfl <;> exact ⟨lit_wordy _ 2 _ [] rfl (Or.inl ⟨rfl, by decide⟩) (by decide), by rw [ByteArray.toList_eq]; rfl⟩
theorem funs_wordy {x : ByteArray} (h : x ∈ gFuns) : wordy 2 x.toList ∧ x.toList.length = 1 := by
  simp only [gFuns, List.mem_cons, List.not_mem_nil, or_false] at h
  rcases h with rfl | rfl | rfl <;> exact ⟨lit_wordy _ 2 _ [] rfl (Or.inl ⟨rfl, by decide⟩) (by decide), by rw [ByteArray.toList_eq]; rfl⟩
theorem fg_wordy {x : ByteArray} (h : x = ⟨#[102]⟩ ∨ x = ⟨#[103]⟩) : wordy 2 x.toList ∧ x.toList.length = 1 := by
  rcases h with rfl | rfl <;> exact ⟨lit_wordy _ 2 _ [] rfl (Or.inl ⟨rfl, by decide⟩) (by decide), by rw [ByteArray.toList_eq]; rfl⟩
theorem prT_two {σ : Sty} {f : Nat} {t : Tm} (h : t.kind = 2) : prT σ (f + 1) t = t.text.toList ++ arS (t.args.map (prT σ f)) := by unfold prT; rw [if_neg (by omega), if_neg (by omega)]
theorem gLeaf_ok {σ : Sty} {a : Nat} (hS : okS σ a) {t : Tm} (h : gLeaf t) (f : Nat) : okT σ (f + 1) t ∧ (prT σ (f + 1) t).length ≤ a := by
  obtain ⟨hA, ⟨hk, hx⟩ | ⟨hk, hx⟩ | ⟨hk, hx⟩⟩ := h
  · refine ⟨Or.inl ⟨hk, (hS.v _ hx).1⟩, ?_⟩
    unfold prT; rw [if_pos hk]; exact (hS.v _ hx).2
  · refine ⟨Or.inr (Or.inl ⟨hk, (hS.n _ hx).1, (hS.n _ hx).2.1⟩), ?_⟩
    unfold prT; rw [if_neg (by omega), if_pos hk]; exact (hS.n _ hx).2.2
  · obtain ⟨h1, h2⟩ := names_wordy hx
    refine ⟨Or.inr (Or.inr ⟨hk, h1, by simp [hA], by simp [hA]⟩), ?_⟩
    rw [prT_two hk, hA]
    simp only [List.map_nil, arS, List.append_nil, h2]
    exact hS.one
theorem gT_ok {σ : Sty} {a : Nat} (hS : okS σ a) : ∀ (d : Nat) (t : Tm) (f : Nat), gT d t → d < f → okT σ f t ∧ (prT σ f t).length ≤ lenG a d
  | 0, t, f + 1, h, _ => gLeaf_ok hS h f
  | d + 1, t, f + 1, h, hf => by
    rcases h with h | ⟨hk, hx, u, hA, hu⟩ | ⟨hk, hx, u, v, hA, hu, hv⟩
    · obtain ⟨h1, h2⟩ := gLeaf_ok hS h f
      exact ⟨h1, Nat.le_trans h2 (lenG_ge a (d + 1))⟩
    · obtain ⟨h1, h2⟩ := gT_ok hS d u f hu (by omega)
      obtain ⟨w1, w2⟩ := fg_wordy (Or.inl hx)
      refine ⟨Or.inr (Or.inr ⟨hk, w1, by simp [hA], fun z hz => by rw [hA] at hz; obtain rfl := List.mem_singleton.1 hz; exact h1⟩), ?_⟩
      rw [prT_two hk, hA]
      simp only [List.map_cons, List.map_nil, arS, List.flatMap_nil, List.length_append, w2, lenG, List.length_cons, List.length_nil, List.append_nil]
      omega
    · obtain ⟨h1, h2⟩ := gT_ok hS d u f hu (by omega)
      obtain ⟨h3, h4⟩ := gT_ok hS d v f hv (by omega)
      obtain ⟨w1, w2⟩ := fg_wordy (Or.inr hx)
      refine ⟨Or.inr (Or.inr ⟨hk, w1, by simp [hA], fun z hz => by
        rw [hA] at hz
        simp only [List.mem_cons, List.not_mem_nil, or_false] at hz
        rcases hz with rfl | rfl
        · exact h1
        · exact h3⟩), ?_⟩
      rw [prT_two hk, hA]
      simp only [List.map_cons, List.map_nil, arS, List.flatMap_cons, List.flatMap_nil, List.length_append, w2, lenG, List.length_cons, List.length_nil, List.append_nil]
      omega
theorem gCall_ok {σ : Sty} {a : Nat} (hS : okS σ a) {t : Tm} (h : gCall t) : okT σ 8 t ∧ (prT σ 8 t).length ≤ 12 + 4 * a ∧ isInt t = false := by
  obtain ⟨hk, ⟨hx, hA⟩ | ⟨hx, hA⟩⟩ := h
  · refine ⟨Or.inr (Or.inr ⟨hk, by rw [hx]; exact lit_wordy _ 2 116 [114, 117, 101] rfl (Or.inl ⟨rfl, by decide⟩) (by decide), by simp [hA], by simp [hA]⟩), ?_, ?_⟩
    · rw [prT_two hk, hA, hx, ByteArray.toList_eq]
      simp [arS]
      omega
    · unfold isInt
      rw [hA]
      simp
  · obtain ⟨w1, w2⟩ := funs_wordy hx
    have hi : isInt t = false := by
      unfold isInt
      have : (t.text.toList == [105, 110, 116]) = false := by
        simp only [beq_eq_false_iff_ne, ne_eq]
        intro q
        rw [q] at w2
        simp at w2
      rw [this]
      simp
    rcases hA with hA | ⟨u, hA, hu⟩ | ⟨u, v, hA, hu, hv⟩
    · refine ⟨Or.inr (Or.inr ⟨hk, w1, by simp [hA], by simp [hA]⟩), ?_, hi⟩
      rw [prT_two hk, hA]
      simp [arS, w2]
      omega
    · obtain ⟨h1, h2⟩ := gT_ok hS 1 u 7 hu (by omega)
      refine ⟨Or.inr (Or.inr ⟨hk, w1, by simp [hA], fun z hz => by rw [hA] at hz; obtain rfl := List.mem_singleton.1 hz; exact h1⟩), ?_, hi⟩
      rw [prT_two hk, hA]
      simp only [List.map_cons, List.map_nil, arS, List.flatMap_nil, List.length_append, w2, lenG, List.length_cons, List.length_nil, List.append_nil] at h2 ⊢
      omega
    · obtain ⟨h1, h2⟩ := gT_ok hS 1 u 7 hu (by omega)
      obtain ⟨h3, h4⟩ := gT_ok hS 1 v 7 hv (by omega)
      refine ⟨Or.inr (Or.inr ⟨hk, w1, by simp [hA], fun z hz => by
        rw [hA] at hz
        simp only [List.mem_cons, List.not_mem_nil, or_false] at hz
        rcases hz with rfl | rfl
        · exact h1
        · exact h3⟩), ?_, hi⟩
      rw [prT_two hk, hA]
      simp only [List.map_cons, List.map_nil, arS, List.flatMap_cons, List.flatMap_nil, List.length_append, w2, lenG, List.length_cons, List.length_nil, List.append_nil] at h2 h4 ⊢
      omega
theorem gGl_ok {σ : Sty} {a : Nat} (hS : okS σ a) {x : Itm} (h : gGl x) : gGoal σ x ∧ (prI σ x).length ≤ 12 + 4 * a := by
  cases h with
  | call t h =>
    obtain ⟨h1, h2, h3⟩ := gCall_ok hS h
    exact ⟨.call t h1 h.1 h3, by simpa [prI] using h2⟩
  | eq u v hu hv =>
    obtain ⟨h1, h2⟩ := gT_ok hS 1 u 8 hu (by omega)
    obtain ⟨h3, h4⟩ := gT_ok hS 1 v 8 hv (by omega)
    refine ⟨.eq u v h1 h3, ?_⟩
    simp only [prI, List.length_append, List.length_cons, List.length_nil, lenG] at h2 h4 ⊢
    omega
theorem gTs_ok {σ : Sty} {a : Nat} (hS : okS σ a) {x : Itm} (h : gTs x) : gTest σ x ∧ (prI σ x).length ≤ 5 + 2 * a := by
  cases h with
  | int u hu =>
    obtain ⟨h1, h2⟩ := gLeaf_ok hS hu 6
    simp only [Nat.reduceAdd] at h2
    have hw : wordy 2 (⟨#[105, 110, 116]⟩ : ByteArray).toList := lit_wordy _ 2 105 [110, 116] rfl (Or.inl ⟨rfl, by decide⟩) (by decide)
    have hl : (⟨#[105, 110, 116]⟩ : ByteArray).toList = [105, 110, 116] := by rw [ByteArray.toList_eq]
    refine ⟨.int _ (Or.inr (Or.inr ⟨rfl, hw, by simp, fun z hz => by obtain rfl := List.mem_singleton.1 hz; exact h1⟩)) rfl (by unfold isInt; rw [hl]; rfl), ?_⟩
    simp only [prI, List.append_nil]
    rw [prT_two rfl]
    simp only [hl, List.map_cons, List.map_nil, arS, List.flatMap_nil, List.length_append, List.length_cons, List.length_nil, List.append_nil]
    omega
  | rel u v g hu hv hg =>
    obtain ⟨h1, h2⟩ := gLeaf_ok hS hu 7
    obtain ⟨h3, h4⟩ := gLeaf_ok hS hv 7
    simp only [Nat.reduceAdd] at h2 h4
    refine ⟨.rel u v g h1 h3 hg, ?_⟩
    have : g.length ≤ 2 := by rcases hg with rfl | rfl | rfl | rfl <;> simp
    simp only [prI, List.length_append]
    omega
theorem prL_len {σ : Sty} {b : Bool} {a : Nat} {xs : List Itm} (h : ∀ x ∈ xs, (prI σ x).length ≤ 12 + 4 * a) : (prL σ b xs).length ≤ xs.length * (14 + 4 * a) := by
  have hsp : (sp b).length ≤ 1 := by cases b <;> simp [sp]
  cases xs with
  | nil => simp [prL]
  | cons x xs =>
    have hx := h x (by simp)
    have hf : (xs.flatMap (fun y => 44 :: sp b ++ prI σ y)).length ≤ xs.length * (14 + 4 * a) := by
      have h' : ∀ y ∈ xs, (prI σ y).length ≤ 12 + 4 * a := fun y hy => h y (by simp [hy])
      clear h hx
      induction xs with
      | nil => simp
      | cons y ys ih =>
        have h1 := h' y (by simp)
        have h2 := ih (fun z hz => h' z (by simp [hz]))
        simp only [List.flatMap_cons, List.length_append, List.length_cons, Nat.add_mul, Nat.one_mul] at h2 ⊢
        omega
    simp only [prL, List.length_append, List.length_cons, Nat.add_mul, Nat.one_mul]
    omega
theorem gC_ok {σ : Sty} {b : Bool} {a : Nat} (hS : okS σ a) {c : Cls} (h : gC c) : gCls σ c ∧ (prC σ b c).length ≤ 69 + 18 * a + 6 * (sp b).length := by
  obtain ⟨h1, h2, h3⟩ := gCall_ok hS h.head
  have hsp : (sp b).length ≤ 1 := by cases b <;> simp [sp]
  have hnl : (nl b).length = (sp b).length := by cases b <;> simp [sp, nl]
  have hL : (prL σ b c.goals).length ≤ 3 * (14 + 4 * a) := Nat.le_trans (prL_len fun x hx => (gGl_ok hS (h.goals x hx)).2) (Nat.mul_le_mul_right _ h.few)
  refine ⟨⟨h1, h.head.1, h.tests.imp id fun ⟨x, q, hx⟩ => ⟨x, q, (gTs_ok hS hx).1⟩, fun x hx => (gGl_ok hS (h.goals x hx)).1, by have := h.few; omega, h.fact⟩, ?_⟩
  unfold prC
  cases hg : c.goals with
  | nil =>
    simp only [List.length_append, List.length_cons, List.length_nil]
    omega
  | cons g gs =>
    rw [hg] at hL
    rcases h.tests with ht | ⟨x, ht, hx⟩
    · rw [ht]
      simp only [List.length_append, List.length_cons, List.length_nil]
      omega
    · have := (gTs_ok hS hx).2
      rw [ht]
      simp only [List.length_append, List.length_cons, List.length_nil]
      omega
theorem prP_len {σ : Cls → Sty} {b : Bool} {k : Nat} : ∀ {cs : List Cls}, (∀ c ∈ cs, (prC (σ c) b c).length ≤ k) → (prP σ b cs).length ≤ cs.length * k
  | [], _ => by simp [prP]
  | c :: cs, h => by
    have h1 := h c (by simp)
    have h2 := prP_len (σ := σ) (b := b) (k := k) (cs := cs) (fun d hd => h d (by simp [hd]))
    unfold prP at h2 ⊢
    simp only [List.flatMap_cons, List.length_append, List.length_cons, Nat.add_mul, Nat.one_mul]
    omega
end Parl
namespace Parl
open Go

def idS : Sty := ⟨id, id⟩
theorem idS_ok : okS idS 1 := by
  refine ⟨Nat.le_refl _, fun x h => ?_, fun x h => ?_⟩
  · simp only [gVars, List.mem_cons, List.not_mem_nil, or_false] at h
    rcases h with rfl | rfl | rfl | rfl <;> exact ⟨lit_wordy _ 3 _ [] rfl (Or.inr (Or.inl ⟨rfl, by decide⟩)) (by decide), by simp only [idS, id, ByteArray.toList_eq]; decide⟩
  · simp only [gNums, List.mem_cons, List.not_mem_nil, or_false] at h
    rcases h with rfl | rfl | rfl <;> exact ⟨lit_wordy _ 4 _ [] rfl (Or.inr (Or.inr ⟨rfl, by decide⟩)) (by decide), by decide, by simp only [idS, id, ByteArray.toList_eq]; decide⟩
theorem dec_word (n : Nat) : ∀ d ∈ Lib.decDigits n, dig d.toNat = true := by
  induction n using Nat.strongRecOn with
  | ind n ih =>
    have one : ∀ d, d < 10 → dig (UInt8.ofNat (48 + d)).toNat = true := fun d h => by
      have e : (UInt8.ofNat (48 + d)).toNat = 48 + d := by rw [UInt8.toNat_ofNat']; omega
      rw [e]
      unfold dig
      simp
      omega
    by_cases h : n < 10
    · rw [Lib.decDigits, dif_pos h]
      intro d hd
      rw [List.mem_singleton.1 hd]
      exact one n h
    · rw [Lib.decDigits, dif_neg h]
      intro d hd
      rcases List.mem_append.1 hd with q | q
      · exact ih (n / 10) (by omega) d q
      · rw [List.mem_singleton.1 q]
        exact one (n % 10) (by omega)
theorem dig_in {k c : Nat} (h : dig c = true) (hk : k = 3 ∨ k = 4) : inWord k c = true := by
  unfold inWord
  rcases hk with rfl | rfl <;> simp [h]
theorem num_lit {x : ByteArray} (h : x ∈ gNums) : numOf x < 10 := by
  simp only [gNums, List.mem_cons, List.not_mem_nil, or_false] at h
  rcases h with rfl | rfl | rfl <;> (unfold numOf numL; rw [ByteArray.toList_eq]; decide)
theorem sty_ok {N : List (List UInt8)} (h : N.length < 10) : okS (sty N) 2 := by
  refine ⟨by omega, fun x _ => ?_, fun x hx => ?_⟩
  · have hi : N.idxOf x.toList < 10 := by have := List.idxOf_le_length (a := x.toList) (l := N); omega
    show wordy 3 (⟨(nu N x.toList).toArray⟩ : ByteArray).toList ∧ (⟨(nu N x.toList).toArray⟩ : ByteArray).toList.length ≤ 2
    rw [ba_list]
    refine ⟨⟨86, Lib.decDigits (N.idxOf x.toList), rfl, Or.inr (Or.inl ⟨rfl, by decide⟩), fun d hd => ?_⟩, ?_⟩
    · rcases List.mem_cons.1 hd with rfl | hd
      · decide
      · exact dig_in (dec_word _ d hd) (Or.inl rfl)
    · unfold nu
      rw [Lib.decDigits, dif_pos hi]
      simp
  · have hn := num_lit hx
    show wordy 4 (⟨(Lib.decDigits (numOf x)).toArray⟩ : ByteArray).toList ∧ (⟨(Lib.decDigits (numOf x)).toArray⟩ : ByteArray).size ≤ 6 ∧ (⟨(Lib.decDigits (numOf x)).toArray⟩ : ByteArray).toList.length ≤ 2
    have hw := dec_word (numOf x)
    rw [Lib.decDigits, dif_pos hn] at hw ⊢
    rw [ba_list]
    exact ⟨⟨_, [], rfl, Or.inr (Or.inr ⟨rfl, hw _ (by simp)⟩), fun d hd => dig_in (hw d hd) (Or.inr rfl)⟩, by show [UInt8.ofNat (48 + numOf x)].toArray.size ≤ 6; simp, by simp⟩
/-- Written as it stands, it is read as it is. -/
theorem gLeaf_id {t : Tm} (h : gLeaf t) (f : Nat) : mpT idS f t = t := by
  cases f with
  | zero => rfl
  | succ f =>
    obtain ⟨k, x, ts⟩ := t
    obtain ⟨hA, h⟩ := h
    dsimp only at hA h
    subst hA
    unfold mpT
    rcases h with ⟨hk, _⟩ | ⟨hk, _⟩ | ⟨hk, _⟩ <;> subst hk <;> rfl
theorem two_id {t : Tm} {f : Nat} (hk : t.kind = 2) (h : ∀ a ∈ t.args, mpT idS f a = a) : mpT idS (f + 1) t = t := by
  obtain ⟨k, x, ts⟩ := t
  dsimp only at hk h
  subst hk
  show Tm.mk 2 x (ts.map (mpT idS f)) = _
  rw [List.map_congr_left h, List.map_id']
theorem gT_id : ∀ (d : Nat) (t : Tm) (f : Nat), gT d t → mpT idS f t = t
  | 0, _, f, h => gLeaf_id h f
  | d + 1, t, 0, _ => rfl
  | d + 1, t, f + 1, h => by
    rcases h with h | ⟨hk, hx, u, hA, hu⟩ | ⟨hk, hx, u, v, hA, hu, hv⟩
    · exact gLeaf_id h _
    · refine two_id hk fun a ha => ?_
      rw [hA] at ha
      obtain rfl := List.mem_singleton.1 ha
      exact gT_id d a f hu
    · refine two_id hk fun a ha => ?_
      rw [hA] at ha
      simp only [List.mem_cons, List.not_mem_nil, or_false] at ha
      rcases ha with rfl | rfl
      · exact gT_id d a f hu
      · exact gT_id d a f hv
theorem gCall_id {t : Tm} (h : gCall t) : mpT idS 8 t = t := by
  obtain ⟨hk, ⟨_, hA⟩ | ⟨_, hA | ⟨u, hA, hu⟩ | ⟨u, v, hA, hu, hv⟩⟩⟩ := h
  · exact two_id hk (by simp [hA])
  · exact two_id hk (by simp [hA])
  · refine two_id hk fun a ha => ?_
    rw [hA] at ha
    obtain rfl := List.mem_singleton.1 ha
    exact gT_id 1 a 7 hu
  · refine two_id hk fun a ha => ?_
    rw [hA] at ha
    simp only [List.mem_cons, List.not_mem_nil, or_false] at ha
    rcases ha with rfl | rfl
    · exact gT_id 1 a 7 hu
    · exact gT_id 1 a 7 hv
theorem gGl_id {x : Itm} (h : gGl x) : mpI idS x = x ∧ x.last = none := by
  cases h with
  | call t h => exact ⟨by unfold mpI; rw [gCall_id h]; rfl, rfl⟩
  | eq a b ha hb => exact ⟨by unfold mpI; rw [gT_id 1 a 8 ha]; show Itm.mk a [61] (some (mpT idS 8 b)) [] none = _; rw [gT_id 1 b 8 hb], rfl⟩
theorem gTs_id {x : Itm} (h : gTs x) : mpI idS x = x ∧ x.last = none := by
  cases h with
  | int a h => exact ⟨by unfold mpI; rw [two_id rfl (fun u hu => by obtain rfl := List.mem_singleton.1 hu; exact gLeaf_id h 7)]; rfl, rfl⟩
  | rel a b g ha hb hg => exact ⟨by unfold mpI; rw [gLeaf_id ha]; show Itm.mk a g (some (mpT idS 8 b)) [] none = _; rw [gLeaf_id hb], rfl⟩
theorem gC_id {c : Cls} (h : gC c) : mpC idS c = c ∧ cVars c := by
  have ht : ∀ x ∈ c.tests, mpI idS x = x ∧ x.last = none := by
    rcases h.tests with e | ⟨x, e, hx⟩
    · rw [e]; intro x hx; cases hx
    · rw [e]
      intro y hy
      obtain rfl := List.mem_singleton.1 hy
      exact gTs_id hx
  have hg := fun x hx => gGl_id (h.goals x hx)
  refine ⟨?_, cVars_of (fun x hx => (ht x hx).2) (fun x hx => (hg x hx).2)⟩
  unfold mpC
  rw [gCall_id h.head, List.map_congr_left (fun x hx => (ht x hx).1), List.map_congr_left (fun x hx => (hg x hx).1), List.map_id', List.map_id']
/-- The names of the variables. -/
def gV : List (List UInt8) := [[88], [89], [90], [87]]
theorem gLeaf_vars {t : Tm} (h : gLeaf t) (f : Nat) : varsIn gV f t := by
  cases f with
  | zero => trivial
  | succ f =>
    obtain ⟨hA, ⟨hk, hx⟩ | ⟨hk, hx⟩ | ⟨hk, hx⟩⟩ := h
    · unfold varsIn
      rw [if_pos hk]
      simp only [gVars, List.mem_cons, List.not_mem_nil, or_false] at hx
      rcases hx with e | e | e | e <;> (rw [e, ByteArray.toList_eq]; decide)
    · unfold varsIn
      rw [if_neg (by omega), if_pos hk]
      trivial
    · unfold varsIn
      rw [if_neg (by omega), if_neg (by omega), hA]
      intro a ha
      cases ha
theorem two_vars {N : List (List UInt8)} {t : Tm} {f : Nat} (hk : t.kind = 2) (h : ∀ a ∈ t.args, varsIn N f a) : varsIn N (f + 1) t := by
  unfold varsIn
  rw [if_neg (by omega), if_neg (by omega)]
  exact h
theorem gT_vars : ∀ (d : Nat) (t : Tm) (f : Nat), gT d t → varsIn gV f t
  | 0, _, f, h => gLeaf_vars h f
  | d + 1, t, 0, _ => trivial
  | d + 1, t, f + 1, h => by
    rcases h with h | ⟨hk, hx, u, hA, hu⟩ | ⟨hk, hx, u, v, hA, hu, hv⟩
    · exact gLeaf_vars h _
    · refine two_vars hk fun a ha => ?_
      rw [hA] at ha
      obtain rfl := List.mem_singleton.1 ha
      exact gT_vars d a f hu
    · refine two_vars hk fun a ha => ?_
      rw [hA] at ha
      simp only [List.mem_cons, List.not_mem_nil, or_false] at ha
      rcases ha with rfl | rfl
      · exact gT_vars d a f hu
      · exact gT_vars d a f hv
theorem gCall_vars {t : Tm} (h : gCall t) : varsIn gV 8 t := by
  obtain ⟨hk, ⟨_, hA⟩ | ⟨_, hA | ⟨u, hA, hu⟩ | ⟨u, v, hA, hu, hv⟩⟩⟩ := h
  · exact two_vars hk (by simp [hA])
  · exact two_vars hk (by simp [hA])
  · refine two_vars hk fun a ha => ?_
    rw [hA] at ha
    obtain rfl := List.mem_singleton.1 ha
    exact gT_vars 1 a 7 hu
  · refine two_vars hk fun a ha => ?_
    rw [hA] at ha
    simp only [List.mem_cons, List.not_mem_nil, or_false] at ha
    rcases ha with rfl | rfl
    · exact gT_vars 1 a 7 hu
    · exact gT_vars 1 a 7 hv
theorem gGl_vars {x : Itm} (h : gGl x) : iVars gV x := by
  cases h with
  | call t h => exact ⟨gCall_vars h, (fun r hr => by cases hr), rfl⟩
  | eq a b ha hb => exact ⟨gT_vars 1 a 8 ha, (fun r hr => by cases hr; exact gT_vars 1 _ 8 hb), rfl⟩
theorem gTs_vars {x : Itm} (h : gTs x) : iVars gV x := by
  cases h with
  | int a h => exact ⟨two_vars rfl (fun u hu => by obtain rfl := List.mem_singleton.1 hu; exact gLeaf_vars h 7), (fun r hr => by cases hr), rfl⟩
  | rel a b g ha hb hg => exact ⟨gLeaf_vars ha 8, (fun r hr => by cases hr; exact gLeaf_vars hb 8), rfl⟩
theorem namesI_nodup {ns : List (List UInt8)} (x : Itm) (h : ns.Nodup) : (namesI ns x).Nodup := by
  have o : ∀ (ns : List (List UInt8)) (t : Option Tm), ns.Nodup → (nameO ns t).Nodup := fun ns t h => by
    cases t with
    | none => exact h
    | some r => exact namesF_nodup 8 r ns h
  exact o _ _ (o _ _ (namesF_nodup 8 x.left ns h))
theorem namesL_nodup : ∀ (xs : List Itm) (ns : List (List UInt8)), ns.Nodup → (namesL ns xs).Nodup
  | [], _, h => h
  | x :: xs, ns, h => namesL_nodup xs (namesI ns x) (namesI_nodup x h)
theorem NG_few {c : Cls} (h : gC c) : (NG c).length < 10 := by
  have hn : (NG c).Nodup := namesL_nodup _ _ (namesL_nodup _ _ (namesF_nodup 8 c.head [] (by simp)))
  have ht : ∀ x ∈ c.tests, iVars gV x := by
    rcases h.tests with e | ⟨x, e, hx⟩
    · rw [e]; intro x hx; cases hx
    · rw [e]
      intro y hy
      obtain rfl := List.mem_singleton.1 hy
      exact gTs_vars hx
  have s1 := names_sub 8 c.head [] (gCall_vars h.head) (by simp)
  have s2 := (namesL_map c.tests (NH c) ht s1).2
  have s3 := (namesL_map c.goals (NT c) (fun x hx => gGl_vars (h.goals x hx)) s2).2
  have := hn.length_le_of_subset (l₂ := gV) s3
  simp [gV] at this
  omega
/-- Show writes a clause so. -/
theorem strI_prI {N : List (List UInt8)} {x : Itm} (h : x.last = none) : strI N x = prI (sty N) x := by
  obtain ⟨l, g, r, o, z⟩ := x
  dsimp only at h
  subst h
  cases r with
  | none => simp only [strI, prI, strF_prT, List.append_nil]
  | some r => simp only [strI, prI, strF_prT, List.append_nil]
theorem join_eq (P Q : Itm → List UInt8) : ∀ (xs : List Itm), (∀ y ∈ xs, P y = Q y) → (xs.map P).flatMap (fun y => 44 :: 32 :: y) = xs.flatMap (fun y => 44 :: sp true ++ Q y)
  | [], _ => rfl
  | y :: ys, h => by
    rw [List.map_cons, List.flatMap_cons, List.flatMap_cons, join_eq P Q ys (fun z hz => h z (by simp [hz])), h y (by simp)]
    rfl
theorem strL_prL {N : List (List UInt8)} {xs : List Itm} (h : ∀ x ∈ xs, x.last = none) : strL N xs = prL (sty N) true xs := by
  unfold strL
  cases xs with
  | nil => rfl
  | cons x xs =>
    have e := join_eq (strI N) (prI (sty N)) xs (fun y hy => strI_prI (h y (by simp [hy])))
    rw [List.map_cons, joinC, prL, e, strI_prI (h x (by simp))]
theorem strC_prC {c : Cls} (h : gC c) : strC c = prC (sty (NG c)) true c := by
  have ht : ∀ x ∈ c.tests, x.last = none := by
    rcases h.tests with e | ⟨x, e, hx⟩
    · rw [e]; intro x hx; cases hx
    · rw [e]
      intro y hy
      obtain rfl := List.mem_singleton.1 hy
      exact (gTs_id hx).2
  have hg : ∀ x ∈ c.goals, x.last = none := fun x hx => (gGl_id (h.goals x hx)).2
  unfold strC prC midC guardC
  rw [strF_prT, strL_prL hg, strL_prL ht]
  cases hq : c.goals with
  | nil =>
    rw [h.fact hq]
    simp [prL, nl]
  | cons g gs =>
    rcases h.tests with e | ⟨x, e, hx⟩
    · rw [e]
      simp [nl, sp]
    · rw [e]
      simp [nl, sp, prL]
theorem strP_prP {cs : List Cls} (h : ∀ c ∈ cs, gC c) : strP cs = prP (fun c => sty (NG c)) true cs := by
  unfold strP prP
  induction cs with
  | nil => rfl
  | cons c cs ih => rw [List.flatMap_cons, List.flatMap_cons, strC_prC (h c (by simp)), ih (fun d hd => h d (by simp [hd]))]
/-- The program's text as it was made, and as it is shown. -/
theorem made_read {cs : List Cls} (h : ∀ c ∈ cs, gC c) (hl : cs.length ≤ 2) {s : ByteArray} (hs : s.toList = prP (fun _ => idS) false cs) {L : List Tok} (hL : Chain s L) (hh : hd L = next s 0) : ckE s L = 0 ∧ ckP s L = 0 ∧ shS s L = strP cs := by
  have hlen := prP_len (σ := fun _ => idS) (b := false) (cs := cs) fun c hc => (gC_ok idS_ok (h c hc)).2
  have hsz : s.size ≤ 240 := by
    rw [← hs, bytes_len] at hlen
    have : cs.length * (69 + 18 * 1 + 6 * (sp false).length) ≤ 2 * (69 + 18 * 1 + 6 * (sp false).length) := Nat.mul_le_mul_right _ hl
    simp [sp] at this hlen
    omega
  obtain ⟨l', e⟩ := par_prog (σ := fun _ => idS) (b := false) cs 12 (by omega) (fun c hc => (gC_ok (b := false) idS_ok (h c hc)).1) s 0 L ⟨hL, hh⟩ (by rw [← hs, ByteArray.toList_eq]; exact At.start s)
  rw [List.map_congr_left (fun c hc => (gC_id (h c hc)).1), List.map_id'] at e
  unfold ckE ckP shS
  rw [if_neg (by omega), if_neg (by omega), if_neg (by omega), e]
  exact ⟨rfl, rfl, rfl⟩
theorem shown_read {cs : List Cls} (h : ∀ c ∈ cs, gC c) (hl : cs.length ≤ 2) {s : ByteArray} (hs : s = ⟨(strP cs).toArray⟩) {L : List Tok} (hL : Chain s L) (hh : hd L = next s 0) : ckE s L = 0 ∧ ckP s L = 0 ∧ shS s L = strP cs := by
  have hs' : s.toList = prP (fun c => sty (NG c)) true cs := by rw [hs, ba_list]; exact strP_prP h
  have hlen := prP_len (σ := fun c => sty (NG c)) (b := true) (cs := cs) fun c hc => (gC_ok (sty_ok (NG_few (h c hc))) (h c hc)).2
  have hsz : s.size ≤ 240 := by
    rw [← hs', bytes_len] at hlen
    have : cs.length * (69 + 18 * 2 + 6 * (sp true).length) ≤ 2 * (69 + 18 * 2 + 6 * (sp true).length) := Nat.mul_le_mul_right _ hl
    simp [sp] at this hlen
    omega
  obtain ⟨l', e⟩ := par_prog (σ := fun c => sty (NG c)) (b := true) cs 12 (by omega) (fun c hc => (gC_ok (b := true) (sty_ok (NG_few (h c hc))) (h c hc)).1) s 0 L ⟨hL, hh⟩ (by rw [← hs', ByteArray.toList_eq]; exact At.start s)
  unfold ckE ckP shS
  rw [if_neg (by omega), if_neg (by omega), if_neg (by omega), e]
  exact ⟨rfl, rfl, strP_map fun c hc => (gC_id (h c hc)).2⟩
theorem prP_nil {σ : Cls → Sty} {b : Bool} {cs : List Cls} : prP σ b cs = [] ↔ cs = [] := by
  cases cs with
  | nil => simp [prP]
  | cons c cs => simp [prP, prC]
theorem both_nil {cs : List Cls} (h : ∀ c ∈ cs, gC c) : prP (fun _ => idS) false cs = [] ↔ strP cs = [] := by
  rw [strP_prP h, prP_nil, prP_nil]
end Parl
namespace Parl
open Go

theorem prT_up {σ : Sty} : ∀ (f : Nat) (t : Tm), okT σ f t → prT σ (f + 1) t = prT σ f t
  | 0, _, h => h.elim
  | f + 1, t, h => by
    rcases h with ⟨hk, _⟩ | ⟨hk, _⟩ | ⟨hk, _, _, ha⟩
    · unfold prT; rw [if_pos hk, if_pos hk]
    · unfold prT; rw [if_neg (by omega), if_pos hk, if_neg (by omega), if_pos hk]
    · rw [prT_two hk, prT_two hk, List.map_congr_left fun a h => prT_up f a (ha a h)]
/-- A term's text, as it was made. -/
def tx (t : Tm) : List UInt8 := prT idS 8 t
theorem tx_leaf {t : Tm} (h : gLeaf t) : tx t = t.text.toList := by
  obtain ⟨hA, ⟨hk, _⟩ | ⟨hk, _⟩ | ⟨hk, _⟩⟩ := h
  · unfold tx prT; rw [if_pos hk]; rfl
  · unfold tx prT; rw [if_neg (by omega), if_pos hk]; rfl
  · unfold tx; rw [prT_two hk, hA]; simp [arS]
theorem tx_in {d : Nat} {t : Tm} (h : gT d t) (hd : d < 7) : prT idS 7 t = tx t := (prT_up 7 t (gT_ok idS_ok d t 7 h hd).1).symm
theorem tx_one {d : Nat} {a : Tm} (x : ByteArray) (h : gT d a) (hd : d < 7) : tx ⟨2, x, [a]⟩ = x.toList ++ 40 :: tx a ++ [41] := by
  show prT idS (7 + 1) _ = _
  rw [prT_two rfl]
  simp only [List.map_cons, List.map_nil, arS, List.flatMap_nil, List.append_nil, tx_in h hd]
  simp
theorem tx_two {d e : Nat} {a b : Tm} (x : ByteArray) (h : gT d a) (hd : d < 7) (h' : gT e b) (he : e < 7) : tx ⟨2, x, [a, b]⟩ = x.toList ++ 40 :: tx a ++ 44 :: tx b ++ [41] := by
  show prT idS (7 + 1) _ = _
  rw [prT_two rfl]
  simp only [List.map_cons, List.map_nil, arS, List.flatMap_cons, List.flatMap_nil, List.append_nil, tx_in h hd, tx_in h' he]
  simp
theorem tx_none (x : ByteArray) : tx ⟨2, x, []⟩ = x.toList := by
  show prT idS (7 + 1) _ = _
  rw [prT_two rfl]
  simp [arS]
def leafs : List Tm := [⟨3, ⟨#[88]⟩, []⟩, ⟨3, ⟨#[89]⟩, []⟩, ⟨3, ⟨#[90]⟩, []⟩, ⟨3, ⟨#[87]⟩, []⟩, ⟨4, ⟨#[48]⟩, []⟩, ⟨4, ⟨#[49]⟩, []⟩, ⟨4, ⟨#[55]⟩, []⟩, ⟨2, ⟨#[97]⟩, []⟩, ⟨2, ⟨#[98]⟩, []⟩, ⟨2, ⟨#[110]⟩, []⟩]
theorem leafs_ok : ∀ t ∈ leafs, gLeaf t := by
  intro t h
  simp only [leafs, List.mem_cons, List.not_mem_nil, or_false] at h
  rcases h with rfl | rfl | rfl | rfl | rfl | rfl | rfl | rfl | rfl | rfl
  all_goals refine ⟨rfl, ?_⟩
  all_goals simp [gVars, gNums, gNames]
theorem tx_len {d : Nat} {t : Tm} (h : gT d t) (hd : d < 8) : (tx t).length ≤ lenG 1 d := (gT_ok idS_ok d t 8 h hd).2
end Parl
namespace Go.Proofs.YthfjnfcekeknlaaDoor
open Go.RowKit

theorem blk_set {w : World} {b : Nat} {cs : Array Value} {T : TypeId} (h : w.heap[b]? = some (.cells cs T (0, 0))) (i : Nat) (v : Value) : (w.setCell ⟨b, i, none⟩ v).heap[b]? = some (.cells (cs.setIfInBounds i v) T (0, 0)) := by
  simp [World.setCell, Array.getElem?_modify, h]
theorem blk_other {w : World} {b : Nat} {x : Obj} (h : w.heap[b]? = some x) {b' : Nat} (hne : b ≠ b') (i : Nat) (v : Value) : (w.setCell ⟨b', i, none⟩ v).heap[b]? = some x := (Below.heap_setCell _ _ _ _ hne).trans h
theorem blk_set5 {w : World} {b : Nat} {T : TypeId} {c0 c1 c2 c3 c4 c5 c6 c7 c8 c9 c10 c11 c12 c13 : Value} (v5 v6 v7 v8 v9 : Value) (h : w.heap[b]? = some (.cells #[c0, c1, c2, c3, c4, c5, c6, c7, c8, c9, c10, c11, c12, c13] T (0, 0))) : (((((w.setCell ⟨b, 5, none⟩ v5).setCell ⟨b, 6, none⟩ v6).setCell ⟨b, 7, none⟩ v7).setCell ⟨b, 8, none⟩ v8).setCell ⟨b, 9, none⟩ v9).heap[b]? = some (.cells #[c0, c1, c2, c3, c4, v5, v6, v7, v8, v9, c10, c11, c12, c13] T (0, 0)) := by
  have := blk_set (blk_set (blk_set (blk_set (blk_set h 5 v5) 6 v6) 7 v7) 8 v8) 9 v9
  simpa using this
theorem blk_other5 {w : World} {b b' : Nat} {x : Obj} (v5 v6 v7 v8 v9 : Value) (h : w.heap[b']? = some x) (hne : b' ≠ b) : (((((w.setCell ⟨b, 5, none⟩ v5).setCell ⟨b, 6, none⟩ v6).setCell ⟨b, 7, none⟩ v7).setCell ⟨b, 8, none⟩ v8).setCell ⟨b, 9, none⟩ v9).heap[b']? = some x :=
  blk_other (blk_other (blk_other (blk_other (blk_other h hne 5 v5) hne 6 v6) hne 7 v7) hne 8 v8) hne 9 v9
end Go.Proofs.YthfjnfcekeknlaaDoor
namespace Go.Proofs.YthfjnfcekeknlaaDoor
open Go.RowKit

theorem refuse_any (w : World) (rb : Nat) (s : ByteArray) (l : List Parl.Tok) (ns : List ByteArray) (nv : Value) (e0 : Int) (c : Int) (h : St w rb s l ns nv e0) :
    Calls Tryd.prog 68 #[.pointer (some ⟨rb, 0, none⟩), .int .i64 c] w fun e w' => e = .returned (.tuple #[]) ∧ St w' rb s l ns nv c ∧ KA rb [rb] w w' := by
  obtain ⟨⟨c0, c1, c2, c3, c4, c5, f1, f2, f3, f4, f5⟩, own, chain, isn, few, short, signs, pos, lt⟩ := h
  go_enter Tryd.func68, Tryd.ntmps68
  go_wp2
  go_end0
  refine ⟨rfl, ⟨⟨?_, ?_, ?_, ?_, ?_, ?_, ?_, ?_, ?_, ?_, ?_⟩, own_setCell own _ _, chain, isn, few, short, signs.setCell (by show rb ≠ 0; omega) _, pos, by simpa using lt⟩, (KA.refl _ _ _).setIn (by simp) _⟩
  all_goals first | go_cell | (simp [go_sem, *]; done)

theorem sees_any (w : World) (rb : Nat) (s : ByteArray) (l : List Parl.Tok) (ns : List ByteArray) (nv : Value) (e0 : Int) (g : ByteArray) (h : St w rb s l ns nv e0) :
    Calls Tryd.prog 59 #[.pointer (some ⟨rb, 0, none⟩), .string g] w fun e w' => e = .returned (.bool (Parl.sees l g.toList)) ∧ w' = w := by
  obtain ⟨⟨c0, c1, c2, c3, c4, c5, f1, f2, f3, f4, f5⟩, own, chain, isn, few, short, signs, pos, lt⟩ := h
  clear own chain isn few signs
  by_cases hk : (Parl.hd l).kind = 5
  · have hk' : (((Parl.hd l).kind : Int) == 5) = true := by simp; omega
    have HS := hide (show Parl.sees l g.toList = ((Parl.hd l).text.toList == g.toList) by simp [Parl.sees, hk])
    clear hk
    go_enter Tryd.func59, Tryd.ntmps59
    go_wp2
    go_ret
    exact ⟨ret_bool (by rw [unhide HS]), rfl⟩
  · have hk' : (((Parl.hd l).kind : Int) == 5) = false := by simp; omega
    have HS := hide (show Parl.sees l g.toList = false by simp [Parl.sees, hk])
    clear hk
    go_enter Tryd.func59, Tryd.ntmps59
    go_wp2
    go_ret
    exact ⟨ret_bool (by rw [unhide HS]), rfl⟩

theorem take_end {w w1 : World} {rb : Nat} {s : ByteArray} {l : List Parl.Tok} {ns : List ByteArray} {nv : Value} {e0 : Int} (h : St w rb s l ns nv e0) (h0 : (Parl.hd l).kind ≠ 0) (hb : Below w.heap.size w w1) :
    St (((w1.setCell ⟨rb, 1, none⟩ (.int .i64 ((Parl.next s ((Parl.hd l).pos + (Parl.hd l).text.size)).kind : Int))).setCell ⟨rb, 2, none⟩ (.int .i64 ((Parl.next s ((Parl.hd l).pos + (Parl.hd l).text.size)).pos : Int))).setCell ⟨rb, 3, none⟩ (.string (Parl.next s ((Parl.hd l).pos + (Parl.hd l).text.size)).text)) rb s l.tail ns nv e0 ∧
    KA rb [rb] w (((w1.setCell ⟨rb, 1, none⟩ (.int .i64 ((Parl.next s ((Parl.hd l).pos + (Parl.hd l).text.size)).kind : Int))).setCell ⟨rb, 2, none⟩ (.int .i64 ((Parl.next s ((Parl.hd l).pos + (Parl.hd l).text.size)).pos : Int))).setCell ⟨rb, 3, none⟩ (.string (Parl.next s ((Parl.hd l).pos + (Parl.hd l).text.size)).text)) := by
  have hk := h.chain.tail h0
  have h1 := h.below hb
  have few := h.few
  have hl : l.length = l.tail.length + 1 := by
    rcases l with _ | ⟨a, r⟩
    · exact absurd h.chain (by simp [Parl.Chain])
    · rfl
  obtain ⟨⟨d0, d1, d2, d3, d4, d5, g1, g2, g3, g4, g5⟩, own, chain, isn, few1, short, signs, pos, lt⟩ := h1
  have z : rb ≠ 0 := by omega
  refine ⟨⟨?_, own_setCell (own_setCell (own_setCell own _ _) _ _) _ _, hk.1, ⟨_, hk.2.1⟩, by omega, short, ((signs.setCell (by exact z) _).setCell (by exact z) _).setCell (by exact z) _, pos, by simpa using lt⟩, (((KA.of_below hb).setIn (by simp) _).setIn (by simp) _).setIn (by simp) _⟩
  rw [hk.2.1]
  generalize Parl.next s ((Parl.hd l).pos + (Parl.hd l).text.size) = t
  exact ⟨by go_cell, by go_cell, by go_cell, by go_cell, by go_cell, by go_cell, by go_cell, by go_cell, by go_cell, by go_cell, by go_cell⟩

end Go.Proofs.YthfjnfcekeknlaaDoor
namespace Go.Proofs.YthfjnfcekeknlaaDoor
open Go.RowKit

set_option maxHeartbeats 1000000 in
theorem take_any (w : World) (rb : Nat) (s : ByteArray) (l : List Parl.Tok) (ns : List ByteArray) (nv : Value) (e0 : Int) (h : St w rb s l ns nv e0) (h0 : (Parl.hd l).kind ≠ 0) :
    Calls Tryd.prog 60 #[.pointer (some ⟨rb, 0, none⟩)] w fun e w' => e = .returned (.tuple #[]) ∧ St w' rb s l.tail ns nv e0 ∧ KA rb [rb] w w' := by
  have HS := hide h
  obtain ⟨⟨c0, c1, c2, c3, c4, c5, f1, f2, f3, f4, f5⟩, own, chain, ⟨p, isn⟩, few, short, signs, pos, lt⟩ := h
  have hfit : (Parl.hd l).pos + (Parl.hd l).text.size ≤ s.size := by rw [isn]; exact Parl.next_fits
  have hmx : s.size ≤ maxLen := by unfold maxLen; omega
  have hz : 0 < w.heap.size := by omega
  have hC := hide chain
  have HG := hide signs
  have hw : IntKind.i64.wrap (((Parl.hd l).pos : Int) + ((Parl.hd l).text.size : Int)) = ((Parl.hd l).pos : Int) + ((Parl.hd l).text.size : Int) := by rw [IntWalk.i64_in _ ⟨by omega, by omega⟩]
  have HP := hide (show ((Parl.hd l).pos : Int) + ((Parl.hd l).text.size : Int) = (((Parl.hd l).pos + (Parl.hd l).text.size : Nat) : Int) by omega)
  clear chain own isn few signs
  go_enter Tryd.func60, Tryd.ntmps60
  go_wp2
  go_region_with (go_at_call 37; rw [unhide HP]; refine (next_any s ((Parl.hd l).pos + (Parl.hd l).text.size) _ hmx hfit ((unhide HG).draws 1) hz).mono ?_; rintro e w1 ⟨rfl, hb⟩; obtain ⟨d0, d1, d2, d3, d4, d5, g1, g2, g3, g4, g5⟩ := (unhide HS).rd.below (Below.trans (Below.refl _ _).drew hb) lt)
  all_goals
    go_wp2
    go_end0
    exact ⟨rfl, take_end (unhide HS) h0 (Below.trans (Below.refl _ _).drew hb)⟩
end Go.Proofs.YthfjnfcekeknlaaDoor
namespace Go.Proofs.YthfjnfcekeknlaaDoor
open Go.RowKit

theorem takeIf_any (w : World) (rb : Nat) (s : ByteArray) (l : List Parl.Tok) (ns : List ByteArray) (nv : Value) (e0 : Int) (f : Bool) (h : St w rb s l ns nv e0) (h0 : f = true → (Parl.hd l).kind ≠ 0) :
    Calls Tryd.prog 62 #[.pointer (some ⟨rb, 0, none⟩), .bool f] w fun e w' => e = .returned (.bool f) ∧ St w' rb s (if f then l.tail else l) ns nv (if f then e0 else 2) ∧ KA rb [rb] w w' := by
  have H := hide h
  clear h
  cases f
  · go_enter Tryd.func62, Tryd.ntmps62
    go_wp2_with (go_at_call 68; refine (refuse_any _ _ _ _ _ _ _ 2 (unhide H)).mono ?_; rintro e w1 ⟨rfl, hs, hk⟩; have HS := hide hs; have HK := hide hk; clear hs hk)
    go_ret
    exact ⟨rfl, unhide HS, unhide HK⟩
  · have h0' := hide (h0 rfl)
    clear h0
    go_enter Tryd.func62, Tryd.ntmps62
    go_wp2_with (go_at_call 60; refine (take_any _ _ _ _ _ _ _ (unhide H) (unhide h0')).mono ?_; rintro e w1 ⟨rfl, hs, hk⟩; have HS := hide hs; have HK := hide hk; clear hs hk)
    go_ret
    exact ⟨rfl, unhide HS, unhide HK⟩

theorem comma_any (w : World) (rb : Nat) (s : ByteArray) (l : List Parl.Tok) (ns : List ByteArray) (nv : Value) (e0 : Int) (c m : Nat) (h : St w rb s l ns nv e0) (h0 : (Parl.hd l).kind ≠ 0) :
    Calls Tryd.prog 85 #[.pointer (some ⟨rb, 0, none⟩), .int .i64 (c : Int), .int .i64 (m : Int)] w fun e w' => e = .returned (.bool (decide (c < m))) ∧ St w' rb s (if c < m then l.tail else l) ns nv (if c < m then e0 else 3) ∧ KA rb [rb] w w' := by
  have H := hide h
  have h0' := hide h0
  clear h h0
  by_cases hc : c < m
  · rw [if_pos hc, if_pos hc]
    go_enter Tryd.func85, Tryd.ntmps85
    go_wp2_with (go_at_call 60; refine (take_any _ _ _ _ _ _ _ (unhide H) (unhide h0')).mono ?_; rintro e w1 ⟨rfl, hs, hk⟩; have HS := hide hs; have HK := hide hk; clear hs hk)
    go_ret
    exact ⟨ret_bool (by simp [hc]), unhide HS, unhide HK⟩
  · rw [if_neg hc, if_neg hc]
    go_enter Tryd.func85, Tryd.ntmps85
    go_wp2_with (go_at_call 68; refine (refuse_any _ _ _ _ _ _ _ 3 (unhide H)).mono ?_; rintro e w1 ⟨rfl, hs, hk⟩; have HS := hide hs; have HK := hide hk; clear hs hk)
    go_ret
    exact ⟨ret_bool (by simp; omega), unhide HS, unhide HK⟩

end Go.Proofs.YthfjnfcekeknlaaDoor
namespace Go.Proofs.YthfjnfcekeknlaaDoor
open Go.RowKit

/-- What mayBegin says: 0 it may; else the error. -/
def mayB (d : Nat) (t : Parl.Tok) : Nat := if Parl.begins t = true then (if t.kind = 4 ∧ 6 < t.text.size ∨ 8 < d then 3 else 0) else 2

theorem mayB_two {d : Nat} {t : Parl.Tok} (h : ¬ (t.kind = 2 ∨ t.kind = 3 ∨ t.kind = 4)) : mayB d t = 2 := by
  unfold mayB Parl.begins; rw [if_neg]; simp; omega
theorem mayB_three {d : Nat} {t : Parl.Tok} (h : t.kind = 2 ∨ t.kind = 3 ∨ t.kind = 4) (b : t.kind = 4 ∧ 6 < t.text.size ∨ 8 < d) : mayB d t = 3 := by
  unfold mayB Parl.begins; rw [if_pos, if_pos b]; simp; omega
theorem mayB_none {d : Nat} {t : Parl.Tok} (h : t.kind = 2 ∨ t.kind = 3 ∨ t.kind = 4) (b : ¬ (t.kind = 4 ∧ 6 < t.text.size ∨ 8 < d)) : mayB d t = 0 := by
  unfold mayB Parl.begins; rw [if_pos, if_neg b]; simp; omega

set_option maxHeartbeats 1000000 in
/-- It may not begin here. -/
theorem may_no (w : World) (rb : Nat) (s : ByteArray) (l : List Parl.Tok) (ns : List ByteArray) (nv : Value) (e0 : Int) (d k z : Nat) (h : St w rb s l ns nv e0) (hkk : (Parl.hd l).kind = k) (hzz : (Parl.hd l).text.size = z) (hz : z ≤ 240) (m : Nat)
    (hm : (m = 2 ∧ ¬ (k = 2 ∨ k = 3 ∨ k = 4)) ∨ (m = 3 ∧ (k = 2 ∨ k = 3 ∨ k = 4) ∧ (k = 4 ∧ 6 < z ∨ 8 < d))) :
    Calls Tryd.prog 64 #[.pointer (some ⟨rb, 0, none⟩), .int .i64 (d : Int)] w fun e w' => e = .returned (.bool false) ∧ St w' rb s l ns nv (m : Int) ∧ KA rb [rb] w w' := by
  have H := hide h
  obtain ⟨⟨c0, c1, c2, c3, c4, c5, f1, f2, f3, f4, f5⟩, own, chain, isn, few, short, signs, pos, lt⟩ := h
  clear own chain isn few short signs pos lt c0 c2 c4 c5 f1 f2 f3 f4 f5
  rw [hkk] at c1
  generalize (Parl.hd l).text = tx at c3 hzz
  clear hkk
  subst hzz
  rcases hm with ⟨rfl, hn⟩ | ⟨rfl, hk, hb⟩
  · have n2 : ((k : Int) != 2) = true := by simp; omega
    have n3 : ((k : Int) != 3) = true := by simp; omega
    have n4 : ((k : Int) != 4) = true := by simp; omega
    clear hn
    go_enter Tryd.func64, Tryd.ntmps64
    go_wp2_with (go_at_call 68; refine (refuse_any _ _ _ _ _ _ _ 2 (unhide H)).mono ?_; rintro e w1 ⟨rfl, hs, hk⟩; have HS := hide hs; have HK := hide hk; clear hs hk)
    go_ret
    exact ⟨rfl, unhide HS, unhide HK⟩
  · rcases hk with rfl | rfl | rfl
    · have hd8 : 8 < d := by omega
      clear hb
      go_enter Tryd.func64, Tryd.ntmps64
      go_wp2_with (go_at_call 68; refine (refuse_any _ _ _ _ _ _ _ 3 (unhide H)).mono ?_; rintro e w1 ⟨rfl, hs, hk⟩; have HS := hide hs; have HK := hide hk; clear hs hk)
      go_ret
      exact ⟨rfl, unhide HS, unhide HK⟩
    · have hd8 : 8 < d := by omega
      clear hb
      go_enter Tryd.func64, Tryd.ntmps64
      go_wp2_with (go_at_call 68; refine (refuse_any _ _ _ _ _ _ _ 3 (unhide H)).mono ?_; rintro e w1 ⟨rfl, hs, hk⟩; have HS := hide hs; have HK := hide hk; clear hs hk)
      go_ret
      exact ⟨rfl, unhide HS, unhide HK⟩
    · by_cases h6 : 6 < tx.size
      · clear hb
        go_enter Tryd.func64, Tryd.ntmps64
        go_wp2_with (go_at_call 68; refine (refuse_any _ _ _ _ _ _ _ 3 (unhide H)).mono ?_; rintro e w1 ⟨rfl, hs, hk⟩; have HS := hide hs; have HK := hide hk; clear hs hk)
        go_ret
        exact ⟨rfl, unhide HS, unhide HK⟩
      · have hd8 : 8 < d := by omega
        clear hb
        go_enter Tryd.func64, Tryd.ntmps64
        go_wp2_with (go_at_call 68; refine (refuse_any _ _ _ _ _ _ _ 3 (unhide H)).mono ?_; rintro e w1 ⟨rfl, hs, hk⟩; have HS := hide hs; have HK := hide hk; clear hs hk)
        go_ret
        exact ⟨rfl, unhide HS, unhide HK⟩

set_option maxHeartbeats 1000000 in
/-- It may. -/
theorem may_yes (w : World) (rb : Nat) (s : ByteArray) (l : List Parl.Tok) (ns : List ByteArray) (nv : Value) (e0 : Int) (d k z : Nat) (h : St w rb s l ns nv e0) (hkk : (Parl.hd l).kind = k) (hzz : (Parl.hd l).text.size = z) (hz : z ≤ 240)
    (hk : k = 2 ∨ k = 3 ∨ k = 4) (hn : ¬ (k = 4 ∧ 6 < z ∨ 8 < d)) :
    Calls Tryd.prog 64 #[.pointer (some ⟨rb, 0, none⟩), .int .i64 (d : Int)] w fun e w' => e = .returned (.bool true) ∧ w' = w := by
  obtain ⟨⟨c0, c1, c2, c3, c4, c5, f1, f2, f3, f4, f5⟩, own, chain, isn, few, short, signs, pos, lt⟩ := h
  clear own chain isn few short signs pos lt c0 c2 c4 c5 f1 f2 f3 f4 f5
  rw [hkk] at c1
  generalize (Parl.hd l).text = tx at c3 hzz
  clear hkk
  subst hzz
  have hd8 : d ≤ 8 := by omega
  rcases hk with rfl | rfl | rfl
  · clear hn
    go_enter Tryd.func64, Tryd.ntmps64
    go_wp2_with fail
    go_ret
    exact ⟨rfl, rfl⟩
  · clear hn
    go_enter Tryd.func64, Tryd.ntmps64
    go_wp2_with fail
    go_ret
    exact ⟨rfl, rfl⟩
  · have h6 : tx.size ≤ 6 := by omega
    clear hn
    go_enter Tryd.func64, Tryd.ntmps64
    go_wp2_with fail
    go_ret
    exact ⟨rfl, rfl⟩

theorem mayBegin_any (w : World) (rb : Nat) (s : ByteArray) (l : List Parl.Tok) (ns : List ByteArray) (nv : Value) (e0 : Int) (d : Nat) (h : St w rb s l ns nv e0) :
    Calls Tryd.prog 64 #[.pointer (some ⟨rb, 0, none⟩), .int .i64 (d : Int)] w fun e w' => e = .returned (.bool (mayB d (Parl.hd l) == 0)) ∧ St w' rb s l ns nv (if mayB d (Parl.hd l) = 0 then e0 else (mayB d (Parl.hd l) : Int)) ∧ KA rb [rb] w w' := by
  have hz : (Parl.hd l).text.size ≤ 240 := by obtain ⟨p, e⟩ := h.isNext; have h1 := h.short; have h2 := @Parl.next_fits s p; rw [e]; omega
  by_cases hk : (Parl.hd l).kind = 2 ∨ (Parl.hd l).kind = 3 ∨ (Parl.hd l).kind = 4
  · by_cases hb : (Parl.hd l).kind = 4 ∧ 6 < (Parl.hd l).text.size ∨ 8 < d
    · rw [mayB_three hk hb]
      exact may_no w rb s l ns nv e0 d _ _ h rfl rfl hz 3 (Or.inr ⟨rfl, hk, hb⟩)
    · rw [mayB_none hk hb]
      refine (may_yes w rb s l ns nv e0 d _ _ h rfl rfl hz hk hb).mono ?_
      rintro e w' ⟨rfl, rfl⟩
      exact ⟨rfl, h, KA.refl _ _ _⟩
  · rw [mayB_two hk]
    exact may_no w rb s l ns nv e0 d _ _ h rfl rfl hz 2 (Or.inl ⟨rfl, hk⟩)
end Go.Proofs.YthfjnfcekeknlaaDoor
namespace Go.Proofs.YthfjnfcekeknlaaDoor
open Go.RowKit

/-- The names as lists. -/
def nmsA (ns : List ByteArray) : List (List UInt8) := ns.map fun b => b.toList
theorem nmA_idx {ns : List ByteArray} {k : Nat} {x : List UInt8} (h : k < ns.length) (he : ns[k].toList = x) (hno : ∀ j (hj : j < ns.length), j < k → ns[j].toList ≠ x) : (nmsA ns).idxOf x = k := by
  unfold nmsA
  induction ns generalizing k with
  | nil => simp at h
  | cons u us ih =>
    rw [List.map_cons]
    cases k with
    | zero => rw [List.idxOf_cons]; simp at he; simp [he]
    | succ k =>
      have h0 : u.toList ≠ x := hno 0 (by simp) (by omega)
      rw [List.idxOf_cons]
      simp only [beq_iff_eq, h0, cond_eq_ite, if_false]
      have := ih (k := k) (by simpa using h) (by simpa using he) (fun j hj q => by have := hno (j + 1) (by simpa using hj) (by omega); simpa using this)
      rw [this]
theorem nmA_in {ns : List ByteArray} {k : Nat} {x : List UInt8} (h : k < ns.length) (he : ns[k].toList = x) : Parl.addN (nmsA ns) x = nmsA ns := by
  unfold Parl.addN
  rw [if_pos]
  subst he
  exact List.mem_map.2 ⟨ns[k], by simp, rfl⟩
theorem nmA_out {ns : List ByteArray} {x : List UInt8} (hno : ∀ j (hj : j < ns.length), ns[j].toList ≠ x) : x ∉ nmsA ns := by
  intro q
  obtain ⟨u, hu, rfl⟩ := List.mem_map.1 q
  obtain ⟨i, hi, rfl⟩ := List.getElem_of_mem hu
  exact hno i hi rfl
theorem nmA_new {ns : List ByteArray} {g : ByteArray} (h : g.toList ∉ nmsA ns) : nmsA (ns ++ [g]) = Parl.addN (nmsA ns) g.toList ∧ (nmsA ns).idxOf g.toList = ns.length := by
  unfold Parl.addN
  rw [if_neg h, List.idxOf_eq_length h]
  simp [nmsA]
theorem nmA_len (ns : List ByteArray) : (nmsA ns).length = ns.length := by simp [nmsA]

/-- A term's four cells, as the program lays them. -/
structure AV where
  k : Int
  val : Int
  tx : ByteArray
  ao : Option Addr
  n : Nat
  cap : Nat
def avC (a : AV) : List Value := [.int .i64 a.k, .int .i64 a.val, .string a.tx, .slice a.ao a.n a.cap]
theorem avC_length (us : List AV) : (us.flatMap avC).length = us.length * 4 := by
  induction us with
  | nil => rfl
  | cons a r ih => rw [List.flatMap_cons, List.length_append, ih]; simp [avC]; omega
/-- The kinds of terms, as the program numbers them. -/
def ak (k : Nat) : Int := if k = 3 then 1 else if k = 4 then 2 else 3
/-- What a term's own cells say; N: the variables met so far. -/
def LeafA (N : List (List UInt8)) (a : AV) (t : Parl.Tm) : Prop := a.k = ak t.kind ∧ a.n = t.args.length ∧ (t.kind = 3 → t.text.toList ∈ N ∧ a.val = (N.idxOf t.text.toList : Int)) ∧ (t.kind = 4 → a.val = (Parl.numOf t.text : Int) ∧ t.text.size ≤ 6 ∧ a.tx = ⟨#[]⟩) ∧ (t.kind = 2 → a.tx = t.text) ∧ (t.kind = 2 ∨ t.kind = 3 ∨ t.kind = 4) ∧ t.text.size ≤ 240 ∧ t.args.length ≤ 3
def RA : Nat → List (List UInt8) → (Nat → Prop) → World → AV → Parl.Tm → Prop
  | 0, _, _, _, _, _ => False
  | f + 1, N, P, w, a, t => LeafA N a t ∧ (t.args ≠ [] → ∃ (g : Nat) (us : List AV) (cs : Array Value), a.ao = some ⟨g, 0, none⟩ ∧ P g ∧ w.heap[g]? = some (.cells cs 52 (0, 0)) ∧ cs.toList.take (us.length * 4) = us.flatMap avC ∧ All2 (RA f N P w) us t.args)
theorem RA.keep {N : List (List UInt8)} {P Q : Nat → Prop} {w w' : World} (hk : ∀ (g : Nat) (cs : Array Value), P g → w.heap[g]? = some (.cells cs 52 (0, 0)) → (∃ k r, cs.toList = .int .i64 k :: r) → w'.heap[g]? = some (.cells cs 52 (0, 0)) ∧ Q g) : ∀ {f : Nat} {a : AV} {t : Parl.Tm}, RA f N P w a t → RA f N Q w' a t
  | f + 1, _, _, ⟨h, q⟩ => ⟨h, fun n => by
    obtain ⟨g, us, cs, h1, h2, h3, h4, h5⟩ := q n
    have hi : ∃ k r, cs.toList = .int .i64 k :: r := by
      cases us with
      | nil => have := h5.length; simp at this; exact absurd (List.length_eq_zero_iff.1 this.symm) n
      | cons u us =>
        cases hc : cs.toList with
        | nil => rw [hc] at h4; simp [avC] at h4
        | cons c r =>
          rw [hc] at h4
          simp only [List.length_cons, Nat.add_mul, Nat.one_mul, List.flatMap_cons, avC, List.cons_append, List.take_succ_cons] at h4
          injection h4 with h4 _
          exact ⟨_, r, by rw [h4]⟩
    obtain ⟨r1, r2⟩ := hk g cs h2 h3 hi
    exact ⟨g, us, cs, h1, r2, r1, h4, h5.imp fun _ _ => RA.keep hk⟩⟩
theorem RA.imp {N : List (List UInt8)} {P Q : Nat → Prop} {w : World} {f : Nat} {a : AV} {t : Parl.Tm} (h : RA f N P w a t) (hk : ∀ g, P g → g < w.heap.size → Q g) : RA f N Q w a t :=
  h.keep fun g _ hp hg _ => ⟨hg, hk g hp (Array.getElem?_eq_some_iff.1 hg).1⟩
theorem RA.set {N : List (List UInt8)} {P : Nat → Prop} {w : World} {f : Nat} {a : AV} {t : Parl.Tm} (h : RA f N P w a t) {b : Nat} (hP : ∀ g, P g → g ≠ b) (o : Nat) (v : Value) : RA f N P (w.setCell ⟨b, o, none⟩ v) a t :=
  h.keep fun g _ hp hg _ => ⟨(Below.heap_setCell _ _ _ _ (fun e => hP g hp e)).trans hg, hp⟩
theorem LeafA.more {N : List (List UInt8)} {a : AV} {t : Parl.Tm} (h : LeafA N a t) (M : List (List UInt8)) : LeafA (N ++ M) a t :=
  ⟨h.1, h.2.1, fun k => ⟨List.mem_append_left _ (h.2.2.1 k).1, by rw [(h.2.2.1 k).2, List.idxOf_append, if_pos (h.2.2.1 k).1]⟩, h.2.2.2⟩
theorem RA.more {P : Nat → Prop} {w : World} {N : List (List UInt8)} (M : List (List UInt8)) : ∀ {f : Nat} {a : AV} {t : Parl.Tm}, RA f N P w a t → RA f (N ++ M) P w a t
  | f + 1, _, _, ⟨h, q⟩ => ⟨h.more M, fun n => by
    obtain ⟨g, us, cs, h1, h2, h3, h4, h5⟩ := q n
    exact ⟨g, us, cs, h1, h2, h3, h4, h5.imp fun _ _ => RA.more M⟩⟩
theorem RA.ok3 {P : Nat → Prop} {w : World} {N : List (List UInt8)} : ∀ {f : Nat} {a : AV} {t : Parl.Tm}, RA f N P w a t → Parl.ok3 f t
  | f + 1, a, t, ⟨h, q⟩ => by
    obtain ⟨h1, h2, h3, h4, h5, h6, h7, h8⟩ := h
    refine ⟨h7, h8, fun k => (h4 k).2.1, ?_⟩
    intro u hu
    obtain ⟨g, us, cs, _, _, _, _, ha⟩ := q (fun e => by rw [e] at hu; cases hu)
    have : ∀ (us : List AV) (ts : List Parl.Tm), All2 (RA f N P w) us ts → ∀ u ∈ ts, Parl.ok3 f u := by
      intro us
      induction us with
      | nil => intro ts ha u hu; cases ts with
        | nil => cases hu
        | cons t ts => exact ha.elim
      | cons v us ih => intro ts ha u hu; cases ts with
        | nil => cases hu
        | cons t ts =>
          rcases List.mem_cons.1 hu with rfl | hu
          · exact RA.ok3 ha.1
          · exact ih ts ha.2 u hu
    exact this us t.args ha u hu
/-- What 'term' says of its answer: rows new since w. -/
structure TA (f : Nat) (ns ns' : List ByteArray) (w w' : World) (val : Int) (tx : ByteArray) (ao : Option Addr) (cap : Nat) (t : Parl.Tm) : Prop where
  rep : RA f (nmsA ns') (fun g => w.heap.size ≤ g) w' ⟨ak t.kind, val, tx, ao, t.args.length, cap⟩ t
  nms : nmsA ns' = Parl.namesF f (nmsA ns) t
theorem RA.leaf {f : Nat} {N : List (List UInt8)} {P : Nat → Prop} {w : World} {a : AV} {t : Parl.Tm} (h : RA f N P w a t) : LeafA N a t := by
  cases f with
  | zero => exact h.elim
  | succ f => exact h.1
theorem TA.txt {f : Nat} {ns ns' : List ByteArray} {w w' : World} {val : Int} {tx : ByteArray} {ao : Option Addr} {cap : Nat} {t : Parl.Tm} (h : TA f ns ns' w w' val tx ao cap t) : t.kind = 2 → tx = t.text := h.rep.leaf.2.2.2.2.1
theorem RA.one {f : Nat} {N : List (List UInt8)} {P : Nat → Prop} {w : World} {a : AV} {t : Parl.Tm} (h : LeafA N a t) (h0 : t.args = []) : RA (f + 1) N P w a t := ⟨h, fun q => absurd h0 q⟩
/-- What 'arguments' says of its answer. -/
structure AA (f : Nat) (ns ns' : List ByteArray) (w w' : World) (ao : Option Addr) (ts : List Parl.Tm) : Prop where
  rows : ts ≠ [] → ∃ (g : Nat) (us : List AV) (cs : Array Value), ao = some ⟨g, 0, none⟩ ∧ w.heap.size ≤ g ∧ w'.heap[g]? = some (.cells cs 52 (0, 0)) ∧ cs.toList.take (us.length * 4) = us.flatMap avC ∧ All2 (RA f (nmsA ns') (fun g => w.heap.size ≤ g) w') us ts
  nms : nmsA ns' = ts.foldl (Parl.namesF f) (nmsA ns)
  few : ts.length ≤ 3
/-- Rows of the program's terms stay. -/
def KeepA (w w' : World) : Prop := ∀ (g : Nat) (cs : Array Value), w.heap[g]? = some (.cells cs 52 (0, 0)) → (∃ k r, cs.toList = .int .i64 k :: r) → w'.heap[g]? = some (.cells cs 52 (0, 0))
theorem KeepA.trans {u v w : World} (h : KeepA u v) (k : KeepA v w) : KeepA u w := fun g cs a b => k g cs (h g cs a b) b
theorem KeepA.below {w w' : World} (h : Below w.heap.size w w') : KeepA w w' := fun g _ a _ => (h.block g (Array.getElem?_eq_some_iff.1 a).1).trans a
theorem KeepA.ka {w w' : World} {rb : Nat} {s : ByteArray} {l : List Parl.Tok} {ns : List ByteArray} {nv : Value} {e : Int} (hs : St w rb s l ns nv e) (hk : KA rb [rb] w w') : KeepA w w' := fun g cs hg hi => (hk.block g (Array.getElem?_eq_some_iff.1 hg).1 (fun q => by
    obtain rfl : g = rb := by simpa using q
    obtain ⟨k, r, hc⟩ := hi
    have := hs.rd.c0
    simp [World.cell?, hg] at this
    rw [← Array.getElem?_toList, hc] at this
    simp at this) (Or.inr (by unfold tyAt; rw [hg]; simp))).trans hg
theorem KeepA.grown {w w' : World} {b0 : Nat} {T : TypeId} {sz : Nat} {av : Value} {n : Nat} {xs : List Value} (ho : w.ownsRow b0 T sz av n xs) (hg : w.grownBy w' av.ownBlock) (hT : T ≠ 52 := by decide) : KeepA w w' := fun g cs hc _ => (hg.block g (Array.getElem?_eq_some_iff.1 hc).1 (fun q => by
    rcases ho.2 with ⟨rfl, _⟩ | ⟨g', cap, cur, rfl, _, c, _⟩
    · simp [Value.ownBlock] at q
    · simp [Value.ownBlock] at q
      subst q
      rw [c] at hc; simp at hc; exact hT hc.2)).trans hc
end Go.Proofs.YthfjnfcekeknlaaDoor
namespace Go.Proofs.YthfjnfcekeknlaaDoor
open Go.RowKit

theorem Tryd.info9 : (Tryd.prog.info? 9).map (fun i => (i.zero, i.size, i.bytes)) = some (some (.string ⟨#[]⟩), 1, 16) := by kernel_rfl

set_option maxHeartbeats 1000000 in
theorem valueOf_any (g : ByteArray) (w : World) (hg : g.size ≤ 6) : Calls Tryd.prog 66 #[.string g] w fun e w' => e = .returned (.int .i64 (Parl.numOf g : Int)) ∧ w' = w := by
  go_enter Tryd.func66, Tryd.ntmps66
  go_wp2
  go_loop [3, 4] (fun v i => ∃ (k : Nat), k ≤ g.size ∧ i = .int .i64 k ∧ v = .int .i64 (Parl.numL (g.toList.take k) : Int)) (fun _ i => g.size - (intOf i).toNat)
  case atStart => exact ⟨0, by omega, rfl, rfl⟩
  case round =>
    obtain ⟨k, hk, rfl, rfl⟩ := hrel
    by_cases hlt : k < g.size
    · go_wp2
      go_round
      case rel =>
        refine ⟨k + 1, by omega, by go_num, ?_⟩
        rw [num_next hlt]
        have hb := Parl.numL_le (g.toList.take k) (by simp; omega)
        generalize Parl.numL (g.toList.take k) = v at *
        have hc : g[k].toNat < 256 := g[k].toNat_lt
        generalize g[k].toNat = c at *
        congr 1
        unfold wrap64
        omega
      case measure => simp [intOf]; omega
    · go_wp2
      go_ret
      obtain rfl : k = g.size := by omega
      exact ⟨by rw [num_all]; rfl, rfl⟩

/-- The names' cell behind the append. -/
theorem names_cell {w w1 : World} {rb : Nat} {s : ByteArray} {l : List Parl.Tok} {ns : List ByteArray} {nv : Value} {e0 : Int} {o : Obj} (h : St w rb s l ns nv e0) (hg : (w.alloc o).grownBy w1 nv.ownBlock) :
    w1.cell? ⟨rb, 4, none⟩ = some nv ∧ w1.frozen? ⟨rb, 4, none⟩ = false := by
  have hne : some rb ≠ nv.ownBlock := fun e => by have := (h.own.lt rb e.symm).1; omega
  have hb := hg.block rb (by simp; have := h.lt; omega) hne
  exact ⟨by rw [World.cell?_of_block (a := ⟨rb, 4, none⟩) hb, World.cell?_alloc_past _ _ _ h.lt]; exact h.rd.c4, by rw [World.frozen?_of_block (a := ⟨rb, 4, none⟩) hb, World.frozen?_alloc_past _ _ _ h.lt]; exact h.rd.f4⟩
/-- A row that owns something is no nil. -/
theorem own_some {w : World} {b : Nat} {e : TypeId} {sz : Nat} {v : Value} {n : Nat} {xs : List Value} (h : w.ownsRow b e sz v (n + 1) xs) : ∃ g cap, v = .slice (some ⟨g, 0, none⟩) (n + 1) cap ∧ cap ≤ maxLen := by
  rcases h.2 with ⟨_, q⟩ | ⟨g, cap, cur, q, _, _, _, m, _⟩
  · omega
  · exact ⟨g, cap, q, m⟩
/-- What stands behind a store of the names. -/
theorem names_end {w w1 : World} {rb : Nat} {s : ByteArray} {l : List Parl.Tok} {ns : List ByteArray} {nv nv' : Value} {e0 : Int} {g : ByteArray} {o : Obj} (h : St w rb s l ns nv e0) (few : ns.length + l.length < 1000)
    (hown : w1.ownsRow (rb + 1) 9 1 nv' (ns.length + 1) (ns.map Value.string ++ [.string g])) (hg : (w.alloc o).grownBy w1 nv.ownBlock) :
    St (w1.setCell ⟨rb, 4, none⟩ nv') rb s l (ns ++ [g]) nv' e0 ∧ KA rb [rb] w (w1.setCell ⟨rb, 4, none⟩ nv') := by
  have hka : KA rb [rb] w w1 := ((KA.refl rb [rb] w).alloc o).grown hg (fun k hk => by
    have h1 := h.own.lt k hk
    rcases h.own.2 with ⟨rfl, _⟩ | ⟨q, cap, cur, rfl, hb, hq, _⟩
    · simp [Value.ownBlock] at hk
    · simp [Value.ownBlock] at hk
      subst hk
      refine Or.inr (Or.inr ⟨by omega, ?_⟩)
      unfold tyAt
      rw [Below.heap_alloc _ _ _ h1.2, hq])
  have hne : some rb ≠ nv.ownBlock := fun e => by have := (h.own.lt rb e.symm).1; omega
  have cell : ∀ i v, w.cell? ⟨rb, i, none⟩ = some v → w1.cell? ⟨rb, i, none⟩ = some v := fun i v q => by
    rw [World.cell?_of_block (a := ⟨rb, i, none⟩) (hg.block rb (by simp; have := h.lt; omega) hne), World.cell?_alloc_past _ _ _ h.lt]; exact q
  have fro : ∀ i, w.frozen? ⟨rb, i, none⟩ = false → w1.frozen? ⟨rb, i, none⟩ = false := fun i q => by
    rw [World.frozen?_of_block (a := ⟨rb, i, none⟩) (hg.block rb (by simp; have := h.lt; omega) hne), World.frozen?_alloc_past _ _ _ h.lt]; exact q
  have z : rb ≠ 0 := by have := h.pos; omega
  have sg : Signs w1 := h.signs.ka hka (by have := h.lt; omega) (by simp; omega) h.pos
  obtain ⟨⟨c0, c1, c2, c3, c4, c5, f1, f2, f3, f4, f5⟩, own, chain, isn, few1, short, signs, pos, lt⟩ := h
  have d0 := cell _ _ c0
  have d1 := cell _ _ c1
  have d2 := cell _ _ c2
  have d3 := cell _ _ c3
  have d4 := cell _ _ c4
  have d5 := cell _ _ c5
  have g1 := fro _ f1
  have g2 := fro _ f2
  have g3 := fro _ f3
  have g4 := fro _ f4
  have g5 := fro _ f5
  refine ⟨⟨⟨by go_cell, by go_cell, by go_cell, by go_cell, by go_cell, by go_cell, by go_cell, by go_cell, by go_cell, by go_cell, by go_cell⟩, ?_, chain, isn, by simp; omega, short, sg.setCell (by exact z) _, pos, by have := hka.size; simp; omega⟩, hka.setIn (by simp) _⟩
  have := own_setCell hown 4 nv'
  simpa using this

/-- What 'variable' leaves. -/
def PVar (rb : Nat) (s : ByteArray) (l : List Parl.Tok) (ns : List ByteArray) (g : ByteArray) (e0 : Int) (w : World) (e : Ending) (w' : World) : Prop := ∃ (ns' : List ByteArray) (nv' : Value), e = .returned (.int .i64 ((nmsA ns).idxOf g.toList : Int)) ∧ nmsA ns' = Parl.addN (nmsA ns) g.toList ∧ St w' rb s l ns' nv' e0 ∧ KA rb [rb] w w'

set_option maxHeartbeats 1000000 in
theorem variable_any (w : World) (rb : Nat) (s : ByteArray) (l : List Parl.Tok) (ns : List ByteArray) (nv : Value) (e0 : Int) (g : ByteArray) (h : St w rb s l ns nv e0) (few : ns.length + l.length < 1000) :
    Calls Tryd.prog 65 #[.pointer (some ⟨rb, 0, none⟩), .string g] w fun e w' => PVar rb s l ns g e0 w e w' := by
  have H := hide h
  obtain ⟨i0, hi, hz0, hz1, hz2⟩ := info_parts Tryd.info9
  have hnl : ns.length ≤ 1000 := by have := h.few; omega
  rcases h.own.2 with ⟨hnv, hn0⟩ | ⟨q, cap, cur, hnv, hb, hq, hcap, hmx, _⟩
  · subst hnv
    obtain rfl : ns = [] := List.length_eq_zero_iff.1 hn0
    have hown := h.own
    obtain ⟨⟨c0, c1, c2, c3, c4, c5, f1, f2, f3, f4, f5⟩, own, chain, isn, few1, short, signs, pos, lt⟩ := h
    clear own chain isn few1 short signs
    go_enter Tryd.func65, Tryd.ntmps65
    go_wp2
    refine wp_loop_rounds 1 ?_
    rw [rounds_succ]
    go_wp2_with (first | (at_builtin; refine wpList_append_own _ rfl (.tmp 26) (.tmp 28) 37 rfl (rb + 1) 9 i0 (.string ⟨#[]⟩) 1 16 Tryd.underlying37 hi hz0 hz1 hz2 rfl (by decide) _ 0 [] rfl (hown.alloc _) ⟨w.heap.size, 0, none⟩ 1 1 [.string g] rfl rfl (by intro j u hj; match j, hj with | 0, hj => simp at hj; subst hj; simp [Addr.add]) (by intro u hu; simp at hu; subst hu; rfl) (by unfold maxLen; omega) (by omega) (by simp; omega) ?_; intro v' w1 hown' hgrow _; have R := hide (names_end (unhide H) few hown' hgrow); obtain ⟨d4, x4⟩ := names_cell (unhide H) hgrow; obtain ⟨g', cap', hv, hcm⟩ := own_some hown'; rw [hv] at R ⊢; clear hown' hgrow hv))
    go_ret
    exact ⟨_, _, rfl, by simp [nmsA, Parl.addN], (unhide R).1, (unhide R).2⟩
  · subst hnv
    have hown := h.own
    have hcell := hide (fun k (hk : k < ns.length) => (h.own.cellAt k (by omega)))
    obtain ⟨⟨c0, c1, c2, c3, c4, c5, f1, f2, f3, f4, f5⟩, own, chain, isn, few1, short, signs, pos, lt⟩ := h
    clear own chain isn few1 short signs hq
    go_enter Tryd.func65, Tryd.ntmps65
    go_wp2
    go_loop [12] (fun v => ∃ k : Nat, k ≤ ns.length ∧ v = .int .i64 k ∧ ∀ m (hm : m < ns.length), m < k → ns[m].toList ≠ g.toList) (fun v => ns.length - (intOf v).toNat)
    case atStart => exact ⟨0, by omega, rfl, fun m _ q => by omega⟩
    case round =>
      obtain ⟨k, hk, rfl, hno⟩ := hrel
      have HNO := hide hno
      clear hno
      by_cases hlt : k < ns.length
      · have hc : w.cell? ⟨q, k, none⟩ = some (.string ns[k]) := by rw [unhide hcell k hlt]; simp [hlt]
        cases he : (ns[k].toList == g.toList)
        · go_wp2_with fail
          go_round
          case rel => exact ⟨k + 1, by omega, by go_num, fun m hm q => by
            by_cases hmk : m = k
            · subst hmk; simpa using he
            · exact unhide HNO m hm (by omega)⟩
          case measure => simp [intOf]; omega
        · go_wp2_with fail
          go_ret
          exact ⟨ns, _, by rw [nmA_idx hlt (by simpa using he) (unhide HNO)]; rfl, (nmA_in hlt (by simpa using he)).symm, unhide H, KA.refl _ _ _⟩
      · go_wp2_with (first | (at_builtin; refine wpList_append_own _ rfl (.tmp 26) (.tmp 28) 37 rfl (rb + 1) 9 i0 (.string ⟨#[]⟩) 1 16 Tryd.underlying37 hi hz0 hz1 hz2 rfl (by decide) _ ns.length _ rfl (hown.alloc _) ⟨w.heap.size, 0, none⟩ 1 1 [.string g] rfl rfl (by intro j u hj; match j, hj with | 0, hj => simp at hj; subst hj; simp [Addr.add]) (by intro u hu; simp at hu; subst hu; rfl) (by unfold maxLen; omega) (by omega) (by simp; omega) ?_; intro v' w1 hown' hgrow _; have R := hide (names_end (unhide H) few hown' hgrow); obtain ⟨d4, x4⟩ := names_cell (unhide H) hgrow; obtain ⟨g', cap', hv, hcm⟩ := own_some hown'; rw [hv] at R ⊢; clear hown' hgrow hv))
        go_ret
        obtain ⟨q1, q2⟩ := nmA_new (nmA_out fun m hm => unhide HNO m hm (by omega))
        exact ⟨_, _, by rw [q2]; simp, q1, (unhide R).1, (unhide R).2⟩
end Go.Proofs.YthfjnfcekeknlaaDoor
namespace Go.Proofs.YthfjnfcekeknlaaDoor
open Go.RowKit

def PTerm (f rb : Nat) (s : ByteArray) (ns : List ByteArray) (r : Parl.Res Parl.Tm) (w : World) (e : Ending) (w' : World) : Prop := match r with
  | .inl (er, pos) => ∃ (k val : Int) (tx : ByteArray) (ao : Option Addr) (n cap : Nat) (l' : List Parl.Tok) (ns' : List ByteArray) (nv' : Value),
      e = .returned (.tuple #[.agg #[.int .i64 k, .int .i64 val, .string tx, .slice ao n cap], .bool false]) ∧ St w' rb s l' ns' nv' (er : Int) ∧ (Parl.hd l').pos = pos ∧ KA rb [rb] w w'
  | .inr (t, l1) => ∃ (val : Int) (tx : ByteArray) (ao : Option Addr) (cap : Nat) (ns' : List ByteArray) (nv' : Value) (e' : Int),
      e = .returned (.tuple #[.agg #[.int .i64 (ak t.kind), .int .i64 val, .string tx, .slice ao t.args.length cap], .bool true]) ∧ TA f ns ns' w w' val tx ao cap t ∧ St w' rb s l1 ns' nv' e' ∧ KA rb [rb] w w'

def PArgs (f rb : Nat) (s : ByteArray) (ns : List ByteArray) (r : Parl.Res (List Parl.Tm)) (w : World) (e : Ending) (w' : World) : Prop := match r with
  | .inl (er, pos) => ∃ (l' : List Parl.Tok) (ns' : List ByteArray) (nv' : Value) (ao : Option Addr) (n cap : Nat),
      e = .returned (.tuple #[.slice ao n cap, .bool false]) ∧ St w' rb s l' ns' nv' (er : Int) ∧ (Parl.hd l').pos = pos ∧ KA rb [rb] w w'
  | .inr (ts, l1) => ∃ (ao : Option Addr) (cap : Nat) (ns' : List ByteArray) (nv' : Value) (e' : Int),
      e = .returned (.tuple #[.slice ao ts.length cap, .bool true]) ∧ AA f ns ns' w w' ao ts ∧ St w' rb s l1 ns' nv' e' ∧ KA rb [rb] w w'

/-- The arguments that may stand behind a name. -/
def optArgs (f : Nat) (l : List Parl.Tok) : Parl.Res (List Parl.Tm) := if Parl.sees l [40] = true then Parl.argsOf (Parl.term f) 2 l.tail else .inr ([], l)

def TermSaid (f : Nat) : Prop := ∀ (w : World) (rb : Nat) (s : ByteArray) (l : List Parl.Tok) (ns : List ByteArray) (nv : Value) (e0 : Int) (d : Nat), f + d = 9 → St w rb s l ns nv e0 →
  Calls Tryd.prog 40 #[.pointer (some ⟨rb, 0, none⟩), .int .i64 (d : Int)] w fun e w' => PTerm f rb s ns (Parl.term f l) w e w'
def ArgsSaid (f : Nat) : Prop := ∀ (w : World) (rb : Nat) (s : ByteArray) (l : List Parl.Tok) (ns : List ByteArray) (nv : Value) (e0 : Int) (d : Nat), f + d = 9 → St w rb s l ns nv e0 →
  Calls Tryd.prog 67 #[.pointer (some ⟨rb, 0, none⟩), .int .i64 (d : Int)] w fun e w' => PArgs f rb s ns (optArgs f l) w e w'

theorem term_zero (l : List Parl.Tok) : Parl.term 0 l = Parl.bad (mayB 9 (Parl.hd l)) l := by
  unfold Parl.term mayB
  by_cases h : Parl.begins (Parl.hd l) = true
  · rw [if_pos h, if_pos h, if_pos (by omega)]
  · rw [if_neg h, if_neg h]
theorem mayB9 (t : Parl.Tok) : mayB 9 t ≠ 0 := by unfold mayB; split <;> (try rw [if_pos (by omega)]) <;> omega
theorem term_bad {f d : Nat} {l : List Parl.Tok} (hd : d ≤ 8) (h : mayB d (Parl.hd l) ≠ 0) : Parl.term (f + 1) l = Parl.bad (mayB d (Parl.hd l)) l := by
  unfold Parl.term mayB at *
  by_cases hb : Parl.begins (Parl.hd l) = true
  · rw [if_pos hb] at h ⊢
    rw [if_pos hb]
    by_cases hc : (Parl.hd l).kind = 4 ∧ 6 < (Parl.hd l).text.size
    · rw [if_pos hc, if_pos (Or.inl hc)]
    · rw [if_neg (by omega)] at h; exact absurd rfl h
  · rw [if_neg hb, if_neg hb]
theorem term_name {f d : Nat} {l : List Parl.Tok} (_h : mayB d (Parl.hd l) = 0) (hk : (Parl.hd l).kind = 2) : Parl.term (f + 1) l = match optArgs f l.tail with
    | .inl e => .inl e
    | .inr (ts, l2) => .inr (⟨2, (Parl.hd l).text, ts⟩, l2) := by
  have hb : Parl.begins (Parl.hd l) = true := by simp [Parl.begins, hk]
  rw [Parl.term, if_pos hb, if_neg (by omega), if_pos hk]
  unfold optArgs
  by_cases hs : Parl.sees l.tail [40] = true
  · rw [if_pos hs, if_pos hs]
    rcases Parl.argsOf (Parl.term f) 2 l.tail.tail with e | ⟨ts, l2⟩ <;> rfl
  · rw [if_neg hs, if_neg hs]
theorem term_leaf {f d : Nat} {l : List Parl.Tok} (h : mayB d (Parl.hd l) = 0) (hk : (Parl.hd l).kind = 3 ∨ (Parl.hd l).kind = 4) : Parl.term (f + 1) l = .inr (⟨(Parl.hd l).kind, (Parl.hd l).text, []⟩, l.tail) := by
  have hb : Parl.begins (Parl.hd l) = true := by rcases hk with e | e <;> simp [Parl.begins, e]
  unfold mayB at h
  rw [if_pos hb] at h
  have hc : ¬ ((Parl.hd l).kind = 4 ∧ 6 < (Parl.hd l).text.size) := fun q => by rw [if_pos (Or.inl q)] at h; omega
  rw [Parl.term, if_pos hb, if_neg hc, if_neg (by omega)]
theorem mayB_kind {d : Nat} {t : Parl.Tok} (h : mayB d t = 0) : t.kind = 2 ∨ t.kind = 3 ∨ t.kind = 4 := by
  unfold mayB at h
  by_cases hb : Parl.begins t = true
  · simpa [Parl.begins, or_assoc] using hb
  · rw [if_neg hb] at h; omega

/-- A cell of a block that is neither the reader's nor a row of texts stays. -/
theorem KA.loc {rb : Nat} {W w : World} (hk : KA rb [rb] W w) {b i : Nat} {v : Value} (hc : W.cell? ⟨b, i, none⟩ = some v) (hb : b < W.heap.size) (hne : b ≠ rb) (ht : tyAt W b ≠ some 9) : w.cell? ⟨b, i, none⟩ = some v :=
  (hk.cell (p := ⟨b, i, none⟩) hb (by simpa using hne) (Or.inr ht)).trans hc
theorem KA.locF {rb : Nat} {W w : World} (hk : KA rb [rb] W w) {b i : Nat} (hc : W.frozen? ⟨b, i, none⟩ = false) (hb : b < W.heap.size) (hne : b ≠ rb) (ht : tyAt W b ≠ some 9) : w.frozen? ⟨b, i, none⟩ = false :=
  (hk.frozen (p := ⟨b, i, none⟩) hb (by simpa using hne) (Or.inr ht)).trans hc

/-- The two boxes that 'term' lays: its result's, its first token's. -/
def boxR : Obj := .cells #[.int .i64 0, .int .i64 0, .string ⟨#[]⟩, .slice none 0 0] 52
def boxT (t : Parl.Tok) : Obj := .cells #[.int .i64 (t.kind : Int), .int .i64 (t.pos : Int), .string t.text] 78

/-- What is known of the boxes in a later world. -/
structure Boxes (w : World) (n : Nat) (t : Parl.Tok) : Prop where
  r0 : w.cell? ⟨n, 0, none⟩ = some (.int .i64 0)
  r1 : w.cell? ⟨n, 1, none⟩ = some (.int .i64 0)
  r2 : w.cell? ⟨n, 2, none⟩ = some (.string ⟨#[]⟩)
  r3 : w.cell? ⟨n, 3, none⟩ = some (.slice none 0 0)
  x0 : w.frozen? ⟨n, 0, none⟩ = false
  x1 : w.frozen? ⟨n, 1, none⟩ = false
  x2 : w.frozen? ⟨n, 2, none⟩ = false
  x3 : w.frozen? ⟨n, 3, none⟩ = false
  t0 : w.cell? ⟨n + 1, 0, none⟩ = some (.int .i64 (t.kind : Int))
  t2 : w.cell? ⟨n + 1, 2, none⟩ = some (.string t.text)

theorem boxes {rb : Nat} {w w1 : World} {t : Parl.Tok} (hlt : rb < w.heap.size) (hk : KA rb [rb] ((w.alloc boxR).alloc (boxT t)) w1) : Boxes w1 w.heap.size t := by
  have ty0 : tyAt ((w.alloc boxR).alloc (boxT t)) w.heap.size ≠ some 9 := by
    unfold tyAt; rw [Below.heap_alloc _ _ _ (by simp), heap_alloc_new]; simp [boxR]
  have ty1 : tyAt ((w.alloc boxR).alloc (boxT t)) (w.heap.size + 1) ≠ some 9 := by
    unfold tyAt
    have := heap_alloc_new (w.alloc boxR) (boxT t)
    rw [World.size_alloc] at this
    rw [this]; simp [boxT]
  refine ⟨hk.loc ?_ ?_ ?_ ty0, hk.loc ?_ ?_ ?_ ty0, hk.loc ?_ ?_ ?_ ty0, hk.loc ?_ ?_ ?_ ty0, hk.locF ?_ ?_ ?_ ty0, hk.locF ?_ ?_ ?_ ty0, hk.locF ?_ ?_ ?_ ty0, hk.locF ?_ ?_ ?_ ty0, hk.loc ?_ ?_ ?_ ty1, hk.loc ?_ ?_ ?_ ty1⟩
  all_goals first | (simp; done) | omega | (simp; omega) | (simp [boxR, boxT]; done)
end Go.Proofs.YthfjnfcekeknlaaDoor
namespace Go.Proofs.YthfjnfcekeknlaaDoor
open Go.RowKit

theorem tyAt_setCell (w : World) (a : Addr) (v : Value) (k : Nat) : tyAt (w.setCell a v) k = tyAt w k := by
  unfold tyAt World.setCell
  simp only [Array.getElem?_modify]
  by_cases h : a.block = k
  · rw [if_pos h]
    cases hq : w.heap[k]? with
    | none => rfl
    | some o => cases o <;> rfl
  · rw [if_neg h]
theorem KA.ty {b : Nat} {X : List Nat} {w w' : World} (h : KA b X w w') {k : Nat} (hk : k < w.heap.size) (hX : k ∉ X) (ht : tyAt w k ≠ some 9) : tyAt w' k = tyAt w k := by
  unfold tyAt; rw [h.block k hk hX (Or.inr ht)]

theorem St.setBox {w : World} {rb : Nat} {s : ByteArray} {l : List Parl.Tok} {ns : List ByteArray} {nv : Value} {e : Int} (h : St w rb s l ns nv e) {b : Nat} (hb : b ≠ rb) (h0 : b ≠ 0) (ht : tyAt w b ≠ some 9) (i : Nat) (v : Value) : St (w.setCell ⟨b, i, none⟩ v) rb s l ns nv e := by
  have k : ∀ q, q ≠ b → (w.setCell ⟨b, i, none⟩ v).heap[q]? = w.heap[q]? := fun q hq => Below.heap_setCell _ _ _ _ hq
  have c : ∀ o, (w.setCell ⟨b, i, none⟩ v).cell? ⟨rb, o, none⟩ = w.cell? ⟨rb, o, none⟩ := fun o => World.cell?_of_block (k rb (Ne.symm hb))
  have f : ∀ o, (w.setCell ⟨b, i, none⟩ v).frozen? ⟨rb, o, none⟩ = w.frozen? ⟨rb, o, none⟩ := fun o => World.frozen?_of_block (k rb (Ne.symm hb))
  obtain ⟨⟨c0, c1, c2, c3, c4, c5, f1, f2, f3, f4, f5⟩, own, chain, isn, few, short, signs, pos, lt⟩ := h
  refine ⟨⟨(c 0).trans c0, (c 1).trans c1, (c 2).trans c2, (c 3).trans c3, (c 4).trans c4, (c 5).trans c5, (f 1).trans f1, (f 2).trans f2, (f 3).trans f3, (f 4).trans f4, (f 5).trans f5⟩, ⟨own.1, ?_⟩, chain, isn, few, short, signs.setCell h0 _, pos, by simpa using lt⟩
  rcases own.2 with q | ⟨g, cap, cur, a, b', c', d⟩
  · exact Or.inl q
  · refine Or.inr ⟨g, cap, cur, a, b', ?_, d⟩
    rw [k g (fun e => ht (by rw [← e]; unfold tyAt; rw [c']))]
    exact c'

/-- Storing the result into its box. -/
theorem box_end {w w1 : World} {rb : Nat} {s : ByteArray} {l' : List Parl.Tok} {ns : List ByteArray} {nv : Value} {e : Int} {t : Parl.Tok} (hk : KA rb [rb] ((w.alloc boxR).alloc (boxT t)) w1) (h : St w1 rb s l' ns nv e) (hlt : rb < w.heap.size) (v0 v1 v2 v3 : Value) :
    St ((((w1.setCell ⟨w.heap.size, 0, none⟩ v0).setCell ⟨w.heap.size, 1, none⟩ v1).setCell ⟨w.heap.size, 2, none⟩ v2).setCell ⟨w.heap.size, 3, none⟩ v3) rb s l' ns nv e ∧
    KA rb [rb] w ((((w1.setCell ⟨w.heap.size, 0, none⟩ v0).setCell ⟨w.heap.size, 1, none⟩ v1).setCell ⟨w.heap.size, 2, none⟩ v2).setCell ⟨w.heap.size, 3, none⟩ v3) := by
  have ty0 : tyAt ((w.alloc boxR).alloc (boxT t)) w.heap.size = some 52 := by
    unfold tyAt; rw [Below.heap_alloc _ _ _ (by simp), heap_alloc_new]; simp [boxR]
  have ne : w.heap.size ≠ rb := by omega
  have n0 : w.heap.size ≠ 0 := by omega
  have ty1 : tyAt w1 w.heap.size ≠ some 9 := by
    rw [hk.ty (by simp; omega) (by simpa using ne) (by rw [ty0]; simp), ty0]; simp
  have base : KA rb [rb] w w1 := (((KA.refl rb [rb] w).alloc _).alloc _).trans hk
  refine ⟨?_, (((base.setNew (Nat.le_refl _) _).setNew (Nat.le_refl _) _).setNew (Nat.le_refl _) _).setNew (Nat.le_refl _) _⟩
  have a1 := h.setBox ne n0 ty1 0 v0
  have a2 := a1.setBox ne n0 (by rw [tyAt_setCell]; exact ty1) 1 v1
  have a3 := a2.setBox ne n0 (by rw [tyAt_setCell, tyAt_setCell]; exact ty1) 2 v2
  exact a3.setBox ne n0 (by rw [tyAt_setCell, tyAt_setCell, tyAt_setCell]; exact ty1) 3 v3
end Go.Proofs.YthfjnfcekeknlaaDoor
namespace Go.Proofs.YthfjnfcekeknlaaDoor
open Go.RowKit

set_option maxHeartbeats 1000000 in
/-- A term that may not begin. -/
theorem term_no (w : World) (rb : Nat) (s : ByteArray) (l : List Parl.Tok) (ns : List ByteArray) (nv : Value) (e0 : Int) (f d : Nat) (h : St w rb s l ns nv e0) (hm : mayB d (Parl.hd l) ≠ 0) :
    Calls Tryd.prog 40 #[.pointer (some ⟨rb, 0, none⟩), .int .i64 (d : Int)] w fun e w' => PTerm f rb s ns (Parl.bad (mayB d (Parl.hd l)) l) w e w' := by
  have hb2 : Below w.heap.size w ((w.alloc boxR).alloc (boxT (Parl.hd l))) := ((Below.refl _ _).alloc (Nat.le_refl _) _).alloc (by simp) _
  have H2 := hide (h.below hb2)
  have hlt := h.lt
  unfold boxR boxT at H2
  obtain ⟨⟨c0, c1, c2, c3, c4, c5, f1, f2, f3, f4, f5⟩, own, chain, isn, few, short, signs, pos, lt⟩ := h
  clear own chain isn few short signs hb2
  have hmf : (mayB d (Parl.hd l) == 0) = false := by simpa using hm
  go_enter Tryd.func40, Tryd.ntmps40
  go_wp2_with (go_at_call 64; refine (mayBegin_any _ rb s l ns nv e0 d (unhide H2)).mono ?_; rintro e w1 ⟨rfl, hs, hk⟩; rw [if_neg hm] at hs; obtain ⟨r0, r1, r2, r3, x0, x1, x2, x3, t0, t2⟩ := boxes hlt hk; have HS := hide hs; have HK := hide hk; clear hs hk)
  have R := box_end (unhide HK) (unhide HS) hlt (.int .i64 0) (.int .i64 0) (.string ⟨#[]⟩) (.slice none 0 0)
  refine bodyPost_ret (v := .tuple #[.agg #[.int .i64 0, .int .i64 0, .string ⟨#[]⟩, .slice none 0 0], .bool false]) (by simp [results, Tryd.results40, go_sem, r0, r1, r2, r3]) rfl ?_
  exact ⟨_, _, _, _, _, _, l, ns, nv, rfl, R.1, rfl, R.2⟩

theorem St.tsize {w : World} {rb : Nat} {s : ByteArray} {l : List Parl.Tok} {ns : List ByteArray} {nv : Value} {e : Int} (h : St w rb s l ns nv e) : (Parl.hd l).text.size ≤ 240 := by obtain ⟨p, e⟩ := h.isNext; have h1 := h.short; have h2 := @Parl.next_fits s p; rw [e]; omega
theorem mayB_six {d : Nat} {t : Parl.Tok} (h : mayB d t = 0) (hk : t.kind = 4) : t.text.size ≤ 6 := by
  unfold mayB at h
  split at h
  · split at h
    · cases h
    · omega
  · cases h
theorem ta_var {f : Nat} {ns ns' : List ByteArray} {w w' : World} {x : ByteArray} {i : Int} (hz : x.size ≤ 240) (hn : nmsA ns' = Parl.addN (nmsA ns) x.toList) (hi : i = ((nmsA ns).idxOf x.toList : Int)) : TA (f + 1) ns ns' w w' i ⟨#[]⟩ none 0 ⟨3, x, []⟩ := by
  have hm : x.toList ∈ Parl.addN (nmsA ns) x.toList := by
    unfold Parl.addN
    split
    · assumption
    · simp
  have hx := Parl.addN_idx (nmsA ns) [] x.toList
  rw [List.append_nil] at hx
  exact ⟨RA.one ⟨rfl, rfl, fun _ => ⟨by rw [hn]; exact hm, by rw [hi, hn]; show _ = ((List.idxOf x.toList _ : Nat) : Int); rw [hx]⟩, (fun q => by cases q), (fun q => by cases q), by simp, hz, by simp⟩ rfl, by rw [hn]; simp [Parl.namesF]⟩
theorem ta_num {f : Nat} {ns : List ByteArray} {w w' : World} {x : ByteArray} {i : Int} (hz : x.size ≤ 240) (h6 : x.size ≤ 6) (hi : i = (Parl.numOf x : Int)) : TA (f + 1) ns ns w w' i ⟨#[]⟩ none 0 ⟨4, x, []⟩ :=
  ⟨RA.one ⟨rfl, rfl, (fun q => by cases q), fun _ => ⟨hi, h6, rfl⟩, (fun q => by cases q), by simp, hz, by simp⟩ rfl, by simp [Parl.namesF]⟩
/-- The arguments, seen from ahead of the boxes. -/
def AA1 (f b : Nat) (ns ns' : List ByteArray) (w' : World) (ao : Option Addr) (ts : List Parl.Tm) : Prop :=
  (ts ≠ [] → ∃ (g : Nat) (us : List AV) (cs : Array Value), ao = some ⟨g, 0, none⟩ ∧ b < g ∧ w'.heap[g]? = some (.cells cs 52 (0, 0)) ∧ cs.toList.take (us.length * 4) = us.flatMap avC ∧ All2 (RA f (nmsA ns') (fun g => b < g) w') us ts) ∧ nmsA ns' = ts.foldl (Parl.namesF f) (nmsA ns) ∧ ts.length ≤ 3
theorem AA.up {f : Nat} {ns ns' : List ByteArray} {w0 w w' : World} {o1 o2 : Obj} {ao : Option Addr} {ts : List Parl.Tm} (h : AA f ns ns' w w' ao ts) (hz : ((w0.alloc o1).alloc o2).heap.size ≤ w.heap.size) : AA1 f w0.heap.size ns ns' w' ao ts := by
  have hz' : w0.heap.size + 2 ≤ w.heap.size := by simpa using hz
  refine ⟨fun q => ?_, h.nms, h.few⟩
  obtain ⟨g, us, cs, h1, h2, h3, h4, h5⟩ := h.rows q
  exact ⟨g, us, cs, h1, by omega, h3, h4, h5.imp fun _ _ r => r.imp fun g hg _ => by omega⟩
theorem ta_name {f : Nat} {ns ns' : List ByteArray} {w w3 : World} {x : ByteArray} {ao : Option Addr} {cap : Nat} {ts : List Parl.Tm} {v0 v1 v2 v3 : Value} (hz : x.size ≤ 240) (h : AA1 f w.heap.size ns ns' w3 ao ts) :
    TA (f + 1) ns ns' w ((((w3.setCell ⟨w.heap.size, 0, none⟩ v0).setCell ⟨w.heap.size, 1, none⟩ v1).setCell ⟨w.heap.size, 2, none⟩ v2).setCell ⟨w.heap.size, 3, none⟩ v3) 0 x ao cap ⟨2, x, ts⟩ := by
  obtain ⟨h1, h2, h3⟩ := h
  refine ⟨⟨⟨rfl, rfl, (fun q => by cases q), (fun q => by cases q), fun _ => rfl, by simp, hz, h3⟩, fun q => ?_⟩, by rw [h2]; simp [Parl.namesF]⟩
  obtain ⟨g, us, cs, e1, e2, e3, e4, e5⟩ := h1 q
  have k : ∀ (u : World) (o : Nat) (v : Value), (u.setCell ⟨w.heap.size, o, none⟩ v).heap[g]? = u.heap[g]? := fun u o v => Below.heap_setCell _ _ _ _ (by show g ≠ w.heap.size; omega)
  refine ⟨g, us, cs, e1, by omega, by rw [k, k, k, k]; exact e3, e4, e5.imp fun _ _ r => ?_⟩
  exact ((((r.set (fun g hg => by omega) 0 v0).set (fun g hg => by omega) 1 v1).set (fun g hg => by omega) 2 v2).set (fun g hg => by omega) 3 v3).imp fun g hg _ => by omega

/-- The reader behind a token that has been taken, the boxes laid. -/
theorem few_tail {w : World} {rb : Nat} {s : ByteArray} {l : List Parl.Tok} {ns : List ByteArray} {nv : Value} {e : Int} (h : St w rb s l ns nv e) : ns.length + l.tail.length < 1000 := by
  have := h.few
  rcases l with _ | ⟨a, r⟩
  · exact absurd h.chain (by simp [Parl.Chain])
  · simp at this ⊢; omega

set_option maxHeartbeats 1000000 in
/-- A variable. -/
theorem term_var (w : World) (rb : Nat) (s : ByteArray) (l : List Parl.Tok) (ns : List ByteArray) (nv : Value) (e0 : Int) (d f : Nat) (h : St w rb s l ns nv e0) (hm : mayB d (Parl.hd l) = 0) (hk3 : (Parl.hd l).kind = 3) :
    Calls Tryd.prog 40 #[.pointer (some ⟨rb, 0, none⟩), .int .i64 (d : Int)] w fun e w' => PTerm (f + 1) rb s ns (Parl.term (f + 1) l) w e w' := by
  rw [term_leaf hm (Or.inl hk3), hk3]
  have hb2 : Below w.heap.size w ((w.alloc boxR).alloc (boxT (Parl.hd l))) := ((Below.refl _ _).alloc (Nat.le_refl _) _).alloc (by simp) _
  have H2 := hide (h.below hb2)
  have hfew := few_tail h
  have hlt := h.lt
  have hz := h.tsize
  have hk0 := hide (show (Parl.hd l).kind ≠ 0 by omega)
  unfold boxR boxT at H2
  obtain ⟨⟨c0, c1, c2, c3, c4, c5, f1, f2, f3, f4, f5⟩, own, chain, isn, few, short, signs, pos, lt⟩ := h
  clear own chain isn few short signs hb2
  have hmf : (mayB d (Parl.hd l) == 0) = true := by simpa using hm
  have HK3 := hide hk3
  clear hk3
  go_enter Tryd.func40, Tryd.ntmps40
  go_wp2_with fail
  refine (mayBegin_any _ rb s l ns nv e0 d (unhide H2)).mono ?_
  rintro e w1 ⟨rfl, hs, hk⟩
  rw [if_pos hm] at hs
  have HS := hide hs
  have HK := hide hk
  clear hs hk
  go_wp2_with fail
  refine (take_any _ rb s l ns nv e0 (unhide HS) (unhide hk0)).mono ?_
  rintro e w2 ⟨rfl, hs, hk⟩
  have HS2 := hide hs
  have HK2 := hide ((unhide HK).trans hk)
  clear hs hk HS HK
  obtain ⟨r0, r1, r2, r3, x0, x1, x2, x3, t0, t2⟩ := boxes hlt (unhide HK2)
  rw [unhide HK3] at t0
  go_wp2_with fail
  refine (variable_any _ rb s l.tail ns nv e0 _ (unhide HS2) hfew).mono ?_
  rintro e w3 ⟨ns', nv', rfl, hnm, hs, hk⟩
  have HNM := hide hnm
  generalize hii : (((nmsA ns).idxOf (Parl.hd l).text.toList : Nat) : Int) = i
  have HII := hide hii
  clear hnm hii
  have HS3 := hide hs
  have HK3 := hide ((unhide HK2).trans hk)
  clear hs hk HS2 HK2 r0 r1 r2 r3 x0 x1 x2 x3 t0 t2
  obtain ⟨r0, r1, r2, r3, x0, x1, x2, x3, t0, t2⟩ := boxes hlt (unhide HK3)
  go_wp2_with fail
  have R := box_end (unhide HK3) (unhide HS3) hlt (.int .i64 1) (.int .i64 i) (.string ⟨#[]⟩) (.slice none 0 0)
  refine bodyPost_ret (v := .tuple #[.agg #[.int .i64 1, .int .i64 i, .string ⟨#[]⟩, .slice none 0 0], .bool true]) (by simp [results, Tryd.results40, go_sem, r0, r1, r2, r3]) rfl ?_
  exact ⟨_, _, _, _, ns', nv', e0, rfl, ta_var hz (unhide HNM) (unhide HII).symm, R.1, R.2⟩

set_option maxHeartbeats 1000000 in
/-- A number. -/
theorem term_num (w : World) (rb : Nat) (s : ByteArray) (l : List Parl.Tok) (ns : List ByteArray) (nv : Value) (e0 : Int) (d f : Nat) (h : St w rb s l ns nv e0) (hm : mayB d (Parl.hd l) = 0) (hk4 : (Parl.hd l).kind = 4) :
    Calls Tryd.prog 40 #[.pointer (some ⟨rb, 0, none⟩), .int .i64 (d : Int)] w fun e w' => PTerm (f + 1) rb s ns (Parl.term (f + 1) l) w e w' := by
  rw [term_leaf hm (Or.inr hk4), hk4]
  have hb2 : Below w.heap.size w ((w.alloc boxR).alloc (boxT (Parl.hd l))) := ((Below.refl _ _).alloc (Nat.le_refl _) _).alloc (by simp) _
  have H2 := hide (h.below hb2)
  have hlt := h.lt
  have hz := h.tsize
  have hz6 := mayB_six hm hk4
  have hk0 := hide (show (Parl.hd l).kind ≠ 0 by omega)
  unfold boxR boxT at H2
  obtain ⟨⟨c0, c1, c2, c3, c4, c5, f1, f2, f3, f4, f5⟩, own, chain, isn, few, short, signs, pos, lt⟩ := h
  clear own chain isn few short signs hb2
  have hmf : (mayB d (Parl.hd l) == 0) = true := by simpa using hm
  have HK4 := hide hk4
  clear hk4
  go_enter Tryd.func40, Tryd.ntmps40
  go_wp2_with fail
  refine (mayBegin_any _ rb s l ns nv e0 d (unhide H2)).mono ?_
  rintro e w1 ⟨rfl, hs, hk⟩
  rw [if_pos hm] at hs
  have HS := hide hs
  have HK := hide hk
  clear hs hk
  go_wp2_with fail
  refine (take_any _ rb s l ns nv e0 (unhide HS) (unhide hk0)).mono ?_
  rintro e w2 ⟨rfl, hs, hk⟩
  have HS2 := hide hs
  have HK2 := hide ((unhide HK).trans hk)
  clear hs hk HS HK
  obtain ⟨r0, r1, r2, r3, x0, x1, x2, x3, t0, t2⟩ := boxes hlt (unhide HK2)
  rw [unhide HK4] at t0
  go_wp2_with fail
  refine (valueOf_any _ _ hz6).mono ?_
  rintro e w3 ⟨rfl, rfl⟩
  generalize hii : ((Parl.numOf (Parl.hd l).text : Nat) : Int) = i
  have HII := hide hii
  clear hii
  go_wp2_with fail
  have R := box_end (unhide HK2) (unhide HS2) hlt (.int .i64 2) (.int .i64 i) (.string ⟨#[]⟩) (.slice none 0 0)
  refine bodyPost_ret (v := .tuple #[.agg #[.int .i64 2, .int .i64 i, .string ⟨#[]⟩, .slice none 0 0], .bool true]) (by simp [results, Tryd.results40, go_sem, r0, r1, r2, r3]) rfl ?_
  exact ⟨_, _, _, _, ns, nv, e0, rfl, ta_num hz hz6 (unhide HII).symm, R.1, R.2⟩

set_option maxHeartbeats 1000000 in
/-- A name. -/
theorem term_nam (f : Nat) (IH : ArgsSaid f) (w : World) (rb : Nat) (s : ByteArray) (l : List Parl.Tok) (ns : List ByteArray) (nv : Value) (e0 : Int) (d : Nat) (hfd : f + 1 + d = 9) (h : St w rb s l ns nv e0) (hm : mayB d (Parl.hd l) = 0) (hk2 : (Parl.hd l).kind = 2) :
    Calls Tryd.prog 40 #[.pointer (some ⟨rb, 0, none⟩), .int .i64 (d : Int)] w fun e w' => PTerm (f + 1) rb s ns (Parl.term (f + 1) l) w e w' := by
  rw [term_name hm hk2]
  have hb2 : Below w.heap.size w ((w.alloc boxR).alloc (boxT (Parl.hd l))) := ((Below.refl _ _).alloc (Nat.le_refl _) _).alloc (by simp) _
  have H2 := hide (h.below hb2)
  have hlt := h.lt
  have hz := h.tsize
  have hk0 := hide (show (Parl.hd l).kind ≠ 0 by omega)
  unfold boxR boxT at H2
  have I := hide (fun w (hs : St w rb s l.tail ns nv e0) => IH w rb s l.tail ns nv e0 (d + 1) (by omega) hs)
  generalize optArgs f l.tail = r at I ⊢
  obtain ⟨⟨c0, c1, c2, c3, c4, c5, f1, f2, f3, f4, f5⟩, own, chain, isn, few, short, signs, pos, lt⟩ := h
  clear own chain isn few short signs hb2 IH
  have hmf : (mayB d (Parl.hd l) == 0) = true := by simpa using hm
  have HK2 := hide hk2
  clear hk2
  rcases r with ⟨er, pos⟩ | ⟨ts, l2⟩
  · show Calls _ _ _ _ fun e w' => PTerm (f + 1) rb s ns (.inl (er, pos)) w e w'
    go_enter Tryd.func40, Tryd.ntmps40
    go_wp2_with fail
    refine (mayBegin_any _ rb s l ns nv e0 d (unhide H2)).mono ?_
    rintro e w1 ⟨rfl, hs, hk⟩
    rw [if_pos hm] at hs
    have HS := hide hs
    have HK := hide hk
    clear hs hk
    go_wp2_with fail
    refine (take_any _ rb s l ns nv e0 (unhide HS) (unhide hk0)).mono ?_
    rintro e w2 ⟨rfl, hs, hk⟩
    have HS2 := hide hs
    have HKK := hide ((unhide HK).trans hk)
    clear hs hk HS HK
    obtain ⟨r0, r1, r2, r3, x0, x1, x2, x3, t0, t2⟩ := boxes hlt (unhide HKK)
    rw [unhide HK2] at t0
    go_wp2_with fail
    rw [show ((d : Int) + 1) = ((d + 1 : Nat) : Int) by omega]
    refine (unhide I _ (unhide HS2)).mono ?_
    clear r0 r1 r2 r3 x0 x1 x2 x3 t0 t2
    rintro e w3 ⟨l', ns', nv', ao, n, cap, rfl, hs, hpos, hk⟩
    have HS3 := hide hs
    have HK3 := hide ((unhide HKK).trans hk)
    have HP := hide hpos
    clear hs hk HS2 HKK hpos
    obtain ⟨r0, r1, r2, r3, x0, x1, x2, x3, t0, t2⟩ := boxes hlt (unhide HK3)
    go_wp2_with fail
    have R := box_end (unhide HK3) (unhide HS3) hlt (.int .i64 3) (.int .i64 0) (.string (Parl.hd l).text) (.slice ao n cap)
    refine bodyPost_ret (v := .tuple #[.agg #[.int .i64 3, .int .i64 0, .string (Parl.hd l).text, .slice ao n cap], .bool false]) (by simp [results, Tryd.results40, go_sem, r0, r1, r2, r3]) rfl ?_
    exact ⟨_, _, _, _, _, _, l', ns', nv', rfl, R.1, unhide HP, R.2⟩
  · show Calls _ _ _ _ fun e w' => PTerm (f + 1) rb s ns (.inr (⟨2, (Parl.hd l).text, ts⟩, l2)) w e w'
    go_enter Tryd.func40, Tryd.ntmps40
    go_wp2_with fail
    refine (mayBegin_any _ rb s l ns nv e0 d (unhide H2)).mono ?_
    rintro e w1 ⟨rfl, hs, hk⟩
    rw [if_pos hm] at hs
    have HS := hide hs
    have HK := hide hk
    clear hs hk
    go_wp2_with fail
    refine (take_any _ rb s l ns nv e0 (unhide HS) (unhide hk0)).mono ?_
    rintro e w2 ⟨rfl, hs, hk⟩
    have HS2 := hide hs
    have HKK := hide ((unhide HK).trans hk)
    clear hs hk HS HK
    obtain ⟨r0, r1, r2, r3, x0, x1, x2, x3, t0, t2⟩ := boxes hlt (unhide HKK)
    rw [unhide HK2] at t0
    go_wp2_with fail
    rw [show ((d : Int) + 1) = ((d + 1 : Nat) : Int) by omega]
    refine (unhide I _ (unhide HS2)).mono ?_
    clear r0 r1 r2 r3 x0 x1 x2 x3 t0 t2
    rintro e w3 ⟨ao, cap, ns', nv', e', rfl, haa, hs, hk⟩
    have HAA := hide (haa.up (unhide HKK).size)
    clear haa
    have HS3 := hide hs
    have HK3 := hide ((unhide HKK).trans hk)
    clear hs hk HS2 HKK
    obtain ⟨r0, r1, r2, r3, x0, x1, x2, x3, t0, t2⟩ := boxes hlt (unhide HK3)
    go_wp2_with fail
    have R := box_end (unhide HK3) (unhide HS3) hlt (.int .i64 3) (.int .i64 0) (.string (Parl.hd l).text) (.slice ao ts.length cap)
    refine bodyPost_ret (v := .tuple #[.agg #[.int .i64 3, .int .i64 0, .string (Parl.hd l).text, .slice ao ts.length cap], .bool true]) (by simp [results, Tryd.results40, go_sem, r0, r1, r2, r3]) rfl ?_
    exact ⟨_, _, _, _, ns', nv', e', rfl, ta_name hz (unhide HAA), R.1, R.2⟩

theorem term_step (f : Nat) (IH : ArgsSaid f) : TermSaid (f + 1) := by
  intro w rb s l ns nv e0 d hfd h
  by_cases hm : mayB d (Parl.hd l) = 0
  · rcases mayB_kind hm with hk | hk | hk
    · exact term_nam f IH w rb s l ns nv e0 d hfd h hm hk
    · exact term_var w rb s l ns nv e0 d f h hm hk
    · exact term_num w rb s l ns nv e0 d f h hm hk
  · rw [term_bad (by omega) hm]
    exact term_no w rb s l ns nv e0 _ d h hm
theorem term_none : TermSaid 0 := by
  intro w rb s l ns nv e0 d hfd h
  obtain rfl : d = 9 := by omega
  rw [term_zero]
  exact term_no w rb s l ns nv e0 0 9 h (mayB9 _)
end Go.Proofs.YthfjnfcekeknlaaDoor
namespace Go.Proofs.YthfjnfcekeknlaaDoor
open Go.RowKit

theorem Tryd.info52 : (Tryd.prog.info? 52).map (fun i => (i.zero, i.size, i.bytes)) = some (some (.agg #[.int .i64 0, .int .i64 0, .string ⟨#[]⟩, .slice none 0 0]), 4, 56) := by kernel_rfl

theorem own_ka {rb b0 : Nat} {w w1 : World} {T : TypeId} {sz : Nat} {v : Value} {n : Nat} {xs : List Value} (h : w.ownsRow b0 T sz v n xs) (hk : KA rb [rb] w w1) (hb : rb < b0) (hT : T ≠ 9) : w1.ownsRow b0 T sz v n xs :=
  ⟨h.1, h.2.imp id fun ⟨g, cap, cur, a, b, c, d⟩ => ⟨g, cap, cur, a, b, (hk.block g (Array.getElem?_eq_some_iff.1 c).1 (by simp; omega) (Or.inr (by unfold tyAt; rw [c]; simpa using hT))).trans c, d⟩⟩

theorem St.grown {w w2 : World} {rb : Nat} {s : ByteArray} {l : List Parl.Tok} {ns : List ByteArray} {nv : Value} {e : Int} {row : Option Nat} (h : St w rb s l ns nv e) (hg : w.grownBy w2 row) (hr : ∀ k, row = some k → rb < k ∧ tyAt w k ≠ some 9) : St w2 rb s l ns nv e := by
  have k : ∀ q, q < w.heap.size → some q ≠ row → w2.heap[q]? = w.heap[q]? := hg.block
  have hrb := k rb h.lt (fun e => by have := (hr rb e.symm).1; omega)
  have h0 := k 0 (by have := h.lt; omega) (fun e => by have := (hr 0 e.symm).1; omega)
  have c : ∀ o, w2.cell? ⟨rb, o, none⟩ = w.cell? ⟨rb, o, none⟩ := fun o => World.cell?_of_block hrb
  have f : ∀ o, w2.frozen? ⟨rb, o, none⟩ = w.frozen? ⟨rb, o, none⟩ := fun o => World.frozen?_of_block hrb
  have z : ∀ o, w2.cell? ⟨0, o, none⟩ = w.cell? ⟨0, o, none⟩ := fun o => World.cell?_of_block h0
  obtain ⟨⟨c0, c1, c2, c3, c4, c5, f1, f2, f3, f4, f5⟩, own, chain, isn, few, short, signs, pos, lt⟩ := h
  refine ⟨⟨(c 0).trans c0, (c 1).trans c1, (c 2).trans c2, (c 3).trans c3, (c 4).trans c4, (c 5).trans c5, (f 1).trans f1, (f 2).trans f2, (f 3).trans f3, (f 4).trans f4, (f 5).trans f5⟩, ⟨own.1, ?_⟩, chain, isn, few, short, ⟨(z 0).trans signs.s0, (z 1).trans signs.s1, (z 2).trans signs.s2, (z 3).trans signs.s3, (z 4).trans signs.s4⟩, pos, by have := hg.size; omega⟩
  rcases own.2 with q | ⟨g, cap, cur, a, b', c', d⟩
  · exact Or.inl q
  · refine Or.inr ⟨g, cap, cur, a, b', ?_, d⟩
    rw [k g (Array.getElem?_eq_some_iff.1 c').1 (fun e => (hr g e.symm).2 (by unfold tyAt; rw [c']))]
    exact c'

/-- So many have been read already. -/
def pre (ts : List Parl.Tm) (r : Parl.Res (List Parl.Tm)) : Parl.Res (List Parl.Tm) := match r with
  | .inl e => .inl e
  | .inr (us, l2) => .inr (ts ++ us, l2)
theorem pre_nil (r : Parl.Res (List Parl.Tm)) : r = pre [] r := by rcases r with e | ⟨us, l2⟩ <;> rfl

theorem args_bad {p : List Parl.Tok → Parl.Res Parl.Tm} {k : Nat} {l : List Parl.Tok} {er : Nat × Nat} (h : p l = .inl er) : Parl.argsOf p k l = .inl er := by
  unfold Parl.argsOf; rw [h]
theorem args_end {p : List Parl.Tok → Parl.Res Parl.Tm} {k : Nat} {l l1 : List Parl.Tok} {t : Parl.Tm} (h : p l = .inr (t, l1)) (hc : Parl.sees l1 [44] = false) : Parl.argsOf p k l = if Parl.sees l1 [41] = true then .inr ([t], l1.tail) else Parl.bad 2 l1 := by
  unfold Parl.argsOf; rw [h]; simp only [hc]; rfl
theorem args_many {p : List Parl.Tok → Parl.Res Parl.Tm} {l l1 : List Parl.Tok} {t : Parl.Tm} (h : p l = .inr (t, l1)) (hc : Parl.sees l1 [44] = true) : Parl.argsOf p 0 l = Parl.bad 3 l1 := by
  unfold Parl.argsOf; rw [h]; simp only [hc]; rfl
theorem args_more {p : List Parl.Tok → Parl.Res Parl.Tm} {k : Nat} {l l1 : List Parl.Tok} {t : Parl.Tm} (h : p l = .inr (t, l1)) (hc : Parl.sees l1 [44] = true) (ts : List Parl.Tm) : pre ts (Parl.argsOf p (k + 1) l) = pre (ts ++ [t]) (Parl.argsOf p k l1.tail) := by
  conv => lhs; unfold Parl.argsOf
  rw [h]; simp only [hc]
  rcases Parl.argsOf p k l1.tail with e | ⟨us, l2⟩
  · rfl
  · simp [pre]
end Go.Proofs.YthfjnfcekeknlaaDoor
namespace Go.Proofs.YthfjnfcekeknlaaDoor
open Go.RowKit

theorem new_four (W : World) (o : Obj) (a b c d : Value) (T : TypeId) : ∀ j u, ([a, b, c, d] : List Value)[j]? = some u → ((W.alloc o).alloc (.cells #[a, b, c, d] T)).cell? ((⟨W.heap.size + 1, 0, none⟩ : Addr).add j) = some u := by
  intro j u hj
  match j, hj with
  | 0, hj => simp at hj; subst hj; simp [Addr.add]
  | 1, hj => simp at hj; subst hj; simp [Addr.add]
  | 2, hj => simp at hj; subst hj; simp [Addr.add]
  | 3, hj => simp at hj; subst hj; simp [Addr.add]
theorem four_one (a b : Int) (c : ByteArray) (ao : Option Addr) (n cap : Nat) : ∀ u ∈ ([.int .i64 a, .int .i64 b, .string c, .slice ao n cap] : List Value), u.oneCell' = true := by
  intro u hu; simp at hu; rcases hu with rfl | rfl | rfl | rfl <;> rfl
/-- Behind the append of an argument. -/
theorem arg_grown {w w2 w3 : World} {rb : Nat} {s : ByteArray} {l : List Parl.Tok} {ns : List ByteArray} {nv : Value} {e : Int} {v : Value} {n : Nat} {xs : List Value} {o1 o2 : Obj} {T : TypeId} {sz : Nat} (h : St w2 rb s l ns nv e) (hk : KA rb [rb] w w2) (ho : w2.ownsRow w.heap.size T sz v n xs) (hlt : rb < w.heap.size) (hg : ((w2.alloc o1).alloc o2).grownBy w3 v.ownBlock) (hT : T ≠ 9 := by decide) :
    St w3 rb s l ns nv e ∧ KA rb [rb] w w3 := by
  have hb : Below w2.heap.size w2 ((w2.alloc o1).alloc o2) := ((Below.refl _ _).alloc (Nat.le_refl _) _).alloc (by simp) _
  have hty : ∀ k, v.ownBlock = some k → tyAt ((w2.alloc o1).alloc o2) k ≠ some 9 := fun k hk' => by
    have := ho.lt k hk'
    rcases ho.2 with ⟨rfl, _⟩ | ⟨g, cap, cur, rfl, _, c, _⟩
    · simp [Value.ownBlock] at hk'
    · simp [Value.ownBlock] at hk'
      subst hk'
      unfold tyAt; rw [hb.block g this.2, c]; simpa using hT
  refine ⟨(h.below hb).grown hg (fun k q => ⟨by have := (ho.lt k q).1; omega, hty k q⟩), ((hk.alloc o1).alloc o2).grown hg (fun k q => Or.inl (ho.lt k q).1)⟩

/-- The arguments so far lie there, and not in the row that grows. -/
def ArgRep (f : Nat) (w : World) (ns0 ns : List ByteArray) (v : Value) (wr : World) (us : List AV) (ts : List Parl.Tm) : Prop :=
  All2 (RA f (nmsA ns) (fun g => w.heap.size ≤ g ∧ some g ≠ v.ownBlock) wr) us ts ∧ nmsA ns = ts.foldl (Parl.namesF f) (nmsA ns0)
theorem ArgRep.keep {f : Nat} {w : World} {ns0 ns : List ByteArray} {v : Value} {wr w2 : World} {us : List AV} {ts : List Parl.Tm} (h : ArgRep f w ns0 ns v wr us ts) (hk : KeepA wr w2) : ArgRep f w ns0 ns v w2 us ts :=
  ⟨h.1.imp fun _ _ r => r.keep fun g cs hp hc hi => ⟨hk g cs hc hi, hp⟩, h.2⟩
theorem ArgRep.next {f rb : Nat} {w : World} {ns0 ns1 ns2 : List ByteArray} {v nv : Value} {wr w2 : World} {us : List AV} {ts : List Parl.Tm} {s : ByteArray} {l : List Parl.Tok} {e : Int} {T : TypeId} {sz n : Nat} {xs : List Value} {val : Int} {tx : ByteArray} {ao : Option Addr} {cap : Nat} {t : Parl.Tm}
    (h : ArgRep f w ns0 ns1 v wr us ts) (hs : St wr rb s l ns1 nv e) (hk : KA rb [rb] wr w2) (ho : wr.ownsRow w.heap.size T sz v n xs) (hw : w.heap.size ≤ wr.heap.size) (ht : TA f ns1 ns2 wr w2 val tx ao cap t) :
    ArgRep f w ns0 ns2 v w2 (us ++ [⟨ak t.kind, val, tx, ao, t.args.length, cap⟩]) (ts ++ [t]) := by
  obtain ⟨M, hM, _⟩ := Parl.namesF_ext f t ht.rep.ok3 (nmsA ns1)
  have he : nmsA ns2 = nmsA ns1 ++ M := ht.nms.trans hM
  refine ⟨All2.snoc ?_ ?_, by rw [List.foldl_append, ← h.2]; exact ht.nms⟩
  · exact ht.rep.imp fun g hg _ => ⟨by omega, fun q => by have := (ho.lt g q.symm).2; omega⟩
  · rw [he]
    exact (h.keep (KeepA.ka hs hk)).1.imp fun _ _ r => r.more M
theorem ArgRep.grown {f : Nat} {w : World} {ns0 ns : List ByteArray} {v v' : Value} {w2 w3 : World} {us : List AV} {ts : List Parl.Tm} {o1 o2 : Obj} (h : ArgRep f w ns0 ns v w2 us ts) (hg : ((w2.alloc o1).alloc o2).grownBy w3 v.ownBlock) (hat : v'.ownBlock = v.ownBlock ∨ v'.ownBlock = some ((w2.alloc o1).alloc o2).heap.size) : ArgRep f w ns0 ns v' w3 us ts := by
  have hb : Below w2.heap.size w2 ((w2.alloc o1).alloc o2) := ((Below.refl _ _).alloc (Nat.le_refl _) _).alloc (by simp) _
  have hz : w2.heap.size ≤ ((w2.alloc o1).alloc o2).heap.size := hb.size
  refine ⟨h.1.imp fun _ _ r => r.keep fun g cs hp hc hi => ?_, h.2⟩
  have hlt : g < w2.heap.size := (Array.getElem?_eq_some_iff.1 hc).1
  refine ⟨((hg.block g (by omega) hp.2).trans (hb.block g hlt)).trans hc, hp.1, fun q => ?_⟩
  rcases hat with a | a
  · exact hp.2 (q.trans a)
  · rw [a] at q
    injection q with q
    omega
theorem ArgRep.done {f : Nat} {w : World} {ns0 ns : List ByteArray} {g cap : Nat} {wr : World} {us : List AV} {ts : List Parl.Tm} (h : ArgRep f w ns0 ns (.slice (some ⟨g, 0, none⟩) ts.length cap) wr us ts) (ho : wr.ownsRow w.heap.size 52 4 (.slice (some ⟨g, 0, none⟩) ts.length cap) ts.length (us.flatMap avC)) (h3 : ts.length ≤ 3) : AA f ns0 ns w wr (some ⟨g, 0, none⟩) ts := by
  refine ⟨fun _ => ?_, h.2, h3⟩
  rcases ho.2 with ⟨q, _⟩ | ⟨g', cap', cur, q, hb, hc, _, _, _, ht⟩
  · cases q
  · simp only [Value.slice.injEq, Option.some.injEq, Addr.mk.injEq, and_true, true_and] at q
    obtain ⟨rfl, rfl⟩ := q
    exact ⟨g, us, cur, rfl, hb, hc, by rw [h.1.length]; exact ht, h.1.imp fun _ _ r => r.imp fun _ q _ => q.1⟩
/-- The loop's relation. -/
def ArgRel (w : World) (rb : Nat) (s : ByteArray) (f : Nat) (l0 : List Parl.Tok) (ns0 : List ByteArray) (v : Value) (wr : World) : Prop :=
  ∃ (ts : List Parl.Tm) (us : List AV) (l : List Parl.Tok) (ns : List ByteArray) (nv : Value) (e : Int), St wr rb s l ns nv e ∧ wr.ownsRow w.heap.size 52 4 v ts.length (us.flatMap avC) ∧ ts.length ≤ 2 ∧
    Parl.argsOf (Parl.term f) 2 l0 = pre ts (Parl.argsOf (Parl.term f) (2 - ts.length) l) ∧ KA rb [rb] w wr ∧ ArgRep f w ns0 ns v wr us ts
def lenOf : Value → Nat | .slice _ n _ => n | _ => 0

theorem own_len {w : World} {b : Nat} {e : TypeId} {sz : Nat} {v : Value} {n : Nat} {xs : List Value} (h : w.ownsRow b e sz v n xs) : lenOf v = n := by
  rcases h.2 with ⟨rfl, q⟩ | ⟨g, cap, cur, rfl, _⟩
  · exact q.symm
  · rfl

set_option maxHeartbeats 2000000 in
set_option maxRecDepth 100000 in
theorem args_step (f : Nat) (IH : TermSaid f) : ArgsSaid f := by
  intro w rb s l ns nv e0 d hfd h
  obtain ⟨i0, hi, hz0, hz1, hz2⟩ := info_parts Tryd.info52
  have H := hide h
  have hlt := h.lt
  cases hs0 : Parl.sees l [40]
  · have HO := hide (show optArgs f l = .inr ([], l) by unfold optArgs; rw [hs0]; rfl)
    go_enter Tryd.func67, Tryd.ntmps67
    go_wp2_with (go_at_call 59; refine (sees_any _ rb s l ns nv e0 _ (unhide H)).mono ?_; rintro e w1 ⟨rfl, rfl⟩; simp only [ByteArray.toList_mk])
    go_ret2
    refine (?_ : PArgs f rb s ns (optArgs f l) w1 _ _)
    rw [unhide HO]
    exact ⟨none, 0, ns, nv, e0, rfl, ⟨fun q => absurd rfl q, rfl, by simp⟩, unhide H, KA.refl _ _ _⟩
  · have HO := hide (show optArgs f l = Parl.argsOf (Parl.term f) 2 l.tail by unfold optArgs; rw [hs0]; rfl)
    have hk0 := hide (show (Parl.hd l).kind ≠ 0 by rw [Parl.sees_kind hs0]; omega)
    rw [unhide HO]
    clear HO
    go_enter Tryd.func67, Tryd.ntmps67
    go_wp2_with fail
    refine (sees_any _ rb s l ns nv e0 _ (unhide H)).mono ?_
    rintro e w1 ⟨rfl, hw⟩
    rw [hw]
    simp only [ByteArray.toList_mk]
    rw [hs0]
    clear hw w1
    go_wp2_with fail
    refine (take_any _ rb s l ns nv e0 (unhide H) (unhide hk0)).mono ?_
    rintro e w1 ⟨rfl, hs1, hk1⟩
    have HS1 := hide hs1
    have HK1 := hide hk1
    clear hs1 hk1
    go_wp2_with fail
    go_loopw [6] (fun v wr => ArgRel w rb s f l.tail ns v wr) (fun v _ => 2 - lenOf v)
    case atStart => exact ⟨[], [], l.tail, ns, nv, e0, unhide HS1, World.ownsRow_nil _ _ _ _, by simp, pre_nil _, unhide HK1, trivial, rfl⟩
    case round =>
      obtain ⟨ts, us, l1, ns1, nv1, e1, hst, hown, hts, hpre, hka, hrep⟩ := hrel
      have HREP := hide hrep
      have HST := hide hst
      have HOWN := hide hown
      have HLEN := hide (own_len hown)
      have HPRE := hide hpre
      have HKA := hide hka
      clear hst hown hpre hka hrep
      have I := hide (IH wr rb s l1 ns1 nv1 e1 d hfd (unhide HST))
      generalize hr : Parl.term f l1 = r at I
      have HR := hide hr
      clear hr
      rcases r with ⟨er, pos⟩ | ⟨t, l2⟩
      · have HF : Hid (Parl.argsOf (Parl.term f) 2 l.tail = .inl (er, pos)) := (unhide HPRE).trans (by rw [args_bad (unhide HR)]; rfl)
        go_wp2_with fail
        refine (unhide I).mono ?_
        rintro e w2 ⟨k, val, tx, ao, n, cap, l', ns', nv', rfl, hs2, hpos, hk2⟩
        have HS2 := hide hs2
        have HP := hide hpos
        have HK2 := hide ((unhide HKA).trans hk2)
        clear hs2 hpos hk2
        go_wp2_with fail
        go_ret2
        refine (?_ : PArgs f rb s ns _ w _ _)
        rw [unhide HF]
        exact ⟨l', ns', nv', none, 0, 0, rfl, (unhide HS2).below ((Below.refl _ _).alloc (Nat.le_refl _) _), unhide HP, (unhide HK2).alloc _⟩
      · go_wp2_with fail
        refine (unhide I).mono ?_
        rintro e w2 ⟨val, tx, ao, cap, ns2, nv2, e2, rfl, htx, hs2, hk2⟩
        have HREP2 := hide ((unhide HREP).next (unhide HST) hk2 (unhide HOWN) (unhide HKA).size htx)
        have HS2 := hide hs2
        have HO2 := hide (own_ka (unhide HOWN) hk2 hlt (by decide))
        have HK2 := hide ((unhide HKA).trans hk2)
        have hlt2 : w.heap.size ≤ w2.heap.size := (unhide HK2).size
        clear hs2 hk2 htx
        go_wp2_with (first | (at_builtin; refine wpList_append_own_at _ rfl (.tmp 23) (.tmp 25) 50 rfl w.heap.size 52 i0 (.agg #[.int .i64 0, .int .i64 0, .string ⟨#[]⟩, .slice none 0 0]) 4 56 Tryd.underlying50 hi hz0 hz1 hz2 rfl (by decide) _ ts.length (us.flatMap avC) rfl (((unhide HO2).alloc _).alloc _) ⟨w2.heap.size + 1, 0, none⟩ 1 1 [.int .i64 (ak t.kind), .int .i64 val, .string tx, .slice ao t.args.length cap] rfl rfl (new_four _ _ _ _ _ _ _) (four_one _ _ _ _ _ _) (by unfold maxLen; omega) (by omega) (by simp; omega) ?_; intro v' w3 hown' hgrow _ hat; have HREP3 := hide ((unhide HREP2).grown hgrow hat); clear hat; have HOWN3 := hide hown'; have R3 := hide (arg_grown (unhide HS2) (unhide HK2) (unhide HO2) hlt hgrow); obtain ⟨g', cap', hv, hcm⟩ := own_some hown'; rw [hv] at HOWN3 HREP3 ⊢; clear hown' hgrow hv))
        have HS3 := hide (unhide R3).1
        have HK3 := hide (unhide R3).2
        clear R3
        cases hc : Parl.sees l2 [44]
        · have HF := hide ((unhide HPRE).trans (by rw [args_end (unhide HR) hc]))
          refine (sees_any _ rb s l2 ns2 nv2 e2 _ (unhide HS3)).mono ?_
          rintro e w4 ⟨rfl, hw⟩
          rw [hw]
          simp only [ByteArray.toList_mk]
          rw [hc]
          clear hw w4
          go_wp2_with fail
          refine (sees_any _ rb s l2 ns2 nv2 e2 _ (unhide HS3)).mono ?_
          rintro e w4 ⟨rfl, hw⟩
          rw [hw]
          simp only [ByteArray.toList_mk]
          clear hw w4
          cases hb : Parl.sees l2 [41]
          · rw [hb] at HF
            go_wp2_with fail
            refine (takeIf_any _ rb s l2 ns2 nv2 e2 false (unhide HS3) (fun q => by cases q)).mono ?_
            rintro e w4 ⟨rfl, hs4, hk4⟩
            have HS4 := hide hs4
            have HK4 := hide ((unhide HK3).trans hk4)
            clear hs4 hk4
            go_wp2_with fail
            go_ret2
            refine (?_ : PArgs f rb s ns _ w _ _)
            rw [unhide HF]
            exact ⟨l2, ns2, nv2, _, _, _, rfl, unhide HS4, rfl, unhide HK4⟩
          · rw [hb] at HF
            have hk5 := hide (show (Parl.hd l2).kind ≠ 0 by rw [Parl.sees_kind hb]; omega)
            go_wp2_with fail
            refine (takeIf_any _ rb s l2 ns2 nv2 e2 true (unhide HS3) (fun _ => unhide hk5)).mono ?_
            rintro e w4 ⟨rfl, hs4, hk4⟩
            have HKP4 := hide (KeepA.ka (unhide HS3) hk4)
            have HO4 := hide (own_ka (unhide HOWN3) hk4 hlt (by decide))
            have HS4 := hide hs4
            have HK4 := hide ((unhide HK3).trans hk4)
            clear hs4 hk4
            go_wp2_with fail
            go_ret2
            refine (?_ : PArgs f rb s ns _ w _ _)
            rw [unhide HF]
            exact ⟨some ⟨g', 0, none⟩, cap', ns2, nv2, e2, by simp, ArgRep.done (by simpa using (unhide HREP3).keep (unhide HKP4)) (by simpa [avC] using unhide HO4) (by simp; omega), unhide HS4, unhide HK4⟩
        · have hk5 := hide (show (Parl.hd l2).kind ≠ 0 by rw [Parl.sees_kind hc]; omega)
          refine (sees_any _ rb s l2 ns2 nv2 e2 _ (unhide HS3)).mono ?_
          rintro e w4 ⟨rfl, hw⟩
          rw [hw]
          simp only [ByteArray.toList_mk]
          rw [hc]
          clear hw w4
          go_wp2_with fail
          rw [show ((ts.length : Int) + 1) = ((ts.length + 1 : Nat) : Int) by omega]
          refine (comma_any _ rb s l2 ns2 nv2 e2 (ts.length + 1) 3 (unhide HS3) (unhide hk5)).mono ?_
          by_cases hn : ts.length + 1 < 3
          · have HF := hide ((unhide HPRE).trans (by rw [show 2 - ts.length = (2 - (ts.length + 1)) + 1 by omega, args_more (unhide HR) hc]))
            rw [if_pos hn, if_pos hn, decide_eq_true hn]
            rintro e w4 ⟨rfl, hs4, hk4⟩
            have HS4 := hide hs4
            have HKP4 := hide (KeepA.ka (unhide HS3) hk4)
            have HO4 := hide (own_ka (unhide HOWN3) hk4 hlt (by decide))
            have HK4 := hide ((unhide HK3).trans hk4)
            clear hs4 hk4
            go_wp2_with fail
            go_roundw
            case rel => exact ⟨ts ++ [t], us ++ [⟨ak t.kind, val, tx, ao, t.args.length, cap⟩], l2.tail, ns2, nv2, e2, unhide HS4, by simpa [avC] using unhide HO4, by simp; omega, by simpa using unhide HF, unhide HK4, (unhide HREP3).keep (unhide HKP4)⟩
            case measure => show 2 - (ts.length + 1) < 2 - lenOf _; rw [unhide HLEN]; omega
          · have h0 : ts.length = 2 := by omega
            have HF := hide ((unhide HPRE).trans (by rw [show 2 - ts.length = 0 by omega, args_many (unhide HR) hc]))
            rw [if_neg hn, if_neg hn, decide_eq_false hn]
            rintro e w4 ⟨rfl, hs4, hk4⟩
            have HS4 := hide hs4
            have HK4 := hide ((unhide HK3).trans hk4)
            clear hs4 hk4 h0
            go_wp2_with fail
            go_ret2
            refine (?_ : PArgs f rb s ns _ w _ _)
            rw [unhide HF]
            exact ⟨l2, ns2, nv2, _, _, _, rfl, unhide HS4, rfl, unhide HK4⟩

theorem term_all : ∀ f, TermSaid f
  | 0 => term_none
  | f + 1 => term_step f (args_step f (term_all f))
end Go.Proofs.YthfjnfcekeknlaaDoor
namespace Go.Proofs.YthfjnfcekeknlaaDoor
open Go.RowKit

/-- A block that is written out: its cells. -/
theorem blkC {w : World} {b : Nat} {cs : Array Value} {T : TypeId} (h : w.heap[b]? = some (.cells cs T (0, 0))) (i : Nat) {v : Value} (hv : cs[i]? = some v) : w.cell? ⟨b, i, none⟩ = some v := by
  simp [World.cell?, h, hv]
theorem blkF {w : World} {b : Nat} {cs : Array Value} {T : TypeId} (h : w.heap[b]? = some (.cells cs T (0, 0))) (i : Nat) : w.frozen? ⟨b, i, none⟩ = false := by
  simp [World.frozen?, h]
theorem blkA {w : World} {b : Nat} {cs : Array Value} {T : TypeId} (h : w.heap[b]? = some (.cells cs T (0, 0))) : ∀ i, w.cell? ⟨b, i, none⟩ = cs[i]? := fun i => by
  simp [World.cell?, h]
theorem blkX {w : World} {b : Nat} {cs : Array Value} {T : TypeId} (h : w.heap[b]? = some (.cells cs T (0, 0))) : ∀ i, w.frozen? ⟨b, i, none⟩ = false := fun i => blkF h i
theorem blk_new (w : World) (cs : Array Value) (T : TypeId) : (w.alloc (.cells cs T)).heap[w.heap.size]? = some (.cells cs T (0, 0)) := heap_alloc_new w _
theorem blk_alloc {w : World} {b : Nat} {x : Obj} (h : w.heap[b]? = some x) (o : Obj) : (w.alloc o).heap[b]? = some x := by
  rw [Below.heap_alloc _ _ _ (Array.getElem?_eq_some_iff.1 h).1]; exact h
theorem blk_ka {w w' : World} {rb b : Nat} {X : List Nat} {cs : Array Value} {T : TypeId} (hk : KA rb X w w') (h : w.heap[b]? = some (.cells cs T (0, 0))) (hb : b ∉ X) (hT : T ≠ 9 := by decide) : w'.heap[b]? = some (.cells cs T (0, 0)) :=
  (hk.block b (Array.getElem?_eq_some_iff.1 h).1 hb (Or.inr (by unfold tyAt; rw [h]; simpa using hT))).trans h
theorem blk_lt {w : World} {b : Nat} {x : Obj} (h : w.heap[b]? = some x) : b < w.heap.size := (Array.getElem?_eq_some_iff.1 h).1

/-- Only block b has turned. -/
structure OnlyB (b : Nat) (w w' : World) : Prop where
  os : w'.os = w.os
  tape : w'.tape = w.tape
  output : w'.output = w.output
  size : w'.heap.size = w.heap.size
  block : ∀ k, k ≠ b → w'.heap[k]? = w.heap[k]?
  ty : ∀ k, tyAt w' k = tyAt w k
theorem OnlyB.refl (b : Nat) (w : World) : OnlyB b w w := ⟨rfl, rfl, rfl, rfl, fun _ _ => rfl, fun _ => rfl⟩
theorem OnlyB.set {b : Nat} {a w : World} (h : OnlyB b a w) (i : Nat) (v : Value) : OnlyB b a (w.setCell ⟨b, i, none⟩ v) :=
  ⟨h.os, h.tape, h.output, by simp [World.setCell]; exact h.size, fun k hk => (Below.heap_setCell _ _ _ _ hk).trans (h.block k hk), fun k => (tyAt_setCell _ _ _ _).trans (h.ty k)⟩

theorem St.only {w w' : World} {rb : Nat} {s : ByteArray} {l : List Parl.Tok} {ns : List ByteArray} {nv : Value} {e : Int} {b : Nat} (h : St w rb s l ns nv e) (ho : OnlyB b w w') (hb : b ≠ rb) (h0 : b ≠ 0) (ht : tyAt w b ≠ some 9) : St w' rb s l ns nv e := by
  have k := ho.block
  have c : ∀ o, w'.cell? ⟨rb, o, none⟩ = w.cell? ⟨rb, o, none⟩ := fun o => World.cell?_of_block (k rb (Ne.symm hb))
  have f : ∀ o, w'.frozen? ⟨rb, o, none⟩ = w.frozen? ⟨rb, o, none⟩ := fun o => World.frozen?_of_block (k rb (Ne.symm hb))
  have z : ∀ o, w'.cell? ⟨0, o, none⟩ = w.cell? ⟨0, o, none⟩ := fun o => World.cell?_of_block (k 0 (Ne.symm h0))
  obtain ⟨⟨c0, c1, c2, c3, c4, c5, f1, f2, f3, f4, f5⟩, own, chain, isn, few, short, signs, pos, lt⟩ := h
  refine ⟨⟨(c 0).trans c0, (c 1).trans c1, (c 2).trans c2, (c 3).trans c3, (c 4).trans c4, (c 5).trans c5, (f 1).trans f1, (f 2).trans f2, (f 3).trans f3, (f 4).trans f4, (f 5).trans f5⟩, ⟨own.1, ?_⟩, chain, isn, few, short, ⟨(z 0).trans signs.s0, (z 1).trans signs.s1, (z 2).trans signs.s2, (z 3).trans signs.s3, (z 4).trans signs.s4⟩, pos, by rw [ho.size]; exact lt⟩
  rcases own.2 with q | ⟨g, cap, cur, a, b', c', d⟩
  · exact Or.inl q
  · refine Or.inr ⟨g, cap, cur, a, b', ?_, d⟩
    rw [k g (fun e => ht (by rw [← e]; unfold tyAt; rw [c']))]
    exact c'
theorem KA.onlyNew {rb b : Nat} {X : List Nat} {u w w' : World} (h : KA rb X u w) (ho : OnlyB b w w') (hb : u.heap.size ≤ b) : KA rb X u w' :=
  ⟨ho.os.trans h.os, ho.tape.trans h.tape, ho.output.trans h.output, by rw [ho.size]; exact h.size, fun k hk hX ht => (ho.block k (by omega)).trans (h.block k hk hX ht)⟩
theorem KA.onlyIn {rb b : Nat} {X : List Nat} {u w w' : World} (h : KA rb X u w) (ho : OnlyB b w w') (hb : b ∈ X) : KA rb X u w' :=
  h.trans ⟨ho.os, ho.tape, ho.output, by rw [ho.size]; exact Nat.le_refl _, fun k _ hX _ => ho.block k (fun e => hX (e ▸ hb))⟩

theorem sees_5 {l : List Parl.Tok} (h : (Parl.hd l).kind = 5) (g : List UInt8) : Parl.sees l g = ((Parl.hd l).text.toList == g) := by simp [Parl.sees, h]
theorem sees_no {l : List Parl.Tok} (h : (Parl.hd l).kind ≠ 5) (g : List UInt8) : Parl.sees l g = false := by simp [Parl.sees, h]

set_option maxHeartbeats 1000000 in
theorem seesTestSign_any (w : World) (rb : Nat) (s : ByteArray) (l : List Parl.Tok) (ns : List ByteArray) (nv : Value) (e0 : Int) (h : St w rb s l ns nv e0) :
    Calls Tryd.prog 93 #[.pointer (some ⟨rb, 0, none⟩)] w fun e w' => e = .returned (.bool (Parl.testSign l)) ∧ w' = w := by
  obtain ⟨⟨c0, c1, c2, c3, c4, c5, f1, f2, f3, f4, f5⟩, own, chain, isn, few, short, signs, pos, lt⟩ := h
  clear own chain isn few short signs pos lt c0 c2 c4 c5 f1 f2 f3 f4 f5
  by_cases hk : (Parl.hd l).kind = 5
  · have HT := hide (show Parl.testSign l = (((Parl.hd l).text.toList == [60]) || ((Parl.hd l).text.toList == [61, 60]) || ((Parl.hd l).text.toList == [61, 61]) || ((Parl.hd l).text.toList == [92, 61])) by simp only [Parl.testSign, sees_5 hk])
    rw [hk] at c1
    clear hk
    generalize (Parl.hd l).text = tx at *
    cases b1 : (tx.toList == [60])
    · cases b2 : (tx.toList == [61, 60])
      · cases b3 : (tx.toList == [61, 61])
        · cases b4 : (tx.toList == [92, 61])
          all_goals
            go_enter Tryd.func93, Tryd.ntmps93
            go_wp2_with fail
            go_ret
            exact ⟨ret_bool (by rw [unhide HT, b1, b2, b3, b4]; rfl), rfl⟩
        · go_enter Tryd.func93, Tryd.ntmps93
          go_wp2_with fail
          go_ret
          exact ⟨ret_bool (by rw [unhide HT, b1, b2, b3]; rfl), rfl⟩
      · go_enter Tryd.func93, Tryd.ntmps93
        go_wp2_with fail
        go_ret
        exact ⟨ret_bool (by rw [unhide HT, b1, b2]; rfl), rfl⟩
    · go_enter Tryd.func93, Tryd.ntmps93
      go_wp2_with fail
      go_ret
      exact ⟨ret_bool (by rw [unhide HT, b1]; rfl), rfl⟩
  · have HT := hide (show Parl.testSign l = false by simp [Parl.testSign, sees_no hk])
    have hk' : (((Parl.hd l).kind : Int) != 5) = true := by simp; omega
    clear hk
    go_enter Tryd.func93, Tryd.ntmps93
    go_wp2_with fail
    go_ret
    exact ⟨ret_bool (by rw [unhide HT]), rfl⟩

set_option maxHeartbeats 1000000 in
theorem seesOperator_any (w : World) (rb : Nat) (s : ByteArray) (l : List Parl.Tok) (ns : List ByteArray) (nv : Value) (e0 : Int) (h : St w rb s l ns nv e0) :
    Calls Tryd.prog 103 #[.pointer (some ⟨rb, 0, none⟩)] w fun e w' => e = .returned (.bool (Parl.operSign l)) ∧ w' = w := by
  have HT := hide (show Parl.operSign l = (Parl.sees l [43] || Parl.sees l [45] || Parl.sees l [42]) from rfl)
  have H := hide h
  clear h
  cases b1 : Parl.sees l [43]
  · cases b2 : Parl.sees l [45]
    · go_enter Tryd.func103, Tryd.ntmps103
      go_wp2_with (go_at_call 59; refine (sees_any _ rb s l ns nv e0 _ (unhide H)).mono ?_; rintro e w1 ⟨rfl, hw⟩; rw [hw]; clear hw; simp only [ByteArray.toList_mk])
      go_ret
      exact ⟨ret_bool (by rw [unhide HT, b1, b2]; rfl), rfl⟩
    · go_enter Tryd.func103, Tryd.ntmps103
      go_wp2_with (go_at_call 59; refine (sees_any _ rb s l ns nv e0 _ (unhide H)).mono ?_; rintro e w1 ⟨rfl, hw⟩; rw [hw]; clear hw; simp only [ByteArray.toList_mk])
      go_ret
      exact ⟨ret_bool (by rw [unhide HT, b1, b2]; rfl), rfl⟩
  · go_enter Tryd.func103, Tryd.ntmps103
    go_wp2_with (go_at_call 59; refine (sees_any _ rb s l ns nv e0 _ (unhide H)).mono ?_; rintro e w1 ⟨rfl, hw⟩; rw [hw]; clear hw; simp only [ByteArray.toList_mk])
    go_ret
    exact ⟨ret_bool (by rw [unhide HT, b1]; rfl), rfl⟩

set_option maxHeartbeats 1000000 in
theorem isIntTest_any (w : World) (t : Parl.Tm) (val : Int) (tx : ByteArray) (ao : Option Addr) (cap : Nat) (ht : t.kind = 2 → tx = t.text) (hk : t.kind = 2 ∨ t.kind = 3 ∨ t.kind = 4) :
    Calls Tryd.prog 96 #[.agg #[.int .i64 (ak t.kind), .int .i64 val, .string tx, .slice ao t.args.length cap]] w fun e w' => e = .returned (.bool (Parl.isInt t)) ∧ Below w.heap.size w w' := by
  by_cases h2 : t.kind = 2
  · have HT := hide (show Parl.isInt t = ((tx.toList == [105, 110, 116]) && (t.args.length == 1)) by simp [Parl.isInt, h2, ht h2])
    have ha : ak t.kind = 3 := by rw [h2]; rfl
    rw [ha]
    clear ha h2 ht hk
    generalize t.args.length = n at *
    cases b1 : (tx.toList == [105, 110, 116])
    · go_enter Tryd.func96, Tryd.ntmps96
      go_wp2_with fail
      go_ret
      exact ⟨ret_bool (by rw [unhide HT, b1]; rfl), (Below.refl _ _).alloc (Nat.le_refl _) _⟩
    · by_cases hn : n = 1
      · have hn' : ((n : Int) == 1) = true := by simp; omega
        go_enter Tryd.func96, Tryd.ntmps96
        go_wp2_with fail
        go_ret
        exact ⟨ret_bool (by rw [unhide HT, b1, hn]; rfl), (Below.refl _ _).alloc (Nat.le_refl _) _⟩
      · have hn' : ((n : Int) == 1) = false := by simp; omega
        go_enter Tryd.func96, Tryd.ntmps96
        go_wp2_with fail
        go_ret
        exact ⟨ret_bool (by rw [unhide HT, b1]; simp [hn]), (Below.refl _ _).alloc (Nat.le_refl _) _⟩
  · have HT := hide (show Parl.isInt t = false by simp [Parl.isInt, h2])
    have ha : (ak t.kind == 3) = false := by rcases hk with e | e | e <;> simp_all [ak]
    generalize ak t.kind = q at *
    clear h2 ht hk
    go_enter Tryd.func96, Tryd.ntmps96
    go_wp2_with fail
    go_ret
    exact ⟨ret_bool (by rw [unhide HT]), (Below.refl _ _).alloc (Nat.le_refl _) _⟩
end Go.Proofs.YthfjnfcekeknlaaDoor
namespace Go.Proofs.YthfjnfcekeknlaaDoor
open Go.RowKit

/-- A term's four cells. -/
abbrev TV := AV
/-- Through the box of a function that hands a term on. -/
theorem TA.box {f : Nat} {ns ns' : List ByteArray} {w W w1 : World} {val : Int} {tx : ByteArray} {ao : Option Addr} {cap : Nat} {t : Parl.Tm} (h : TA f ns ns' W w1 val tx ao cap t) (hW : w.heap.size < W.heap.size) (v0 v1 v2 v3 : Value) :
    TA f ns ns' w ((((w1.setCell ⟨w.heap.size, 0, none⟩ v0).setCell ⟨w.heap.size, 1, none⟩ v1).setCell ⟨w.heap.size, 2, none⟩ v2).setCell ⟨w.heap.size, 3, none⟩ v3) val tx ao cap t := by
  refine ⟨?_, h.nms⟩
  have r := h.rep.imp (Q := fun g => w.heap.size < g) fun g hg _ => by omega
  exact ((((r.set (fun g hg => by omega) 0 v0).set (fun g hg => by omega) 1 v1).set (fun g hg => by omega) 2 v2).set (fun g hg => by omega) 3 v3).imp fun g hg _ => by omega

def anyA : Nat → Prop := fun _ => True
/-- The right sides of an item lie there. -/
structure RightA (ns ns' : List ByteArray) (w' : World) (b c : TV) (sg op : ByteArray) (x : Parl.Itm) : Prop where
  sign : sg.toList = x.sign
  right : ∀ r, x.right = some r → RA 8 (nmsA ns') anyA w' b r
  op : op.toList = x.op
  last : ∀ z, x.last = some z → RA 8 (nmsA ns') anyA w' c z
  nms : nmsA ns' = Parl.nameO (Parl.nameO (nmsA ns) x.right) x.last
theorem KeepA.ra {w w' : World} (h : KeepA w w') {f : Nat} {N : List (List UInt8)} {P : Nat → Prop} {a : AV} {t : Parl.Tm} (q : RA f N P w a t) : RA f N anyA w' a t := q.keep fun g cs _ hc hi => ⟨h g cs hc hi, trivial⟩
theorem KeepA.refl (w : World) : KeepA w w := fun _ _ h _ => h
theorem KeepA.alloc (w : World) (o : Obj) : KeepA w (w.alloc o) := KeepA.below ((Below.refl _ _).alloc (Nat.le_refl _) o)
theorem KeepA.only {w w' : World} {b : Nat} (ho : OnlyB b w w') (ht : tyAt w b ≠ some 52) : KeepA w w' := fun g cs hc _ => (ho.block g (fun q => by subst q; exact ht (by unfold tyAt; rw [hc]))).trans hc
def PItem (rb : Nat) (s : ByteArray) (a0 : TV) (left : Parl.Tm) (ns : List ByteArray) (r : Parl.Res Parl.Itm) (w : World) (e : Ending) (w' : World) : Prop := match r with
  | .inl (er, pos) => ∃ (a b c : TV) (sg op : ByteArray) (l' : List Parl.Tok) (ns' : List ByteArray) (nv' : Value),
      e = .returned (.tuple #[.agg #[.int .i64 a.k, .int .i64 a.val, .string a.tx, .slice a.ao a.n a.cap, .string sg, .int .i64 b.k, .int .i64 b.val, .string b.tx, .slice b.ao b.n b.cap, .string op, .int .i64 c.k, .int .i64 c.val, .string c.tx, .slice c.ao c.n c.cap], .bool false]) ∧ St w' rb s l' ns' nv' (er : Int) ∧ (Parl.hd l').pos = pos ∧ KA rb [rb] w w'
  | .inr (x, l1) => ∃ (a b c : TV) (sg op : ByteArray) (ns' : List ByteArray) (nv' : Value) (e' : Int),
      e = .returned (.tuple #[.agg #[.int .i64 a.k, .int .i64 a.val, .string a.tx, .slice a.ao a.n a.cap, .string sg, .int .i64 b.k, .int .i64 b.val, .string b.tx, .slice b.ao b.n b.cap, .string op, .int .i64 c.k, .int .i64 c.val, .string c.tx, .slice c.ao c.n c.cap], .bool true]) ∧ (a = a0 ∧ x.left = left ∧ RightA ns ns' w' b c sg op x) ∧ St w' rb s l1 ns' nv' e' ∧ KA rb [rb] w w'

theorem box1_end {w w1 w2 : World} {rb : Nat} {s : ByteArray} {l : List Parl.Tok} {ns : List ByteArray} {nv : Value} {e : Int} {b : Nat} {cs : Array Value} {T : TypeId} (h : St w1 rb s l ns nv e) (hk : KA rb [rb] w w1) (hlt : rb < w.heap.size) (hb : w.heap.size ≤ b) (hc : w1.heap[b]? = some (.cells cs T (0, 0))) (ho : OnlyB b w1 w2) (hT : T ≠ 9 := by decide) :
    St w2 rb s l ns nv e ∧ KA rb [rb] w w2 :=
  ⟨h.only ho (by omega) (by omega) (by unfold tyAt; rw [hc]; simpa using hT), hk.onlyNew ho hb⟩

theorem box1_keep {w w1 w2 : World} {rb : Nat} {s : ByteArray} {l : List Parl.Tok} {ns : List ByteArray} {nv : Value} {e : Int} {b : Nat} {cs : Array Value} {T : TypeId} (h : St w1 rb s l ns nv e) (hk : KA rb [rb] w w1) (hlt : rb < w.heap.size) (hb : w.heap.size ≤ b) (hc : w1.heap[b]? = some (.cells cs T (0, 0))) (ho : OnlyB b w1 w2) (hT : T ≠ 9 := by decide) (hT' : T ≠ 52 := by decide) :
    (St w2 rb s l ns nv e ∧ KA rb [rb] w w2) ∧ KeepA w1 w2 :=
  ⟨box1_end h hk hlt hb hc ho hT, KeepA.only ho (by unfold tyAt; rw [hc]; simpa using hT')⟩

set_option maxHeartbeats 1000000 in
theorem operand_any (w : World) (rb : Nat) (s : ByteArray) (l : List Parl.Tok) (ns : List ByteArray) (nv : Value) (e0 : Int) (h : St w rb s l ns nv e0) :
    Calls Tryd.prog 102 #[.pointer (some ⟨rb, 0, none⟩)] w fun e w' => PTerm 8 rb s ns (Parl.operand l) w e w' := by
  have hb2 : Below w.heap.size w (w.alloc boxR) := (Below.refl _ _).alloc (Nat.le_refl _) _
  have H2 := hide (h.below hb2)
  have hlt := h.lt
  have hK0 := hide ((KA.refl rb [rb] w).alloc boxR)
  have hB0 := hide (blk_new w #[.int .i64 0, .int .i64 0, .string ⟨#[]⟩, .slice none 0 0] 52)
  have I := hide (fun W (hW : St W rb s l ns nv e0) => term_all 8 W rb s l ns nv e0 1 rfl hW)
  unfold boxR at H2 hK0
  obtain ⟨⟨c0, c1, c2, c3, c4, c5, f1, f2, f3, f4, f5⟩, own, chain, isn, few, short, signs, pos, lt⟩ := h
  clear own chain isn few short signs hb2 c0 c2 c3 c4 c5 f1 f2 f3 f4 f5
  by_cases hk : (Parl.hd l).kind = 2
  · have HO := hide (show Parl.operand l = Parl.bad 2 l by unfold Parl.operand; rw [if_pos hk])
    rw [unhide HO]
    have hk' : (((Parl.hd l).kind : Int) == 2) = true := by simp; omega
    clear hk HO
    go_enter Tryd.func102, Tryd.ntmps102
    go_wp2_with fail
    refine (refuse_any _ rb s l ns nv e0 2 (unhide H2)).mono ?_
    rintro e w1 ⟨rfl, hs, hk⟩
    have HS := hide hs
    have HK := hide ((unhide hK0).trans hk)
    have hB := blk_ka hk (unhide hB0) (by simp; omega)
    clear hs hk
    have r0 := blkC (hB) 0 rfl
    have r1 := blkC (hB) 1 rfl
    have r2 := blkC (hB) 2 rfl
    have r3 := blkC (hB) 3 rfl
    have x0 := blkF (hB) 0
    have x1 := blkF (hB) 1
    have x2 := blkF (hB) 2
    have x3 := blkF (hB) 3
    have HB := hide hB
    clear hB
    go_wp2_with fail
    have R := box1_end (unhide HS) (unhide HK) hlt (Nat.le_refl _) (unhide HB) (((((OnlyB.refl _ _).set 0 (.int .i64 0)).set 1 (.int .i64 0)).set 2 (.string ⟨#[]⟩)).set 3 (.slice none 0 0))
    refine bodyPost_ret (v := .tuple #[.agg #[.int .i64 0, .int .i64 0, .string ⟨#[]⟩, .slice none 0 0], .bool false]) (by simp [results, Tryd.results102, go_sem, r0, r1, r2, r3]) rfl ?_
    exact ⟨_, _, _, _, _, _, l, ns, nv, rfl, R.1, rfl, R.2⟩
  · have HO := hide (show Parl.operand l = Parl.term 8 l by unfold Parl.operand; rw [if_neg hk])
    rw [unhide HO]
    generalize Parl.term 8 l = r at I ⊢
    have hk' : (((Parl.hd l).kind : Int) == 2) = false := by simp; omega
    clear hk HO
    rcases r with ⟨er, pos⟩ | ⟨t, l2⟩
    · go_enter Tryd.func102, Tryd.ntmps102
      go_wp2_with fail
      refine (unhide I _ (unhide H2)).mono ?_
      rintro e w1 ⟨k, val, tx, ao, n, cap, l', ns', nv', rfl, hs, hpos, hk⟩
      have HS := hide hs
      have HP := hide hpos
      have HK := hide ((unhide hK0).trans hk)
      have hB := blk_ka hk (unhide hB0) (by simp; omega)
      clear hs hk hpos
      have r0 := blkC (hB) 0 rfl
      have r1 := blkC (hB) 1 rfl
      have r2 := blkC (hB) 2 rfl
      have r3 := blkC (hB) 3 rfl
      have x0 := blkF (hB) 0
      have x1 := blkF (hB) 1
      have x2 := blkF (hB) 2
      have x3 := blkF (hB) 3
      have HB := hide hB
      clear hB
      go_wp2_with fail
      have R := box1_end (unhide HS) (unhide HK) hlt (Nat.le_refl _) (unhide HB) (((((OnlyB.refl _ _).set 0 (.int .i64 k)).set 1 (.int .i64 val)).set 2 (.string tx)).set 3 (.slice ao n cap))
      refine bodyPost_ret (v := .tuple #[.agg #[.int .i64 k, .int .i64 val, .string tx, .slice ao n cap], .bool false]) (by simp [results, Tryd.results102, go_sem, r0, r1, r2, r3]) rfl ?_
      exact ⟨_, _, _, _, _, _, l', ns', nv', rfl, R.1, unhide HP, R.2⟩
    · go_enter Tryd.func102, Tryd.ntmps102
      go_wp2_with fail
      refine (unhide I _ (unhide H2)).mono ?_
      rintro e w1 ⟨val, tx, ao, cap, ns', nv', e', rfl, htx, hs, hk⟩
      have HS := hide hs
      have HP := hide htx
      have HK := hide ((unhide hK0).trans hk)
      have hB := blk_ka hk (unhide hB0) (by simp; omega)
      clear hs hk htx
      have r0 := blkC (hB) 0 rfl
      have r1 := blkC (hB) 1 rfl
      have r2 := blkC (hB) 2 rfl
      have r3 := blkC (hB) 3 rfl
      have x0 := blkF (hB) 0
      have x1 := blkF (hB) 1
      have x2 := blkF (hB) 2
      have x3 := blkF (hB) 3
      have HB := hide hB
      clear hB
      go_wp2_with fail
      have R := box1_end (unhide HS) (unhide HK) hlt (Nat.le_refl _) (unhide HB) (((((OnlyB.refl _ _).set 0 (.int .i64 (ak t.kind))).set 1 (.int .i64 val)).set 2 (.string tx)).set 3 (.slice ao t.args.length cap))
      refine bodyPost_ret (v := .tuple #[.agg #[.int .i64 (ak t.kind), .int .i64 val, .string tx, .slice ao t.args.length cap], .bool true]) (by simp [results, Tryd.results102, go_sem, r0, r1, r2, r3]) rfl ?_
      exact ⟨_, _, _, _, ns', nv', e', rfl, (unhide HP).box (by simp) _ _ _ _, R.1, R.2⟩
end Go.Proofs.YthfjnfcekeknlaaDoor
namespace Parl
theorem whole_a {l : List Tok} {er ps : Nat} (h : term 8 l = .inl (er, ps)) : whole l = .inl (er, ps) := by unfold whole; rw [h]
theorem whole_b {l l1 : List Tok} {t : Tm} (h : term 8 l = .inr (t, l1)) (hk : (hd l1).kind = 0) : whole l = .inr (t, l1) := by unfold whole; rw [h]; dsimp only; rw [if_pos hk]
theorem whole_c {l l1 : List Tok} {t : Tm} (h : term 8 l = .inr (t, l1)) (hk : (hd l1).kind ≠ 0) : whole l = .inl (2, (hd l1).pos) := by unfold whole; rw [h]; dsimp only; rw [if_neg hk]; rfl
end Parl
namespace Go.Proofs.YthfjnfcekeknlaaDoor
open Go.RowKit

/-- The reader as it stands first. -/
theorem st_startT {w1 : World} {s : ByteArray} {L : List Parl.Tok} (hsg : Signs w1) (h0 : 0 < w1.heap.size) (hL : Parl.Chain s L) (hh : Parl.hd L = Parl.next s 0) (hl : L.length ≤ 1000) (hs : s.size ≤ 240) :
    St (w1.alloc (.cells #[.string s, .int .i64 ((Parl.next s 0).kind : Int), .int .i64 ((Parl.next s 0).pos : Int), .string (Parl.next s 0).text, .slice none 0 0, .int .i64 0] 81)) w1.heap.size s L [] (.slice none 0 0) 0 := by
  have hb := heap_alloc_new w1 (.cells #[.string s, .int .i64 ((Parl.next s 0).kind : Int), .int .i64 ((Parl.next s 0).pos : Int), .string (Parl.next s 0).text, .slice none 0 0, .int .i64 0] 81)
  have c := blkA hb
  have f := blkX hb
  exact ⟨⟨by rw [c]; rfl, by rw [c, hh]; rfl, by rw [c, hh]; rfl, by rw [c, hh]; rfl, by rw [c]; rfl, by rw [c]; rfl, f 1, f 2, f 3, f 4, f 5⟩, World.ownsRow_nil _ _ _ _, hL, ⟨0, hh⟩, by simpa using hl, hs, hsg.below ((Below.refl _ _).alloc (Nat.le_refl _) _) h0, h0, by simp⟩

theorem own_shapeT {w : World} {b : Nat} {e : TypeId} {sz : Nat} {v : Value} {n : Nat} {xs : List Value} (h : w.ownsRow b e sz v n xs) : ∃ o cap, v = .slice o n cap := by
  rcases h.2 with ⟨q, rfl⟩ | ⟨g, cap, cur, q, _⟩
  · exact ⟨none, 0, q⟩
  · exact ⟨some ⟨g, 0, none⟩, cap, q⟩
theorem hset (w : World) (b i : Nat) (v : Value) {g : Nat} (h : g ≠ b) : (w.setCell ⟨b, i, none⟩ v).heap[g]? = w.heap[g]? := Below.heap_setCell _ _ _ _ h
theorem zset (w : World) (p : Addr) (v : Value) : (w.setCell p v).heap.size = w.heap.size := by simp [World.setCell]
theorem set6_block (w2 : World) {b : Nat} (v0 v1 v2 v3 v4 v5 : Value) {k : Nat} (h : k ≠ b) : ((((((w2.setCell ⟨b, 0, none⟩ v0).setCell ⟨b, 1, none⟩ v1).setCell ⟨b, 2, none⟩ v2).setCell ⟨b, 3, none⟩ v3).setCell ⟨b, 4, none⟩ v4).setCell ⟨b, 5, none⟩ v5).heap[k]? = w2.heap[k]? := by
  rw [hset _ _ _ _ h, hset _ _ _ _ h, hset _ _ _ _ h, hset _ _ _ _ h, hset _ _ _ _ h, hset _ _ _ _ h]
theorem set6_size (w2 : World) {b : Nat} (v0 v1 v2 v3 v4 v5 : Value) : ((((((w2.setCell ⟨b, 0, none⟩ v0).setCell ⟨b, 1, none⟩ v1).setCell ⟨b, 2, none⟩ v2).setCell ⟨b, 3, none⟩ v3).setCell ⟨b, 4, none⟩ v4).setCell ⟨b, 5, none⟩ v5).heap.size = w2.heap.size := by simp only [zset]
theorem set6_below {w w2 : World} (h : Below w.heap.size w w2) (v0 v1 v2 v3 v4 v5 : Value) : Below w.heap.size w ((((((w2.setCell ⟨w.heap.size, 0, none⟩ v0).setCell ⟨w.heap.size, 1, none⟩ v1).setCell ⟨w.heap.size, 2, none⟩ v2).setCell ⟨w.heap.size, 3, none⟩ v3).setCell ⟨w.heap.size, 4, none⟩ v4).setCell ⟨w.heap.size, 5, none⟩ v5) :=
  (((((h.setCell (p := ⟨w.heap.size, 0, none⟩) (Nat.le_refl _) _).setCell (p := ⟨w.heap.size, 1, none⟩) (Nat.le_refl _) _).setCell (p := ⟨w.heap.size, 2, none⟩) (Nat.le_refl _) _).setCell (p := ⟨w.heap.size, 3, none⟩) (Nat.le_refl _) _).setCell (p := ⟨w.heap.size, 4, none⟩) (Nat.le_refl _) _).setCell (p := ⟨w.heap.size, 5, none⟩) (Nat.le_refl _) _
theorem own_at6 {w : World} {b b0 : Nat} {T : TypeId} {sz : Nat} {v : Value} {n : Nat} {xs : List Value} (h : w.ownsRow b0 T sz v n xs) (hb : b < b0) (v0 v1 v2 v3 v4 v5 : Value) : ((((((w.setCell ⟨b, 0, none⟩ v0).setCell ⟨b, 1, none⟩ v1).setCell ⟨b, 2, none⟩ v2).setCell ⟨b, 3, none⟩ v3).setCell ⟨b, 4, none⟩ v4).setCell ⟨b, 5, none⟩ v5).ownsRow b0 T sz v n xs :=
  ⟨h.1, h.2.imp id fun ⟨g, cap, cur, a, c, d, e⟩ => ⟨g, cap, cur, a, c, (set6_block w _ _ _ _ _ _ (by omega)).trans d, e⟩⟩
theorem own_down6 {b0 b1 : Nat} {w : World} {T : TypeId} {sz : Nat} {v : Value} {n : Nat} {xs : List Value} (h : w.ownsRow b1 T sz v n xs) (hb : b0 ≤ b1) : w.ownsRow b0 T sz v n xs :=
  ⟨h.1, h.2.imp id fun ⟨g, cap, cur, a, b, c, d⟩ => ⟨g, cap, cur, a, Nat.le_trans hb b, c, d⟩⟩
/-- What 'Term' of a text is to leave. -/
def PRt (r : Parl.Res Parl.Tm) (w : World) (e : Ending) (w' : World) : Prop :=
  ∃ (a : AV) (no : Option Addr) (nl nc : Nat), e = .returned (.agg #[.int .i64 a.k, .int .i64 a.val, .string a.tx, .slice a.ao a.n a.cap, .slice no nl nc, .int .i64 (Parl.erT r : Int)]) ∧
    (match r with
      | .inl _ => True
      | .inr (t, _) => ∃ ns : List ByteArray, RA 8 (nmsA ns) anyA w' a t ∧ nmsA ns = Parl.namesF 8 [] t ∧ w'.ownsRow w.heap.size 9 1 (.slice no nl nc) ns.length (ns.map Value.string)) ∧ Below w.heap.size w w'

set_option maxHeartbeats 1000000 in
theorem rt_long (w : World) (s : ByteArray) (hs : 64 < s.size) :
    Calls Tryd.prog 23 #[.string s] w fun e w' => e = .returned (.agg #[.int .i64 0, .int .i64 0, .string ⟨#[]⟩, .slice none 0 0, .slice none 0 0, .int .i64 1]) ∧ Below w.heap.size w w' := by
  have hsz : decide (64 < (s.size : Int)) = true := by simp; omega
  go_enter Tryd.func23, Tryd.ntmps23
  go_wp2_with fail
  refine bodyPost_ret (v := .agg #[.int .i64 0, .int .i64 0, .string ⟨#[]⟩, .slice none 0 0, .slice none 0 0, .int .i64 1]) (by simp [results, Tryd.results23, go_sem]) rfl ?_
  exact ⟨rfl, (Below.refl _ _).alloc (Nat.le_refl _) _⟩

set_option maxHeartbeats 1000000 in
theorem ends_ok (w : World) (rb : Nat) (s : ByteArray) (l : List Parl.Tok) (ns : List ByteArray) (nv : Value) (e0 : Int) (h : St w rb s l ns nv e0) (hk : (Parl.hd l).kind = 0) :
    Calls Tryd.prog 41 #[.pointer (some ⟨rb, 0, none⟩)] w fun e w' => e = .returned (.bool true) ∧ w' = w := by
  have c1 := h.rd.c1
  have zr := h.lt
  rw [hk] at c1
  clear h hk
  go_enter Tryd.func41, Tryd.ntmps41
  go_wp2_with fail
  go_ret
  exact ⟨rfl, rfl⟩

set_option maxHeartbeats 1000000 in
theorem ends_no (w : World) (rb : Nat) (s : ByteArray) (l : List Parl.Tok) (ns : List ByteArray) (nv : Value) (e0 : Int) (h : St w rb s l ns nv e0) (hk : (Parl.hd l).kind ≠ 0) :
    Calls Tryd.prog 41 #[.pointer (some ⟨rb, 0, none⟩)] w fun e w' => e = .returned (.bool false) ∧ St w' rb s l ns nv 2 ∧ KA rb [rb] w w' := by
  have c1 := h.rd.c1
  have zr := h.lt
  have hq : (((Parl.hd l).kind : Int) != 0) = true := by simp; omega
  have H := hide h
  clear h hk
  generalize ((Parl.hd l).kind : Int) = gk at *
  go_enter Tryd.func41, Tryd.ntmps41
  go_wp2_with fail
  refine (refuse_any _ rb s l ns nv e0 2 (unhide H)).mono ?_
  rintro e w3 ⟨rfl, hs3, hk3⟩
  have HS3 := hide hs3
  have HK3 := hide hk3
  clear hs3 hk3
  go_wp2_with fail
  go_ret
  exact ⟨rfl, unhide HS3, unhide HK3⟩

set_option maxHeartbeats 4000000 in
set_option maxRecDepth 100000 in
theorem rt_any (w : World) (s : ByteArray) (L : List Parl.Tok) (hs : s.size ≤ 64) (hL : Parl.Chain s L) (hh : Parl.hd L = Parl.next s 0) (hl : L.length ≤ 1000) (hsg : Signs w) (h0 : 0 < w.heap.size) :
    Calls Tryd.prog 23 #[.string s] w fun e w' => PRt (Parl.whole L) w e w' := by
  have hsz : decide (64 < (s.size : Int)) = false := by simp; omega
  have HSG := hide hsg
  clear hsg
  go_enter Tryd.func23, Tryd.ntmps23
  go_wp2_with fail
  refine (next_any s 0 _ (by unfold maxLen; omega) (Nat.zero_le _) ((unhide HSG).below ((Below.refl _ _).alloc (Nat.le_refl _) _) h0) (by simp)).mono ?_
  rintro e w1 ⟨rfl, hb1⟩
  have hsg1 := ((unhide HSG).below ((Below.refl _ _).alloc (Nat.le_refl _) (.cells #[.int .i64 0, .int .i64 0, .string ⟨#[]⟩, .slice none 0 0, .slice none 0 0, .int .i64 0] 54)) h0).below hb1 (by simp)
  have hw1 : w.heap.size < w1.heap.size := by have := hb1.size; simp at this; omega
  have HS := hide (st_startT hsg1 (by omega) hL hh hl (by omega))
  have HB0 := hide (blk_alloc ((hb1.block w.heap.size (by simp)).trans (heap_alloc_new w (.cells #[.int .i64 0, .int .i64 0, .string ⟨#[]⟩, .slice none 0 0, .slice none 0 0, .int .i64 0] 54))) (.cells #[.string s, .int .i64 ((Parl.next s 0).kind : Int), .int .i64 ((Parl.next s 0).pos : Int), .string (Parl.next s 0).text, .slice none 0 0, .int .i64 0] 81))
  have HBL := hide ((((Below.refl w.heap.size w).alloc (Nat.le_refl _) (.cells #[.int .i64 0, .int .i64 0, .string ⟨#[]⟩, .slice none 0 0, .slice none 0 0, .int .i64 0] 54)).trans (hb1.mono (by simp))).alloc (by omega) (.cells #[.string s, .int .i64 ((Parl.next s 0).kind : Int), .int .i64 ((Parl.next s 0).pos : Int), .string (Parl.next s 0).text, .slice none 0 0, .int .i64 0] 81))
  clear hb1 hsg1 HSG hL hh hl
  generalize (Parl.next s 0).kind = tk at *
  generalize (Parl.next s 0).pos = tp at *
  generalize (Parl.next s 0).text = tt at *
  have hrz : (w1.alloc (.cells #[.string s, .int .i64 (tk : Int), .int .i64 (tp : Int), .string tt, .slice none 0 0, .int .i64 0] 81)).heap.size = w1.heap.size + 1 := by simp
  have I := hide (term_all 8 _ w1.heap.size s L [] (.slice none 0 0) 0 1 rfl (unhide HS))
  go_wp2_with fail
  refine (unhide I).mono ?_
  generalize hW : w1.alloc (.cells #[.string s, .int .i64 (tk : Int), .int .i64 (tp : Int), .string tt, .slice none 0 0, .int .i64 0] 81) = W at *
  generalize hrb : w1.heap.size = rb at *
  clear I hW hrb
  generalize hr : Parl.term 8 L = r
  have HR := hide hr
  clear hr
  rcases r with ⟨er, pos⟩ | ⟨t, l1⟩
  · rintro e w2 ⟨k, val, tx, ao, n, cap, l', ns', nv', rfl, hs2, -, hk2⟩
    have hz2 := hk2.size
    have b0 := blk_ka hk2 (unhide HB0) (by simp; omega)
    have y0 := blkA b0
    have x0 := blkX b0
    have z0 := blk_lt b0
    have c5 := hs2.rd.c5
    have zr := hs2.lt
    have HBL2 := hide (show Below w.heap.size w w2 from (unhide HBL).trans (hk2.below (by have := (unhide HBL).size; omega) (by omega) (by simp; omega)))
    clear hs2 hk2 b0
    go_wp2_with fail
    refine bodyPost_ret (v := .agg #[.int .i64 0, .int .i64 0, .string ⟨#[]⟩, .slice none 0 0, .slice none 0 0, .int .i64 er]) (by simp [results, Tryd.results23, go_sem, y0, z0]) rfl ?_
    rw [Parl.whole_a (unhide HR)]
    refine ⟨⟨0, 0, ⟨#[]⟩, none, 0, 0⟩, none, 0, 0, rfl, trivial, ?_⟩
    exact (set6_below (unhide HBL2) _ _ _ _ _ _).alloc (by rw [set6_size]; omega) _
  · rintro e w2 ⟨val, tx, ao, cap, ns', nv', e', rfl, hta, hs2, hk2⟩
    have hz2 := hk2.size
    have b0 := blk_ka hk2 (unhide HB0) (by simp; omega)
    have zr := hs2.lt
    have HBL2 := hide (show Below w.heap.size w w2 from (unhide HBL).trans (hk2.below (by have := (unhide HBL).size; omega) (by omega) (by simp; omega)))
    have HTA := hide hta
    have HS2 := hide hs2
    have HB02 := hide b0
    have c1 := hs2.rd.c1
    have c4 := hs2.rd.c4
    obtain ⟨oo, cp, hnv⟩ := own_shapeT hs2.own
    subst hnv
    have HOW := hide hs2.own
    clear hs2 hk2 b0 hta
    by_cases hk : (Parl.hd l1).kind = 0
    · rw [hk] at c1
      have HW := hide (Parl.whole_b (unhide HR) hk)
      have y0 := blkA (unhide HB02)
      have x0 := blkX (unhide HB02)
      have z0 := blk_lt (unhide HB02)
      go_wp2_with fail
      refine (ends_ok _ rb s l1 ns' _ e' ((unhide HS2).below ((Below.refl _ _).alloc (Nat.le_refl _) _)) hk).mono ?_
      rintro e w3 ⟨rfl, rfl⟩
      clear hk
      go_wp2_with fail
      refine bodyPost_ret (v := .agg #[.int .i64 (ak t.kind), .int .i64 val, .string tx, .slice ao t.args.length cap, .slice oo ns'.length cp, .int .i64 0]) (by simp [results, Tryd.results23, go_sem, y0, z0]) rfl ?_
      rw [unhide HW]
      refine ⟨⟨ak t.kind, val, tx, ao, t.args.length, cap⟩, oo, ns'.length, cp, rfl, ⟨ns', ?_, (unhide HTA).nms, ?_⟩, ?_⟩
      · refine (unhide HTA).rep.keep fun g cs hg hc _ => ⟨?_, trivial⟩
        have hl := blk_lt hc
        rw [Below.heap_alloc _ _ _ (by rw [set6_size]; exact hl), set6_block _ _ _ _ _ _ _ (by omega)]
        exact hc
      · have h1 := own_at6 (b := w.heap.size) (unhide HOW) (by omega) (.int .i64 (ak t.kind)) (.int .i64 val) (.string tx) (.slice ao t.args.length cap) (.slice oo ns'.length cp) (.int .i64 0)
        exact own_down6 (h1.alloc _) (by omega)
      · exact (set6_below (unhide HBL2) _ _ _ _ _ _).alloc (by rw [set6_size]; omega) _
    · have HW := hide (Parl.whole_c (unhide HR) hk)
      go_wp2_with fail
      refine (ends_no _ rb s l1 ns' _ e' ((unhide HS2).below ((Below.refl _ _).alloc (Nat.le_refl _) _)) hk).mono ?_
      clear hk
      rintro e w3 ⟨rfl, hs3, hk3⟩
      have b3 := blk_ka hk3 (blk_alloc (unhide HB02) _) (by simp; omega)
      have y0 := blkA b3
      have x0 := blkX b3
      have z0 := blk_lt b3
      have c5 := hs3.rd.c5
      have zr3 := hs3.lt
      have HBL3 := hide (show Below w.heap.size w w3 from ((unhide HBL2).alloc (unhide HBL2).size _).trans (hk3.below (by have := (unhide HBL2).size; simp; omega) (by omega) (by simp; omega)))
      clear hs3 hk3 b3 c1 c4
      go_wp2_with fail
      refine bodyPost_ret (v := .agg #[.int .i64 0, .int .i64 0, .string ⟨#[]⟩, .slice none 0 0, .slice none 0 0, .int .i64 2]) (by simp [results, Tryd.results23, go_sem, y0]) rfl ?_
      rw [unhide HW]
      exact ⟨⟨0, 0, ⟨#[]⟩, none, 0, 0⟩, none, 0, 0, rfl, trivial, set6_below (unhide HBL3) _ _ _ _ _ _⟩
end Go.Proofs.YthfjnfcekeknlaaDoor
namespace Go.Proofs.YthfjnfcekeknlaaDoor
open Go.RowKit

/-- The raw numbers lie there, ahead of the block xb. -/
def RawA (w : World) (xb : Nat) (o : Option Addr) (n : Nat) : Prop := n ≤ maxLen ∧ (n = 0 ∨ ∃ b off, o = some ⟨b, off, none⟩ ∧ b < xb ∧ ∀ i, i < n → ∃ v : Int, w.cell? ⟨b, off + i, none⟩ = some (.int .i64 v) ∧ -9223372036854775808 ≤ v ∧ v ≤ 9223372036854775807)
/-- The source of raw numbers. -/
structure SrcB (w : World) (xb : Nat) (o : Option Addr) (n c k : Nat) : Prop where
  blk : w.heap[xb]? = some (.cells #[.slice o n c, .int .i64 (k : Int)] 26 (0, 0))
  raw : RawA w xb o n
  few : k ≤ n
def SrcA (w : World) (xb : Nat) : Prop := ∃ o n c k, SrcB w xb o n c k
abbrev OnX (xb : Nat) : Nat → Prop := fun k => k = xb
theorem RawA.keep {w w' : World} {xb : Nat} {o : Option Addr} {n : Nat} (h : RawA w xb o n) (hk : ∀ b, b < xb → w'.heap[b]? = w.heap[b]?) : RawA w' xb o n := by
  refine ⟨h.1, h.2.imp id fun ⟨b, off, h1, h2, h3⟩ => ⟨b, off, h1, h2, fun i hi => ?_⟩⟩
  obtain ⟨v, h4, h5⟩ := h3 i hi
  exact ⟨v, (World.cell?_of_block (w := w) (a := ⟨b, off + i, none⟩) (hk b h2)).trans h4, h5⟩
theorem SrcB.below {w w' : World} {xb : Nat} {o : Option Addr} {n c k : Nat} (h : SrcB w xb o n c k) (hb : Below w.heap.size w w') : SrcB w' xb o n c k := by
  have hz := blk_lt h.blk
  exact ⟨(hb.block xb hz).trans h.blk, h.raw.keep fun b q => hb.block b (by omega), h.few⟩
theorem SrcA.below {w w' : World} {xb : Nat} (h : SrcA w xb) (hb : Below w.heap.size w w') : SrcA w' xb := by
  obtain ⟨o, n, c, k, h⟩ := h
  have hz := blk_lt h.blk
  exact ⟨o, n, c, k, (hb.block xb hz).trans h.blk, h.raw.keep fun b q => hb.block b (by omega), h.few⟩
theorem SrcA.lt {w : World} {xb : Nat} (h : SrcA w xb) : xb < w.heap.size := by
  obtain ⟨o, n, c, k, h⟩ := h
  exact blk_lt h.blk

set_option maxHeartbeats 1000000 in
theorem pick_any (w : World) (c : Int) (n : Nat) (hn : 0 < n) (hn' : n ≤ 1000) (h1 : -9223372036854775808 ≤ c) (h2 : c ≤ 9223372036854775807) :
    Calls Tryd.prog 33 #[.int .i64 c, .int .i64 (n : Int)] w fun e w' => (∃ m : Nat, m < n ∧ e = .returned (.int .i64 (m : Int))) ∧ w' = w := by
  by_cases hc : c < 0
  · have t1 : decide (c < 0) = true := by simpa using hc
    go_enter Tryd.func33, Tryd.ntmps33
    go_wp2_with fail
    go_ret
    have q1 := Int.emod_nonneg (-(c + 1)) (b := (n : Int)) (by omega)
    have q2 := Int.emod_lt_of_pos (-(c + 1)) (b := (n : Int)) (by omega)
    refine ⟨⟨((-(c + 1)) % (n : Int)).toNat, by omega, ?_⟩, rfl⟩
    show Ending.returned (.int .i64 (-(c + 1).tmod (n : Int))) = _
    rw [← Int.neg_tmod, Int.tmod_eq_emod_of_nonneg (by omega), Int.toNat_of_nonneg q1]
  · have t1 : decide (c < 0) = false := by simpa using hc
    go_enter Tryd.func33, Tryd.ntmps33
    go_wp2_with fail
    go_ret
    have q1 := Int.emod_nonneg c (b := (n : Int)) (by omega)
    have q2 := Int.emod_lt_of_pos c (b := (n : Int)) (by omega)
    refine ⟨⟨(c % (n : Int)).toNat, by omega, ?_⟩, rfl⟩
    show Ending.returned (.int .i64 (c % (n : Int))) = _
    rw [Int.toNat_of_nonneg q1]
/-- One number more is taken. -/
theorem SrcB.step {w : World} {xb : Nat} {o : Option Addr} {n c k : Nat} (h : SrcB w xb o n c k) (hk : k < n) : SrcB (w.setCell ⟨xb, 1, none⟩ (.int .i64 ((k + 1 : Nat) : Int))) xb o n c (k + 1) ∧ FrG (OnX xb) (OnX xb) w (w.setCell ⟨xb, 1, none⟩ (.int .i64 ((k + 1 : Nat) : Int))) := by
  refine ⟨⟨?_, h.raw.keep fun b q => hset _ _ _ _ (by omega), by omega⟩, rfl, rfl, rfl, by rw [zset]; exact Nat.le_refl _, fun b _ hr => hset _ _ _ _ hr, fun _ q => Or.inl q⟩
  have := blk_set h.blk 1 (.int .i64 ((k + 1 : Nat) : Int))
  simpa using this

set_option maxHeartbeats 1000000 in
theorem nextK_any (w : World) (xb n : Nat) (h : SrcA w xb) (hn : 0 < n) (hn' : n ≤ 1000) :
    Calls Tryd.prog 16 #[.pointer (some ⟨xb, 0, none⟩), .int .i64 (n : Int)] w fun e w' => (∃ m : Nat, m < n ∧ e = .returned (.int .i64 (m : Int))) ∧ SrcA w' xb ∧ FrG (OnX xb) (OnX xb) w w' := by
  have HA := hide h
  obtain ⟨o, l, c, k, h⟩ := h
  have s0 := blkA h.blk 0
  have s1 := blkA h.blk 1
  have sf := blkX h.blk 1
  have sz := blk_lt h.blk
  simp only [List.getElem?_toArray, List.getElem?_cons_zero, List.getElem?_cons_succ] at s0 s1
  by_cases hk : k < l
  · obtain ⟨hl, h0 | ⟨b, off, rfl, hb, hc⟩⟩ := h.raw
    · omega
    · obtain ⟨v, f0, v1, v2⟩ := hc k hk
      unfold maxLen at hl
      have t1 : decide ((l : Int) ≤ (k : Int)) = false := by simp; omega
      have i0 : (0 : Int) ≤ (k : Int) := by omega
      have i1 : (k : Int) < (l : Int) := by omega
      have gz : b < w.heap.size := by omega
      have HS := hide (fun W (hb : Below w.heap.size w W) => (h.below hb).step hk)
      have HP := hide (fun W => pick_any W v n hn hn' v1 v2)
      clear h hc hk v1 v2
      go_enter Tryd.func16, Tryd.ntmps16
      go_wp2_with fail
      go_big_region
      go_wp2_with fail
      go_big_region
      go_wp2_with fail
      refine (unhide HP _).mono ?_
      rintro e w2 ⟨⟨m, hm, rfl⟩, rfl⟩
      have HM := hide hm
      clear hm
      go_wp2_with fail
      go_ret
      exact ⟨⟨m, unhide HM, rfl⟩, ⟨_, _, _, _, (unhide HS _ (Below.refl _ _).drew.drew).1⟩, (FrG.of_below (Below.refl _ _).drew.drew).trans (unhide HS _ (Below.refl _ _).drew.drew).2⟩
  · have t1 : decide (l ≤ k) = true := by simp; omega
    have t2 : l ≤ k := by omega
    clear h hk
    go_enter Tryd.func16, Tryd.ntmps16
    go_wp2_with fail
    go_big_region
    go_wp2_with fail
    go_ret
    exact ⟨⟨0, hn, rfl⟩, (unhide HA).below (Below.refl _ _).drew, FrG.of_below (Below.refl _ _).drew⟩
end Go.Proofs.YthfjnfcekeknlaaDoor
namespace Go.Proofs.YthfjnfcekeknlaaDoor
open Go.RowKit
/-- What 'Match' is to leave. -/
def PMa (a b : ByteArray) (la lb : List Parl.Tok) (w : World) (e : Ending) (w' : World) : Prop :=
  ∃ ov : Value, e = .returned (.tuple #[.int .i64 (Parl.mtN a b la lb : Int), ov, .int .i64 (Parl.mtE a b la lb : Int)]) ∧ w'.ownsRow w.heap.size 9 1 ov (Parl.mtW a b la lb).length ((Parl.mtW a b la lb).map fun x => .string ⟨x.toArray⟩) ∧ Below w.heap.size w w'
theorem new1S (W : World) (a : Value) (T : TypeId) : ∀ j u, ([a] : List Value)[j]? = some u → (W.alloc (.cells #[a] T)).cell? ((⟨W.heap.size, 0, none⟩ : Addr).add j) = some u := by
  intro j u hj
  match j, hj with
  | 0, hj => simp at hj; subst hj; simp [Addr.add]
theorem infoStrS : (Tryd.prog.info? 9).map (fun i => (i.zero, i.size, i.bytes)) = some (some (.string ⟨#[]⟩), 1, 16) := by kernel_rfl
theorem own_downS {b0 b1 : Nat} {w : World} {T : TypeId} {sz : Nat} {v : Value} {n : Nat} {xs : List Value} (h : w.ownsRow b1 T sz v n xs) (hb : b0 ≤ b1) : w.ownsRow b0 T sz v n xs :=
  ⟨h.1, h.2.imp id fun ⟨g, cap, cur, a, b, c, d⟩ => ⟨g, cap, cur, a, Nat.le_trans hb b, c, d⟩⟩
def LS (w1 : World) (ys : List Parl.Cls) (k : Nat) (sv iv : Value) (wr : World) : Prop :=
  ∃ j : Nat, k + j = ys.length ∧ iv = .int .i64 (j : Int) ∧ sv = .string ⟨(Parl.strP (ys.take j)).toArray⟩ ∧ Below w1.heap.size w1 wr
end Go.Proofs.YthfjnfcekeknlaaDoor
namespace Parl
theorem Chain.len {s : ByteArray} : ∀ (n p : Nat) (l : List Tok), Chain s l → hd l = next s p → s.size - p ≤ n → l.length ≤ n + 1 := by
  intro n
  induction n with
  | zero =>
    intro p l h hh hn
    match l, h with
    | [t], _ => simp
    | t :: u :: r, h =>
      have ht : t = next s p := hh
      have h0 : t.kind ≠ 0 := h.1
      rw [ht, Ne, next_kind] at h0
      have := skip_ge s p
      omega
  | succ n ih =>
    intro p l h hh hn
    match l, h with
    | [t], _ => simp
    | t :: u :: r, h =>
      have ht : t = next s p := hh
      have h0 : t.kind ≠ 0 := h.1
      have hu : u = next s (t.pos + t.text.size) := h.2.1
      rw [ht, Ne, next_kind] at h0
      have h1 := skip_ge s p
      have h2 := endAt_gt (s := s) (i := skip s p) (by omega)
      have h3 : t.pos + t.text.size = endAt s (skip s p) := by rw [ht]; exact next_behind (by omega)
      have := ih (t.pos + t.text.size) (u :: r) h.2.2 hu (by omega)
      simp only [List.length_cons] at this ⊢
      omega
/-- Every text has its tokens. -/
theorem toks_of (s : ByteArray) : ∃ L, Chain s L ∧ hd L = next s 0 ∧ (s.size ≤ 240 → L.length ≤ 1000) := by
  obtain ⟨l, hl⟩ := chain_is s s.size 0 (by omega)
  exact ⟨_, hl, rfl, fun hs => by have := hl.len s.size 0 _ rfl (by omega); omega⟩
end Parl
namespace Parl
theorem leafs_tx {m : Nat} (h : m < 10) : gLeaf (leafs[m]'h) ∧ tx (leafs[m]'h) = (leafs[m]'h).text.toList := ⟨leafs_ok _ (List.getElem_mem _), tx_leaf (leafs_ok _ (List.getElem_mem _))⟩
end Parl
namespace Go.Proofs.YthfjnfcekeknlaaDoor
open Go.RowKit

/-- A text that was made: by P. -/
def Made {α : Type} (P : α → Prop) (T : α → List UInt8) (xb : Nat) (w : World) (e : Ending) (w' : World) : Prop :=
  (∃ t, P t ∧ e = .returned (.string ⟨(T t).toArray⟩)) ∧ SrcA w' xb ∧ FrG (OnX xb) (OnX xb) w w'
theorem strs_at {W w2 : World} {b xb : Nat} {cs : Array Value} {T : TypeId} (h : W.heap[b]? = some (.cells cs T (0, 0))) (hb : b ≠ xb) (fr : FrG (OnX xb) (OnX xb) W w2) : ∀ i, w2.cell? ⟨b, i, none⟩ = cs[i]? := fun i => (fr.cell (p := ⟨b, i, none⟩) (blk_lt h) hb).trans (blkA h i)

set_option maxHeartbeats 2000000 in
theorem leaf_any (w : World) (xb : Nat) (h : SrcA w xb) :
    Calls Tryd.prog 22 #[.pointer (some ⟨xb, 0, none⟩)] w fun e w' => Made Parl.gLeaf Parl.tx xb w e w' := by
  have hx := h.lt
  have HB := hide ((Below.refl w.heap.size w).alloc (Nat.le_refl _) (.cells #[.string ⟨#[88]⟩, .string ⟨#[89]⟩, .string ⟨#[90]⟩, .string ⟨#[87]⟩, .string ⟨#[48]⟩, .string ⟨#[49]⟩, .string ⟨#[55]⟩, .string ⟨#[97]⟩, .string ⟨#[98]⟩, .string ⟨#[110]⟩] 9))
  have HN := hide (nextK_any (w.alloc (.cells #[.string ⟨#[88]⟩, .string ⟨#[89]⟩, .string ⟨#[90]⟩, .string ⟨#[87]⟩, .string ⟨#[48]⟩, .string ⟨#[49]⟩, .string ⟨#[55]⟩, .string ⟨#[97]⟩, .string ⟨#[98]⟩, .string ⟨#[110]⟩] 9)) xb 10 (h.below (unhide HB)) (by omega) (by omega))
  clear h
  go_enter Tryd.func22, Tryd.ntmps22
  go_wp2_with fail
  refine (unhide HN).mono ?_
  rintro e w2 ⟨⟨m, hm, rfl⟩, hs, fr⟩
  have f0 : w2.cell? ⟨w.heap.size, m, none⟩ = some (.string (Parl.leafs[m]'hm).text) := by
    rw [strs_at (heap_alloc_new w _) (by omega) fr m]
    rcases (show m = 0 ∨ m = 1 ∨ m = 2 ∨ m = 3 ∨ m = 4 ∨ m = 5 ∨ m = 6 ∨ m = 7 ∨ m = 8 ∨ m = 9 by omega) with rfl | rfl | rfl | rfl | rfl | rfl | rfl | rfl | rfl | rfl <;> rfl
  obtain ⟨q1, q2⟩ := Parl.leafs_tx hm
  have HT := hide (show ∃ t, Parl.gLeaf t ∧ (Parl.leafs[m]'hm).text = ⟨(Parl.tx t).toArray⟩ from ⟨_, q1, by rw [q2, Parl.ba_back]⟩)
  have gz : w.heap.size < w2.heap.size := by have := fr.size; rw [World.size_alloc] at this; omega
  have i0 : (0 : Int) ≤ (m : Int) := by omega
  have i1 : (m : Int) < 10 := by omega
  generalize (Parl.leafs[m]'hm).text = tt at *
  have HS := hide hs
  have HF := hide ((FrG.of_below (unhide HB)).trans fr)
  clear hs fr q1 q2 hm
  go_wp2_with fail
  go_ret
  obtain ⟨t, h1, h2⟩ := unhide HT
  exact ⟨⟨t, h1, by rw [← h2]; rfl⟩, unhide HS, unhide HF⟩
/-- What 'term' makes, so deep at most. -/
def TmSaid (d : Nat) : Prop := ∀ (w : World) (xb : Nat), SrcA w xb → Calls Tryd.prog 11 #[.pointer (some ⟨xb, 0, none⟩), .int .i64 (d : Int)] w fun e w' => Made (Parl.gT d) Parl.tx xb w e w'
theorem gT_leaf {t : Parl.Tm} (h : Parl.gLeaf t) : ∀ d, Parl.gT d t
  | 0 => h
  | _ + 1 => Or.inl h

set_option maxHeartbeats 2000000 in
theorem term_0 : TmSaid 0 := by
  intro w xb h
  have HN := hide (nextK_any w xb 4 h (by omega) (by omega))
  have HL := hide (fun W (q : SrcA W xb) => leaf_any W xb q)
  clear h
  go_enter Tryd.func11, Tryd.ntmps11
  go_wp2_with fail
  refine (unhide HN).mono ?_
  rintro e w2 ⟨⟨m, hm, rfl⟩, hs, fr⟩
  have HS := hide hs
  have HF := hide fr
  clear hs fr hm
  go_wp2_with fail
  refine (unhide HL _ (unhide HS)).mono ?_
  rintro e w3 ⟨⟨t, ht, rfl⟩, hs, fr⟩
  have HT := hide ht
  have HS3 := hide hs
  have HF3 := hide ((unhide HF).trans fr)
  clear ht hs fr
  generalize hta : (⟨(Parl.tx t).toArray⟩ : ByteArray) = tt at *
  have HTT := hide hta
  clear hta
  go_wp2_with fail
  go_ret
  exact ⟨⟨t, unhide HT, by rw [unhide HTT]; rfl⟩, unhide HS3, unhide HF3⟩
theorem f_text {d : Nat} {a : Parl.Tm} (h : Parl.gT d a) (hd : d < 7) : (⟨#[102, 40]⟩ : ByteArray) ++ ⟨(Parl.tx a).toArray⟩ ++ ⟨#[41]⟩ = ⟨(Parl.tx ⟨2, ⟨#[102]⟩, [a]⟩).toArray⟩ := by
  rw [Parl.tx_one _ h hd, show (⟨#[102, 40]⟩ : ByteArray) = ⟨[102, 40].toArray⟩ from rfl, ba_lit 41, ba_app, ba_app, show (⟨#[102]⟩ : ByteArray).toList = [102] by rw [ByteArray.toList_eq]]
  simp
theorem g_text {d : Nat} {a b : Parl.Tm} (h : Parl.gT d a) (hd : d < 7) (h' : Parl.gT d b) : (⟨#[103, 40]⟩ : ByteArray) ++ ⟨(Parl.tx a).toArray⟩ ++ ⟨#[44]⟩ ++ ⟨(Parl.tx b).toArray⟩ ++ ⟨#[41]⟩ = ⟨(Parl.tx ⟨2, ⟨#[103]⟩, [a, b]⟩).toArray⟩ := by
  rw [Parl.tx_two _ h hd h' hd, show (⟨#[103, 40]⟩ : ByteArray) = ⟨[103, 40].toArray⟩ from rfl, ba_lit 41, ba_lit 44, ba_app, ba_app, ba_app, ba_app, show (⟨#[103]⟩ : ByteArray).toList = [103] by rw [ByteArray.toList_eq]]
  simp
theorem tx_size {d : Nat} {t : Parl.Tm} (h : Parl.gT d t) (hd : d ≤ 2) : (⟨(Parl.tx t).toArray⟩ : ByteArray).size ≤ 100 := by
  have h1 := Parl.tx_len h (by omega)
  have h2 : Parl.lenG 1 d ≤ 16 := by
    rcases (show d = 0 ∨ d = 1 ∨ d = 2 by omega) with rfl | rfl | rfl <;> decide
  show (Parl.tx t).toArray.size ≤ 100
  simp
  omega

set_option maxHeartbeats 4000000 in
theorem term_s {d : Nat} (hd : d ≤ 1) (IH : TmSaid d) : TmSaid (d + 1) := by
  intro w xb h
  have HN := hide (nextK_any w xb 4 h (by omega) (by omega))
  have HL := hide (fun W (q : SrcA W xb) => leaf_any W xb q)
  have HI := hide (fun W (q : SrcA W xb) => IH W xb q)
  have t0 : (((d + 1 : Nat) : Int) == 0) = false := by simp; omega
  have t1 : ((d : Int) + 1 == 0) = false := by simp; omega
  have e1 : (d : Int) + 1 - 1 = (d : Int) := by omega
  clear h IH
  go_enter Tryd.func11, Tryd.ntmps11
  go_wp2_with fail
  refine (unhide HN).mono ?_
  rintro e w2 ⟨⟨m, hm, rfl⟩, hs, fr⟩
  have HS := hide hs
  have HF := hide fr
  clear hs fr
  rcases (show m < 2 ∨ m = 2 ∨ m = 3 by omega) with hq | rfl | rfl
  · have t2 : decide ((m : Int) < 2) = true := by simp; omega
    clear hm hq
    go_wp2_with fail
    refine (unhide HL _ (unhide HS)).mono ?_
    rintro e w3 ⟨⟨t, ht, rfl⟩, hs, fr⟩
    have HT := hide ht
    have HS3 := hide hs
    have HF3 := hide ((unhide HF).trans fr)
    clear ht hs fr
    generalize hta : (⟨(Parl.tx t).toArray⟩ : ByteArray) = tt at *
    have HTT := hide hta
    clear hta
    go_wp2_with fail
    go_ret
    exact ⟨⟨t, gT_leaf (unhide HT) _, by rw [unhide HTT]; rfl⟩, unhide HS3, unhide HF3⟩
  · clear hm
    go_wp2_with fail
    try simp only [e1]
    refine (unhide HI _ (unhide HS)).mono ?_
    rintro e w3 ⟨⟨a, ha, rfl⟩, hs, fr⟩
    have HA := hide ha
    have HS3 := hide hs
    have HF3 := hide ((unhide HF).trans fr)
    have za := tx_size ha (by omega)
    have HTX := hide (f_text ha (by omega))
    clear ha hs fr
    generalize (⟨(Parl.tx a).toArray⟩ : ByteArray) = ta at *
    go_wp2_with fail
    go_ret
    exact ⟨⟨⟨2, ⟨#[102]⟩, [a]⟩, Or.inr (Or.inl ⟨rfl, rfl, a, rfl, unhide HA⟩), by rw [← unhide HTX]; rfl⟩, unhide HS3, unhide HF3⟩
  · clear hm
    go_wp2_with fail
    try simp only [e1]
    refine (unhide HI _ (unhide HS)).mono ?_
    rintro e w3 ⟨⟨a, ha, rfl⟩, hs, fr⟩
    have HA := hide ha
    have HS3 := hide hs
    have HF3 := hide ((unhide HF).trans fr)
    have za := tx_size ha (by omega)
    clear ha hs fr
    generalize hta : (⟨(Parl.tx a).toArray⟩ : ByteArray) = ta at *
    have HTA := hide hta
    clear hta
    go_wp2_with fail
    try simp only [e1]
    refine (unhide HI _ (unhide HS3)).mono ?_
    rintro e w4 ⟨⟨b, hb, rfl⟩, hs, fr⟩
    have HB := hide hb
    have HS4 := hide hs
    have HF4 := hide ((unhide HF3).trans fr)
    have zb := tx_size hb (by omega)
    have HTX := hide (g_text (unhide HA) (by omega) hb)
    rw [unhide HTA] at HTX
    clear hb hs fr
    generalize (⟨(Parl.tx b).toArray⟩ : ByteArray) = tb at *
    go_wp2_with fail
    go_ret
    exact ⟨⟨⟨2, ⟨#[103]⟩, [a, b]⟩, Or.inr (Or.inr ⟨rfl, rfl, a, b, rfl, unhide HA, unhide HB⟩), by rw [← unhide HTX]; rfl⟩, unhide HS4, unhide HF4⟩
theorem term_1 : TmSaid 1 := term_s (by omega) term_0
theorem term_2 : TmSaid 2 := term_s (by omega) term_1
end Go.Proofs.YthfjnfcekeknlaaDoor
namespace Go.Proofs.YthfjnfcekeknlaaDoor
open Go.RowKit

theorem fun1_text {a : Parl.Tm} (x : UInt8) (h : Parl.gT 1 a) : (⟨#[x]⟩ : ByteArray) ++ ⟨#[40]⟩ ++ ⟨(Parl.tx a).toArray⟩ ++ ⟨#[41]⟩ = ⟨(Parl.tx ⟨2, ⟨#[x]⟩, [a]⟩).toArray⟩ := by
  rw [Parl.tx_one _ h (by omega), ba_lit 41, ba_lit 40, ba_lit x, ba_app, ba_app, ba_app, show (⟨[x].toArray⟩ : ByteArray).toList = [x] by rw [ByteArray.toList_eq]]
  simp
theorem fun2_text {a b : Parl.Tm} (x : UInt8) (h : Parl.gT 1 a) (h' : Parl.gT 1 b) : (⟨#[x]⟩ : ByteArray) ++ ⟨#[40]⟩ ++ ⟨(Parl.tx a).toArray⟩ ++ ⟨#[44]⟩ ++ ⟨(Parl.tx b).toArray⟩ ++ ⟨#[41]⟩ = ⟨(Parl.tx ⟨2, ⟨#[x]⟩, [a, b]⟩).toArray⟩ := by
  rw [Parl.tx_two _ h (by omega) h' (by omega), ba_lit 41, ba_lit 40, ba_lit 44, ba_lit x, ba_app, ba_app, ba_app, ba_app, ba_app, show (⟨[x].toArray⟩ : ByteArray).toList = [x] by rw [ByteArray.toList_eq]]
  simp
theorem lit_text (b : ByteArray) : b = ⟨(Parl.tx ⟨2, b, []⟩).toArray⟩ := by rw [Parl.tx_none, Parl.ba_back]
theorem gFuns_at {m : Nat} (h : m < 3) : Parl.gFuns[m]'h ∈ Parl.gFuns := List.getElem_mem _

set_option maxHeartbeats 4000000 in
theorem call_any (w : World) (xb : Nat) (h : SrcA w xb) :
    Calls Tryd.prog 34 #[.pointer (some ⟨xb, 0, none⟩)] w fun e w' => Made Parl.gCall Parl.tx xb w e w' := by
  have hx := h.lt
  have HB := hide ((Below.refl w.heap.size w).alloc (Nat.le_refl _) (.cells #[.string ⟨#[112]⟩, .string ⟨#[113]⟩, .string ⟨#[114]⟩, .string ⟨#[116, 114, 117, 101]⟩] 9))
  have HN := hide (nextK_any (w.alloc (.cells #[.string ⟨#[112]⟩, .string ⟨#[113]⟩, .string ⟨#[114]⟩, .string ⟨#[116, 114, 117, 101]⟩] 9)) xb 4 (h.below (unhide HB)) (by omega) (by omega))
  have HN3 := hide (fun W (q : SrcA W xb) => nextK_any W xb 3 q (by omega) (by omega))
  have HI := hide (fun W (q : SrcA W xb) => term_1 W xb q)
  clear h
  go_enter Tryd.func34, Tryd.ntmps34
  go_wp2_with fail
  refine (unhide HN).mono ?_
  rintro e w2 ⟨⟨m, hm, rfl⟩, hs, fr⟩
  have gz : w.heap.size < w2.heap.size := by have := fr.size; rw [World.size_alloc] at this; omega
  have HS := hide hs
  have fc := strs_at (heap_alloc_new w (.cells #[.string ⟨#[112]⟩, .string ⟨#[113]⟩, .string ⟨#[114]⟩, .string ⟨#[116, 114, 117, 101]⟩] 9)) (by omega) fr
  have HF := hide ((FrG.of_below (unhide HB)).trans fr)
  clear hs fr
  rcases (show m = 3 ∨ m < 3 by omega) with rfl | hm3
  · have f0 := fc 3
    simp only [List.getElem?_toArray, List.getElem?_cons_zero, List.getElem?_cons_succ] at f0
    clear fc hm
    go_wp2_with fail
    refine (unhide HN3 _ (unhide HS)).mono ?_
    rintro e w3 ⟨⟨k, hk, rfl⟩, hs, fr⟩
    have HS3 := hide hs
    have HF3 := hide ((unhide HF).trans fr)
    clear hs fr hk
    go_wp2_with fail
    go_ret
    exact ⟨⟨⟨2, ⟨#[116, 114, 117, 101]⟩, []⟩, ⟨rfl, Or.inl ⟨rfl, rfl⟩⟩, by rw [← lit_text]; rfl⟩, unhide HS3, unhide HF3⟩
  · obtain ⟨x, hx, f0, tq⟩ : ∃ x : UInt8, (⟨#[x]⟩ : ByteArray) ∈ Parl.gFuns ∧ w2.cell? ⟨w.heap.size, m, none⟩ = some (.string ⟨#[x]⟩) ∧ ((⟨#[x]⟩ : ByteArray).toList == (⟨#[116, 114, 117, 101]⟩ : ByteArray).toList) = false := by
      have hl : ∀ x : UInt8, ((⟨#[x]⟩ : ByteArray).toList == (⟨#[116, 114, 117, 101]⟩ : ByteArray).toList) = false := fun x => by
        rw [ByteArray.toList_eq, ByteArray.toList_eq]
        simp
      rcases (show m = 0 ∨ m = 1 ∨ m = 2 by omega) with rfl | rfl | rfl
      · exact ⟨112, by simp [Parl.gFuns], fc 0, hl _⟩
      · exact ⟨113, by simp [Parl.gFuns], fc 1, hl _⟩
      · exact ⟨114, by simp [Parl.gFuns], fc 2, hl _⟩
    have HX := hide hx
    have i0 : (0 : Int) ≤ (m : Int) := by omega
    have i1 : (m : Int) < 4 := by omega
    clear fc hm hm3 hx
    have zx : (⟨#[x]⟩ : ByteArray).size = 1 := rfl
    go_wp2_with fail
    refine (unhide HN3 _ (unhide HS)).mono ?_
    rintro e w3 ⟨⟨k, hk, rfl⟩, hs, fr⟩
    have HS3 := hide hs
    have HF3 := hide ((unhide HF).trans fr)
    clear hs fr
    rcases (show k = 0 ∨ k = 1 ∨ k = 2 by omega) with rfl | rfl | rfl
    · clear hk
      go_wp2_with fail
      go_ret
      exact ⟨⟨⟨2, ⟨#[x]⟩, []⟩, ⟨rfl, Or.inr ⟨unhide HX, Or.inl rfl⟩⟩, by rw [← lit_text]; rfl⟩, unhide HS3, unhide HF3⟩
    · clear hk
      go_wp2_with fail
      refine (unhide HI _ (unhide HS3)).mono ?_
      rintro e w4 ⟨⟨a, ha, rfl⟩, hs, fr⟩
      have HA := hide ha
      have HS4 := hide hs
      have HF4 := hide ((unhide HF3).trans fr)
      have za := tx_size ha (by omega)
      have HTX := hide (fun1_text x ha)
      clear ha hs fr
      generalize (⟨(Parl.tx a).toArray⟩ : ByteArray) = ta at *
      go_wp2_with fail
      go_ret
      exact ⟨⟨⟨2, ⟨#[x]⟩, [a]⟩, ⟨rfl, Or.inr ⟨unhide HX, Or.inr (Or.inl ⟨a, rfl, unhide HA⟩)⟩⟩, by rw [← unhide HTX]; rfl⟩, unhide HS4, unhide HF4⟩
    · clear hk
      go_wp2_with fail
      refine (unhide HI _ (unhide HS3)).mono ?_
      rintro e w4 ⟨⟨a, ha, rfl⟩, hs, fr⟩
      have HA := hide ha
      have HS4 := hide hs
      have HF4 := hide ((unhide HF3).trans fr)
      have za := tx_size ha (by omega)
      clear ha hs fr
      generalize hta : (⟨(Parl.tx a).toArray⟩ : ByteArray) = ta at *
      have HTA := hide hta
      clear hta
      go_wp2_with fail
      refine (unhide HI _ (unhide HS4)).mono ?_
      rintro e w5 ⟨⟨b, hb, rfl⟩, hs, fr⟩
      have HB2 := hide hb
      have HS5 := hide hs
      have HF5 := hide ((unhide HF4).trans fr)
      have zb := tx_size hb (by omega)
      have HTX := hide (fun2_text x (unhide HA) hb)
      rw [unhide HTA] at HTX
      clear hb hs fr
      generalize (⟨(Parl.tx b).toArray⟩ : ByteArray) = tb at *
      go_wp2_with fail
      go_ret
      exact ⟨⟨⟨2, ⟨#[x]⟩, [a, b]⟩, ⟨rfl, Or.inr ⟨unhide HX, Or.inr (Or.inr ⟨a, b, rfl, unhide HA, unhide HB2⟩)⟩⟩, by rw [← unhide HTX]; rfl⟩, unhide HS5, unhide HF5⟩
theorem call_size {t : Parl.Tm} (h : Parl.gCall t) : (⟨(Parl.tx t).toArray⟩ : ByteArray).size ≤ 16 := by
  have := (Parl.gCall_ok Parl.idS_ok h).2.1
  show (Parl.tx t).toArray.size ≤ 16
  simpa [Parl.tx] using this
theorem prI_call (t : Parl.Tm) : Parl.prI Parl.idS ⟨t, [], none, [], none⟩ = Parl.tx t := by simp [Parl.prI, Parl.tx]
theorem eq_text (a b : Parl.Tm) : (⟨(Parl.tx a).toArray⟩ : ByteArray) ++ ⟨#[61]⟩ ++ ⟨(Parl.tx b).toArray⟩ = ⟨(Parl.prI Parl.idS ⟨a, [61], some b, [], none⟩).toArray⟩ := by
  rw [ba_lit 61, ba_app, ba_app]
  simp [Parl.prI, Parl.tx]

set_option maxHeartbeats 4000000 in
theorem goal_any (w : World) (xb : Nat) (h : SrcA w xb) :
    Calls Tryd.prog 54 #[.pointer (some ⟨xb, 0, none⟩)] w fun e w' => Made Parl.gGl (Parl.prI Parl.idS) xb w e w' := by
  have HN := hide (nextK_any w xb 3 h (by omega) (by omega))
  have HC := hide (fun W (q : SrcA W xb) => call_any W xb q)
  have HI := hide (fun W (q : SrcA W xb) => term_1 W xb q)
  clear h
  go_enter Tryd.func54, Tryd.ntmps54
  go_wp2_with fail
  refine (unhide HN).mono ?_
  rintro e w2 ⟨⟨m, hm, rfl⟩, hs, fr⟩
  have HS := hide hs
  have HF := hide fr
  clear hs fr
  rcases (show m = 0 ∨ 0 < m by omega) with rfl | hm0
  · clear hm
    go_wp2_with fail
    refine (unhide HI _ (unhide HS)).mono ?_
    rintro e w4 ⟨⟨a, ha, rfl⟩, hs, fr⟩
    have HA := hide ha
    have HS4 := hide hs
    have HF4 := hide ((unhide HF).trans fr)
    have za := tx_size ha (by omega)
    clear ha hs fr
    generalize hta : (⟨(Parl.tx a).toArray⟩ : ByteArray) = ta at *
    have HTA := hide hta
    clear hta
    go_wp2_with fail
    refine (unhide HI _ (unhide HS4)).mono ?_
    rintro e w5 ⟨⟨b, hb, rfl⟩, hs, fr⟩
    have HB2 := hide hb
    have HS5 := hide hs
    have HF5 := hide ((unhide HF4).trans fr)
    have zb := tx_size hb (by omega)
    have HTX := hide (eq_text a b)
    rw [unhide HTA] at HTX
    clear hb hs fr
    generalize (⟨(Parl.tx b).toArray⟩ : ByteArray) = tb at *
    go_wp2_with fail
    go_ret
    exact ⟨⟨⟨a, [61], some b, [], none⟩, .eq a b (unhide HA) (unhide HB2), by rw [← unhide HTX]; rfl⟩, unhide HS5, unhide HF5⟩
  · have t1 : decide (0 < m) = true := by simp; omega
    clear hm
    go_wp2_with fail
    refine (unhide HC _ (unhide HS)).mono ?_
    rintro e w4 ⟨⟨t, ht, rfl⟩, hs, fr⟩
    have HT := hide ht
    have HS4 := hide hs
    have HF4 := hide ((unhide HF).trans fr)
    clear ht hs fr
    generalize hta : (⟨(Parl.tx t).toArray⟩ : ByteArray) = ta at *
    have HTA := hide hta
    clear hta
    go_wp2_with fail
    go_ret
    exact ⟨⟨⟨t, [], none, [], none⟩, .call t (unhide HT), by rw [prI_call, unhide HTA]; rfl⟩, unhide HS4, unhide HF4⟩
end Go.Proofs.YthfjnfcekeknlaaDoor
namespace Parl
def gGs (xs : List Itm) : Prop := xs ≠ [] ∧ xs.length ≤ 3 ∧ ∀ x ∈ xs, gGl x
theorem prL_more (xs : List Itm) (x : Itm) (h : xs ≠ []) : prL idS false (xs ++ [x]) = prL idS false xs ++ 44 :: prI idS x := by
  cases xs with
  | nil => exact absurd rfl h
  | cons y ys => simp [prL, sp]
theorem prL_one (x : Itm) : prL idS false [x] = prI idS x := by simp [prL]
theorem prL_few {xs : List Itm} (h : ∀ x ∈ xs, gGl x) (h3 : xs.length ≤ 3) : (prL idS false xs).length ≤ 54 := by
  have h1 := prL_len (σ := idS) (b := false) (a := 1) (xs := xs) (fun x hx => (gGl_ok idS_ok (h x hx)).2)
  have h2 : xs.length * (14 + 4 * 1) ≤ 3 * (14 + 4 * 1) := Nat.mul_le_mul_right _ h3
  omega
def relS : List (List UInt8) := [[61, 61], [92, 61], [60], [61, 60]]
end Parl
namespace Go.Proofs.YthfjnfcekeknlaaDoor
open Go.RowKit

theorem goal_size {x : Parl.Itm} (h : Parl.gGl x) : (⟨(Parl.prI Parl.idS x).toArray⟩ : ByteArray).size ≤ 16 := by
  have := (Parl.gGl_ok Parl.idS_ok h).2
  show (Parl.prI Parl.idS x).toArray.size ≤ 16
  simpa using this
theorem comma_text (xs : List Parl.Itm) (x : Parl.Itm) (h : xs ≠ []) : (⟨(Parl.prL Parl.idS false xs).toArray⟩ : ByteArray) ++ ⟨#[44]⟩ ++ ⟨(Parl.prI Parl.idS x).toArray⟩ = ⟨(Parl.prL Parl.idS false (xs ++ [x])).toArray⟩ := by
  rw [Parl.prL_more xs x h, ba_lit 44, ba_app, ba_app]
  simp
/-- The loop over the goals. -/
def LGs (w : World) (xb : Nat) (k : Nat) (sv iv : Value) (wr : World) : Prop :=
  ∃ xs : List Parl.Itm, xs ≠ [] ∧ xs.length + k ≤ 3 ∧ (∀ x ∈ xs, Parl.gGl x) ∧ sv = .string ⟨(Parl.prL Parl.idS false xs).toArray⟩ ∧ iv = .int .i64 (k : Int) ∧ SrcA wr xb ∧ FrG (OnX xb) (OnX xb) w wr

set_option maxHeartbeats 4000000 in
theorem goals_any (w : World) (xb : Nat) (h : SrcA w xb) :
    Calls Tryd.prog 36 #[.pointer (some ⟨xb, 0, none⟩)] w fun e w' => Made Parl.gGs (Parl.prL Parl.idS false) xb w e w' := by
  have HN := hide (fun W (q : SrcA W xb) => nextK_any W xb 3 q (by omega) (by omega))
  have HC := hide (fun W (q : SrcA W xb) => goal_any W xb q)
  have H := hide h
  clear h
  go_enter Tryd.func36, Tryd.ntmps36
  go_wp2_with fail
  refine (unhide HC _ (unhide H)).mono ?_
  rintro e w2 ⟨⟨x, hx, rfl⟩, hs, fr⟩
  have HX := hide hx
  have HS := hide hs
  have HF := hide fr
  clear hx hs fr
  generalize hta : (⟨(Parl.prI Parl.idS x).toArray⟩ : ByteArray) = ta at *
  have HTA := hide hta
  clear hta
  go_wp2_with fail
  refine (unhide HN _ (unhide HS)).mono ?_
  rintro e w3 ⟨⟨m, hm, rfl⟩, hs, fr⟩
  have HST := hide (show LGs w xb m (.string ta) (.int .i64 (m : Int)) w3 from ⟨[x], by simp, by simp; omega, fun y hy => by rw [List.mem_singleton.1 hy]; exact unhide HX, by rw [Parl.prL_one, unhide HTA], rfl, hs, (unhide HF).trans fr⟩)
  clear hs fr
  go_wp2_with fail
  go_loopg [3, 4] m (fun k sv iv wr => LGs w xb k sv iv wr)
  case atStart => exact unhide HST
  case round =>
    clear HST HTA HX
    obtain ⟨xs, hne, h3, hg, rfl, rfl, hs, fr⟩ := hrel
    have HNE := hide hne
    have HG := hide hg
    have HS := hide hs
    have HF := hide fr
    have zz : (⟨(Parl.prL Parl.idS false xs).toArray⟩ : ByteArray).size ≤ 54 := by
      have := Parl.prL_few hg (by omega)
      show (Parl.prL Parl.idS false xs).toArray.size ≤ 54
      simpa using this
    clear hs fr hg hne
    generalize hta : (⟨(Parl.prL Parl.idS false xs).toArray⟩ : ByteArray) = tb at *
    have HTB := hide hta
    clear hta
    rcases (show gk = 0 ∨ 0 < gk by omega) with rfl | hk0
    · go_wp2_with fail
      go_ret
      exact ⟨⟨xs, ⟨unhide HNE, by omega, unhide HG⟩, by rw [unhide HTB]; rfl⟩, unhide HS, unhide HF⟩
    · have t1 : decide (0 < gk) = true := by simp; omega
      go_wp2_with fail
      refine (unhide HC _ (unhide HS)).mono ?_
      rintro e w5 ⟨⟨y, hy, rfl⟩, hs, fr⟩
      have HY := hide hy
      have HS5 := hide hs
      have HF5 := hide ((unhide HF).trans fr)
      have zy := goal_size hy
      have HTX := hide (comma_text xs y (unhide HNE))
      rw [unhide HTB] at HTX
      clear hy hs fr
      generalize (⟨(Parl.prI Parl.idS y).toArray⟩ : ByteArray) = ty at *
      go_wp2_with fail
      go_roundg (gk - 1)
      case measure => omega
      case rel => exact ⟨xs ++ [y], by simp, by simp; omega, fun z hz => by
        rcases List.mem_append.1 hz with q | q
        · exact unhide HG z q
        · rw [List.mem_singleton.1 q]; exact unhide HY, by rw [← unhide HTX], by go_num, unhide HS5, unhide HF5⟩
theorem goals_size {xs : List Parl.Itm} (h : Parl.gGs xs) : (⟨(Parl.prL Parl.idS false xs).toArray⟩ : ByteArray).size ≤ 54 := by
  have := Parl.prL_few h.2.2 h.2.1
  show (Parl.prL Parl.idS false xs).toArray.size ≤ 54
  simpa using this
theorem leaf_size {t : Parl.Tm} (h : Parl.gLeaf t) : (⟨(Parl.tx t).toArray⟩ : ByteArray).size ≤ 100 := tx_size (d := 0) h (by omega)
theorem int_text {a : Parl.Tm} (h : Parl.gLeaf a) : (⟨#[105, 110, 116, 40]⟩ : ByteArray) ++ ⟨(Parl.tx a).toArray⟩ ++ ⟨#[41]⟩ = ⟨(Parl.prI Parl.idS ⟨⟨2, ⟨#[105, 110, 116]⟩, [a]⟩, [], none, [], none⟩).toArray⟩ := by
  rw [prI_call, Parl.tx_one (d := 0) _ h (by omega), show (⟨#[105, 110, 116, 40]⟩ : ByteArray) = ⟨[105, 110, 116, 40].toArray⟩ from rfl, ba_lit 41, ba_app, ba_app, show (⟨#[105, 110, 116]⟩ : ByteArray).toList = [105, 110, 116] by rw [ByteArray.toList_eq]]
  simp
theorem rel_text (a b : Parl.Tm) (g : List UInt8) : (⟨(Parl.tx a).toArray⟩ : ByteArray) ++ ⟨g.toArray⟩ ++ ⟨(Parl.tx b).toArray⟩ = ⟨(Parl.prI Parl.idS ⟨a, g, some b, [], none⟩).toArray⟩ := by
  rw [ba_app, ba_app]
  simp [Parl.prI, Parl.tx]

set_option maxHeartbeats 4000000 in
theorem test_any (w : World) (xb : Nat) (h : SrcA w xb) :
    Calls Tryd.prog 35 #[.pointer (some ⟨xb, 0, none⟩)] w fun e w' => Made Parl.gTs (Parl.prI Parl.idS) xb w e w' := by
  have hx := h.lt
  have HB := hide ((Below.refl w.heap.size w).alloc (Nat.le_refl _) (.cells #[.string ⟨#[61, 61]⟩, .string ⟨#[92, 61]⟩, .string ⟨#[60]⟩, .string ⟨#[61, 60]⟩] 9))
  have HS0 := hide (h.below (unhide HB))
  have HN := hide (fun W (q : SrcA W xb) => nextK_any W xb 5 q (by omega) (by omega))
  have HL := hide (fun W (q : SrcA W xb) => leaf_any W xb q)
  clear h
  go_enter Tryd.func35, Tryd.ntmps35
  go_wp2_with fail
  refine (unhide HL _ (unhide HS0)).mono ?_
  rintro e w2 ⟨⟨a, ha, rfl⟩, hs, fr⟩
  have fc := strs_at (heap_alloc_new w (.cells #[.string ⟨#[61, 61]⟩, .string ⟨#[92, 61]⟩, .string ⟨#[60]⟩, .string ⟨#[61, 60]⟩] 9)) (by omega) fr
  have gz : w.heap.size < w2.heap.size := by have := fr.size; rw [World.size_alloc] at this; omega
  have HA := hide ha
  have HS := hide hs
  have HF := hide ((FrG.of_below (unhide HB)).trans fr)
  have za := leaf_size ha
  clear ha hs fr
  generalize hta : (⟨(Parl.tx a).toArray⟩ : ByteArray) = ta at *
  have HTA := hide hta
  clear hta
  go_wp2_with fail
  refine (unhide HN _ (unhide HS)).mono ?_
  rintro e w3 ⟨⟨m, hm, rfl⟩, hs, fr⟩
  have fc3 := fun i => (fr.cell (p := ⟨w.heap.size, i, none⟩) gz (by show ¬ w.heap.size = xb; omega)).trans (fc i)
  have gz3 : w.heap.size < w3.heap.size := by have := fr.size; omega
  have HS3 := hide hs
  have HF3 := hide ((unhide HF).trans fr)
  clear hs fr fc
  rcases (show m = 4 ∨ m < 4 by omega) with rfl | hm4
  · have HTX := hide (int_text (unhide HA))
    rw [unhide HTA] at HTX
    clear fc3 hm
    go_wp2_with fail
    go_ret
    exact ⟨⟨_, .int a (unhide HA), by rw [← unhide HTX]; rfl⟩, unhide HS3, unhide HF3⟩
  · obtain ⟨g, hg, zg, f0⟩ : ∃ g : List UInt8, (g = [61, 61] ∨ g = [92, 61] ∨ g = [60] ∨ g = [61, 60]) ∧ (⟨g.toArray⟩ : ByteArray).size ≤ 2 ∧ w3.cell? ⟨w.heap.size, m, none⟩ = some (.string ⟨g.toArray⟩) := by
      rcases (show m = 0 ∨ m = 1 ∨ m = 2 ∨ m = 3 by omega) with rfl | rfl | rfl | rfl
      · exact ⟨[61, 61], Or.inl rfl, by decide, fc3 0⟩
      · exact ⟨[92, 61], Or.inr (Or.inl rfl), by decide, fc3 1⟩
      · exact ⟨[60], Or.inr (Or.inr (Or.inl rfl)), by decide, fc3 2⟩
      · exact ⟨[61, 60], Or.inr (Or.inr (Or.inr rfl)), by decide, fc3 3⟩
    have HGG := hide hg
    have t4 : ((m : Int) == 4) = false := by simp; omega
    have i0 : (0 : Int) ≤ (m : Int) := by omega
    have i1 : (m : Int) < 4 := by omega
    have HTX0 := hide (fun b => rel_text a b g)
    rw [unhide HTA] at HTX0
    generalize (⟨g.toArray⟩ : ByteArray) = gt at *
    clear fc3 hm hg
    go_wp2_with fail
    refine (unhide HL _ (unhide HS3)).mono ?_
    rintro e w5 ⟨⟨b, hb, rfl⟩, hs, fr⟩
    have f0 := (fr.cell (p := ⟨w.heap.size, m, none⟩) gz3 (by show ¬ w.heap.size = xb; omega)).trans f0
    have gz5 : w.heap.size < w5.heap.size := by have := fr.size; omega
    have HB2 := hide hb
    have HS5 := hide hs
    have HF5 := hide ((unhide HF3).trans fr)
    have zb := leaf_size hb
    have HTX := hide (unhide HTX0 b)
    clear hb hs fr HTX0
    generalize (⟨(Parl.tx b).toArray⟩ : ByteArray) = tb at *
    go_wp2_with fail
    go_ret
    exact ⟨⟨_, .rel a b g (unhide HA) (unhide HB2) (unhide HGG), by rw [← unhide HTX]; rfl⟩, unhide HS5, unhide HF5⟩
end Go.Proofs.YthfjnfcekeknlaaDoor
