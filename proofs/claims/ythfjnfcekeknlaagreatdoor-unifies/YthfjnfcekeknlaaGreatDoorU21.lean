import Derived.Test.YthfjnfcekeknlaaGreatDoorU02
import Derived.Test.YthfjnfcekeknlaaGreatDoorU18
namespace Parl
/-- A term as it was read, with what its variables are. -/
def tmU (η : List UInt8 → U) : Nat → Tm → U
  | 0, _ => .v ([], 0)
  | f + 1, t => if t.kind = 3 then η t.text.toList else if t.kind = 4 then .n 3 [] (numOf t.text : Int) [] else .n 1 t.text.toList 0 (t.args.map (tmU η f))
/-- Its variables being of a side. -/
def toU (f sd : Nat) (t : Tm) : U := tmU (fun x => .v (x, sd)) f t
theorem tmU_sub (η : List UInt8 → U) (sd : Nat) : ∀ (f : Nat) (t : Tm), wfK f t → tmU η f t = sub (fun v => η v.1) (toU f sd t)
  | f + 1, t, h => by
    unfold toU tmU
    by_cases k : t.kind = 3
    · rw [if_pos k, if_pos k]; rfl
    · rw [if_neg k, if_neg k]
      by_cases k4 : t.kind = 4
      · rw [if_pos k4, if_pos k4, sub_n]; rfl
      · rw [if_neg k4, if_neg k4, sub_n, List.map_map]
        congr 1
        exact List.map_congr_left fun a ha => tmU_sub η sd f a (h.2.2.2 a ha)
/-- The variables that it has. -/
theorem toU_has (sd : Nat) {v : Vr} : ∀ (f : Nat) (t : Tm), wfK f t → has v (toU f sd t) → v.2 = sd ∧ ∀ ns, v.1 ∈ namesF f ns t
  | f + 1, t, h, hv => by
    unfold toU tmU at hv
    unfold namesF
    by_cases k : t.kind = 3
    · rw [if_pos k] at hv
      rw [has] at hv
      subst hv
      refine ⟨rfl, fun ns => ?_⟩
      rw [if_pos k]
      unfold addN
      split
      · assumption
      · simp
    · rw [if_neg k] at hv
      by_cases k4 : t.kind = 4
      · rw [if_pos k4, has_n] at hv
        obtain ⟨a, ha, _⟩ := hv
        cases ha
      · rw [if_neg k4, has_n] at hv
        obtain ⟨a, ha, hv⟩ := hv
        obtain ⟨c, hc, rfl⟩ := List.mem_map.1 ha
        obtain ⟨i1, i2⟩ := toU_has sd f c (h.2.2.2 c hc) hv
        refine ⟨i1, fun ns => ?_⟩
        rw [if_neg k, if_neg k4]
        obtain ⟨l1, l2, he⟩ := List.append_of_mem hc
        rw [he, List.foldl_append, List.foldl_cons]
        obtain ⟨K, hK⟩ := namesW_ext f l2 (namesF f (l1.foldl (namesF f) ns) c)
        rw [hK]
        exact List.mem_append_left _ (i2 _)
end Parl
namespace Parl
open Classical in
/-- Of two terms: the text, whether there is one, the error. -/
noncomputable def unR (x y : U) : List UInt8 × Bool × Nat :=
  if h : ∃ z, IsM x y z then (if 40 < size (choose h) then ([], false, 4) else (strU Go.Lib.itoa (namesU [] (choose h)) (choose h), true, 0)) else ([], false, 0)
theorem unR_is {x y z : U} (h : IsM x y z) : unR x y = if 40 < size z then ([], false, 4) else (strU Go.Lib.itoa (namesU [] z) z, true, 0) := by
  unfold unR
  have hx : ∃ z, IsM x y z := ⟨z, h⟩
  rw [dif_pos hx]
  have := (IsM.vari (Classical.choose_spec hx) h).str Go.Lib.itoa
  rw [this.1, this.2]
theorem unR_no {x y : U} (h : ∀ θ, sub θ x ≠ sub θ y) : unR x y = ([], false, 0) := by
  unfold unR
  rw [dif_neg]
  rintro ⟨z, ⟨θ, h1, h2⟩, _⟩
  exact h θ (h1.trans h2.symm)
/-- Of two texts. -/
noncomputable def unA (a b : ByteArray) (la lb : List Tok) : List UInt8 × Bool × Nat :=
  if bothE a b la lb = 0 then (match whole la, whole lb with
    | .inr (p, _), .inr (t, _) => unR (toU 8 1 p) (toU 8 2 t)
    | _, _ => ([], false, 0)) else ([], false, bothE a b la lb)
theorem unA_is {a b : ByteArray} {la lb l1 l2 : List Tok} {p t : Tm} (h0 : bothE a b la lb = 0) (hp : whole la = .inr (p, l1)) (ht : whole lb = .inr (t, l2)) : unA a b la lb = unR (toU 8 1 p) (toU 8 2 t) := by
  unfold unA
  rw [if_pos h0, hp, ht]
theorem unA_err {a b : ByteArray} {la lb : List Tok} (h : bothE a b la lb ≠ 0) : unA a b la lb = ([], false, bothE a b la lb) := by
  unfold unA
  rw [if_neg h]
end Parl
namespace Parl
theorem prod_app : ∀ (a b : List U), prod (a ++ b) = prod a * prod b
  | [], b => by rw [List.nil_append, prod, Nat.one_mul]
  | m :: a, b => by rw [List.cons_append, prod, prod, prod_app a b, Nat.mul_assoc]
theorem sees_len1 {l : List Tok} {g : List UInt8} (h : sees l g = true) : l.length = l.tail.length + 1 := by
  cases l with
  | nil => simp [sees, hd] at h
  | cons a l => simp
theorem begins_len1 {l : List Tok} (h : begins (hd l) = true) : l.length = l.tail.length + 1 := by
  cases l with
  | nil => simp [begins, hd] at h
  | cons a l => simp
/-- A term took c tokens. -/
def Took (N : List U) (z c : Nat) : Prop := prod N ^ 4 * z ≤ 2 ^ c ∧ N.length ≤ c
theorem args_took {g : Tm → U} {p : List Tok → Res Tm} (hp : ∀ l t l1, p l = .inr (t, l1) → ∃ c, c + l1.length ≤ l.length ∧ Took (subs (g t)) 2 c) : ∀ (k : Nat) (l : List Tok) (ts : List Tm) (l2 : List Tok), argsOf p k l = .inr (ts, l2) → ∃ c, c + l2.length ≤ l.length ∧ Took (subsL (ts.map g)) (4 ^ ts.length) c := by
  have last : ∀ (l l1 : List Tok) (t : Tm), p l = .inr (t, l1) → sees l1 [41] = true → ∃ c, c + l1.tail.length ≤ l.length ∧ Took (subsL ([t].map g)) (4 ^ [t].length) c := fun l l1 t hq h2 => by
    obtain ⟨c, h3, h4, h5⟩ := hp _ _ _ hq
    have h6 := sees_len1 h2
    have e : subsL ([t].map g) = subs (g t) := by simp [subsL]
    rw [e]
    refine ⟨c + 1, by omega, ?_, by omega⟩
    rw [show 2 ^ (c + 1) = 2 ^ c * 2 from Nat.pow_succ .., show 4 ^ [t].length = 4 from rfl]
    generalize prod (subs (g t)) ^ 4 = A at *
    omega
  intro k
  induction k with
  | zero =>
    intro l ts l2 h
    unfold argsOf at h
    rcases hq : p l with e | ⟨t, l1⟩
    · rw [hq] at h; cases h
    · rw [hq] at h
      dsimp only at h
      by_cases h1 : sees l1 [44] = true
      · rw [if_pos h1] at h; cases h
      · rw [if_neg h1] at h
        by_cases h2 : sees l1 [41] = true
        · rw [if_pos h2] at h
          cases h
          exact last l l1 t hq h2
        · rw [if_neg h2] at h; cases h
  | succ k ih =>
    intro l ts l2 h
    rw [argsOf] at h
    rcases hq : p l with e | ⟨t, l1⟩
    · rw [hq] at h; cases h
    · rw [hq] at h
      dsimp only at h
      by_cases h1 : sees l1 [44] = true
      · rw [if_pos h1] at h
        rcases hr : argsOf p k l1.tail with e | ⟨us, l3⟩
        · rw [hr] at h; cases h
        · rw [hr] at h
          cases h
          obtain ⟨c1, i1, i2, i3⟩ := hp _ _ _ hq
          obtain ⟨c2, j1, j2, j3⟩ := ih _ _ _ hr
          have h6 := sees_len1 h1
          refine ⟨c1 + 1 + c2, by omega, ?_, ?_⟩
          · rw [List.map_cons, subsL, prod_app, Nat.mul_pow, List.length_cons, show 4 ^ (us.length + 1) = 4 ^ us.length * 4 from Nat.pow_succ .., Nat.pow_add, show 2 ^ (c1 + 1) = 2 ^ c1 * 2 from Nat.pow_succ ..]
            have := Nat.mul_le_mul (Nat.mul_le_mul i2 (Nat.le_refl 2)) j2
            refine Nat.le_trans (Nat.le_of_eq ?_) this
            generalize prod (subs (g t)) ^ 4 = A
            generalize prod (subsL (us.map g)) ^ 4 = B
            generalize 4 ^ us.length = C
            rw [show A * 2 * 2 = A * 4 by omega, Nat.mul_assoc, Nat.mul_assoc, Nat.mul_left_comm 4, Nat.mul_comm 4 C]
          · rw [List.map_cons, subsL, List.length_append]
            omega
      · rw [if_neg h1] at h
        by_cases h2 : sees l1 [41] = true
        · rw [if_pos h2] at h
          cases h
          exact last l l1 t hq h2
        · rw [if_neg h2] at h; cases h
theorem took_leaf {u : U} (h : subs u = [u]) (ha : ar u = 0) : Took (subs u) 2 1 := by
  rw [h]
  unfold Took
  rw [prod, prod, ha]
  exact ⟨by decide, by simp⟩
theorem term_took (sd : Nat) : ∀ (f : Nat) (l : List Tok) (t : Tm) (l1 : List Tok), term f l = .inr (t, l1) → ∃ c, c + l1.length ≤ l.length ∧ Took (subs (toU f sd t)) 2 c := by
  intro f
  induction f with
  | zero => intro l t l1 h; rw [term] at h; split at h <;> cases h
  | succ f ih =>
    intro l t l1 h
    have hU : toU (f + 1) sd t = if t.kind = 3 then .v (t.text.toList, sd) else if t.kind = 4 then .n 3 [] (numOf t.text : Int) [] else .n 1 t.text.toList 0 (t.args.map (toU f sd)) := rfl
    rw [term] at h
    by_cases hb : begins (hd l) = true
    · rw [if_pos hb] at h
      have hbl := begins_len1 hb
      by_cases hc : (hd l).kind = 4 ∧ 6 < (hd l).text.size
      · rw [if_pos hc] at h; cases h
      · rw [if_neg hc] at h
        by_cases h2 : (hd l).kind = 2
        · rw [if_pos h2] at h
          by_cases hs : sees l.tail [40] = true
          · rw [if_pos hs] at h
            have hsl := sees_len1 hs
            rcases hq : argsOf (term f) 2 l.tail.tail with x | ⟨us, l2⟩
            · rw [hq] at h; cases h
            · rw [hq] at h; cases h
              obtain ⟨c, i1, i2, i3⟩ := args_took ih _ _ _ _ hq
              have i4 := (args_all (Q := fun _ => True) (fun _ _ _ _ => trivial) _ _ _ _ hq).2
              rw [hU, if_neg (show ¬ (2 : Nat) = 3 by decide), if_neg (show ¬ (2 : Nat) = 4 by decide)]
              dsimp only
              refine ⟨c + 2, by omega, ?_, ?_⟩
              · rw [subs, prod, ar, List.length_map, Nat.mul_pow, Nat.pow_add]
                have hn : max 1 us.length ^ 4 * 2 ≤ 4 ^ us.length * 4 := by
                  rcases (show us.length = 0 ∨ us.length = 1 ∨ us.length = 2 ∨ us.length = 3 by omega) with q | q | q | q <;> rw [q] <;> decide
                have h5 := Nat.mul_le_mul_left (prod (subsL (us.map (toU f sd))) ^ 4) hn
                have h6 := Nat.mul_le_mul_right 4 i2
                generalize prod (subsL (us.map (toU f sd))) ^ 4 = A at *
                generalize max 1 us.length ^ 4 = B at *
                generalize 4 ^ us.length = C at *
                rw [Nat.mul_comm B A, Nat.mul_assoc]
                rw [Nat.mul_assoc] at h6
                exact Nat.le_trans h5 h6
              · rw [subs, List.length_cons]
                omega
          · rw [if_neg hs] at h; cases h
            rw [hU, if_neg (show ¬ (2 : Nat) = 3 by decide), if_neg (show ¬ (2 : Nat) = 4 by decide)]
            exact ⟨1, by omega, took_leaf (by simp [subs, subsL]) (by simp [ar])⟩
        · rw [if_neg h2] at h; cases h
          refine ⟨1, by omega, ?_⟩
          rw [hU]
          split
          · exact took_leaf (by simp [subs]) rfl
          · split
            · exact took_leaf (by simp [subs, subsL]) rfl
            · exact took_leaf (by simp [subs, subsL]) (by simp [ar])
    · rw [if_neg hb] at h; cases h
/-- Of a text of 64 bytes. -/
def Sml (u : U) : Prop := prod (subs u) ≤ 65536 ∧ (subs u).length ≤ 65
theorem whole_sml {s : ByteArray} {L l1 : List Tok} {t : Tm} (hs : s.size ≤ 64) (hL : Chain s L) (hh : hd L = next s 0) (h : whole L = .inr (t, l1)) (sd : Nat) : Sml (toU 8 sd t) := by
  have hl := Chain.len 64 0 L hL hh (by omega)
  obtain ⟨c, h1, h2, h3⟩ := term_took sd 8 L t l1 (whole_is h).1
  refine ⟨?_, by omega⟩
  have h4 : (2 : Nat) ^ c ≤ 2 ^ 65 := Nat.pow_le_pow_right (by decide) (by omega)
  have h5 : prod (subs (toU 8 sd t)) ^ 4 ≤ 65536 ^ 4 := by
    have e1 : (2 : Nat) ^ 65 = 36893488147419103232 := by decide
    have e2 : (65536 : Nat) ^ 4 = 18446744073709551616 := by decide
    rw [e1] at h4
    rw [e2]
    omega
  exact (Nat.pow_le_pow_iff_left (by decide)).1 h5
theorem SolB.reads {lt : Vr → Vr → Prop} {θ : Vr → U} {l : List (U × U)} {r : Option (List (Vr × U))} {m : Nat} (h : SolB lt θ l r m) : ∀ out, r = some out → (∀ u, sub θ (puts u out) = sub θ u) ∧ out.length ≤ (vs l).length := by
  induction h with
  | nil => intro out e; cases e; exact ⟨fun u => rfl, by simp⟩
  | args h _ ih => exact fun out e => ⟨(ih out e).1, Nat.le_trans (ih out e).2 vs_args⟩
  | clash h => intro out e; cases e
  | same _ ih => exact fun out e => ⟨(ih out e).1, Nat.le_trans (ih out e).2 vs_tail⟩
  | @left x b l r m hθ hv ho _ ih =>
    intro out e
    cases r with
    | none => cases e
    | some r =>
      cases e
      obtain ⟨i1, i2⟩ := ih r rfl
      refine ⟨fun u => ?_, ?_⟩
      · show sub θ (puts (put u x b) r) = _
        rw [i1, sub_put hθ]
      · have := vs_left (l := l) ho
        rw [List.length_cons]
        omega
  | @right a y l r m hθ hv ho _ ih =>
    intro out e
    cases r with
    | none => cases e
    | some r =>
      cases e
      obtain ⟨i1, i2⟩ := ih r rfl
      refine ⟨fun u => ?_, ?_⟩
      · show sub θ (puts (put u y a) r) = _
        rw [i1, sub_put hθ]
      · have := vs_right (l := l) ho
        rw [List.length_cons]
        omega
  | occL hv ho => intro out e; cases e
  | occR hv ho => intro out e; cases e
theorem size_sub (θ : Vr → U) : ∀ u, size u ≤ size (sub θ u) := by
  refine U.ind (fun x => ?_) (fun k tx num ss ih => ?_)
  · have := size_pos (sub θ (.v x))
    rw [size]
    omega
  · rw [sub_n, size, size]
    have : ∀ bs : List U, (∀ a ∈ bs, size a ≤ size (sub θ a)) → sizeL bs ≤ sizeL (bs.map (sub θ)) := by
      intro bs
      induction bs with
      | nil => intro _; exact Nat.le_refl _
      | cons b bs ihb =>
        intro hb
        have h1 := hb b (by simp)
        have h2 := ihb fun a ha => hb a (by simp [ha])
        rw [List.map_cons, sizeL, sizeL]
        omega
    have := this ss ih
    omega
theorem subs_len : ∀ u, (subs u).length = size u := by
  refine U.ind (fun x => by simp [subs, size]) (fun k tx num ss ih => ?_)
  rw [subs, size, List.length_cons]
  have : ∀ bs : List U, (∀ a ∈ bs, (subs a).length = size a) → (subsL bs).length = sizeL bs := by
    intro bs
    induction bs with
    | nil => intro _; rfl
    | cons b bs ihb =>
      intro hb
      rw [subsL, sizeL, List.length_append, hb b (by simp), ihb fun a ha => hb a (by simp [ha])]
  rw [this ss ih]
  omega
theorem addU_len0 (N : List Vr) (x : Vr) : (addU N x).length ≤ N.length + 1 := by
  unfold addU
  split <;> simp
theorem namesU_len0 : ∀ (u : U) (N : List Vr), (namesU N u).length ≤ N.length + size u := by
  refine U.ind (fun x N => ?_) (fun k tx num ss ih N => ?_)
  · rw [namesU, size]; exact addU_len0 N x
  · rw [namesU_n, size]
    have : ∀ (bs : List U) (N : List Vr), (∀ a ∈ bs, ∀ N, (namesU N a).length ≤ N.length + size a) → (bs.foldl namesU N).length ≤ N.length + sizeL bs := by
      intro bs
      induction bs with
      | nil => intro N _; simp [sizeL]
      | cons b bs ihb =>
        intro N hb
        have h1 := hb b (by simp) N
        have h2 := ihb (namesU N b) fun a ha => hb a (by simp [ha])
        rw [List.foldl_cons, sizeL]
        omega
    have := this ss N ih
    omega
/-- The start of Unify's way, with all its bounds. -/
theorem sol_sml (lt : Vr → Vr → Prop) {x y : U} (hx : Sml x) (hy : Sml y) : ∃ θ B r m, SolB lt θ [(x, y)] r m ∧ Stk θ B [(x, y)] ∧ B ≤ 1000000 ∧ (vs [(x, y)]).length ≤ 1000000 ∧ ∀ out, r = some out → out.length ≤ 1000000 ∧ size (puts x out) ≤ 1000000000000 := by
  obtain ⟨θ, r, m, h1, h2⟩ := sol_ex lt _ _ [(x, y)] (Nat.le_refl _) (Nat.le_refl _)
  have e : nodes [(x, y)] = subs x ++ subs y := by simp [nodes]
  rw [e] at h2
  have hc := closed_subs x y
  have a1 := fed_all hc h2 (List.mem_append_left _ (subs_self x))
  have a2 := (fed_all hc h2 (List.mem_append_right _ (subs_self y))).2
  have hl : (subs x ++ subs y).length ≤ 130 := by have := hx.2; have := hy.2; rw [List.length_append]; omega
  have hp : prod (subs x ++ subs y) ≤ 65536 * 65536 := by rw [prod_app]; exact Nat.mul_le_mul hx.1 hy.1
  have hv : (vs [(x, y)]).length ≤ 1000000 := by
    have b1 := namesU_len0 y (namesU [] x)
    have b2 := namesU_len0 x []
    have b3 := subs_len x
    have b4 := subs_len y
    have := hx.2
    have := hy.2
    show (namesU (namesU [] x) y).length ≤ _
    simp only [List.length_nil] at b2
    omega
  refine ⟨θ, 2 * (subs x ++ subs y).length + 1, r, m, h1, ⟨?_, trivial⟩, by omega, hv, fun out ho => ?_⟩
  · simp only [List.length_nil]
    omega
  · obtain ⟨r1, r2⟩ := h1.reads out ho
    refine ⟨by omega, ?_⟩
    have s1 := size_sub θ (puts x out)
    rw [r1] at s1
    have s2 := size_le_lh (sub θ x)
    have s3 : leaves (sub θ x) * (high (sub θ x) + 1) ≤ (65536 * 65536) * 131 := Nat.mul_le_mul (Nat.le_trans a1.1 hp) (by omega)
    omega
end Parl
namespace Parl
theorem addU_ext (N : List Vr) (x : Vr) : ∃ M, addU N x = N ++ M := by
  unfold addU
  split
  · exact ⟨[], by simp⟩
  · exact ⟨[x], rfl⟩
theorem namesU_ext0 : ∀ (u : U) (N : List Vr), ∃ M, namesU N u = N ++ M := by
  refine U.ind (fun x N => addU_ext N x) (fun k tx num ss ih N => ?_)
  rw [namesU_n]
  induction ss generalizing N with
  | nil => exact ⟨[], by simp⟩
  | cons a ss ihl =>
    obtain ⟨M, hM⟩ := ih a (by simp) N
    obtain ⟨M', hM'⟩ := ihl (fun b hb => ih b (by simp [hb])) (namesU N a)
    exact ⟨M ++ M', by rw [List.foldl_cons, hM', hM, List.append_assoc]⟩
theorem idx_addU (N : List Vr) (x : Vr) : (addU N x).idxOf x = N.idxOf x := by
  unfold addU
  split
  · rfl
  · rename_i h
    rw [List.idxOf_append, if_neg h, List.idxOf_eq_length h]
    simp
theorem strU_ext (D : Int → List UInt8) (N M : List Vr) : ∀ u, (∀ x, has x u → x ∈ N) → strU D (N ++ M) u = strU D N u := by
  refine U.ind (fun x h => ?_) (fun k tx num ss ih h => ?_)
  · rw [strU, strU, List.idxOf_append, if_pos (h x rfl)]
  · rw [strU_n, strU_n, List.map_congr_left fun a ha => ih a ha fun x hx => h x ((has_n x k tx num ss).2 ⟨a, ha, hx⟩)]
theorem mem_fold {y : Vr} (ss : List U) (N : List Vr) : y ∈ ss.foldl namesU N ↔ y ∈ N ∨ ∃ a ∈ ss, has y a := by
  have := mem_namesU (y := y) (.n 1 [] 0 ss) N
  rw [namesU_n, has_n] at this
  exact this
theorem fold_len (ss : List U) (N : List Vr) : (ss.foldl namesU N).length ≤ N.length + 1 + sizeL ss := by
  have := namesU_len0 (.n 1 [] 0 ss) N
  rw [namesU_n, size] at this
  omega
/-- One more argument. -/
theorem str_step (D : Int → List UInt8) {ss : List U} {j : Nat} (hj : j < ss.length) {N N1 : List Vr} (h1 : N1 = (ss.take j).foldl namesU N) :
    namesU N1 ss[j] = (ss.take (j + 1)).foldl namesU N ∧ (ss.take (j + 1)).map (strU D (namesU N1 ss[j])) = (ss.take j).map (strU D N1) ++ [strU D (namesU N1 ss[j]) ss[j]] := by
  have ht : ss.take (j + 1) = ss.take j ++ [ss[j]] := by rw [List.take_add_one, List.getElem?_eq_getElem hj]; rfl
  refine ⟨by rw [ht, List.foldl_append, ← h1]; rfl, ?_⟩
  obtain ⟨M, hM⟩ := namesU_ext0 ss[j] N1
  rw [ht, List.map_append, hM]
  congr 1
  exact List.map_congr_left fun a ha => strU_ext D N1 M a fun x hx => by rw [h1]; exact (mem_fold _ _).2 (Or.inr ⟨a, ha, hx⟩)
/-- Names and numbers alone; a number has no arguments. -/
def kdU (u : U) : Prop := ∀ k tx num ss, U.n k tx num ss ∈ subs u → (k = 1 ∨ k = 3) ∧ (k = 3 → ss = [])
theorem kdU.arg {k : Nat} {tx : List UInt8} {num : Int} {ss : List U} (h : kdU (.n k tx num ss)) {a : U} (ha : a ∈ ss) : kdU a := fun k' tx' num' ss' hm => h k' tx' num' ss' (by rw [subs]; exact List.mem_cons_of_mem _ (mem_subsL.2 ⟨a, ha, hm⟩))
theorem kdU.own {k : Nat} {tx : List UInt8} {num : Int} {ss : List U} (h : kdU (.n k tx num ss)) : (k = 1 ∨ k = 3) ∧ (k = 3 → ss = []) := h k tx num ss (subs_self _)
theorem kdU.mk {k : Nat} {tx : List UInt8} {num : Int} {ss : List U} (h : (k = 1 ∨ k = 3) ∧ (k = 3 → ss = [])) (hs : ∀ a ∈ ss, kdU a) : kdU (.n k tx num ss) := fun k' tx' num' ss' hm => by
  rw [subs] at hm
  rcases List.mem_cons.1 hm with e | e
  · injection e with e1 e2 e3 e4
    subst e1 e4
    exact h
  · obtain ⟨a, ha, hm⟩ := mem_subsL.1 e
    exact hs a ha k' tx' num' ss' hm
theorem kdU_v (x : Vr) : kdU (.v x) := fun k tx num ss h => by rw [subs] at h; simp at h
theorem kdU_put {x : Vr} {b : U} (hb : kdU b) : ∀ u, kdU u → kdU (put u x b) := by
  unfold put
  refine U.ind (fun y h => ?_) (fun k tx num ss ih h => ?_)
  · show kdU (one x b y)
    unfold one
    split
    · exact hb
    · exact kdU_v _
  · rw [sub_n]
    obtain ⟨h1, h2⟩ := h.own
    refine kdU.mk ⟨h1, fun e => by rw [h2 e]; rfl⟩ fun a ha => ?_
    obtain ⟨c, hc, rfl⟩ := List.mem_map.1 ha
    exact ih c hc (h.arg hc)
/-- Both. -/
def gdU (u : U) : Prop := smU u ∧ kdU u
theorem gdU_put {x : Vr} {b : U} (hb : gdU b) (u : U) (h : gdU u) : gdU (put u x b) := ⟨smU_put hb.1 u h.1, kdU_put hb.2 u h.2⟩
theorem gdU.arg {k : Nat} {tx : List UInt8} {num : Int} {ss : List U} (h : gdU (.n k tx num ss)) {a : U} (ha : a ∈ ss) : gdU a := ⟨h.1.arg ha, h.2.arg ha⟩
theorem puts_gd : ∀ (out : List (Vr × U)) (u : U), gdU u → (∀ e ∈ out, gdU e.2) → gdU (puts u out)
  | [], u, h, _ => h
  | e :: out, u, h, ho => puts_gd out (put u e.1 e.2) (gdU_put (ho e (by simp)) u h) fun d hd => ho d (by simp [hd])
theorem SolB.gd {lt : Vr → Vr → Prop} {θ : Vr → U} {l : List (U × U)} {r : Option (List (Vr × U))} {m : Nat} (h : SolB lt θ l r m) : (∀ e ∈ l, gdU e.1 ∧ gdU e.2) → ∀ out, r = some out → ∀ e ∈ out, gdU e.2 := by
  induction h with
  | nil => intro _ out e d hd; cases e; cases hd
  | @args k tx num ss k' tx' num' ss' l r m h _ ih =>
    intro hl
    refine ih fun e he => ?_
    rcases List.mem_append.1 he with he | he
    · obtain ⟨p, q⟩ := e
      obtain ⟨h1, h2⟩ := List.of_mem_zip he
      have := hl _ (List.mem_cons_self ..)
      exact ⟨this.2.arg h1, this.1.arg h2⟩
    · exact hl e (by simp [he])
  | clash h => intro _ out e; cases e
  | same _ ih => exact fun hl => ih fun e he => hl e (by simp [he])
  | @left x b l r m hθ hv ho _ ih =>
    intro hl out e
    have hb := (hl _ (List.mem_cons_self ..)).2
    cases r with
    | none => cases e
    | some r =>
      cases e
      intro d hd
      rcases List.mem_cons.1 hd with rfl | hd
      · exact hb
      · refine ih (fun e he => ?_) r rfl d hd
        obtain ⟨c, hc, rfl⟩ := List.mem_map.1 he
        have := hl c (by simp [hc])
        exact ⟨gdU_put hb _ this.1, gdU_put hb _ this.2⟩
  | @right a y l r m hθ hv ho _ ih =>
    intro hl out e
    have hb := (hl _ (List.mem_cons_self ..)).1
    cases r with
    | none => cases e
    | some r =>
      cases e
      intro d hd
      rcases List.mem_cons.1 hd with rfl | hd
      · exact hb
      · refine ih (fun e he => ?_) r rfl d hd
        obtain ⟨c, hc, rfl⟩ := List.mem_map.1 he
        have := hl c (by simp [hc])
        exact ⟨gdU_put hb _ this.1, gdU_put hb _ this.2⟩
  | occL hv ho => intro _ out e; cases e
  | occR hv ho => intro _ out e; cases e
/-- Tokens that are short. -/
def Shr (l : List Tok) : Prop := ∀ t ∈ l, t.text.size ≤ 64
theorem Shr.tail {l : List Tok} (h : Shr l) : Shr l.tail := fun t ht => h t (List.mem_of_mem_tail ht)
theorem Shr.hd {l : List Tok} (h : Shr l) : (hd l).text.size ≤ 64 := by
  cases l with
  | nil => show ByteArray.empty.size ≤ 64; decide
  | cons a l => exact h a (by simp)
theorem chain_shr {s : ByteArray} (hs : s.size ≤ 64) : ∀ (l : List Tok) (p : Nat), Chain s l → hd l = next s p → Shr l
  | [], _, h, _ => h.elim
  | [t], p, h, hh => by
    intro u hu
    obtain rfl : u = t := by simpa using hu
    have hh : u = next s p := hh
    have := next_fits (s := s) (p := p)
    rw [hh]
    omega
  | t :: v :: r, p, h, hh => by
    intro u hu
    rcases List.mem_cons.1 hu with rfl | hu
    · have hh : u = next s p := hh
      have := next_fits (s := s) (p := p)
      rw [hh]
      omega
    · exact chain_shr hs (v :: r) _ h.2.2 h.2.1 u hu
theorem args_gd {g : Tm → U} {p : List Tok → Res Tm} (hp : ∀ l t l1, Shr l → p l = .inr (t, l1) → gdU (g t) ∧ Shr l1) : ∀ (k : Nat) (l : List Tok) (ts : List Tm) (l2 : List Tok), Shr l → argsOf p k l = .inr (ts, l2) → (∀ t ∈ ts, gdU (g t)) ∧ Shr l2 := by
  have last : ∀ (l l1 : List Tok) (t : Tm), Shr l → p l = .inr (t, l1) → (∀ u ∈ [t], gdU (g u)) ∧ Shr l1.tail := fun l l1 t hl hq => by
    obtain ⟨h1, h2⟩ := hp _ _ _ hl hq
    refine ⟨fun u hu => ?_, h2.tail⟩
    obtain rfl : u = t := by simpa using hu
    exact h1
  intro k
  induction k with
  | zero =>
    intro l ts l2 hl h
    unfold argsOf at h
    rcases hq : p l with e | ⟨t, l1⟩
    · rw [hq] at h; cases h
    · rw [hq] at h
      dsimp only at h
      by_cases h1 : sees l1 [44] = true
      · rw [if_pos h1] at h; cases h
      · rw [if_neg h1] at h
        by_cases h2 : sees l1 [41] = true
        · rw [if_pos h2] at h
          cases h
          exact last l l1 t hl hq
        · rw [if_neg h2] at h; cases h
  | succ k ih =>
    intro l ts l2 hl h
    rw [argsOf] at h
    rcases hq : p l with e | ⟨t, l1⟩
    · rw [hq] at h; cases h
    · rw [hq] at h
      dsimp only at h
      by_cases h1 : sees l1 [44] = true
      · rw [if_pos h1] at h
        rcases hr : argsOf p k l1.tail with e | ⟨us, l3⟩
        · rw [hr] at h; cases h
        · rw [hr] at h
          cases h
          obtain ⟨i1, i2⟩ := hp _ _ _ hl hq
          obtain ⟨j1, j2⟩ := ih _ _ _ i2.tail hr
          refine ⟨fun x hx => ?_, j2⟩
          rcases List.mem_cons.1 hx with rfl | hx
          · exact i1
          · exact j1 x hx
      · rw [if_neg h1] at h
        by_cases h2 : sees l1 [41] = true
        · rw [if_pos h2] at h
          cases h
          exact last l l1 t hl hq
        · rw [if_neg h2] at h; cases h
theorem term_gd (sd : Nat) : ∀ (f : Nat) (l : List Tok) (t : Tm) (l1 : List Tok), Shr l → term f l = .inr (t, l1) → gdU (toU f sd t) ∧ Shr l1 := by
  intro f
  induction f with
  | zero => intro l t l1 _ h; rw [term] at h; split at h <;> cases h
  | succ f ih =>
    intro l t l1 hl h
    have hU : toU (f + 1) sd t = if t.kind = 3 then .v (t.text.toList, sd) else if t.kind = 4 then .n 3 [] (numOf t.text : Int) [] else .n 1 t.text.toList 0 (t.args.map (toU f sd)) := rfl
    rw [term] at h
    by_cases hb : begins (hd l) = true
    · rw [if_pos hb] at h
      by_cases hc : (hd l).kind = 4 ∧ 6 < (hd l).text.size
      · rw [if_pos hc] at h; cases h
      · rw [if_neg hc] at h
        have hsz := hl.hd
        have hln : (hd l).text.toList.length ≤ 240 := by rw [bytes_len]; omega
        by_cases h2 : (hd l).kind = 2
        · rw [if_pos h2] at h
          by_cases hs : sees l.tail [40] = true
          · rw [if_pos hs] at h
            rcases hq : argsOf (term f) 2 l.tail.tail with x | ⟨us, l2⟩
            · rw [hq] at h; cases h
            · rw [hq] at h; cases h
              obtain ⟨i1, i2⟩ := args_gd (fun l t l1 hs hq => ih l t l1 hs hq) _ _ _ _ hl.tail.tail hq
              have i4 := (args_all (Q := fun _ => True) (fun _ _ _ _ => trivial) _ _ _ _ hq).2
              rw [hU, if_neg (show ¬ (2 : Nat) = 3 by decide), if_neg (show ¬ (2 : Nat) = 4 by decide)]
              refine ⟨⟨smU.mk ⟨hln, by decide, by decide, by rw [List.length_map]; exact i4⟩ fun a ha => ?_, kdU.mk ⟨Or.inl rfl, fun e => by cases e⟩ fun a ha => ?_⟩, i2⟩
              · obtain ⟨c, hc, rfl⟩ := List.mem_map.1 ha
                exact (i1 c hc).1
              · obtain ⟨c, hc, rfl⟩ := List.mem_map.1 ha
                exact (i1 c hc).2
          · rw [if_neg hs] at h; cases h
            rw [hU, if_neg (show ¬ (2 : Nat) = 3 by decide), if_neg (show ¬ (2 : Nat) = 4 by decide)]
            exact ⟨⟨smU.mk ⟨hln, by decide, by decide, by simp⟩ (fun a ha => by simp at ha), kdU.mk ⟨Or.inl rfl, fun e => by cases e⟩ (fun a ha => by simp at ha)⟩, hl.tail⟩
        · rw [if_neg h2] at h; cases h
          refine ⟨?_, hl.tail⟩
          rw [hU]
          dsimp only
          split
          · exact ⟨smU_v _, kdU_v _⟩
          · split
            · rename_i h4
              have := numL_le (hd l).text.toList (by rw [bytes_len]; omega)
              unfold numOf
              exact ⟨smU.mk ⟨by simp, by omega, by omega, by simp⟩ (fun a ha => by simp at ha), kdU.mk ⟨Or.inr rfl, fun _ => rfl⟩ (fun a ha => by simp at ha)⟩
            · exact ⟨smU.mk ⟨hln, by decide, by decide, by simp⟩ (fun a ha => by simp at ha), kdU.mk ⟨Or.inl rfl, fun e => by cases e⟩ (fun a ha => by simp at ha)⟩
    · rw [if_neg hb] at h; cases h
theorem whole_gd {s : ByteArray} {L l1 : List Tok} {t : Tm} (hs : s.size ≤ 64) (hL : Chain s L) (hh : hd L = next s 0) (h : whole L = .inr (t, l1)) (sd : Nat) : gdU (toU 8 sd t) :=
  (term_gd sd 8 L t l1 (chain_shr hs L 0 hL hh) (whole_is h).1).1
end Parl
