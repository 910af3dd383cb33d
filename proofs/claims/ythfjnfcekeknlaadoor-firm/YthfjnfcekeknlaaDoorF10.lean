import Derived.Test.YthfjnfcekeknlaaDoorF02
import Derived.Test.YthfjnfcekeknlaaDoorF09
namespace Parl
theorem SolB.reads {lt : Vr → Vr → Prop} {θ : Vr → U} {l : List (U × U)} {r : Option (List (Vr × U))} {m : Nat} (h : SolB lt θ l r m) : ∀ out, r = some out → (∀ u, sub θ (puts u out) = sub θ u) ∧ out.length ≤ (vs l).length := by
  induction h with
  | nil => intro out e; cases e; exact ⟨fun u => rfl, by simp⟩
  | args h _ ih => exact fun out e => ⟨(ih out e).1, Nat.le_trans (ih out e).2 vs_args⟩
  | clash h => intro out e; cases e
  | same _ ih => exact fun out e => ⟨(ih out e).1, Nat.le_trans (ih out e).2 vs_tail⟩
  | @left x b l r m hθ hv ho _ ih =>
    intro out e
    cases r with
    | none => cases e
    | some r =>
      cases e
      obtain ⟨i1, i2⟩ := ih r rfl
      refine ⟨fun u => ?_, ?_⟩
      · show sub θ (puts (put u x b) r) = _
        rw [i1, sub_put hθ]
      · have := vs_left (l := l) ho
        rw [List.length_cons]
        omega
  | @right a y l r m hθ hv ho _ ih =>
    intro out e
    cases r with
    | none => cases e
    | some r =>
      cases e
      obtain ⟨i1, i2⟩ := ih r rfl
      refine ⟨fun u => ?_, ?_⟩
      · show sub θ (puts (put u y a) r) = _
        rw [i1, sub_put hθ]
      · have := vs_right (l := l) ho
        rw [List.length_cons]
        omega
  | occL hv ho => intro out e; cases e
  | occR hv ho => intro out e; cases e
end Parl
namespace Parl
/-- Names and numbers alone; a number has no arguments. -/
def kdU (u : U) : Prop := ∀ k tx num ss, U.n k tx num ss ∈ subs u → (k = 1 ∨ k = 3) ∧ (k = 3 → ss = [])
theorem kdU.arg {k : Nat} {tx : List UInt8} {num : Int} {ss : List U} (h : kdU (.n k tx num ss)) {a : U} (ha : a ∈ ss) : kdU a := fun k' tx' num' ss' hm => h k' tx' num' ss' (by rw [subs]; exact List.mem_cons_of_mem _ (mem_subsL.2 ⟨a, ha, hm⟩))
theorem kdU.own {k : Nat} {tx : List UInt8} {num : Int} {ss : List U} (h : kdU (.n k tx num ss)) : (k = 1 ∨ k = 3) ∧ (k = 3 → ss = []) := h k tx num ss (subs_self _)
theorem kdU.mk {k : Nat} {tx : List UInt8} {num : Int} {ss : List U} (h : (k = 1 ∨ k = 3) ∧ (k = 3 → ss = [])) (hs : ∀ a ∈ ss, kdU a) : kdU (.n k tx num ss) := fun k' tx' num' ss' hm => by
  rw [subs] at hm
  rcases List.mem_cons.1 hm with e | e
  · injection e with e1 e2 e3 e4
    subst e1 e4
    exact h
  · obtain ⟨a, ha, hm⟩ := mem_subsL.1 e
    exact hs a ha k' tx' num' ss' hm
theorem kdU_v (x : Vr) : kdU (.v x) := fun k tx num ss h => by rw [subs] at h; simp at h
theorem kdU_put {x : Vr} {b : U} (hb : kdU b) : ∀ u, kdU u → kdU (put u x b) := by
  unfold put
  refine U.ind (fun y h => ?_) (fun k tx num ss ih h => ?_)
  · show kdU (one x b y)
    unfold one
    split
    · exact hb
    · exact kdU_v _
  · rw [sub_n]
    obtain ⟨h1, h2⟩ := h.own
    refine kdU.mk ⟨h1, fun e => by rw [h2 e]; rfl⟩ fun a ha => ?_
    obtain ⟨c, hc, rfl⟩ := List.mem_map.1 ha
    exact ih c hc (h.arg hc)
/-- Both. -/
def gdU (u : U) : Prop := smU u ∧ kdU u
theorem gdU_put {x : Vr} {b : U} (hb : gdU b) (u : U) (h : gdU u) : gdU (put u x b) := ⟨smU_put hb.1 u h.1, kdU_put hb.2 u h.2⟩
theorem gdU.arg {k : Nat} {tx : List UInt8} {num : Int} {ss : List U} (h : gdU (.n k tx num ss)) {a : U} (ha : a ∈ ss) : gdU a := ⟨h.1.arg ha, h.2.arg ha⟩
theorem SolB.gd {lt : Vr → Vr → Prop} {θ : Vr → U} {l : List (U × U)} {r : Option (List (Vr × U))} {m : Nat} (h : SolB lt θ l r m) : (∀ e ∈ l, gdU e.1 ∧ gdU e.2) → ∀ out, r = some out → ∀ e ∈ out, gdU e.2 := by
  induction h with
  | nil => intro _ out e d hd; cases e; cases hd
  | @args k tx num ss k' tx' num' ss' l r m h _ ih =>
    intro hl
    refine ih fun e he => ?_
    rcases List.mem_append.1 he with he | he
    · obtain ⟨p, q⟩ := e
      obtain ⟨h1, h2⟩ := List.of_mem_zip he
      have := hl _ (List.mem_cons_self ..)
      exact ⟨this.2.arg h1, this.1.arg h2⟩
    · exact hl e (by simp [he])
  | clash h => intro _ out e; cases e
  | same _ ih => exact fun hl => ih fun e he => hl e (by simp [he])
  | @left x b l r m hθ hv ho _ ih =>
    intro hl out e
    have hb := (hl _ (List.mem_cons_self ..)).2
    cases r with
    | none => cases e
    | some r =>
      cases e
      intro d hd
      rcases List.mem_cons.1 hd with rfl | hd
      · exact hb
      · refine ih (fun e he => ?_) r rfl d hd
        obtain ⟨c, hc, rfl⟩ := List.mem_map.1 he
        have := hl c (by simp [hc])
        exact ⟨gdU_put hb _ this.1, gdU_put hb _ this.2⟩
  | @right a y l r m hθ hv ho _ ih =>
    intro hl out e
    have hb := (hl _ (List.mem_cons_self ..)).1
    cases r with
    | none => cases e
    | some r =>
      cases e
      intro d hd
      rcases List.mem_cons.1 hd with rfl | hd
      · exact hb
      · refine ih (fun e he => ?_) r rfl d hd
        obtain ⟨c, hc, rfl⟩ := List.mem_map.1 he
        have := hl c (by simp [hc])
        exact ⟨gdU_put hb _ this.1, gdU_put hb _ this.2⟩
  | occL hv ho => intro _ out e; cases e
  | occR hv ho => intro _ out e; cases e
/-- Tokens that are short. -/
def Shr (l : List Tok) : Prop := ∀ t ∈ l, t.text.size ≤ 64
theorem Shr.tail {l : List Tok} (h : Shr l) : Shr l.tail := fun t ht => h t (List.mem_of_mem_tail ht)
theorem Shr.hd {l : List Tok} (h : Shr l) : (hd l).text.size ≤ 64 := by
  cases l with
  | nil => show ByteArray.empty.size ≤ 64; decide
  | cons a l => exact h a (by simp)
end Parl
namespace Parl
open Go
theorem whole_pr {σ : Sty} {t : Tm} (h : okT σ 8 t) {s : ByteArray} (hs : s = ⟨(prT σ 8 t).toArray⟩) {L : List Tok} (hL : Chain s L) (hh : hd L = next s 0) : ∃ l1, whole L = .inr (mpT σ 8 t, l1) := by
  have key : ∃ l', term 8 L = .inr (mpT σ 8 t, l') ∧ (hd l').kind = 0 := by
    have hl : Tk s 0 L := ⟨hL, hh⟩
    have ha : At s 0 (prT σ 8 t ++ []) := by
      rw [List.append_nil]
      have := At.start s
      rw [hs] at this ⊢
      simpa using this
    have nor : ∀ (c : UInt8) (r : List UInt8), ([] : List UInt8) = c :: r → inWord 3 c.toNat = false := fun c r q => by cases q
    rcases h with ⟨hk, hw⟩ | ⟨hk, hw, h6⟩ | ⟨hk, hw, h3, hargs⟩
    · have e0 : prT σ 8 t = (σ.v t.text).toList := by unfold prT; rw [if_pos hk]
      have e1 : mpT σ 8 t = ⟨3, σ.v t.text, []⟩ := by unfold mpT; rw [if_pos hk]
      rw [e0] at ha
      obtain ⟨k1, k2, k3⟩ := hl.word hw ha nor
      rw [ba_back] at k1
      refine ⟨L.tail, ?_, k2.done k3⟩
      rw [e1, k1]
      rfl
    · have e0 : prT σ 8 t = (σ.n t.text).toList := by unfold prT; rw [if_neg (by omega), if_pos hk]
      have e1 : mpT σ 8 t = ⟨4, σ.n t.text, []⟩ := by unfold mpT; rw [if_neg (by omega), if_pos hk]
      rw [e0] at ha
      obtain ⟨k1, k2, k3⟩ := hl.word hw ha nor
      rw [ba_back] at k1
      refine ⟨L.tail, ?_, k2.done k3⟩
      rw [e1, k1]
      unfold term
      rw [if_pos (show begins (hd (⟨4, 0, σ.n t.text⟩ :: L.tail)) = true from rfl), if_neg (show ¬ ((hd (⟨4, 0, σ.n t.text⟩ :: L.tail)).kind = 4 ∧ 6 < (hd (⟨4, 0, σ.n t.text⟩ :: L.tail)).text.size) from fun q => by have := q.2; change 6 < (σ.n t.text).size at this; omega)]
      rfl
    · have e0 : prT σ 8 t = t.text.toList ++ arS (t.args.map (prT σ 7)) := by unfold prT; rw [if_neg (by omega), if_neg (by omega)]
      have e1 : mpT σ 8 t = ⟨2, t.text, t.args.map (mpT σ 7)⟩ := by unfold mpT; rw [if_neg (by omega), if_neg (by omega)]
      rw [e0] at ha
      cases hA : t.args with
      | nil =>
        rw [hA] at ha e1
        simp only [List.map_nil, arS, List.append_nil] at ha e1
        obtain ⟨k1, k2, k3⟩ := hl.word hw (rest := []) (by rw [List.append_nil]; exact ha) nor
        rw [ba_back] at k1
        have hd0 := k2.done k3
        refine ⟨L.tail, ?_, hd0⟩
        have hsn : sees L.tail [40] = false := by unfold sees; rw [hd0]; rfl
        rw [e1, k1]
        unfold term
        rw [if_pos (show begins (hd (⟨2, 0, t.text⟩ :: L.tail)) = true from rfl), if_neg (show ¬ ((hd (⟨2, 0, t.text⟩ :: L.tail)).kind = 4 ∧ 6 < (hd (⟨2, 0, t.text⟩ :: L.tail)).text.size) from fun q => by have := q.1; change 2 = 4 at this; omega), if_pos (show (hd (⟨2, 0, t.text⟩ :: L.tail)).kind = 2 from rfl), if_neg (show ¬ sees (List.tail (⟨2, 0, t.text⟩ :: L.tail)) [40] = true from by rw [List.tail_cons, hsn]; simp)]
        rfl
      | cons u ts =>
        rw [hA] at ha e1 h3
        have hu := par_term σ 7 u (hargs u (by rw [hA]; simp))
        have hts := fun x (hx : x ∈ ts) => par_term σ 7 x (hargs x (by rw [hA]; simp [hx]))
        simp only [List.map_cons, arS, List.append_assoc, List.cons_append, List.nil_append] at ha
        obtain ⟨k1, k2, k3⟩ := hl.word hw ha (fun c r q => by injection q with q _; subst q; decide)
        rw [ba_back] at k1
        obtain ⟨j1, j2, j3⟩ := k2.one 40 k3 (by decide)
        obtain ⟨l3, e3, m3, a3⟩ := par_args ts u 2 (by simpa using h3) hu hts s _ _ [] j2 (by simpa using j3)
        refine ⟨l3, ?_, m3.done a3⟩
        rw [e1, k1]
        unfold term
        rw [if_pos (show begins (hd (⟨2, 0, t.text⟩ :: L.tail)) = true from rfl), if_neg (show ¬ ((hd (⟨2, 0, t.text⟩ :: L.tail)).kind = 4 ∧ 6 < (hd (⟨2, 0, t.text⟩ :: L.tail)).text.size) from fun q => by have := q.1; change 2 = 4 at this; omega), if_pos (show (hd (⟨2, 0, t.text⟩ :: L.tail)).kind = 2 from rfl), if_pos (show sees (List.tail (⟨2, 0, t.text⟩ :: L.tail)) [40] = true from by rw [List.tail_cons, j1]; exact sees_cons _ [40] [40] _)]
        show (match argsOf (term 7) 2 L.tail.tail with | .inl e => _ | .inr (ts, l2) => _) = _
        rw [e3]
        rfl
  obtain ⟨l', h1, h2⟩ := key
  refine ⟨l', ?_⟩
  unfold whole
  rw [h1]
  dsimp only
  rw [if_pos h2]
mutual
/-- A term as it stands: its variables by their own names. -/
def wr : U → List UInt8
  | .v x => x.1
  | .n k tx num ss => if k = 3 then Lib.decDigits num.toNat else tx ++ argS (wrL ss)
def wrL : List U → List (List UInt8)
  | [] => []
  | a :: ss => wr a :: wrL ss
end
theorem wrL_map : ∀ ss, wrL ss = ss.map wr
  | [] => rfl
  | a :: ss => by rw [wrL, wrL_map ss]; rfl
theorem wr_n (k : Nat) (tx : List UInt8) (num : Int) (ss : List U) : wr (.n k tx num ss) = if k = 3 then Lib.decDigits num.toNat else tx ++ argS (ss.map wr) := by rw [wr, wrL_map]
mutual
/-- The term that is read of it. -/
def tmO : U → Tm
  | .v x => ⟨3, ⟨x.1.toArray⟩, []⟩
  | .n k tx num ss => if k = 3 then ⟨4, ⟨(Lib.decDigits num.toNat).toArray⟩, []⟩ else ⟨2, ⟨tx.toArray⟩, tmOL ss⟩
def tmOL : List U → List Tm
  | [] => []
  | a :: ss => tmO a :: tmOL ss
end
theorem tmOL_map : ∀ ss, tmOL ss = ss.map tmO
  | [] => rfl
  | a :: ss => by rw [tmOL, tmOL_map ss]; rfl
theorem tmO_n (k : Nat) (tx : List UInt8) (num : Int) (ss : List U) : tmO (.n k tx num ss) = if k = 3 then ⟨4, ⟨(Lib.decDigits num.toNat).toArray⟩, []⟩ else ⟨2, ⟨tx.toArray⟩, ss.map tmO⟩ := by rw [tmO, tmOL_map]
/-- A node that can be read. -/
def ndU (k : Nat) (tx : List UInt8) (num : Int) (n : Nat) : Prop := (k = 1 ∧ wordy 2 tx ∧ n ≤ 3 ∧ num = 0) ∨ (k = 3 ∧ tx = [] ∧ n = 0 ∧ 0 ≤ num ∧ num ≤ 9)
def gdN (u : U) : Prop := ∀ k tx num ss, U.n k tx num ss ∈ subs u → ndU k tx num ss.length
/-- Its variables can be read. -/
def gdV (u : U) : Prop := ∀ x, has x u → wordy 3 x.1 ∧ x.2 = 0
theorem gdN.arg {k : Nat} {tx : List UInt8} {num : Int} {ss : List U} (h : gdN (.n k tx num ss)) {a : U} (ha : a ∈ ss) : gdN a := fun k' tx' num' ss' hm => h k' tx' num' ss' (by rw [subs]; exact List.mem_cons_of_mem _ (mem_subsL.2 ⟨a, ha, hm⟩))
theorem gdN.own {k : Nat} {tx : List UInt8} {num : Int} {ss : List U} (h : gdN (.n k tx num ss)) : ndU k tx num ss.length := h k tx num ss (subs_self _)
theorem gdN.mk {k : Nat} {tx : List UInt8} {num : Int} {ss : List U} (h : ndU k tx num ss.length) (hs : ∀ a ∈ ss, gdN a) : gdN (.n k tx num ss) := fun k' tx' num' ss' hm => by
  rw [subs] at hm
  rcases List.mem_cons.1 hm with e | e
  · injection e with e1 e2 e3 e4
    subst e1 e2 e3 e4
    exact h
  · obtain ⟨a, ha, hm⟩ := mem_subsL.1 e
    exact hs a ha k' tx' num' ss' hm
theorem gdV.arg {k : Nat} {tx : List UInt8} {num : Int} {ss : List U} (h : gdV (.n k tx num ss)) {a : U} (ha : a ∈ ss) : gdV a := fun x hx => h x ((has_n x k tx num ss).2 ⟨a, ha, hx⟩)
theorem high_arg {k : Nat} {tx : List UInt8} {num : Int} {ss : List U} {a : U} (ha : a ∈ ss) : high a + 1 ≤ high (.n k tx num ss) := by
  rw [high]
  have := highL_mem ha
  omega
theorem dec_one {n : Int} (h0 : 0 ≤ n) (h9 : n ≤ 9) : Lib.decDigits n.toNat = [UInt8.ofNat (48 + n.toNat)] := by rw [Lib.decDigits, dif_pos (by omega)]
theorem read_U : ∀ (u : U) (f : Nat), gdN u → gdV u → high u < f → okT idS f (tmO u) ∧ prT idS f (tmO u) = wr u ∧ mpT idS f (tmO u) = tmO u ∧ wfK f (tmO u) ∧ ∀ sd, toU f sd (tmO u) = sub (fun v => .v (v.1, sd)) u := by
  refine U.ind (fun x f hn hv hf => ?_) (fun k tx num ss ih f hn hv hf => ?_)
  · obtain ⟨f, rfl⟩ : ∃ g, f = g + 1 := ⟨f - 1, by omega⟩
    obtain ⟨hw, h0⟩ := hv x rfl
    rw [tmO]
    refine ⟨Or.inl ⟨rfl, ?_⟩, ?_, ?_, ⟨Or.inr (Or.inl rfl), fun _ => rfl, by simp, fun a ha => by simp at ha⟩, fun sd => ?_⟩
    · show wordy 3 (⟨x.1.toArray⟩ : ByteArray).toList
      rw [ba_list]
      exact hw
    · unfold prT
      rw [if_pos rfl]
      show (⟨x.1.toArray⟩ : ByteArray).toList = _
      rw [ba_list]
      rfl
    · unfold mpT
      rw [if_pos rfl]
      rfl
    · unfold toU
      rw [tmU_var _ f rfl]
      show U.v ((⟨x.1.toArray⟩ : ByteArray).toList, sd) = _
      rw [ba_list]
      rfl
  · obtain ⟨f, rfl⟩ : ∃ g, f = g + 1 := ⟨f - 1, by omega⟩
    rw [tmO_n, wr_n]
    rcases hn.own with ⟨rfl, hw, h3, h0⟩ | ⟨rfl, htx, hl, h0, h9⟩
    · rw [if_neg (by decide), if_neg (by decide)]
      have IH : ∀ a ∈ ss, okT idS f (tmO a) ∧ prT idS f (tmO a) = wr a ∧ mpT idS f (tmO a) = tmO a ∧ wfK f (tmO a) ∧ ∀ sd, toU f sd (tmO a) = sub (fun v => .v (v.1, sd)) a := fun a ha => ih a ha f (hn.arg ha) (hv.arg ha) (by have := high_arg (k := 1) (tx := tx) (num := num) ha; omega)
      refine ⟨Or.inr (Or.inr ⟨rfl, ?_, ?_, fun a ha => ?_⟩), ?_, ?_, ⟨Or.inl rfl, fun q => absurd rfl q, ?_, fun a ha => ?_⟩, fun sd => ?_⟩
      · show wordy 2 (⟨tx.toArray⟩ : ByteArray).toList
        rw [ba_list]
        exact hw
      · show (ss.map tmO).length ≤ 3
        rw [List.length_map]
        exact h3
      · obtain ⟨c, hc, rfl⟩ := List.mem_map.1 ha
        exact (IH c hc).1
      · have e1 : (ss.map tmO).map (prT idS f) = ss.map wr := by rw [List.map_map]; exact List.map_congr_left fun a ha => (IH a ha).2.1
        unfold prT
        rw [if_neg (show ¬ (2 : Nat) = 3 by decide), if_neg (show ¬ (2 : Nat) = 4 by decide)]
        show (⟨tx.toArray⟩ : ByteArray).toList ++ arS ((ss.map tmO).map (prT idS f)) = _
        rw [ba_list, arS_is, e1]
      · have e1 : (ss.map tmO).map (mpT idS f) = ss.map tmO := by rw [List.map_map]; exact List.map_congr_left fun a ha => (IH a ha).2.2.1
        unfold mpT
        rw [if_neg (show ¬ (2 : Nat) = 3 by decide), if_neg (show ¬ (2 : Nat) = 4 by decide)]
        show Tm.mk 2 _ ((ss.map tmO).map (mpT idS f)) = _
        rw [e1]
      · show (ss.map tmO).length ≤ 3
        rw [List.length_map]
        exact h3
      · obtain ⟨c, hc, rfl⟩ := List.mem_map.1 ha
        exact (IH c hc).2.2.2.1
      · unfold toU
        rw [tmU_eq, if_neg (show ¬ (2 : Nat) = 3 by decide), if_neg (show ¬ (2 : Nat) = 4 by decide), sub_n, h0]
        show U.n 1 (⟨tx.toArray⟩ : ByteArray).toList 0 ((ss.map tmO).map (tmU _ f)) = _
        rw [ba_list, List.map_map]
        congr 1
        exact List.map_congr_left fun a ha => (IH a ha).2.2.2.2 sd
    · rw [if_pos rfl, if_pos rfl]
      obtain rfl : ss = [] := List.length_eq_zero_iff.1 hl
      have hd := dec_one h0 h9
      have hw := dec_word num.toNat
      refine ⟨Or.inr (Or.inl ⟨rfl, ?_, ?_⟩), ?_, ?_, ⟨Or.inr (Or.inr rfl), fun _ => rfl, by simp, fun a ha => by simp at ha⟩, fun sd => ?_⟩
      · show wordy 4 (⟨(Lib.decDigits num.toNat).toArray⟩ : ByteArray).toList
        rw [ba_list]
        rw [hd] at hw ⊢
        exact ⟨_, [], rfl, Or.inr (Or.inr ⟨rfl, hw _ (by simp)⟩), fun d hd => dig_in (hw d hd) (Or.inr rfl)⟩
      · show (⟨(Lib.decDigits num.toNat).toArray⟩ : ByteArray).size ≤ 6
        rw [hd]
        show [UInt8.ofNat (48 + num.toNat)].toArray.size ≤ 6
        simp
      · unfold prT
        rw [if_neg (show ¬ (4 : Nat) = 3 by decide), if_pos rfl]
        show (⟨(Lib.decDigits num.toNat).toArray⟩ : ByteArray).toList = _
        rw [ba_list]
      · unfold mpT
        rw [if_neg (show ¬ (4 : Nat) = 3 by decide), if_pos rfl]
        rfl
      · unfold toU
        rw [tmU_eq, if_neg (show ¬ (4 : Nat) = 3 by decide), if_pos rfl, sub_n, htx]
        show U.n 3 [] ((numOf (⟨(Lib.decDigits num.toNat).toArray⟩ : ByteArray) : Nat) : Int) [] = _
        unfold numOf
        rw [ba_list, numL_dec]
        congr 1
        omega
/-- A text of a term is read as it. -/
theorem whole_wr {u : U} (hn : gdN u) (hv : gdV u) (hh : high u ≤ 7) {s : ByteArray} (hs : s = ⟨(wr u).toArray⟩) {L : List Tok} (hL : Chain s L) (hd0 : hd L = next s 0) : ∃ l1, whole L = .inr (tmO u, l1) := by
  obtain ⟨h1, h2, h3, _⟩ := read_U u 8 hn hv (by omega)
  rw [← h2] at hs
  rw [← h3]
  exact whole_pr h1 hs hL hd0
end Parl
namespace Parl
open Go
def cc (θ : Vr → U) (k : Nat) : List U → Nat
  | [] => 0
  | m :: N => (if size (sub θ m) ≤ k ∧ ar m ≠ 0 then 1 else 0) + cc θ k N
def ncp : List U → Nat
  | [] => 0
  | m :: N => (if ar m ≠ 0 then 1 else 0) + ncp N
theorem ncp_app : ∀ (a b : List U), ncp (a ++ b) = ncp a + ncp b
  | [], b => by simp [ncp]
  | m :: a, b => by rw [List.cons_append, ncp, ncp, ncp_app a b]; omega
theorem SolB.every {Q : U → Prop} (harg : ∀ k tx num ss, Q (.n k tx num ss) → ∀ a ∈ ss, Q a) (hput : ∀ (x : Vr) (b : U), Q b → ∀ u, Q u → Q (put u x b)) {lt : Vr → Vr → Prop} {θ : Vr → U} {l : List (U × U)} {r : Option (List (Vr × U))} {m : Nat} (h : SolB lt θ l r m) : (∀ e ∈ l, Q e.1 ∧ Q e.2) → ∀ out, r = some out → ∀ e ∈ out, Q e.2 := by
  induction h with
  | nil => intro _ out e d hd; cases e; cases hd
  | @args k tx num ss k' tx' num' ss' l r m h _ ih =>
    intro hl
    refine ih fun e he => ?_
    rcases List.mem_append.1 he with he | he
    · obtain ⟨p, q⟩ := e
      obtain ⟨h1, h2⟩ := List.of_mem_zip he
      have := hl _ (List.mem_cons_self ..)
      exact ⟨harg _ _ _ _ this.2 _ h1, harg _ _ _ _ this.1 _ h2⟩
    · exact hl e (by simp [he])
  | clash h => intro _ out e; cases e
  | same _ ih => exact fun hl => ih fun e he => hl e (by simp [he])
  | @left x b l r m hθ hv ho _ ih =>
    intro hl out e
    have hb := (hl _ (List.mem_cons_self ..)).2
    cases r with
    | none => cases e
    | some r =>
      cases e
      intro d hd
      rcases List.mem_cons.1 hd with rfl | hd
      · exact hb
      · refine ih (fun e he => ?_) r rfl d hd
        obtain ⟨c, hc, rfl⟩ := List.mem_map.1 he
        have := hl c (by simp [hc])
        exact ⟨hput x b hb _ this.1, hput x b hb _ this.2⟩
  | @right a y l r m hθ hv ho _ ih =>
    intro hl out e
    have hb := (hl _ (List.mem_cons_self ..)).1
    cases r with
    | none => cases e
    | some r =>
      cases e
      intro d hd
      rcases List.mem_cons.1 hd with rfl | hd
      · exact hb
      · refine ih (fun e he => ?_) r rfl d hd
        obtain ⟨c, hc, rfl⟩ := List.mem_map.1 he
        have := hl c (by simp [hc])
        exact ⟨hput y a hb _ this.1, hput y a hb _ this.2⟩
  | occL hv ho => intro _ out e; cases e
  | occR hv ho => intro _ out e; cases e
/-- The term with its variables of a side. -/
def sdU (sd : Nat) : U → U := sub (ren fun v => (v.1, sd))
/-- What Unify says of two terms. -/
noncomputable def un2 (x y : U) : List UInt8 × Bool × Nat := unR (sdU 1 x) (sdU 2 y)
/-- Its variables are of no side. -/
def z0 (u : U) : Prop := ∀ v, has v u → v.2 = 0
/-- A term that can be read. -/
structure Rd (u : U) : Prop where
  nd : gdN u
  vr : gdV u
  hi : high u ≤ 7
theorem Rd.z0 {u : U} (h : Rd u) : Parl.z0 u := fun v hv => (h.vr v hv).2
/-- What Match says of two terms. -/
def say2 (x y : U) : Nat := sayT (tmO x) (tmO y)
theorem toU_rd {u : U} (h : Rd u) : toU 8 0 (tmO u) = u := by
  rw [(read_U u 8 h.nd h.vr (by have := h.hi; omega)).2.2.2.2 0]
  rw [sub_congr (τ := .v) u (fun v hv => by rw [← h.z0 v hv]), sub_self]
theorem wf_rd {u : U} (h : Rd u) : wfK 8 (tmO u) := (read_U u 8 h.nd h.vr (by have := h.hi; omega)).2.2.2.1
theorem tm_rd {u : U} (h : Rd u) (σ : List UInt8 → U) : tmU σ 8 (tmO u) = sub (fun v => σ v.1) u := by rw [tmU_sub σ 0 8 _ (wf_rd h), toU_rd h]
theorem say2_yes {x y : U} (hx : Rd x) (hy : Rd y) : say2 x y = 1 ↔ ∃ σ : Vr → U, sub σ x = y := by
  unfold say2
  rw [say_yes (wf_rd hx) (wf_rd hy), toU_rd hy]
  constructor
  · rintro ⟨σ, h⟩
    exact ⟨_, (tm_rd hx σ).symm.trans h⟩
  · rintro ⟨σ, h⟩
    refine ⟨fun s => σ (s, 0), ?_⟩
    rw [tm_rd hx, ← h]
    exact sub_congr x fun v hv => by rw [← hx.z0 v hv]
theorem say2_no {x y : U} (hx : Rd x) (hy : Rd y) {σ θ : Vr → U} (h : sub σ x = sub θ y) : say2 x y ≠ 2 := by
  refine say_not_no (wf_rd hx) (wf_rd hy) (θ := fun s => θ (s, 0)) (σ := fun s => σ (s, 0)) ?_
  rw [tm_rd hx, tm_rd hy]
  have e1 : sub (fun v => σ (v.1, 0)) x = sub σ x := sub_congr x fun v hv => by rw [← hx.z0 v hv]
  have e2 : sub (fun v => θ (v.1, 0)) y = sub θ y := sub_congr y fun v hv => by rw [← hy.z0 v hv]
  rw [e1, e2, h]
theorem say2_gnd {x y : U} (hy : Rd y) (hg : ∀ v, ¬ has v y) : say2 x y ≠ 3 := by
  refine say_gnd (wf_rd hy) fun v hv => ?_
  rw [toU_rd hy] at hv
  exact hg v hv
theorem say2_or (x y : U) : say2 x y = 1 ∨ say2 x y = 2 ∨ say2 x y = 3 := says_or _
end Parl
namespace Parl
open Go
theorem bothE_rd {x y : U} (hx : Rd x) (hy : Rd y) (sx : (wr x).length ≤ 64) (sy : (wr y).length ≤ 64) {a b : ByteArray} (ha : a = ⟨(wr x).toArray⟩) (hb : b = ⟨(wr y).toArray⟩) {la lb : List Tok} (hLa : Chain a la) (hha : hd la = next a 0) (hLb : Chain b lb) (hhb : hd lb = next b 0) :
    bothE a b la lb = 0 ∧ ¬ (64 < a.size ∨ 64 < b.size) ∧ (∃ l1, whole la = .inr (tmO x, l1)) ∧ ∃ l2, whole lb = .inr (tmO y, l2) := by
  have hs : ¬ (64 < a.size ∨ 64 < b.size) := by
    have e1 : a.size = (wr x).length := by rw [ha]; show (wr x).toArray.size = _; simp
    have e2 : b.size = (wr y).length := by rw [hb]; show (wr y).toArray.size = _; simp
    omega
  obtain ⟨l1, h1⟩ := whole_wr hx.nd hx.vr hx.hi ha hLa hha
  obtain ⟨l2, h2⟩ := whole_wr hy.nd hy.vr hy.hi hb hLb hhb
  exact ⟨by rw [bothE_b hs h1, h2]; rfl, hs, ⟨l1, h1⟩, l2, h2⟩
theorem unA_rd {x y : U} (hx : Rd x) (hy : Rd y) (sx : (wr x).length ≤ 64) (sy : (wr y).length ≤ 64) {a b : ByteArray} (ha : a = ⟨(wr x).toArray⟩) (hb : b = ⟨(wr y).toArray⟩) {la lb : List Tok} (hLa : Chain a la) (hha : hd la = next a 0) (hLb : Chain b lb) (hhb : hd lb = next b 0) : unA a b la lb = un2 x y := by
  obtain ⟨h0, _, ⟨l1, h1⟩, l2, h2⟩ := bothE_rd hx hy sx sy ha hb hLa hha hLb hhb
  rw [unA_is h0 h1 h2]
  unfold un2 sdU
  rw [(read_U x 8 hx.nd hx.vr (by have := hx.hi; omega)).2.2.2.2 1, (read_U y 8 hy.nd hy.vr (by have := hy.hi; omega)).2.2.2.2 2]
  rfl
/-- Who waits. -/
def wts2 (x y : U) : List (List UInt8) := if say2 x y = 3 then (matF 8 (tmO x) (tmO y) Lk.none).waits (tmO y) else []
theorem mat_rd {x y : U} (hx : Rd x) (hy : Rd y) (sx : (wr x).length ≤ 64) (sy : (wr y).length ≤ 64) {a b : ByteArray} (ha : a = ⟨(wr x).toArray⟩) (hb : b = ⟨(wr y).toArray⟩) {la lb : List Tok} (hLa : Chain a la) (hha : hd la = next a 0) (hLb : Chain b lb) (hhb : hd lb = next b 0) : mtE a b la lb = 0 ∧ mtN a b la lb = say2 x y ∧ mtW a b la lb = wts2 x y := by
  obtain ⟨h0, hs, ⟨l1, h1⟩, l2, h2⟩ := bothE_rd hx hy sx sy ha hb hLa hha hLb hhb
  have hm : mtL a b la lb = some (matF 8 (tmO x) (tmO y) Lk.none, tmO y) := by unfold mtL; rw [if_neg hs, h1, h2]
  refine ⟨h0, ?_, ?_⟩
  · unfold mtN
    rw [hm]
    rfl
  · unfold mtW wts2
    rw [hm]
    rfl
/-- Leaves, as they are made. -/
def vars4 : List Vr := [([88], 0), ([89], 0), ([90], 0), ([87], 0)]
def lfU (u : U) : Prop := (∃ x ∈ vars4, u = .v x) ∨ (∃ n : Int, (n = 0 ∨ n = 1 ∨ n = 7) ∧ u = .n 3 [] n []) ∨ ∃ c : UInt8, (c = 97 ∨ c = 98 ∨ c = 110) ∧ u = .n 1 [c] 0 []
def mkU : Nat → U → Prop
  | 0, u => lfU u
  | d + 1, u => lfU u ∨ (∃ a, u = .n 1 [102] 0 [a] ∧ mkU d a) ∨ ∃ a b, u = .n 1 [103] 0 [a, b] ∧ mkU d a ∧ mkU d b
theorem gLeaf_lf {t : Tm} (h : gLeaf t) : ∃ u, lfU u ∧ tx t = wr u := by
  obtain ⟨h0, h | h | h⟩ := h
  · obtain ⟨hk, hm⟩ := h
    refine ⟨.v (t.text.toList, 0), Or.inl ⟨_, ?_, rfl⟩, tx_leaf ⟨h0, Or.inl ⟨hk, hm⟩⟩⟩
    simp only [gVars, List.mem_cons, List.not_mem_nil, or_false] at hm
    rcases hm with e | e | e | e <;> rw [e, ByteArray.toList_eq] <;> simp [vars4]
  · obtain ⟨hk, hm⟩ := h
    rw [tx_leaf ⟨h0, Or.inr (Or.inl ⟨hk, hm⟩)⟩]
    simp only [gNums, List.mem_cons, List.not_mem_nil, or_false] at hm
    rcases hm with e | e | e
    · exact ⟨.n 3 [] 0 [], Or.inr (Or.inl ⟨0, Or.inl rfl, rfl⟩), by rw [e, ByteArray.toList_eq, wr_n, if_pos rfl, dec_one (by decide) (by decide)]; rfl⟩
    · exact ⟨.n 3 [] 1 [], Or.inr (Or.inl ⟨1, Or.inr (Or.inl rfl), rfl⟩), by rw [e, ByteArray.toList_eq, wr_n, if_pos rfl, dec_one (by decide) (by decide)]; rfl⟩
    · exact ⟨.n 3 [] 7 [], Or.inr (Or.inl ⟨7, Or.inr (Or.inr rfl), rfl⟩), by rw [e, ByteArray.toList_eq, wr_n, if_pos rfl, dec_one (by decide) (by decide)]; rfl⟩
  · obtain ⟨hk, hm⟩ := h
    rw [tx_leaf ⟨h0, Or.inr (Or.inr ⟨hk, hm⟩)⟩]
    simp only [gNames, List.mem_cons, List.not_mem_nil, or_false] at hm
    rcases hm with e | e | e
    · exact ⟨.n 1 [97] 0 [], Or.inr (Or.inr ⟨97, Or.inl rfl, rfl⟩), by rw [e, ByteArray.toList_eq, wr_n, if_neg (by decide)]; rfl⟩
    · exact ⟨.n 1 [98] 0 [], Or.inr (Or.inr ⟨98, Or.inr (Or.inl rfl), rfl⟩), by rw [e, ByteArray.toList_eq, wr_n, if_neg (by decide)]; rfl⟩
    · exact ⟨.n 1 [110] 0 [], Or.inr (Or.inr ⟨110, Or.inr (Or.inr rfl), rfl⟩), by rw [e, ByteArray.toList_eq, wr_n, if_neg (by decide)]; rfl⟩
theorem gT_mk : ∀ (d : Nat) (t : Tm), d ≤ 3 → gT d t → ∃ u, mkU d u ∧ tx t = wr u
  | 0, t, _, h => gLeaf_lf h
  | d + 1, t, hd, h => by
    rcases h with h | ⟨hk, ht, a, ha, hg⟩ | ⟨hk, ht, a, b, ha, hg, hg'⟩
    · obtain ⟨u, h1, h2⟩ := gLeaf_lf h
      exact ⟨u, Or.inl h1, h2⟩
    · obtain ⟨u, h1, h2⟩ := gT_mk d a (by omega) hg
      refine ⟨.n 1 [102] 0 [u], Or.inr (Or.inl ⟨u, rfl, h1⟩), ?_⟩
      have e : t = ⟨2, ⟨#[102]⟩, [a]⟩ := by cases t; simp_all
      rw [e, tx_one _ hg (by omega), h2, wr_n, if_neg (by decide), ByteArray.toList_eq]
      simp [argS]
    · obtain ⟨u, h1, h2⟩ := gT_mk d a (by omega) hg
      obtain ⟨v, h3, h4⟩ := gT_mk d b (by omega) hg'
      refine ⟨.n 1 [103] 0 [u, v], Or.inr (Or.inr ⟨u, v, rfl, h1, h3⟩), ?_⟩
      have e : t = ⟨2, ⟨#[103]⟩, [a, b]⟩ := by cases t; simp_all
      rw [e, tx_two _ hg (by omega) hg' (by omega), h2, h4, wr_n, if_neg (by decide), ByteArray.toList_eq]
      simp [argS]
/-- Names and variables of one letter. -/
def smp (u : U) : Prop := (∀ k tx num ss, U.n k tx num ss ∈ subs u → (k = 1 ∧ (∃ c : UInt8, tx = [c] ∧ 97 ≤ c.toNat ∧ c.toNat ≤ 122) ∧ ss.length ≤ 3 ∧ num = 0) ∨ (k = 3 ∧ tx = [] ∧ ss = [] ∧ 0 ≤ num ∧ num ≤ 9)) ∧ ∀ x, has x u → x.2 = 0 ∧ ∃ c : UInt8, x.1 = [c] ∧ 65 ≤ c.toNat ∧ c.toNat ≤ 90
theorem smp.arg {k : Nat} {tx : List UInt8} {num : Int} {ss : List U} (h : smp (.n k tx num ss)) {a : U} (ha : a ∈ ss) : smp a := ⟨fun k' tx' num' ss' hm => h.1 k' tx' num' ss' (by rw [subs]; exact List.mem_cons_of_mem _ (mem_subsL.2 ⟨a, ha, hm⟩)), fun x hx => h.2 x ((has_n x k tx num ss).2 ⟨a, ha, hx⟩)⟩
theorem smp.mk {k : Nat} {tx : List UInt8} {num : Int} {ss : List U} (h : (k = 1 ∧ (∃ c : UInt8, tx = [c] ∧ 97 ≤ c.toNat ∧ c.toNat ≤ 122) ∧ ss.length ≤ 3 ∧ num = 0) ∨ (k = 3 ∧ tx = [] ∧ ss = [] ∧ 0 ≤ num ∧ num ≤ 9)) (hs : ∀ a ∈ ss, smp a) : smp (.n k tx num ss) := by
  constructor
  · intro k' tx' num' ss' hm
    rw [subs] at hm
    rcases List.mem_cons.1 hm with e | e
    · injection e with e1 e2 e3 e4
      subst e1 e2 e3 e4
      exact h
    · obtain ⟨a, ha, hm⟩ := mem_subsL.1 e
      exact (hs a ha).1 k' tx' num' ss' hm
  · intro x hx
    obtain ⟨a, ha, hx⟩ := (has_n x k tx num ss).1 hx
    exact (hs a ha).2 x hx
theorem smp_v {c : UInt8} (h1 : 65 ≤ c.toNat) (h2 : c.toNat ≤ 90) : smp (.v ([c], 0)) := ⟨fun k tx num ss h => by rw [subs] at h; simp at h, fun x hx => by
  rw [has] at hx
  subst hx
  exact ⟨rfl, c, rfl, h1, h2⟩⟩
theorem smp.rd {u : U} (h : smp u) (hh : high u ≤ 7) : Rd u := ⟨fun k tx num ss hm => by
  rcases h.1 k tx num ss hm with ⟨h1, ⟨c, hc, c1, c2⟩, h3, h4⟩ | ⟨h1, h2, h3, h4, h5⟩
  · refine Or.inl ⟨h1, ⟨c, [], hc, Or.inl ⟨rfl, ?_⟩, fun d hd => ?_⟩, h3, h4⟩
    · unfold low
      simp
      omega
    · rw [hc] at hd
      obtain rfl : d = c := by simpa using hd
      unfold inWord low
      simp
      omega
  · exact Or.inr ⟨h1, h2, by rw [h3]; rfl, h4, h5⟩, fun x hx => by
  obtain ⟨h0, c, hc, c1, c2⟩ := h.2 x hx
  refine ⟨⟨c, [], hc, Or.inr (Or.inl ⟨rfl, ?_⟩), fun d hd => ?_⟩, h0⟩
  · unfold upp
    simp
    omega
  · rw [hc] at hd
    obtain rfl : d = c := by simpa using hd
    unfold inWord upp
    simp
    omega, hh⟩
theorem smp_sub {θ : Vr → U} : ∀ u, smp u → (∀ x, has x u → smp (θ x)) → smp (sub θ u) := by
  refine U.ind (fun x _ h => h x rfl) (fun k tx num ss ih h hθ => ?_)
  rw [sub_n]
  have := h.1 k tx num ss (subs_self _)
  refine smp.mk ?_ fun a ha => ?_
  · rcases this with ⟨h1, h2, h3, h4⟩ | ⟨h1, h2, h3, h4⟩
    · exact Or.inl ⟨h1, h2, by rw [List.length_map]; exact h3, h4⟩
    · exact Or.inr ⟨h1, h2, by rw [h3]; rfl, h4⟩
  · obtain ⟨c, hc, rfl⟩ := List.mem_map.1 ha
    exact ih c hc (h.arg hc) fun x hx => hθ x ((has_n x k tx num ss).2 ⟨c, hc, hx⟩)
theorem high_subs {θ : Vr → U} {H : Nat} : ∀ u, (∀ x, has x u → high (θ x) ≤ H) → high (sub θ u) ≤ high u + H := by
  refine U.ind (fun x h => by rw [high, Nat.zero_add]; exact h x rfl) (fun k tx num ss ih h => ?_)
  rw [sub_n, high, high]
  have := highL_le (c := highL ss + H) (ss := ss.map (sub θ)) (fun b hb => by
    obtain ⟨a, ha, rfl⟩ := List.mem_map.1 hb
    have h1 := ih a ha fun x hx => h x ((has_n x k tx num ss).2 ⟨a, ha, hx⟩)
    have h2 := highL_mem ha
    omega)
  omega
/-- The text with another text in the place of a letter. -/
def ptT (v : UInt8) (r s : List UInt8) : List UInt8 := s.flatMap fun c => if c = v then r else [c]
theorem ptT_app (v : UInt8) (r s s' : List UInt8) : ptT v r (s ++ s') = ptT v r s ++ ptT v r s' := by unfold ptT; rw [List.flatMap_append]
theorem ptT_no {v : UInt8} {r : List UInt8} : ∀ {s : List UInt8}, v ∉ s → ptT v r s = s
  | [], _ => rfl
  | c :: s, h => by
    have h1 : c ≠ v := fun e => h (by simp [e])
    have h2 : v ∉ s := fun e => h (by simp [e])
    have := ptT_no (r := r) h2
    unfold ptT at this ⊢
    rw [List.flatMap_cons, if_neg h1, this]
    rfl
theorem ptT_args {v : UInt8} {r : List UInt8} (hv : v ≠ 40 ∧ v ≠ 41 ∧ v ≠ 44) (l : List (List UInt8)) : ptT v r (argS l) = argS (l.map (ptT v r)) := by
  have one : ∀ c, c ≠ v → ptT v r [c] = [c] := fun c h => ptT_no (by simpa using fun e => h e.symm)
  have more : ∀ (ys : List (List UInt8)), ptT v r (ys.flatMap fun y => 44 :: y) = (ys.map (ptT v r)).flatMap fun y => 44 :: y := by
    intro ys
    induction ys with
    | nil => rfl
    | cons y ys ih =>
      rw [List.flatMap_cons, ptT_app, ih, show (44 :: y) = [44] ++ y from rfl, ptT_app, one 44 (fun e => hv.2.2 e.symm)]
      simp
  cases l with
  | nil => rfl
  | cons x xs =>
    show ptT v r (40 :: x ++ xs.flatMap (fun y => 44 :: y) ++ [41]) = 40 :: ptT v r x ++ (xs.map (ptT v r)).flatMap (fun y => 44 :: y) ++ [41]
    rw [ptT_app, ptT_app, more, one 41 (fun e => hv.2.1 e.symm), show (40 :: x) = [40] ++ x from rfl, ptT_app, one 40 (fun e => hv.1 e.symm)]
    rfl
/-- Putting a text in is putting a term in. -/
theorem wr_put {v : UInt8} (h1 : 65 ≤ v.toNat) (h2 : v.toNat ≤ 90) (r : U) : ∀ u, smp u → wr (put u ([v], 0) r) = ptT v (wr r) (wr u) := by
  have ne : ∀ c : UInt8, c.toNat < 65 ∨ 90 < c.toNat → v ≠ c := fun c h e => by subst e; omega
  unfold put
  refine U.ind (fun x h => ?_) (fun k tx num ss ih h => ?_)
  · obtain ⟨x0, c, hc, _⟩ := h.2 x rfl
    obtain ⟨xs, xn⟩ := x
    dsimp only at x0 hc
    subst x0 hc
    show wr (one ([v], 0) r ([c], 0)) = ptT v (wr r) [c]
    unfold one ptT
    by_cases e : c = v
    · subst e
      simp
    · rw [if_neg (fun q => e (by simpa using q))]
      simp [e, wr]
  · rw [sub_n, wr_n, wr_n]
    rcases h.1 k tx num ss (subs_self _) with ⟨rfl, ⟨c, rfl, c1, c2⟩, _⟩ | ⟨rfl, rfl, rfl, n0, n9⟩
    · rw [if_neg (by decide), if_neg (by decide), ptT_app, ptT_no (s := [c]) (by simpa using ne c (Or.inr (by omega))), ptT_args ⟨ne 40 (by decide), ne 41 (by decide), ne 44 (by decide)⟩, List.map_map, List.map_map]
      congr 2
      exact List.map_congr_left fun a ha => ih a ha (h.arg ha)
    · rw [if_pos rfl, if_pos rfl, dec_one n0 n9]
      refine (ptT_no ?_).symm
      have : (UInt8.ofNat (48 + num.toNat)).toNat = 48 + num.toNat := by rw [UInt8.toNat_ofNat']; omega
      exact fun q => ne _ (Or.inl (by rw [this]; omega)) (List.mem_singleton.1 q)
/-- How long what is put in can make it. -/
theorem wr_sub_len {θ : Vr → U} : ∀ u, smp u → (∀ x, has x u → (wr (θ x)).length ≤ 4) → (wr (sub θ u)).length ≤ 4 * (wr u).length := by
  refine U.ind (fun x h hθ => ?_) (fun k tx num ss ih h hθ => ?_)
  · obtain ⟨_, c, hc, _⟩ := h.2 x rfl
    have := hθ x rfl
    show (wr (θ x)).length ≤ 4 * x.1.length
    rw [hc]
    simpa using this
  · rw [sub_n, wr_n, wr_n]
    split
    · omega
    · have hs : ∀ a ∈ ss, (wr (sub θ a)).length ≤ 4 * (wr a).length := fun a ha => ih a ha (h.arg ha) fun x hx => hθ x ((has_n x k tx num ss).2 ⟨a, ha, hx⟩)
      have more : ∀ bs : List U, (∀ a ∈ bs, (wr (sub θ a)).length ≤ 4 * (wr a).length) → (((bs.map (sub θ)).map wr).flatMap fun y => 44 :: y).length ≤ 4 * ((bs.map wr).flatMap fun y => 44 :: y).length := by
        intro bs
        induction bs with
        | nil => intro _; simp
        | cons b bs ihb =>
          intro hb
          have e1 := hb b (by simp)
          have e2 := ihb fun a ha => hb a (by simp [ha])
          simp only [List.map_cons, List.flatMap_cons, List.length_append, List.length_cons]
          omega
      rw [List.length_append, List.length_append]
      cases ss with
      | nil => simp [argS]; omega
      | cons b bs =>
        have e1 := hs b (by simp)
        have e2 := more bs fun a ha => hs a (by simp [ha])
        simp only [List.map_cons, argS, List.length_append, List.length_cons, List.length_nil, List.cons_append]
        omega
/-- What is known of a term that was made. -/
theorem lf_facts {u : U} (h : lfU u) : smp u ∧ high u ≤ 1 ∧ ncp (subs u) = 0 ∧ size u = 1 ∧ (wr u).length = 1 ∧ ∀ x, has x u → x ∈ vars4 := by
  rcases h with ⟨x, hx, rfl⟩ | ⟨n, hn, rfl⟩ | ⟨c, hc, rfl⟩
  · have hx' := hx
    simp only [vars4, List.mem_cons, List.not_mem_nil, or_false] at hx'
    refine ⟨?_, by simp [high], by simp [subs, ncp, ar], by simp [size], ?_, fun y hy => by rw [has] at hy; subst hy; exact hx⟩
    · rcases hx' with rfl | rfl | rfl | rfl <;> exact smp_v (by decide) (by decide)
    · rcases hx' with rfl | rfl | rfl | rfl <;> rfl
  · refine ⟨smp.mk (Or.inr ⟨rfl, rfl, rfl, by omega, by omega⟩) (fun a ha => by simp at ha), by simp [high, highL], by simp [subs, subsL, ncp, ar], by simp [size, sizeL], ?_, fun y hy => by rw [has_n] at hy; obtain ⟨a, ha, _⟩ := hy; simp at ha⟩
    rw [wr_n, if_pos rfl, dec_one (by omega) (by omega)]
    rfl
  · refine ⟨smp.mk (Or.inl ⟨rfl, ⟨c, rfl, ?_⟩, by simp, rfl⟩) (fun a ha => by simp at ha), by simp [high, highL], by simp [subs, subsL, ncp, ar], by simp [size, sizeL], by rw [wr_n, if_neg (by decide)]; simp [argS], fun y hy => by rw [has_n] at hy; obtain ⟨a, ha, _⟩ := hy; simp at ha⟩
    rcases hc with rfl | rfl | rfl <;> decide
theorem mk_facts : ∀ (d : Nat) (u : U), mkU d u → smp u ∧ high u ≤ d + 1 ∧ ncp (subs u) + 1 ≤ 2 ^ d ∧ size u + 1 ≤ 2 ^ (d + 1) ∧ (wr u).length + 4 ≤ 5 * 2 ^ d ∧ ∀ x, has x u → x ∈ vars4
  | 0, u, h => by
    obtain ⟨h1, h2, h3, h4, h5, h6⟩ := lf_facts h
    refine ⟨h1, by omega, by rw [h3]; decide, by rw [h4]; decide, by rw [h5]; decide, h6⟩
  | d + 1, u, h => by
    have hp : 1 ≤ 2 ^ d := Nat.one_le_two_pow
    have e1 : 2 ^ (d + 1) = 2 * 2 ^ d := by rw [Nat.pow_succ]; omega
    have e2 : 2 ^ (d + 1 + 1) = 4 * 2 ^ d := by rw [Nat.pow_succ, e1]; omega
    rcases h with h | ⟨a, rfl, ha⟩ | ⟨a, b, rfl, ha, hb⟩
    · obtain ⟨h1, h2, h3, h4, h5, h6⟩ := lf_facts h
      exact ⟨h1, by omega, by omega, by omega, by omega, h6⟩
    · obtain ⟨h1, h2, h3, h4, h5, h6⟩ := mk_facts d a ha
      refine ⟨smp.mk (Or.inl ⟨rfl, ⟨102, rfl, by decide⟩, by simp, rfl⟩) (fun c hc => by
        obtain rfl : c = a := by simpa using hc
        exact h1), ?_, ?_, ?_, ?_, fun x hx => ?_⟩
      · simp only [high, highL]; omega
      · simp only [subs, subsL, ncp, ar, List.append_nil, List.length_cons, List.length_nil]
        simp
        omega
      · simp only [size, sizeL]; omega
      · rw [wr_n, if_neg (by decide)]
        simp only [List.map_cons, List.map_nil, argS, List.flatMap_nil, List.length_append, List.length_cons, List.length_nil, List.cons_append, List.nil_append]
        omega
      · rw [has_n] at hx
        obtain ⟨c, hc, hx⟩ := hx
        obtain rfl : c = a := by simpa using hc
        exact h6 x hx
    · obtain ⟨h1, h2, h3, h4, h5, h6⟩ := mk_facts d a ha
      obtain ⟨k1, k2, k3, k4, k5, k6⟩ := mk_facts d b hb
      refine ⟨smp.mk (Or.inl ⟨rfl, ⟨103, rfl, by decide⟩, by simp, rfl⟩) (fun c hc => by
        rcases List.mem_cons.1 hc with rfl | hc
        · exact h1
        · obtain rfl : c = b := by simpa using hc
          exact k1), ?_, ?_, ?_, ?_, fun x hx => ?_⟩
      · simp only [high, highL]; omega
      · simp only [subs, subsL, ncp, ar, List.append_nil, List.length_cons, List.length_nil, ncp_app]
        simp
        omega
      · simp only [size, sizeL]; omega
      · rw [wr_n, if_neg (by decide)]
        simp only [List.map_cons, List.map_nil, argS, List.flatMap_nil, List.flatMap_cons, List.length_append, List.length_cons, List.length_nil, List.cons_append, List.nil_append, List.append_nil]
        omega
      · rw [has_n] at hx
        obtain ⟨c, hc, hx⟩ := hx
        rcases List.mem_cons.1 hc with rfl | hc
        · exact h6 x hx
        · obtain rfl : c = b := by simpa using hc
          exact k6 x hx
end Parl
namespace Parl
open Go
def uA : U := .n 1 [97] 0 []
def gr4 : List U := [.n 3 [] 0 [], .n 3 [] 1 [], uA, .n 1 [102] 0 [uA]]
theorem gr4_no {r : U} (h : r ∈ gr4) (v : Vr) : ¬ has v r := by
  simp only [gr4, uA, List.mem_cons, List.not_mem_nil, or_false] at h
  rcases h with rfl | rfl | rfl | rfl <;> simp [has, hasL]
theorem gr4_smp {r : U} (h : r ∈ gr4) : smp r ∧ high r ≤ 2 ∧ (wr r).length ≤ 4 := by
  have ha : smp uA := smp.mk (Or.inl ⟨rfl, ⟨97, rfl, by decide⟩, by simp, rfl⟩) (fun a ha => by simp at ha)
  simp only [gr4, List.mem_cons, List.not_mem_nil, or_false] at h
  rcases h with rfl | rfl | rfl | rfl
  · exact ⟨smp.mk (Or.inr ⟨rfl, rfl, rfl, by decide, by decide⟩) (fun a ha => by simp at ha), by simp [high, highL], by rw [wr_n, if_pos rfl, dec_one (by decide) (by decide)]; simp⟩
  · exact ⟨smp.mk (Or.inr ⟨rfl, rfl, rfl, by decide, by decide⟩) (fun a ha => by simp at ha), by simp [high, highL], by rw [wr_n, if_pos rfl, dec_one (by decide) (by decide)]; simp⟩
  · exact ⟨ha, by simp [uA, high, highL], by simp [uA, wr, wrL, argS]⟩
  · exact ⟨smp.mk (Or.inl ⟨rfl, ⟨102, rfl, by decide⟩, by simp, rfl⟩) (fun a h => by rw [List.mem_singleton.1 h]; exact ha), by simp [uA, high, highL], by simp [uA, wr, wrL, argS]⟩
/-- u comes of a: those that are done have got something. -/
def GS (a : U) (done : List Vr) (u : U) : Prop := ∃ γ : Vr → U, u = sub γ a ∧ ∀ v, (γ v = .v v ∧ v ∉ done) ∨ γ v ∈ gr4
theorem GS.start (a : U) : GS a [] a := ⟨.v, (sub_self a).symm, fun v => Or.inl ⟨rfl, by simp⟩⟩
theorem GS.put {a u : U} {done : List Vr} (h : GS a done u) (x : Vr) {r : U} (hr : r ∈ gr4) : GS a (done ++ [x]) (Parl.put u x r) := by
  obtain ⟨γ, rfl, h2⟩ := h
  refine ⟨fun v => sub (one x r) (γ v), by unfold Parl.put; rw [sub_sub], fun v => ?_⟩
  rcases h2 v with ⟨h3, h4⟩ | h3
  · show (sub (one x r) (γ v) = _ ∧ _) ∨ sub (one x r) (γ v) ∈ gr4
    rw [h3]
    show (one x r v = _ ∧ _) ∨ one x r v ∈ gr4
    unfold one
    by_cases e : v = x
    · rw [if_pos e]
      exact Or.inr hr
    · rw [if_neg e]
      exact Or.inl ⟨rfl, by simp [h4, e]⟩
  · refine Or.inr ?_
    show sub (one x r) (γ v) ∈ gr4
    rw [show sub (one x r) (γ v) = Parl.put (γ v) x r from rfl, put_no (gr4_no h3 x)]
    exact h3
theorem GS.smp {a u : U} {done : List Vr} (h : GS a done u) (ha : Parl.smp a) : Parl.smp u ∧ high u ≤ high a + 2 ∧ (wr u).length ≤ 4 * (wr a).length := by
  obtain ⟨γ, rfl, h2⟩ := h
  have k1 : ∀ x, has x a → Parl.smp (γ x) ∧ high (γ x) ≤ 2 ∧ (wr (γ x)).length ≤ 4 := fun x hx => by
    rcases h2 x with ⟨h3, _⟩ | h3
    · rw [h3]
      obtain ⟨h0, c, hc, c1, c2⟩ := ha.2 x hx
      obtain ⟨xs, xn⟩ := x
      dsimp only at h0 hc
      subst h0 hc
      exact ⟨smp_v c1 c2, by simp [high], by simp [wr]⟩
    · exact gr4_smp h3
  exact ⟨smp_sub a ha fun x hx => (k1 x hx).1, high_subs a fun x hx => (k1 x hx).2.1, wr_sub_len a ha fun x hx => (k1 x hx).2.2⟩
theorem has_sub {γ : Vr → U} {v : Vr} : ∀ u, has v (sub γ u) → ∃ w, has w u ∧ has v (γ w) := by
  refine U.ind (fun x h => ⟨x, rfl, h⟩) (fun k tx num ss ih h => ?_)
  rw [sub_n, has_n] at h
  obtain ⟨a, ha, hv⟩ := h
  obtain ⟨c, hc, rfl⟩ := List.mem_map.1 ha
  obtain ⟨w, h1, h2⟩ := ih c hc hv
  exact ⟨w, (has_n w k tx num ss).2 ⟨c, hc, h1⟩, h2⟩
theorem GS.gnd {a u : U} (h : GS a vars4 u) (ha : ∀ x, has x a → x ∈ vars4) : (∀ v, ¬ has v u) ∧ ∃ γ : Vr → U, sub γ a = u := by
  obtain ⟨γ, rfl, h2⟩ := h
  refine ⟨fun v hv => ?_, γ, rfl⟩
  obtain ⟨w, h3, h4⟩ := has_sub a hv
  rcases h2 w with ⟨_, h5⟩ | h5
  · exact h5 (ha w h3)
  · exact gr4_no h5 v h4
def jX : U := .n 1 [102] 0 [.v ([88], 0), uA]
def jY : U := .n 1 [102] 0 [.n 1 [98] 0 [], .v ([89], 0)]
def jZ : U := .n 1 [102] 0 [.v ([89], 0), .v ([90], 0)]
theorem j_smp : smp jX ∧ smp jY ∧ smp jZ := by
  have ha : smp uA := smp.mk (Or.inl ⟨rfl, ⟨97, rfl, by decide⟩, by simp, rfl⟩) (fun a ha => by simp at ha)
  have hb : smp (.n 1 [98] 0 []) := smp.mk (Or.inl ⟨rfl, ⟨98, rfl, by decide⟩, by simp, rfl⟩) (fun a ha => by simp at ha)
  have two : ∀ x y, smp x → smp y → smp (.n 1 [102] 0 [x, y]) := fun x y hx hy => smp.mk (Or.inl ⟨rfl, ⟨102, rfl, by decide⟩, by simp, rfl⟩) (fun a h => by
    rcases List.mem_cons.1 h with rfl | h
    · exact hx
    · obtain rfl : a = y := by simpa using h
      exact hy)
  exact ⟨two _ _ (smp_v (by decide) (by decide)) ha, two _ _ hb (smp_v (by decide) (by decide)), two _ _ (smp_v (by decide) (by decide)) (smp_v (by decide) (by decide))⟩
theorem j_rd : Rd jX ∧ Rd jY ∧ Rd jZ := ⟨j_smp.1.rd (by simp [jX, uA, high, highL]), j_smp.2.1.rd (by simp [jY, high, highL]), j_smp.2.2.rd (by simp [jZ, high, highL])⟩
theorem j_tx : wr jX = [102, 40, 88, 44, 97, 41] ∧ wr jY = [102, 40, 98, 44, 89, 41] ∧ wr jZ = [102, 40, 89, 44, 90, 41] := by
  refine ⟨?_, ?_, ?_⟩ <;> simp [jX, jY, jZ, uA, wr, wrL, argS]
theorem j_un : un2 jX jY = ([102, 40, 98, 44, 97, 41], true, 0) := by
  have h : IsM (sdU 1 jX) (sdU 2 jY) (.n 1 [102] 0 [.n 1 [98] 0 [], uA]) := by
    refine ⟨⟨fun v => if v.2 = 1 then .n 1 [98] 0 [] else uA, ?_, ?_⟩, fun θ q => ⟨θ, ?_⟩⟩
    · simp [sdU, jX, uA, sub, subL, ren]
    · simp [sdU, jY, uA, sub, subL, ren]
    · simp only [sdU, jX, jY, uA, sub, subL, ren] at q ⊢
      injection q with _ _ _ q
      injection q with q1 q2
      rw [q1]
  unfold un2
  rw [unR_is h, if_neg (by simp [uA, size, sizeL])]
  simp [uA, strU, strUL, namesU, namesUL, argS]
theorem j_ma : matF 8 (tmO jX) (tmO jZ) Lk.none = ⟨[([88], ⟨3, ⟨#[89]⟩, []⟩)], [[90]], false⟩ := by
  simp [jX, jZ, uA, tmO, tmOL, matF, two, alike, Lk.meet, Lk.none, Lk.wait, addN, ByteArray.toList_eq]
theorem j_says : say2 jX jZ = 3 ∧ wts2 jX jZ = [[90]] := by
  have h3 : say2 jX jZ = 3 := by
    unfold say2 sayT
    rw [j_ma]
    rfl
  refine ⟨h3, ?_⟩
  unfold wts2
  rw [if_pos h3, j_ma]
  simp [Lk.waits, jZ, tmO, tmOL, namesF, addN, ByteArray.toList_eq]
end Parl
namespace Parl
open Go
def InN (S : List UInt8 → Prop) (f : Nat) (t : Tm) : Prop := ∀ v, has v (toU f 0 t) → S v.1
theorem InN.arg {S : List UInt8 → Prop} {f : Nat} {t a : Tm} (h : InN S (f + 1) t) (h3 : t.kind ≠ 3) (h4 : t.kind ≠ 4) (ha : a ∈ t.args) : InN S f a := fun v hv => h v (by
  unfold toU
  rw [tmU_eq, if_neg h3, if_neg h4, has_n]
  exact ⟨_, List.mem_map_of_mem ha, hv⟩)
theorem InN.var {S : List UInt8 → Prop} {f : Nat} {t : Tm} (h : InN S (f + 1) t) (k : t.kind = 3) : S t.text.toList := h (t.text.toList, 0) (by
  unfold toU
  rw [tmU_var _ f k]
  rfl)
def WtIn (S : List UInt8 → Prop) (l : Lk) : Prop := ∀ x ∈ l.wt, S x
theorem WtIn.wait {S : List UInt8 → Prop} {l : Lk} (h : WtIn S l) {x : List UInt8} (hx : S x) : WtIn S (l.wait x) := fun y hy => by
  have hy : y ∈ addN l.wt x := hy
  unfold addN at hy
  split at hy
  · exact h y hy
  · rcases List.mem_append.1 hy with q | q
    · exact h y q
    · rw [List.mem_singleton.1 q]; exact hx
theorem cmp_in {S : List UInt8 → Prop} : ∀ (f : Nat) (a b : Tm) (l : Lk), wfK f a → wfK f b → InN S f a → InN S f b → WtIn S l → WtIn S (cmpF f a b l)
  | f + 1, a, b, l, ha, hb, ia, ib, h => by
    unfold cmpF
    by_cases ka : a.kind = 3
    · rw [if_pos ka]
      by_cases kb : b.kind = 3
      · rw [if_pos kb]
        split
        · exact h
        · exact (h.wait (ia.var ka)).wait (ib.var kb)
      · rw [if_neg kb]
        exact h.wait (ia.var ka)
    · rw [if_neg ka]
      by_cases kb : b.kind = 3
      · rw [if_pos kb]
        exact h.wait (ib.var kb)
      · rw [if_neg kb]
        split
        · rename_i hal
          by_cases k4 : a.kind = 4
          · rw [ha.2.1 (by omega)]
            cases b.args <;> exact h
          · have k4' : b.kind ≠ 4 := by
              unfold alike at hal
              simp only [Bool.and_eq_true, beq_iff_eq] at hal
              omega
            exact two_wt (Q := WtIn S) _ _ l (fun c hc d hd l' hq => cmp_in f c d l' (ha.2.2.2 c hc) (hb.2.2.2 d hd) (ia.arg ka k4 hc) (ib.arg kb k4' hd) hq) h
        · exact h
theorem mat_in {S : List UInt8 → Prop} : ∀ (f : Nat) (p t : Tm) (l : Lk), wfK f t → f ≤ 8 → InN S f t → (∀ q ∈ l.st, wfK 8 q.2 ∧ InN S 8 q.2) → WtIn S l → WtIn S (matF f p t l) ∧ ∀ q ∈ (matF f p t l).st, wfK 8 q.2 ∧ InN S 8 q.2
  | 0, _, _, _, h, _, _, _, _ => h.elim
  | f + 1, p, t, l, ht, hf, hi, hs, h => by
    have g8 : wfK 8 t ∧ InN S 8 t := by
      obtain ⟨e8, w8⟩ := tmU_le (fun x => .v (x, 0)) hf ht
      refine ⟨w8, fun v hv => hi v ?_⟩
      unfold toU at hv ⊢
      rw [e8] at hv
      exact hv
    unfold matF
    split
    · unfold Lk.meet
      cases hq : l.st.find? (fun q => q.1 == p.text.toList) with
      | none =>
        refine ⟨h, fun q hq' => ?_⟩
        rcases List.mem_append.1 hq' with hq' | hq'
        · exact hs q hq'
        · obtain rfl : q = (p.text.toList, t) := by simpa using hq'
          exact g8
      | some q =>
        obtain ⟨q1, q2⟩ := find_key hq
        refine ⟨cmp_in 8 q.2 t l (hs q q1).1 g8.1 (hs q q1).2 g8.2 h, ?_⟩
        show ∀ r ∈ (cmpF 8 q.2 t l).st, _
        rw [cmpF_st]
        exact hs
    · split
      · rename_i kt
        exact ⟨h.wait (hi.var kt), hs⟩
      · rename_i kt
        split
        · by_cases k4 : t.kind = 4
          · rw [ht.2.1 (by omega)]
            cases p.args <;> exact ⟨h, hs⟩
          · exact two_wt (Q := fun l' => WtIn S l' ∧ ∀ q ∈ l'.st, wfK 8 q.2 ∧ InN S 8 q.2) _ _ l (fun c _ d hd l' hq => mat_in f c d l' (ht.2.2.2 d hd) (by omega) (hi.arg kt k4 hd) hq.2 hq.1) ⟨h, hs⟩
        · exact ⟨h, hs⟩
/-- Who waits: some, if one waits. -/
theorem wts_some {p t : Tm} (ht : wfK 8 t) (h : sayT p t = 3) : (matF 8 p t Lk.none).waits t ≠ [] := by
  have hw : (matF 8 p t Lk.none).wt ≠ [] := by
    unfold sayT Lk.says at h
    split at h
    · cases h
    · split at h
      · cases h
      · assumption
  obtain ⟨x, hx⟩ := List.exists_mem_of_ne_nil _ hw
  have h1 := (mat_in (S := fun x => x ∈ namesF 8 [] t) 8 p t Lk.none ht (by omega) (fun v hv => (toU_has 0 8 t ht hv).2 []) (fun q hq => by cases hq) (fun y hy => by cases hy)).1 x hx
  refine List.ne_nil_of_mem (a := x) ?_
  unfold Lk.waits
  rw [List.mem_filter]
  exact ⟨h1, by simpa using hx⟩
def up (c : UInt8) : Bool := decide (65 ≤ c.toNat) && decide (c.toNat ≤ 90)
def ups (s : List UInt8) : List UInt8 := s.filter up
def adL (ns : List UInt8) (c : UInt8) : List UInt8 := if c ∈ ns then ns else ns ++ [c]
def metL (s : List UInt8) : List UInt8 := (ups s).foldl adL []
theorem ups_app (s s' : List UInt8) : ups (s ++ s') = ups s ++ ups s' := List.filter_append ..
theorem adL_ext (ns : List UInt8) (c : UInt8) : ∃ D, adL ns c = ns ++ D := by
  unfold adL
  split
  · exact ⟨[], by simp⟩
  · exact ⟨[c], rfl⟩
theorem fold_adL : ∀ (xs ns : List UInt8), ∃ D, xs.foldl adL ns = ns ++ D
  | [], ns => ⟨[], by simp⟩
  | c :: xs, ns => by
    obtain ⟨D, hD⟩ := adL_ext ns c
    obtain ⟨D', hD'⟩ := fold_adL xs (adL ns c)
    exact ⟨D ++ D', by rw [List.foldl_cons, hD', hD, List.append_assoc]⟩
theorem mem_adL {ns : List UInt8} {c d : UInt8} : d ∈ adL ns c ↔ d ∈ ns ∨ d = c := by
  unfold adL
  split
  · rename_i h
    constructor
    · exact Or.inl
    · rintro (q | rfl)
      · exact q
      · exact h
  · simp
theorem mem_fold_adL {d : UInt8} : ∀ (xs ns : List UInt8), d ∈ xs.foldl adL ns ↔ d ∈ ns ∨ d ∈ xs
  | [], ns => by simp
  | c :: xs, ns => by rw [List.foldl_cons, mem_fold_adL, mem_adL, List.mem_cons, or_assoc]
theorem mem_met {s : List UInt8} {c : UInt8} (h : up c = true) : c ∈ metL s ↔ c ∈ s := by
  unfold metL ups
  rw [mem_fold_adL, List.mem_filter]
  simp [h]
theorem met_snoc (s : List UInt8) (c : UInt8) : metL (s ++ [c]) = if up c = true then adL (metL s) c else metL s := by
  unfold metL
  rw [ups_app, List.foldl_append]
  split
  · rename_i h
    rw [show ups [c] = [c] by simp [ups, h]]
    rfl
  · rename_i h
    rw [show ups [c] = [] by simp [ups, h]]
    rfl
theorem met_pre (s s' : List UInt8) : ∃ D, metL (s ++ s') = metL s ++ D := by
  unfold metL
  rw [ups_app, List.foldl_append]
  exact fold_adL _ _
def sing (c : UInt8) : List UInt8 := [c]
theorem addN_sing (ns : List UInt8) (c : UInt8) : addN (ns.map sing) [c] = (adL ns c).map sing := by
  unfold addN adL
  have : ([c] ∈ ns.map sing) ↔ c ∈ ns := by simp [sing]
  by_cases h : c ∈ ns
  · rw [if_pos (this.2 h), if_pos h]
  · rw [if_neg (fun q => h (this.1 q)), if_neg h]
    simp [sing]
theorem up_no {c : UInt8} (h : c.toNat < 65 ∨ 90 < c.toNat) : ups [c] = [] := by
  have : up c = false := by unfold up; simp; omega
  simp [ups, this]
theorem ups_args : ∀ (l : List (List UInt8)), ups (argS l) = l.flatMap ups
  | [] => rfl
  | x :: xs => by
    have more : ∀ (ys : List (List UInt8)), ups (ys.flatMap fun y => 44 :: y) = ys.flatMap ups := by
      intro ys
      induction ys with
      | nil => rfl
      | cons y ys ih => rw [List.flatMap_cons, ups_app, ih, show (44 :: y) = [44] ++ y from rfl, ups_app, up_no (by decide)]; rfl
    show ups (40 :: x ++ xs.flatMap (fun y => 44 :: y) ++ [41]) = _
    rw [ups_app, ups_app, more, up_no (c := 41) (by decide), show (40 :: x) = [40] ++ x from rfl, ups_app, up_no (by decide), List.flatMap_cons]
    simp
theorem names_met : ∀ (u : U) (f : Nat) (ns : List UInt8), smp u → high u < f → namesF f (ns.map sing) (tmO u) = ((ups (wr u)).foldl adL ns).map sing := by
  refine U.ind (fun x f ns h hf => ?_) (fun k tx num ss ih f ns h hf => ?_)
  · obtain ⟨f, rfl⟩ : ∃ g, f = g + 1 := ⟨f - 1, by omega⟩
    obtain ⟨_, c, hc, c1, c2⟩ := h.2 x rfl
    unfold namesF
    rw [tmO, if_pos rfl]
    show addN (ns.map sing) (⟨x.1.toArray⟩ : ByteArray).toList = _
    rw [ba_list, hc, addN_sing]
    show _ = ((ups x.1).foldl adL ns).map sing
    rw [hc, show ups [c] = [c] by simp [ups, up, c1, c2]]
    rfl
  · obtain ⟨f, rfl⟩ : ∃ g, f = g + 1 := ⟨f - 1, by omega⟩
    unfold namesF
    rw [tmO_n, wr_n]
    rcases h.1 k tx num ss (subs_self _) with ⟨rfl, ⟨c, rfl, c1, c2⟩, _⟩ | ⟨rfl, rfl, rfl, n0, n9⟩
    · rw [if_neg (show ¬ (1 : Nat) = 3 by decide), if_neg (show ¬ (1 : Nat) = 3 by decide)]
      rw [if_neg (show ¬ (2 : Nat) = 3 by decide), if_neg (show ¬ (2 : Nat) = 4 by decide), ups_app, up_no (c := c) (Or.inr (by omega)), List.nil_append, ups_args]
      show (ss.map tmO).foldl (namesF f) (ns.map sing) = _
      have : ∀ (bs : List U) (ns : List UInt8), (∀ a ∈ bs, a ∈ ss) → (bs.map tmO).foldl (namesF f) (ns.map sing) = (((bs.map wr).flatMap ups).foldl adL ns).map sing := by
        intro bs
        induction bs with
        | nil => intro ns _; rfl
        | cons b bs ihb =>
          intro ns hb
          have hbs := hb b (by simp)
          rw [List.map_cons, List.foldl_cons, ih b hbs f ns (h.arg hbs) (by have := high_arg (k := 1) (tx := [c]) (num := num) hbs; omega), ihb _ (fun a ha => hb a (by simp [ha])), List.map_cons, List.flatMap_cons, List.foldl_append]
      exact this ss ns fun a ha => ha
    · rw [if_pos rfl, if_pos rfl]
      rw [if_neg (show ¬ (4 : Nat) = 3 by decide), if_pos rfl, dec_one n0 n9]
      have e : (UInt8.ofNat (48 + num.toNat)).toNat = 48 + num.toNat := by rw [UInt8.toNat_ofNat']; omega
      rw [up_no (Or.inl (by rw [e]; omega))]
      rfl
/-- Who waits, as letters. -/
theorem wts_letters {p t : U} (ht : smp t) (hh : high t ≤ 7) : ∃ P : UInt8 → Bool, wts2 p t = ((metL (wr t)).filter P).map sing := by
  unfold wts2
  split
  · refine ⟨fun c => decide (sing c ∈ (matF 8 (tmO p) (tmO t) Lk.none).wt), ?_⟩
    unfold Lk.waits
    have := names_met t 8 [] ht (by omega)
    rw [List.map_nil] at this
    rw [this]
    unfold metL
    rw [List.filter_map]
    rfl
  · exact ⟨fun _ => false, by simp⟩
theorem wts_wait {p t : U} (ht : Rd t) : (say2 p t = 3 ↔ wts2 p t ≠ []) := by
  unfold wts2
  constructor
  · intro h
    rw [if_pos h]
    exact wts_some (wf_rd ht) h
  · intro h
    by_cases q : say2 p t = 3
    · exact q
    · rw [if_neg q] at h
      exact absurd rfl h
/-- One letter more. -/
theorem met_step {s r : List UInt8} {c : UInt8} {P : UInt8 → Bool} {l : List UInt8} (hl : l = (metL (s ++ c :: r)).filter P) :
    (up c = true → c ∉ s → (P c = true → l[((metL s).filter P).length]? = some c) ∧ (P c = false → l[((metL s).filter P).length]? ≠ some c)) ∧
    ((metL (s ++ [c])).filter P).length = ((metL s).filter P).length + (if up c = true ∧ c ∉ s ∧ P c = true then 1 else 0) := by
  obtain ⟨D, hD⟩ := met_pre (s ++ [c]) r
  rw [show s ++ [c] ++ r = s ++ c :: r by simp] at hD
  rw [met_snoc] at hD ⊢
  refine ⟨fun hu hn => ?_, ?_⟩
  · rw [if_pos hu] at hD
    have hna : adL (metL s) c = metL s ++ [c] := by unfold adL; rw [if_neg (fun q => hn ((mem_met hu).1 q))]
    rw [hna] at hD
    rw [hD, List.append_assoc, List.filter_append] at hl
    refine ⟨fun hp => ?_, fun hp q => ?_⟩
    · rw [hl, List.getElem?_append_right (Nat.le_refl _), Nat.sub_self]
      simp [hp]
    · have hm := List.mem_of_getElem? q
      rw [hl, ← List.filter_append, List.mem_filter] at hm
      rw [hm.2] at hp
      cases hp
  · by_cases hu : up c = true
    · rw [if_pos hu]
      by_cases hn : c ∈ s
      · rw [show adL (metL s) c = metL s by unfold adL; rw [if_pos ((mem_met hu).2 hn)], if_neg (fun q => q.2.1 hn)]
        rfl
      · rw [show adL (metL s) c = metL s ++ [c] by unfold adL; rw [if_neg (fun q => hn ((mem_met hu).1 q))], List.filter_append, List.length_append]
        congr 1
        by_cases hp : P c = true
        · rw [if_pos ⟨hu, hn, hp⟩]; simp [hp]
        · rw [if_neg (fun q => hp q.2.2)]; simp [hp]
    · rw [if_neg hu, if_neg (fun q => hu q.1)]
      rfl
def w6 : List U := [uA, .n 3 [] 1 [], .n 1 [102] 0 [.n 1 [98] 0 []], .v ([88], 0), .v ([89], 0), .n 1 [103] 0 [.v ([90], 0), .v ([87], 0)]]
theorem w6_smp {r : U} (h : r ∈ w6) : smp r ∧ high r ≤ 2 := by
  have ha : smp uA := smp.mk (Or.inl ⟨rfl, ⟨97, rfl, by decide⟩, by simp, rfl⟩) (fun a ha => by simp at ha)
  have hb : smp (.n 1 [98] 0 []) := smp.mk (Or.inl ⟨rfl, ⟨98, rfl, by decide⟩, by simp, rfl⟩) (fun a ha => by simp at ha)
  simp only [w6, List.mem_cons, List.not_mem_nil, or_false] at h
  rcases h with rfl | rfl | rfl | rfl | rfl | rfl
  · exact ⟨ha, by simp [uA, high, highL]⟩
  · exact ⟨smp.mk (Or.inr ⟨rfl, rfl, rfl, by decide, by decide⟩) (fun a ha => by simp at ha), by simp [high, highL]⟩
  · exact ⟨smp.mk (Or.inl ⟨rfl, ⟨102, rfl, by decide⟩, by simp, rfl⟩) (fun a h => by rw [List.mem_singleton.1 h]; exact hb), by simp [high, highL]⟩
  · exact ⟨smp_v (by decide) (by decide), by simp [high]⟩
  · exact ⟨smp_v (by decide) (by decide), by simp [high]⟩
  · exact ⟨smp.mk (Or.inl ⟨rfl, ⟨103, rfl, by decide⟩, by simp, rfl⟩) (fun a h => by
      rcases List.mem_cons.1 h with rfl | h
      · exact smp_v (by decide) (by decide)
      · rw [List.mem_singleton.1 h]; exact smp_v (by decide) (by decide)), by simp [high, highL]⟩
theorem put_smp {t r : U} (ht : smp t) (hr : r ∈ w6) (x : Vr) : smp (put t x r) ∧ high (put t x r) ≤ high t + 2 := by
  unfold put
  have k1 : ∀ y, has y t → smp (one x r y) ∧ high (one x r y) ≤ 2 := fun y hy => by
    unfold one
    split
    · exact w6_smp hr
    · obtain ⟨h0, c, hc, c1, c2⟩ := ht.2 y hy
      obtain ⟨ys, yn⟩ := y
      dsimp only at h0 hc
      subst h0 hc
      exact ⟨smp_v c1 c2, by simp [high]⟩
  exact ⟨smp_sub t ht fun y hy => (k1 y hy).1, high_subs t fun y hy => (k1 y hy).2⟩
/-- Yes stays; No never becomes Yes. -/
theorem firm_put {p t u : U} (hp : Rd p) (ht : Rd t) (hu : Rd u) (h : ∃ θ : Vr → U, sub θ t = u) (hn : say2 p t ≠ 3) : (say2 p t = 1 ↔ say2 p u = 1) := by
  obtain ⟨θ, hθ⟩ := h
  constructor
  · intro h1
    obtain ⟨σ, hσ⟩ := (say2_yes hp ht).1 h1
    exact (say2_yes hp hu).2 ⟨fun v => sub θ (σ v), by rw [← sub_sub, hσ, hθ]⟩
  · intro h1
    obtain ⟨σ, hσ⟩ := (say2_yes hp hu).1 h1
    rcases say2_or p t with q | q | q
    · exact q
    · exact absurd q (say2_no hp ht (hσ.trans hθ.symm))
    · exact absurd q hn
theorem firm_gnd {p t u : U} (hp : Rd p) (ht : Rd t) (hu : Rd u) (h : ∃ θ : Vr → U, sub θ t = u) (hg : ∀ v, ¬ has v u) : say2 p u ≠ 3 ∧ (say2 p t = 3 ∨ say2 p u = say2 p t) := by
  have h3 := say2_gnd (x := p) hu hg
  refine ⟨h3, ?_⟩
  by_cases q : say2 p t = 3
  · exact Or.inl q
  · have := firm_put hp ht hu h q
    rcases say2_or p t with a | a | a
    · exact Or.inr ((this.1 a).trans a.symm)
    · rcases say2_or p u with b | b | b
      · have := this.2 b
        omega
      · exact Or.inr (b.trans a.symm)
      · exact absurd b h3
    · exact absurd a q
end Parl
