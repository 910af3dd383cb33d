import Derived.Test.YthfjnfcekeknlaaGreatDoorU20
import Derived.Test.YthfjnfcekeknlaaGreatDoorU21
namespace Go.Proofs.YthfjnfcekeknlaaGreatDoor
open Go.RowKit

theorem NdOk.mono {l l' : Nat} {d : Ng} (h : NdOk l d) (hl : l ≤ l') : NdOk l' d := ⟨h.ks, h.v, h.m, h.c, fun a ha => Nat.lt_of_lt_of_le (h.inn a ha) hl⟩
theorem gl_app {D : List Ng} {n : Nat} (h : n < D.length) (E : List Ng) : Parl.gl (gOf (D ++ E)) n = Parl.gl (gOf D) n := by
  rw [gl_of (show n < (D ++ E).length by rw [List.length_append]; omega), gl_of h, List.getElem_append_left h]
theorem ga_app {D : List Ng} {n : Nat} (h : n < D.length) (E : List Ng) : Parl.ga (gOf (D ++ E)) n = Parl.ga (gOf D) n := by
  rw [ga_of (show n < (D ++ E).length by rw [List.length_append]; omega), ga_of h, List.getElem_append_left h]
theorem ga_out {D : List Ng} {n : Nat} (h : D.length ≤ n) : Parl.ga (gOf D) n = [] := by
  unfold Parl.ga gOf
  rw [List.getElem?_map, List.getElem?_eq_none h]
  rfl
theorem NewD.at {D E : List Ng} (h : NewD D.length E) {n : Nat} (h1 : D.length ≤ n) (h2 : n < (D ++ E).length) : (D ++ E)[n].nx = n ∧ (D ++ E)[n].mrk = 0 ∧ NdOk n (D ++ E)[n] ∧ (D ++ E)[n].tx.size ≤ 240 ∧ 0 ≤ (D ++ E)[n].val ∧ (D ++ E)[n].val ≤ 1000000000 := by
  rw [List.getElem_append_right h1]
  rw [List.length_append] at h2
  have := h (n - D.length) E[n - D.length] (List.getElem?_eq_getElem (by omega))
  rwa [show D.length + (n - D.length) = n by omega] at this
theorem OkD.more {D E : List Ng} {fr : Nat → Nat} (h : OkD D fr) (hE : NewD D.length E) : OkD (D ++ E) fr := by
  refine ⟨fun n hn => ?_, fun n hn => ?_, fun n hn => h.out n (by rw [List.length_append] at hn; omega)⟩
  · by_cases q : n < D.length
    · rw [List.getElem_append_left q]
      exact (h.nd n q).mono (by rw [List.length_append]; omega)
    · exact (hE.at (by omega) hn).2.2.1.mono (by omega)
  · by_cases q : n < D.length
    · obtain ⟨k, hk⟩ := h.hop n q
      have key : ∀ {n m k}, Hop D n m k → Hop (D ++ E) n m k := by
        intro n m k hk
        induction hk with
        | stop q e => exact .stop (by rw [List.length_append]; omega) (by rw [List.getElem_append_left q]; exact e)
        | go q e _ ih => exact .go (by rw [List.length_append]; omega) (by rw [List.getElem_append_left q]; exact e) (by rw [List.getElem_append_left q]; exact ih)
      exact ⟨k, key hk⟩
    · rw [h.out n (by omega)]
      exact ⟨0, .stop hn (hE.at (by omega) hn).1⟩
theorem Tr_more {D E : List Ng} {fr : Nat → Nat} (h : OkD D fr) {n : Nat} {u : Parl.U} (ht : Parl.Tr (gOf D) fr n u) : n < D.length → Parl.Tr (gOf (D ++ E)) fr n u := by
  induction ht with
  | @var n hg ha => exact fun hn => .var (by rw [gl_app (h.lt hn)]; exact hg) (by rw [ga_app (h.lt hn)]; exact ha)
  | @node n k tx num us hg hl _ ih =>
    intro hn
    refine .node (by rw [gl_app (h.lt hn)]; exact hg) (by rw [ga_app (h.lt hn)]; exact hl) fun i a v ha hv => ?_
    rw [ga_app (h.lt hn)] at ha
    refine ih i a v ha hv ?_
    rw [ga_of (h.lt hn)] at ha
    exact (h.nd _ (h.lt hn)).inn a (List.mem_of_getElem? ha)
/-- The new nodes stand for terms, too. -/
theorem sto_more {D E : List Ng} {fr : Nat → Nat} {T : Nat → Parl.U} (h : OkD D fr) (hS : Parl.Sto (gOf D) fr T) (hE : NewD D.length E) : ∃ T', Parl.Sto (gOf (D ++ E)) fr T' ∧ ∀ n, n < D.length → T' n = T n := by
  have ho := h.more hE
  have hplain : Parl.Plain (gOf (D ++ E)) := fun n hg => by
    by_cases q : n < (D ++ E).length
    · rw [gl_of q] at hg
      rw [ga_of q]
      exact ((ho.nd n q).v ((ho.nd n q).lab.1 hg)).2.2.2
    · exact ga_out (by omega)
  have htr : ∀ n, ∃ u, Parl.Tr (gOf (D ++ E)) fr n u := by
    intro n
    induction n using Nat.strongRecOn with
    | _ n ih =>
      by_cases q : n < D.length
      · exact ⟨_, Tr_more h (hS.tr n) q⟩
      · have hf : fr n = n := h.out n (by omega)
        refine Parl.tr_of_args hplain fun a ha => ih a ?_
        rw [hf] at ha
        by_cases r : n < (D ++ E).length
        · rw [ga_of r] at ha
          exact (hE.at (by omega) r).2.2.1.inn a ha
        · rw [ga_out (by omega)] at ha
          cases ha
  refine ⟨fun n => Classical.choose (htr n), ⟨⟨ho.idem, fun n hn => ?_⟩, ⟨fun n hn => ?_, fun n hn i x y hx hy => ?_⟩, fun n => Classical.choose_spec (htr n), hplain, fun n hg => ?_⟩, fun n hn => ?_⟩
  · by_cases q : n < D.length
    · rw [gl_app q] at hn
      rw [gl_app (h.lt q)]
      exact hS.fronts.lab n hn
    · rw [h.out n (by omega)]; exact hn
  · by_cases q : n < D.length
    · rw [gl_app q] at hn
      have := hS.cong.lab n hn
      unfold Parl.same3 at this ⊢
      rw [gl_app q, gl_app (h.lt q), ga_app q, ga_app (h.lt q)]
      exact this
    · rw [h.out n (by omega)]; exact ⟨rfl, rfl⟩
  · by_cases q : n < D.length
    · rw [gl_app q] at hn
      rw [ga_app q] at hx
      rw [ga_app (h.lt q)] at hy
      exact hS.cong.args n hn i x y hx hy
    · rw [h.out n (by omega), hx] at hy
      obtain rfl := Option.some.inj hy
      exact .fr rfl
  · by_cases q : n < D.length
    · rw [gl_app (h.lt q)] at hg
      exact hS.vmin n hg
    · rw [h.out n (by omega)]; exact Nat.le_refl _
  · exact (Classical.choose_spec (htr n)).one (Tr_more h (hS.tr n) hn)
/-- What a node stands for that a term was laid into. -/
theorem RNg.is {D : List Ng} {fr : Nat → Nat} {T : Nat → Parl.U} (h : OkD D fr) (hS : Parl.Sto (gOf D) fr T) {V : List Nat} {N : List (List UInt8)} : ∀ {f n : Nat} {t : Parl.Tm}, RNg D V N f n t → Parl.wfK f t → T n = Parl.tmU (fun x => T ((V[N.idxOf x]?).getD 0)) f t
  | f + 1, n, t, ⟨h1, h2⟩, ⟨k1, k2, k3, k4⟩ => by
    unfold Parl.tmU
    by_cases k : t.kind = 3
    · rw [if_pos k, h1 k]; rfl
    · rw [if_neg k]
      obtain ⟨d, q1, q2, q3, q4, q5, q6⟩ := h2 k
      have hn := (List.getElem?_eq_some_iff.1 q1).1
      have hdn : D[n] = d := (List.getElem?_eq_some_iff.1 q1).2
      have hf : fr n = n := (h.self hn).2 (by rw [hdn]; exact q2)
      have key : ∀ kk tx num, Parl.gl (gOf D) n = some (kk, tx, num) → T n = .n kk tx num (t.args.map (Parl.tmU (fun x => T ((V[N.idxOf x]?).getD 0)) f)) := fun kk tx num hg => by
        rw [hS.reads.node n kk tx num hg, ga_of hn, hdn]
        congr 1
        have : ∀ (xs : List Nat) (ts : List Parl.Tm), All2 (RNg D V N f) xs ts → (∀ a ∈ ts, Parl.wfK f a) → xs.map T = ts.map (Parl.tmU (fun x => T ((V[N.idxOf x]?).getD 0)) f) := by
          intro xs
          induction xs with
          | nil => intro ts ha _; cases ts with
            | nil => rfl
            | cons t ts => exact ha.elim
          | cons x xs ih => intro ts ha hw; cases ts with
            | nil => exact ha.elim
            | cons t ts => rw [List.map_cons, List.map_cons, RNg.is h hS ha.1 (hw t (by simp)), ih ts ha.2 (fun a ha => hw a (by simp [ha]))]
        exact this d.args t.args q6 k4
      have hlab : Parl.gl (gOf D) n = labN d := by rw [gl_of hn, hdn]
      by_cases kk : t.kind = 4
      · rw [if_pos kk]
        have hk : d.k = 2 := by rw [q3, kk]; rfl
        have := key 3 [] d.val (by rw [hlab]; unfold labN; rw [if_neg (by omega), if_pos hk])
        rw [this, q4 kk, k2 (by omega)]
        rfl
      · rw [if_neg kk]
        have kt : t.kind = 2 := by omega
        have hk : d.k = 3 := by rw [q3, kt]; rfl
        have := key 1 d.tx.toList 0 (by rw [hlab]; unfold labN; rw [if_neg (by omega), if_neg (by omega)])
        rw [this, q5 kt]
end Go.Proofs.YthfjnfcekeknlaaGreatDoor
