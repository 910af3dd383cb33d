import Derived.Test.YthfjnfcekeknlaaDoorF09
import Derived.Test.YthfjnfcekeknlaaDoorF14
import Derived.Test.YthfjnfcekeknlaaDoorF19
import Derived.Test.YthfjnfcekeknlaaDoorF20
namespace Parl
/-- Two rows of variables, two rows of their nodes: the names can be had back. -/
theorem ren_back {N1 N2 : List (List UInt8)} {F1 F2 : List Nat} {b : Nat} (h1 : F1.length = N1.length) (h2 : F2.length = N2.length) (d1 : F1.Pairwise (· < ·)) (d2 : F2.Pairwise (· < ·)) (l1 : ∀ n ∈ F1, n < b) (l2 : ∀ n ∈ F2, b ≤ n) :
    ∃ ρ' : Vr → Vr, ∀ v : Vr, (v.2 = 1 ∧ v.1 ∈ N1) ∨ (v.2 = 2 ∧ v.1 ∈ N2) → ρ' ([], if v.2 = 1 then (F1[N1.idxOf v.1]?).getD 0 else (F2[N2.idxOf v.1]?).getD 0) = v := by
  have nd1 : F1.Nodup := d1.imp (fun h => Nat.ne_of_lt h)
  have nd2 : F2.Nodup := d2.imp (fun h => Nat.ne_of_lt h)
  refine ⟨fun n => if n.2 < b then ((N1[F1.idxOf n.2]?).getD [], 1) else ((N2[F2.idxOf n.2]?).getD [], 2), fun v hv => ?_⟩
  obtain ⟨x, sd⟩ := v
  dsimp only at hv ⊢
  have key : ∀ (N : List (List UInt8)) (F : List Nat), F.length = N.length → F.Nodup → x ∈ N → ∃ m, F[N.idxOf x]? = some m ∧ m ∈ F ∧ N[F.idxOf m]? = some x := fun N F hl hnd hx => by
    have hi := List.idxOf_lt_length_of_mem hx
    have hi' : N.idxOf x < F.length := by omega
    refine ⟨F[N.idxOf x], List.getElem?_eq_getElem hi', List.getElem_mem hi', ?_⟩
    rw [hnd.idxOf_getElem _ hi', List.getElem?_eq_getElem hi, List.getElem_idxOf hi]
  rcases hv with ⟨rfl, hx⟩ | ⟨rfl, hx⟩
  · obtain ⟨m, q1, q2, q3⟩ := key N1 F1 h1 nd1 hx
    rw [if_pos rfl, q1]
    show (if m < b then ((N1[F1.idxOf m]?).getD [], 1) else _) = _
    rw [if_pos (l1 m q2), q3]
    rfl
  · obtain ⟨m, q1, q2, q3⟩ := key N2 F2 h2 nd2 hx
    rw [show (if (2 : Nat) = 1 then (F1[N1.idxOf x]?).getD 0 else (F2[N2.idxOf x]?).getD 0) = (F2[N2.idxOf x]?).getD 0 from rfl, q1]
    show (if m < b then _ else ((N2[F2.idxOf m]?).getD [], 2)) = _
    rw [if_neg (by have := l2 m q2; omega), q3]
    rfl
end Parl
namespace Go.Proofs.YthfjnfcekeknlaaDoor
open Go.RowKit

/-- What Unify is to leave. -/
def PUf (r : List UInt8 × Bool × Nat) (w : World) (e : Ending) (w' : World) : Prop := e = .returned (.tuple #[.string ⟨r.1.toArray⟩, .bool r.2.1, .int .i64 (r.2.2 : Int)]) ∧ Below w.heap.size w w'
theorem okD_nil : OkD [] id := ⟨fun n h => absurd h (by simp), fun n h => absurd h (by simp), fun _ _ => rfl⟩
theorem sto_nil : Parl.Sto (gOf []) id (fun n => .v ([], n)) := by
  have hg : ∀ n, Parl.gl (gOf []) n = none := fun n => gl_out (by simp)
  have ha : ∀ n, Parl.ga (gOf []) n = [] := fun n => ga_out (by simp)
  exact ⟨⟨fun _ => rfl, fun n q => q⟩, ⟨fun n q => absurd (hg n) q, fun n q => absurd (hg n) q⟩, fun n => .var (hg n) (ha n), fun n _ => ha n, fun n _ => Nat.le_refl n⟩
/-- Small labels, small terms. -/
def SmD (D : List Ng) : Prop := ∀ d ∈ D, d.tx.size ≤ 240 ∧ -1000000000 ≤ d.val ∧ d.val ≤ 1000000000
theorem NewD.sm {b : Nat} {E : List Ng} (h : NewD b E) : SmD E := fun d hd => by
  obtain ⟨i, hi, rfl⟩ := List.getElem_of_mem hd
  obtain ⟨_, _, _, h1, h2, h3⟩ := h i _ (List.getElem?_eq_getElem hi)
  exact ⟨h1, by omega, h3⟩
theorem SmD.app {D E : List Ng} (h : SmD D) (k : SmD E) : SmD (D ++ E) := fun d hd => (List.mem_append.1 hd).elim (h d) (k d)
theorem SmD.same {D E : List Ng} (h : SmD D) (hs : SameN D E) : SmD E := fun d hd => by
  obtain ⟨i, hi, rfl⟩ := List.getElem_of_mem hd
  have hl := hs.len
  have e := hs.at (show i < D.length by omega) hi
  have h0 := h D[i] (List.getElem_mem _)
  generalize D[i] = a at *
  generalize E[i] = b at *
  unfold bareN at e
  simp only [Ng.mk.injEq] at e
  rw [← e.2.2.1, ← e.2.1]
  exact h0
theorem tr_sm {D : List Ng} {fr : Nat → Nat} (hok : OkD D fr) (hs : SmD D) {n : Nat} {u : Parl.U} (h : Parl.Tr (gOf D) fr n u) : n < D.length → Parl.smU u := by
  induction h with
  | var _ _ => exact fun _ => Parl.smU_v _
  | @node n k tx num us hg hl ht ih =>
    intro hn
    have ht' : Parl.Tr (gOf D) fr n (.n k tx num us) := .node hg hl ht
    obtain ⟨d, us', hd, od, md, hul, hts, hu⟩ := tr_parts hok hn ht'
    obtain ⟨s1, s2, s3⟩ := hs d md
    have hlt := hok.lt hn
    have hda : D[fr n].args = d.args := by rw [List.getElem?_eq_getElem hlt] at hd; rw [Option.some.inj hd]
    have hargs : ∀ a ∈ us, Parl.smU a := fun a ha => by
      obtain ⟨i, hi, rfl⟩ := List.getElem_of_mem ha
      have hi' : i < (Parl.ga (gOf D) (fr n)).length := by omega
      refine ih i _ _ (List.getElem?_eq_getElem hi') (List.getElem?_eq_getElem hi) ?_
      refine (hok.nd _ hlt).inn _ ?_
      rw [← ga_of hlt]
      exact List.getElem_mem hi'
    rcases hu with ⟨_, e, _⟩ | ⟨_, e, _⟩ | ⟨_, e⟩
    · cases e
    · injection e with e1 e2 e3 e4
      subst e2 e3 e4
      exact Parl.smU.mk ⟨by simp, s2, s3, by simp⟩ hargs
    · injection e with e1 e2 e3 e4
      subst e2 e3 e4
      exact Parl.smU.mk ⟨by rw [Parl.bytes_len]; exact s1, by decide, by decide, by rw [← hul]; exact od.few⟩ hargs
/-- A variable's node in a store without links. -/
theorem new_var {D E : List Ng} {T : Nat → Parl.U} (hS : Parl.Sto (gOf (D ++ E)) id T) {F : List Nat} (hok : OkD (D ++ E) id) (hv : NewV D.length E F) {n : Nat} (hn : n ∈ F) : T n = .v ([], n) := by
  obtain ⟨h1, d, h2, h3⟩ := hv.var n hn
  have hl := (List.getElem?_eq_some_iff.1 h2).1
  have hn' : n < (D ++ E).length := by rw [List.length_append]; omega
  have hd : (D ++ E)[n] = d := by
    rw [List.getElem_append_right h1]
    exact (List.getElem?_eq_some_iff.1 h2).2
  refine hS.var (n := n) ?_
  show Parl.gl (gOf (D ++ E)) n = none
  rw [gl_of hn', hd]
  have := hok.nd n hn'
  rw [hd] at this
  exact this.lab.2 h3

set_option maxHeartbeats 2000000 in
theorem unA_bad (w : World) (a b : ByteArray) (la lb : List Parl.Tok) (hLa : Parl.Chain a la) (hha : Parl.hd la = Parl.next a 0) (hla : a.size ≤ 64 → la.length ≤ 1000) (hLb : Parl.Chain b lb) (hhb : Parl.hd lb = Parl.next b 0) (hlb : b.size ≤ 64 → lb.length ≤ 1000) (hsg : Signs w) (h0 : 0 < w.heap.size) (he : Parl.bothE a b la lb ≠ 0) :
    Calls Tryd.prog 12 #[.string a, .string b] w fun e w' => PUf (Parl.unA a b la lb) w e w' := by
  have IA := hide (rd_any w a la hLa hha hla hsg h0)
  have IB := hide (fun w' (hb : Below w.heap.size w w') => rd_any w' b lb hLb hhb hlb (hsg.below hb h0) (Nat.lt_of_lt_of_le h0 hb.size))
  have HN := hide (Parl.unA_err he)
  have HE := hide he
  clear hLa hha hla hLb hhb hlb hsg he
  go_enter Tryd.func12, Tryd.ntmps12
  go_wp2_with fail
  refine (unhide IA).mono ?_
  rintro e w1 ⟨x, xo, xl, xc, rfl, -, hb1⟩
  have HB1 := hide (hb1.alloc hb1.size (.cells #[.int .i64 x.k, .int .i64 x.val, .string x.tx, .slice x.ao x.n x.cap, .slice xo xl xc, .int .i64 (Parl.erS a la : Int)] 54))
  have hz1 := hb1.size
  clear hb1
  generalize hea : Parl.erS a la = ea at *
  go_wp2_with fail
  refine (unhide IB _ (unhide HB1)).mono ?_
  rintro e w2 ⟨y, yo, yl, yc, rfl, -, hb2⟩
  have f5 := (hb2.cell (p := ⟨w1.heap.size, 5, none⟩) (by simp)).trans (blkA (heap_alloc_new w1 _) 5)
  simp only [List.getElem?_toArray, List.getElem?_cons_zero, List.getElem?_cons_succ] at f5
  have hz2 := hb2.size
  rw [World.size_alloc] at hz2
  have z5 : w1.heap.size < w2.heap.size := by omega
  have HB2 := hide ((unhide HB1).trans (hb2.mono (by rw [World.size_alloc]; omega)))
  clear hb2
  generalize heb : Parl.erS b lb = eb at *
  have HFE := hide (show Parl.fe ea eb = Parl.bothE a b la lb by rw [← hea, ← heb]; exact Parl.fe_both a b la lb)
  clear hea heb
  go_wp2_with fail
  refine (firstError_any _ ea eb).mono ?_
  rintro e w3 ⟨rfl, rfl⟩
  rw [unhide HFE]
  have hne : ((Parl.bothE a b la lb : Int) != 0) = true := by simpa using unhide HE
  generalize hee : Parl.bothE a b la lb = er at *
  go_wp2_with fail
  refine bodyPost_ret (v := .tuple #[.string ⟨#[]⟩, .bool false, .int .i64 er]) (by simp [results, Tryd.results12, go_sem]) rfl ?_
  exact ⟨by rw [unhide HN], (unhide HB2).alloc (by omega) _⟩
end Go.Proofs.YthfjnfcekeknlaaDoor
namespace Go.Proofs.YthfjnfcekeknlaaDoor
open Go.RowKit

/-- The store and a scope, empty. -/
theorem ad_start (w : World) : AdB (fun _ => True) ((w.alloc (.cells #[.slice none 0 0] 59)).alloc (.cells #[.slice none 0 0] 63)) w.heap.size 0 #[.slice none 0 0] 59 (w.heap.size + 1) [] [] none 0 none 0 := by
  refine ⟨⟨blk_alloc (heap_alloc_new w _) _, rfl, World.ownsRow_nil _ _ _ _, by decide⟩, ⟨?_, World.ownsRow_nil _ _ _ _⟩, by decide, by decide, fun d hd => by cases hd⟩
  have := heap_alloc_new (w.alloc (.cells #[.slice none 0 0] 59)) (.cells #[.slice none 0 0] 63)
  rw [World.size_alloc] at this
  exact this
/-- Another scope, empty. -/
theorem ad_again {w : World} {sb so : Nat} {cs : Array Value} {T : TypeId} {cb : Nat} {D : List Ng} {V : List Nat} {no : Option Addr} {nc : Nat} {vo : Option Addr} {vc : Nat} (h : AdB (fun _ => True) w sb so cs T cb D V no nc vo vc) : AdB (fun _ => True) (w.alloc (.cells #[.slice none 0 0] 63)) sb so cs T w.heap.size D [] no nc none 0 := by
  have hb := (Below.refl w.heap.size w).alloc (Nat.le_refl _) (.cells #[.slice none 0 0] 63)
  exact ⟨h.st.below hb, ⟨heap_alloc_new w _, World.ownsRow_nil _ _ _ _⟩, h.t1, h.t2, (h.args.below hb).keep fun g cs hp hg => ⟨hg, trivial, fun ⟨p, q, _⟩ => by cases q⟩⟩
/-- What the two nodes stand for. -/
theorem two_terms {p t : Parl.Tm} {N1 N2 : List (List UInt8)} {E1 E2 : List Ng} {F1 F2 : List Nat} {n1 n2 : Nat} (hp : Parl.wfK 8 p) (ht : Parl.wfK 8 t) (hN1 : N1 = Parl.namesF 8 [] p) (hN2 : N2 = Parl.namesF 8 [] t) (d1 : NewD 0 E1) (d2 : NewD E1.length E2) (v1 : NewV 0 E1 F1) (v2 : NewV E1.length E2 F2) (l1 : F1.length = N1.length) (l2 : F2.length = N2.length) (r1 : RNg E1 F1 N1 8 n1 p) (r2 : RNg (E1 ++ E2) F2 N2 8 n2 t) (hn1 : n1 < E1.length) :
    ∃ T, OkD (E1 ++ E2) id ∧ Parl.Sto (gOf (E1 ++ E2)) id T ∧ ∃ ρ ρ' : Parl.Vr → Parl.Vr, (∀ v, Parl.has v (Parl.toU 8 1 p) ∨ Parl.has v (Parl.toU 8 2 t) → ρ' (ρ v) = v) ∧ T n1 = Parl.sub (Parl.ren ρ) (Parl.toU 8 1 p) ∧ T n2 = Parl.sub (Parl.ren ρ) (Parl.toU 8 2 t) := by
  have o1 : OkD E1 id := by simpa using okD_nil.more (E := E1) (by simpa using d1)
  obtain ⟨T1, s1, -⟩ := sto_more okD_nil sto_nil (E := E1) (by simpa using d1)
  rw [List.nil_append] at s1
  have o2 : OkD (E1 ++ E2) id := o1.more d2
  obtain ⟨T2, s2, e2⟩ := sto_more o1 s1 d2
  obtain ⟨ρ', hρ⟩ := Parl.ren_back (b := E1.length) l1 l2 v1.ord v2.ord (fun n hn => by
    obtain ⟨_, d, q, _⟩ := v1.var n hn
    have := (List.getElem?_eq_some_iff.1 q).1
    simpa using this) (fun n hn => (v2.var n hn).1)
  refine ⟨T2, o2, s2, fun v => ([], if v.2 = 1 then (F1[N1.idxOf v.1]?).getD 0 else (F2[N2.idxOf v.1]?).getD 0), ρ', fun v hv => hρ v ?_, ?_, ?_⟩
  · rcases hv with hv | hv
    · obtain ⟨q1, q2⟩ := Parl.toU_has 1 8 p hp hv
      exact Or.inl ⟨q1, by rw [hN1]; exact q2 _⟩
    · obtain ⟨q1, q2⟩ := Parl.toU_has 2 8 t ht hv
      exact Or.inr ⟨q1, by rw [hN2]; exact q2 _⟩
  · rw [e2 n1 hn1, RNg.is o1 s1 r1 hp, Parl.tmU_sub _ 1 8 p hp]
    refine Parl.sub_congr _ fun v hv => ?_
    obtain ⟨q1, q2⟩ := Parl.toU_has 1 8 p hp hv
    have hm : v.1 ∈ N1 := by rw [hN1]; exact q2 _
    have hi := List.idxOf_lt_length_of_mem hm
    have hi' : N1.idxOf v.1 < F1.length := by omega
    show T1 ((F1[N1.idxOf v.1]?).getD 0) = Parl.U.v ([], if v.2 = 1 then (F1[N1.idxOf v.1]?).getD 0 else _)
    rw [if_pos q1, List.getElem?_eq_getElem hi']
    have s1' : Parl.Sto (gOf ([] ++ E1)) id T1 := s1
    exact new_var (D := []) (E := E1) s1' (by simpa using o1) (by simpa using v1) (List.getElem_mem hi')
  · rw [RNg.is o2 s2 r2 ht, Parl.tmU_sub _ 2 8 t ht]
    refine Parl.sub_congr _ fun v hv => ?_
    obtain ⟨q1, q2⟩ := Parl.toU_has 2 8 t ht hv
    have hm : v.1 ∈ N2 := by rw [hN2]; exact q2 _
    have hi := List.idxOf_lt_length_of_mem hm
    have hi' : N2.idxOf v.1 < F2.length := by omega
    show T2 ((F2[N2.idxOf v.1]?).getD 0) = Parl.U.v ([], if v.2 = 1 then _ else (F2[N2.idxOf v.1]?).getD 0)
    rw [if_neg (by omega), List.getElem?_eq_getElem hi']
    exact new_var s2 o2 v2 (List.getElem_mem hi')

set_option maxHeartbeats 8000000 in
set_option maxRecDepth 100000 in
theorem unA_good (w : World) (a b : ByteArray) (la lb : List Parl.Tok) (hLa : Parl.Chain a la) (hha : Parl.hd la = Parl.next a 0) (hla : a.size ≤ 64 → la.length ≤ 1000) (hLb : Parl.Chain b lb) (hhb : Parl.hd lb = Parl.next b 0) (hlb : b.size ≤ 64 → lb.length ≤ 1000) (hsg : Signs w) (hpw : Pow w) (h0 : 0 < w.heap.size) (hs : ¬ (64 < a.size ∨ 64 < b.size)) (p t : Parl.Tm) (l1 l2 : List Parl.Tok) (hp : Parl.whole la = .inr (p, l1)) (ht : Parl.whole lb = .inr (t, l2)) :
    Calls Tryd.prog 12 #[.string a, .string b] w fun e w' => PUf (Parl.unA a b la lb) w e w' := by
  have IA := hide (rd_any w a la hLa hha hla hsg h0)
  have IB := hide (fun w' (hb : Below w.heap.size w w') => rd_any w' b lb hLb hhb hlb (hsg.below hb h0) (Nat.lt_of_lt_of_le h0 hb.size))
  have hE0 : Parl.bothE a b la lb = 0 := by rw [Parl.bothE_b hs hp, ht]; rfl
  have HM := hide (Parl.unA_is hE0 hp ht)
  have HP := hide hp
  have HT := hide ht
  have HPW := hide hpw
  have HWP := hide (Parl.wfK_term 8 _ _ _ (Parl.whole_is hp).1)
  have HWT := hide (Parl.wfK_term 8 _ _ _ (Parl.whole_is ht).1)
  have hsa : a.size ≤ 64 := by omega
  have hsb : b.size ≤ 64 := by omega
  have hea : Parl.erS a la = 0 := by unfold Parl.erS; rw [if_neg (by omega), hp]; rfl
  have heb : Parl.erS b lb = 0 := by unfold Parl.erS; rw [if_neg (by omega), ht]; rfl
  have HEA := hide hea
  have HEB := hide heb
  clear hLa hha hla hLb hhb hlb hsg hs hp ht hea heb hE0 hpw
  go_enter Tryd.func12, Tryd.ntmps12
  go_wp2_with fail
  refine (unhide IA).mono ?_
  rintro e w1 ⟨x, xo, xl, xc, rfl, hx, hb1⟩
  obtain ⟨nx, hrx, hnx, -⟩ := hx p l1 hsa (unhide HP)
  rw [unhide HEA]
  have HRX := hide hrx
  have HNX := hide hnx
  have HB1 := hide (hb1.alloc hb1.size (.cells #[.int .i64 x.k, .int .i64 x.val, .string x.tx, .slice x.ao x.n x.cap, .slice xo xl xc, .int .i64 ((0 : Nat) : Int)] 54))
  have hz1 := hb1.size
  clear hb1 hx hrx hnx
  go_wp2_with fail
  refine (unhide IB _ (unhide HB1)).mono ?_
  rintro e w2 ⟨y, yo, yl, yc, rfl, hy, hb2⟩
  obtain ⟨ny, hry, hny, -⟩ := hy t l2 hsb (unhide HT)
  rw [unhide HEB]
  have q0 := (hb2.block w1.heap.size (by simp)).trans (heap_alloc_new w1 _)
  have f0 := blkA q0 0
  have f1 := blkA q0 1
  have f2 := blkA q0 2
  have f3 := blkA q0 3
  have f5 := blkA q0 5
  simp only [List.getElem?_toArray, List.getElem?_cons_zero, List.getElem?_cons_succ] at f0 f1 f2 f3 f5
  have hz2 := hb2.size
  rw [World.size_alloc] at hz2
  have z5 : w1.heap.size < w2.heap.size := by omega
  have HRX2 := hide ((unhide HRX).keep (Q := anyA) (w' := w2) fun g cs _ hg _ => ⟨(hb2.block g (by have := blk_lt hg; simp; omega)).trans ((Below.heap_alloc _ _ _ (blk_lt hg)).trans hg), trivial⟩)
  have HB2 := hide ((unhide HB1).trans (hb2.mono (by rw [World.size_alloc]; omega)))
  have HRY := hide hry
  have HNY := hide hny
  clear hb2 hy hry hny q0
  go_wp2_with fail
  refine (firstError_any _ 0 0).mono ?_
  rintro e w3 ⟨rfl, rfl⟩
  rw [show Parl.fe 0 0 = 0 from rfl]
  go_wp2_with fail
  have hB5 : Below w2.heap.size w2 (((w2.alloc (.cells #[.int .i64 y.k, .int .i64 y.val, .string y.tx, .slice y.ao y.n y.cap, .slice yo yl yc, .int .i64 0] 54)).alloc (.cells #[.slice none 0 0] 59)).alloc (.cells #[.slice none 0 0] 63)) := (((Below.refl _ _).alloc (Nat.le_refl _) _).alloc (by simp) _).alloc (by simp; omega) _
  have hR5 := blk_alloc (blk_alloc (heap_alloc_new w2 (.cells #[.int .i64 y.k, .int .i64 y.val, .string y.tx, .slice y.ao y.n y.cap, .slice yo yl yc, .int .i64 0] 54)) (.cells #[.slice none 0 0] 59)) (.cells #[.slice none 0 0] 63)
  have hS5 := ad_start (w2.alloc (.cells #[.int .i64 y.k, .int .i64 y.val, .string y.tx, .slice y.ao y.n y.cap, .slice yo yl yc, .int .i64 0] 54))
  rw [World.size_alloc] at hS5
  generalize hW : ((w2.alloc (.cells #[.int .i64 y.k, .int .i64 y.val, .string y.tx, .slice y.ao y.n y.cap, .slice yo yl yc, .int .i64 0] 54)).alloc (.cells #[.slice none 0 0] 59)).alloc (.cells #[.slice none 0 0] 63) = w5 at *
  have hZ5 : w5.heap.size = w2.heap.size + 3 := by rw [← hW]; simp
  clear hW
  have IADD := hide (ag_all 8 (fun _ => True) w5 (w2.heap.size + 1) 0 #[.slice none 0 0] 59 (w2.heap.size + 1 + 1) [] [] none 0 none 0 (nmsA nx) [] anyA x p hS5 (fun _ _ => trivial) (by decide) (fun n hn => by cases hn) ((unhide HRX2).keep (Q := anyA) (w' := w5) fun g cs _ hg _ => ⟨(hB5.block g (blk_lt hg)).trans hg, trivial⟩) (unhide HWP) rfl ⟨[], by rw [List.append_nil]; exact unhide HNX⟩ (by decide) (by decide))
  have f0 := (hB5.cell (p := ⟨w1.heap.size, 0, none⟩) z5).trans f0
  have f1 := (hB5.cell (p := ⟨w1.heap.size, 1, none⟩) z5).trans f1
  have f2 := (hB5.cell (p := ⟨w1.heap.size, 2, none⟩) z5).trans f2
  have f3 := (hB5.cell (p := ⟨w1.heap.size, 3, none⟩) z5).trans f3
  have HRY5 := hide ((unhide HRY).keep (Q := anyA) (w' := w5) fun g cs _ hg _ => ⟨(hB5.block g (blk_lt hg)).trans hg, trivial⟩)
  have HB5 := hide ((unhide HB2).trans (hB5.mono (by omega)))
  have HS5 := hide hS5
  have HR5 := hide hR5
  clear hS5 hB5 hR5
  go_wp2_with fail
  refine (unhide IADD).mono ?_
  rintro e w6 ⟨n1, E1, F1, no1, nc1, vo1, vc1, rfl, ad6, nd6, nv6, len6, rn6, lt6, el6, fr6⟩
  simp only [List.nil_append, List.length_nil] at ad6 nd6 nv6 len6 rn6 lt6
  have HR6 := hide ((unhide HS5).blk fr6 (unhide HR5) (by decide) (by decide) (by decide) (by decide))
  have HRY6 := hide ((unhide HS5).ra (by decide) fr6 (unhide HRY5))
  have HFR6 := hide fr6
  have HAD6 := hide ad6
  have hz6 := fr6.size
  have IADD2 := hide (ag_all 8 (fun _ => True) (w6.alloc (.cells #[.slice none 0 0] 63)) (w2.heap.size + 1) 0 (#[.slice none 0 0].setIfInBounds 0 (.slice no1 E1.length nc1)) 59 w6.heap.size E1 [] no1 nc1 none 0 (nmsA ny) [] anyA y t (ad_again ad6) (fun _ _ => trivial) (by decide) (fun n hn => by cases hn) ((unhide HRY6).keep (Q := anyA) (w' := w6.alloc (.cells #[.slice none 0 0] 63)) fun g cs _ hg _ => ⟨(Below.heap_alloc _ _ _ (blk_lt hg)).trans hg, trivial⟩) (unhide HWT) rfl ⟨[], by rw [List.append_nil]; exact unhide HNY⟩ (by have q : 3 ^ 8 = 6561 := (by decide); omega) (by decide))
  have HND6 := hide nd6
  have HNV6 := hide nv6
  have HLEN6 := hide len6
  have HRN6 := hide rn6
  have HLT6 := hide lt6
  have HEL6 := hide el6
  have g0 := blkA (unhide HR6) 0
  have g1 := blkA (unhide HR6) 1
  have g2 := blkA (unhide HR6) 2
  have g3 := blkA (unhide HR6) 3
  have gz := blk_lt (unhide HR6)
  simp only [List.getElem?_toArray, List.getElem?_cons_zero, List.getElem?_cons_succ] at g0 g1 g2 g3
  have HAG := hide (ad_again ad6)
  clear ad6 nd6 nv6 len6 rn6 lt6 el6 fr6 f0 f1 f2 f3 f5 IADD
  unfold intV
  go_wp2_with fail
  refine (unhide IADD2).mono ?_
  rintro e w8 ⟨n2, E2, F2, no2, nc2, vo2, vc2, rfl, ad8, nd8, nv8, len8, rn8, lt8, el8, fr8⟩
  simp only [List.nil_append] at len8 rn8 ad8
  rw [set_set] at ad8
  obtain ⟨T, hok, hsto, ρ, ρ', hρ, e1, e2⟩ := two_terms (unhide HWP) (unhide HWT) (unhide HNX) (unhide HNY) (unhide HND6) nd8 (unhide HNV6) nv8 (by rw [unhide HLEN6, unhide HNX]) (by rw [len8, unhide HNY]) (unhide HRN6) rn8 (unhide HLT6)
  have hDl : (E1 ++ E2).length ≤ 1000000000 := by
    have q1 := unhide HEL6
    have q2 : 3 ^ 8 = 6561 := by decide
    rw [List.length_append]
    omega
  have hn1 : n1 < (E1 ++ E2).length := by have := unhide HLT6; rw [List.length_append]; omega
  have HUN := hide (unify_g w8 (w2.heap.size + 1) 0 (#[.slice none 0 0].setIfInBounds 0 (.slice no2 (E1 ++ E2).length nc2)) 59 (E1 ++ E2) no2 nc2 _ id n1 n2 ad8.st hok ad8.args hn1 lt8 hDl)
  have HSM := hide ((unhide HND6).sm.app nd8.sm)
  have HB8 := hide (show Below w.heap.size w w8 from by
    have q6 := (unhide HFR6).down (b := w2.heap.size + 1) (by omega) (by
      rintro k (e | ⟨p, e, _⟩ | e | ⟨p, e, _⟩)
      · omega
      · cases e
      · omega
      · cases e)
    have q8 := fr8.down (b := w2.heap.size + 1) (by simp; omega) (by
      rintro k (e | e | e | ⟨p, e, _⟩)
      · omega
      · rcases (unhide HFR6).row k (Or.inr (Or.inl e)) with (r | ⟨p, r, _⟩ | r | ⟨p, r, _⟩) | r
        · omega
        · cases r
        · omega
        · cases r
        · omega
      · omega
      · cases e)
    have q7 := (Below.refl (w2.heap.size + 1) w6).alloc (by omega) (.cells #[.slice none 0 0] 63)
    exact (unhide HB5).trans (((q6.trans q7).trans q8).mono (by have := (unhide HB2).size; omega)))
  have HSTO := hide hsto
  have HRO := hide hρ
  have HE1 := hide e1
  have HE2 := hide e2
  have HARG := hide ad8.args
  have HST8 := hide ad8.st
  have hz8 := fr8.size
  rw [World.size_alloc] at hz8
  have HROWS := hide (show ∀ k, rowOf no2 k → w2.heap.size + 1 ≤ k from fun k e => by
    rcases fr8.row k (Or.inr (Or.inl e)) with (r | r | r | ⟨p, r, _⟩) | r
    · omega
    · rcases (unhide HFR6).row k (Or.inr (Or.inl r)) with (r | ⟨p, r, _⟩ | r | ⟨p, r, _⟩) | r
      · omega
      · cases r
      · omega
      · cases r
      · omega
    · omega
    · cases r
    · simp at r; omega)
  clear ad8 nd8 nv8 len8 rn8 lt8 el8 fr8 hok hsto hρ e1 e2 g0 g1 g2 g3 IADD2
  unfold intV
  go_wp2_with fail
  refine (unhide HUN).mono ?_
  intro e w9 h9
  obtain ⟨r, D9, rfl, st9, sm9, fr9, yes9, no9⟩ := h9.says (unhide HSTO)
  have HB9 := hide ((unhide HB8).trans ((fr9.down (b := w2.heap.size + 1) (by omega) (unhide HROWS)).mono (by have := (unhide HB2).size; omega)))
  clear h9
  cases r
  · have hno := Parl.unR_no (Parl.no_ren (unhide HRO) (fun θ => by have := no9 rfl θ; rw [unhide HE1, unhide HE2] at this; exact this))
    have HNO := hide hno
    clear st9 sm9 fr9 yes9 no9 hno
    go_wp2_with fail
    refine bodyPost_ret (v := .tuple #[.string ⟨#[]⟩, .bool false, .int .i64 0]) (by simp [results, Tryd.results12, go_sem]) rfl ?_
    exact ⟨by rw [unhide HM, unhide HNO]; rfl, unhide HB9⟩
  · obtain ⟨fr', σ, T', hok9, made⟩ := yes9 rfl
    have hz : Parl.IsM (Parl.toU 8 1 p) (Parl.toU 8 2 t) (T' n1) := by
      have := made.isM
      rw [← made.is n1, unhide HE1, unhide HE2] at this
      exact this.of_ren (unhide HRO)
    have hun := Parl.unR_is hz
    have hg9 : gOf D9 = gOf (E1 ++ E2) := sm9.g
    have htr : Parl.Tr (gOf D9) fr' n1 (T' n1) := by rw [hg9]; exact made.sto.tr n1
    have hn9 : n1 < D9.length := by rw [sm9.len]; exact hn1
    have hsmz := tr_sm hok9 ((unhide HSM).same sm9) htr hn9
    have har9 := ((unhide HARG).frg (unhide HST8) fr9).same sm9
    have ISZ := hide (size_all (Parl.size (T' n1)) w9 (w2.heap.size + 1) 0 (#[.slice none 0 0].setIfInBounds 0 (.slice no2 (E1 ++ E2).length nc2)) 59 D9 no2 nc2 _ fr' n1 (T' n1) 40 st9 hok9 har9 hn9 htr (Nat.le_refl _) (by omega))
    have HUNR := hide hun
    have HST9 := hide st9
    have HAR9 := hide har9
    have HTR := hide htr
    have HOK9 := hide hok9
    have HSMZ := hide hsmz
    have HN9 := hide hn9
    generalize T' n1 = z at *
    clear st9 sm9 fr9 yes9 no9 made hun hg9 htr hn9 hsmz har9 hz hok9
    go_wp2_with fail
    refine (unhide ISZ).mono ?_
    rintro e w10 ⟨rfl, rfl⟩
    by_cases hbig : 40 < Parl.size z
    · have t1 : decide (((min (Parl.size z) (40 + 1) : Nat) : Int) > 40) = true := by simp; omega
      have t2 : decide ((40 : Int) < ((min (Parl.size z) (40 + 1) : Nat) : Int)) = true := by simp; omega
      have HR := hide (show Parl.unA a b la lb = ([], false, 4) by rw [unhide HM, unhide HUNR, if_pos hbig])
      generalize hmm : ((min (Parl.size z) (40 + 1) : Nat) : Int) = mm at *
      clear hmm hbig
      go_wp2_with fail
      refine bodyPost_ret (v := .tuple #[.string ⟨#[]⟩, .bool false, .int .i64 4]) (by simp [results, Tryd.results12, go_sem]) rfl ?_
      exact ⟨by rw [unhide HR]; rfl, unhide HB9⟩
    · have t1 : decide (((min (Parl.size z) (40 + 1) : Nat) : Int) > 40) = false := by simp; omega
      have t2 : decide ((40 : Int) < ((min (Parl.size z) (40 + 1) : Nat) : Int)) = false := by simp; omega
      have HR := hide (show Parl.unA a b la lb = (Parl.strU Lib.itoa (Parl.namesU [] z) z, true, 0) by rw [unhide HM, unhide HUNR, if_neg hbig])
      have HZ := hide (show Parl.size z ≤ 40 by omega)
      have hbN := (Below.refl w10.heap.size w10).alloc (Nat.le_refl _) (.cells #[.slice none 0 0] 69)
      have ITR := hide (tree_all (Parl.size z) (w10.alloc (.cells #[.slice none 0 0] 69)) (w2.heap.size + 1) 0 (#[.slice none 0 0].setIfInBounds 0 (.slice no2 (E1 ++ E2).length nc2)) 59 D9 no2 nc2 fr' n1 z w10.heap.size [] none 0 ((unhide HST9).below hbN) (by decide) (by decide) (unhide HOK9) ⟨heap_alloc_new w10 _, World.ownsRow_nil _ _ _ _⟩ (((unhide HAR9).below hbN).keep fun g cs _ hg => ⟨hg, by
        rintro (e | ⟨p, e, _⟩)
        · have := (Below.heap_alloc w10 (.cells #[.slice none 0 0] 69) g)
          rw [e, heap_alloc_new] at hg
          simp only [Option.some.injEq, Obj.cells.injEq] at hg
          exact absurd hg.2.1 (by decide)
        · cases e⟩) (unhide HN9) (unhide HTR) (Nat.le_refl _) (by simp; omega))
      generalize hmm : ((min (Parl.size z) (40 + 1) : Nat) : Int) = mm at *
      have HBN := hide hbN
      clear hmm hbig hbN
      go_wp2_with fail
      refine (unhide ITR).mono ?_
      rintro e w11 ⟨c, N', mo', mc', rfl, hn11, hv11, hr11, hf11⟩
      have hB11 : Below w10.heap.size w10 w11 := (unhide HBN).trans (hf11.down (b := w10.heap.size) (by simp) (by
        rintro k (e | ⟨p, e, _⟩)
        · omega
        · cases e))
      have hbA := hB11.alloc hB11.size (.cells #[.int .i64 c.k, .int .i64 c.val, .string c.tx, .slice c.ao c.n c.cap] 52)
      have hvN : Parl.vrs N' = Parl.namesU [] z := hv11
      have ISH := hide (stU_all (Parl.size z) (w11.alloc (.cells #[.int .i64 c.k, .int .i64 c.val, .string c.tx, .slice c.ao c.n c.cap] 52)) (Parl.vrs N') _ c z (hr11.keep (Q := fun _ => True) (w' := w11.alloc (.cells #[.int .i64 c.k, .int .i64 c.val, .string c.tx, .slice c.ao c.n c.cap] 52)) fun g cs _ hg => ⟨(Below.heap_alloc _ _ _ (blk_lt hg)).trans hg, trivial⟩) (((unhide HPW).below ((unhide HB9).trans (hbA.mono (unhide HB9).size)))) (by
        rw [hvN]
        have := Parl.namesU_len z []
        simp only [List.length_nil] at this
        have := unhide HZ
        omega) (unhide HSMZ) (by have := unhide HZ; omega))
      rw [hvN] at ISH
      have HB11 := hide ((unhide HB9).trans (hbA.mono (unhide HB9).size))
      have hz11 : w.heap.size ≤ w11.heap.size := by have := (unhide HB9).size; have := hB11.size; omega
      clear hn11 hv11 hr11 hf11 hB11 hbA hvN
      generalize hSS : Parl.strU Lib.itoa (Parl.namesU [] z) z = S at *
      clear hSS
      go_wp2_with fail
      refine (unhide ISH).mono ?_
      rintro e w12 ⟨rfl, hb12⟩
      have HB12 := hide ((unhide HB11).trans (hb12.mono (by simp; omega)))
      clear hb12
      go_wp2_with fail
      refine bodyPost_ret (v := .tuple #[.string ⟨S.toArray⟩, .bool true, .int .i64 0]) (by simp [results, Tryd.results12, go_sem]) rfl ?_
      exact ⟨by rw [unhide HR]; rfl, unhide HB12⟩
theorem unA_any (w : World) (a b : ByteArray) (la lb : List Parl.Tok) (hLa : Parl.Chain a la) (hha : Parl.hd la = Parl.next a 0) (hla : a.size ≤ 64 → la.length ≤ 1000) (hLb : Parl.Chain b lb) (hhb : Parl.hd lb = Parl.next b 0) (hlb : b.size ≤ 64 → lb.length ≤ 1000) (hsg : Signs w) (hpw : Pow w) (h0 : 0 < w.heap.size) :
    Calls Tryd.prog 12 #[.string a, .string b] w fun e w' => PUf (Parl.unA a b la lb) w e w' := by
  by_cases he : Parl.bothE a b la lb = 0
  · have hs : ¬ (64 < a.size ∨ 64 < b.size) := fun q => by unfold Parl.bothE at he; rw [if_pos q] at he; cases he
    rcases hp : Parl.whole la with ⟨er, ps⟩ | ⟨p, l1⟩
    · rw [Parl.bothE_a hs hp] at he
      have := Parl.whole_err2 hp
      omega
    · rcases ht : Parl.whole lb with ⟨er, ps⟩ | ⟨t, l2⟩
      · rw [Parl.bothE_b hs hp, ht] at he
        have := Parl.whole_err2 ht
        have : er = 0 := he
        omega
      · exact unA_good w a b la lb hLa hha hla hLb hhb hlb hsg hpw h0 hs p t l1 l2 hp ht
  · exact unA_bad w a b la lb hLa hha hla hLb hhb hlb hsg h0 he
end Go.Proofs.YthfjnfcekeknlaaDoor
