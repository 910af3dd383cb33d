import Derived.Test.YthfjnfcekeknlaaDoorF03
import Derived.Deep.AppendLies
import Derived.Deep.LoopGhost
import Derived.Deep.RegionHeld3
import Derived.Deep.RegionLaw
namespace Go.Proofs.YthfjnfcekeknlaaDoor
open Go.RowKit

theorem infoNd : (Tryd.prog.info? 95).map (fun i => (i.zero, i.size, i.bytes)) = some (some (.agg #[.int .i64 0, .int .i64 0, .string ⟨#[]⟩, .int .i64 0, .slice none 0 0, .int .i64 0, .int .i64 0]), 7, 80) := by kernel_rfl
theorem infoIn : (Tryd.prog.info? 3).map (fun i => (i.zero, i.size, i.bytes)) = some (some (.int .i64 0), 1, 8) := by kernel_rfl
theorem new1T (W : World) (n : Nat) (a : Value) (T : TypeId) (hn : n = W.heap.size) : ∀ j u, ([a] : List Value)[j]? = some u → (W.alloc (.cells #[a] T)).cell? ((⟨n, 0, none⟩ : Addr).add j) = some u := by
  subst hn
  intro j u hj
  match j, hj with
  | 0, hj => simp at hj; subst hj; simp [Addr.add]
theorem new7T (W : World) (n : Nat) (A : Array Value) (T : TypeId) (xs : List Value) (hn : n = W.heap.size) (hx : A.toList = xs) : ∀ j u, xs[j]? = some u → (W.alloc (.cells A T)).cell? ((⟨n, 0, none⟩ : Addr).add j) = some u := by
  subst hn hx
  intro j u hj
  have := blkA (heap_alloc_new W (.cells A T)) j
  rw [show (⟨W.heap.size, 0, none⟩ : Addr).add j = ⟨W.heap.size, j, none⟩ by cases j <;> simp [Addr.add], this]
  simpa using hj
/-- A label's value. -/
def labV (a : AV) : Int := if a.k = 2 then a.val else 0
set_option maxHeartbeats 1000000 in
theorem lab_any (w : World) (a : AV) :
    Calls Tryd.prog 43 #[.agg #[.int .i64 a.k, .int .i64 a.val, .string a.tx, .slice a.ao a.n a.cap]] w fun e w' => e = .returned (.agg #[.int .i64 a.k, .int .i64 (labV a), .string a.tx, .int .i64 (a.n : Int)]) ∧ Below w.heap.size w w' := by
  cases hk : (a.k == 2)
  · have HV := hide (show labV a = 0 by unfold labV; rw [if_neg (by simpa using hk)])
    go_enter Tryd.func43, Tryd.ntmps43
    go_wp2_with fail
    refine bodyPost_ret (v := .agg #[.int .i64 a.k, .int .i64 0, .string a.tx, .int .i64 (a.n : Int)]) (by simp [results, Tryd.results43, go_sem]) rfl ?_
    exact ⟨by rw [unhide HV], (((Below.refl _ _).alloc (Nat.le_refl _) _).alloc (by simp) _).alloc (by simp; omega) _⟩
  · have hk2 : a.k = 2 := by simpa using hk
    have HV := hide (show labV a = a.val by unfold labV; rw [if_pos hk2])
    obtain ⟨k, val, tx, ao, n, cap⟩ := a
    dsimp only at hk2 HV ⊢
    subst hk2
    clear hk
    go_enter Tryd.func43, Tryd.ntmps43
    go_wp2_with fail
    refine bodyPost_ret (v := .agg #[.int .i64 2, .int .i64 val, .string tx, .int .i64 (n : Int)]) (by simp [results, Tryd.results43, go_sem]) rfl ?_
    exact ⟨by rw [unhide HV], (((Below.refl _ _).alloc (Nat.le_refl _) _).alloc (by simp) _).alloc (by simp; omega) _⟩

set_option maxHeartbeats 1000000 in
theorem var_old (w : World) (sb cb : Nat) (D : List Nd) (V : List Nat) (R : Nat → Prop) (i : Nat) (h : SoA w sb cb D V R) (hi : i < V.length) :
    Calls Tryd.prog 42 #[.pointer (some ⟨sb, 0, none⟩), .int .i64 (i : Int), .pointer (some ⟨cb, 0, none⟩)] w fun e w' => e = .returned (intV V[i]) ∧ w' = w := by
  obtain ⟨no, nc, vo, vc, h, rfl⟩ := h
  have c0 := blkA h.cblk 0
  have cz := blk_lt h.cblk
  simp at c0
  obtain ⟨g, hg⟩ : ∃ g, vo = some ⟨g, 0, none⟩ := by
    rcases h.cown.2 with ⟨q, q2⟩ | ⟨g, cp, cur, q, _⟩
    · omega
    · simp only [Value.slice.injEq] at q
      exact ⟨g, q.1⟩
  subst hg
  have f0 : w.cell? ⟨g, i, none⟩ = some (.int .i64 (V[i] : Int)) := by
    rw [h.cown.cellAt i (by omega), List.getElem?_map, List.getElem?_eq_getElem hi]
    rfl
  have gz := (h.cown.lt g rfl).2
  have i0 : (0 : Int) ≤ (i : Int) := by omega
  have i1 : (i : Int) < (V.length : Int) := by omega
  have t1 : decide ((V.length : Int) ≤ (i : Int)) = false := by simp; omega
  have t2 : decide ((i : Int) < 0) = false := by simp
  clear h
  generalize V[i] = n at *
  go_enter Tryd.func42, Tryd.ntmps42
  go_wp2_with fail
  refine wp_loop_rounds 1 ?_
  rw [rounds_succ]
  go_wp2_with fail
  go_ret
  exact ⟨rfl, rfl⟩
end Go.Proofs.YthfjnfcekeknlaaDoor
namespace Go.Proofs.YthfjnfcekeknlaaDoor
open Go.RowKit

theorem own_someT {w : World} {b : Nat} {e : TypeId} {sz : Nat} {v : Value} {n : Nat} {xs : List Value} (h : w.ownsRow b e sz v (n + 1) xs) : ∃ g cap, v = .slice (some ⟨g, 0, none⟩) (n + 1) cap := by
  rcases h.2 with ⟨_, q⟩ | ⟨g, cap, cur, q, _⟩
  · omega
  · exact ⟨g, cap, q⟩
set_option maxHeartbeats 2000000 in
set_option maxRecDepth 100000 in
theorem var_new (w : World) (sb cb : Nat) (D : List Nd) (V : List Nat) (R : Nat → Prop) (h : SoA w sb cb D V R) (hd : D.length ≤ 1000000) (hv : V.length ≤ 1000000) :
    Calls Tryd.prog 42 #[.pointer (some ⟨sb, 0, none⟩), .int .i64 (V.length : Int), .pointer (some ⟨cb, 0, none⟩)] w fun e w' => e = .returned (intV D.length) ∧ ∃ R', SoA w' sb cb (D ++ [⟨1, 0, ⟨#[]⟩, 0, none, 0, []⟩]) (V ++ [D.length]) R' ∧ FrG R R' w w' := by
  obtain ⟨no, nc, vo, vc, h, rfl⟩ := h
  obtain ⟨ti, hi, hz0, hz1, hz2⟩ := info_parts infoNd
  obtain ⟨tj, hj, hy0, hy1, hy2⟩ := info_parts infoIn
  have s0 := blkA h.sblk 0
  have sz := blk_lt h.sblk
  have c0 := blkA h.cblk 0
  have cz := blk_lt h.cblk
  simp at s0 c0
  have hlt := h.lt
  have H := hide h
  have t1 : decide ((V.length : Int) ≤ (V.length : Int)) = true := by simp
  have t2 : decide ((V.length : Int) < 0) = false := by simp
  have t3 : decide ((V.length : Int) + 1 ≤ (V.length : Int)) = false := by simp; omega
  have i0 : (0 : Int) ≤ (V.length : Int) := by omega
  have i1 : (V.length : Int) < (V.length : Int) + 1 := by omega
  have n1 : sb ≠ cb := by omega
  have n2 : cb ≠ sb := by omega
  have HNS := hide (show some sb ≠ (Value.slice no D.length nc).ownBlock from fun q => by have := (h.sown.lt sb q.symm).1; omega)
  have HNC := hide (show some cb ≠ (Value.slice no D.length nc).ownBlock from fun q => by have := (h.sown.lt cb q.symm).1; omega)
  clear h
  go_enter Tryd.func42, Tryd.ntmps42
  go_wp2_with fail
  refine wp_loop_rounds 2 ?_
  rw [rounds_succ]
  go_wp2_with (first | (at_builtin; go_loud ((refine wpList_append_own_at _ rfl (.tmp 36) (.tmp 38) 22 rfl (cb + 1) 3 tj (.int .i64 0) 1 8 Tryd.underlying22 hj hy0 hy1 hy2 rfl (by decide) _ V.length (V.map intV) rfl ((unhide HN).1.cown.alloc _) ⟨w7.heap.size, 0, none⟩ 1 1 [.int .i64 (D.length : Int)] rfl rfl (new1T _ _ _ _ (by rw [zset])) (by simp [Value.oneCell']) (by unfold maxLen; omega) (by omega) (by simp only [World.size_alloc, zset]; omega) ?_); (intro v2 w9 hown2 hgrow2 _ hat2; obtain ⟨g2, cap2, hv2⟩ := own_someT hown2; subst hv2; have HM := hide ((unhide HN).1.vari ((Below.refl _ _).alloc (Nat.le_refl _) _) (n := D.length) hown2 hgrow2 (by rcases hat2 with q | q; exact Or.inl q.symm; (right; simp only [Value.ownBlock, World.size_alloc, zset, Option.some.injEq] at q ⊢; omega))); have HNC2 := hide (show some cb ≠ (Value.slice vo V.length vc).ownBlock from fun q => by have := ((unhide H).cown.lt cb q.symm).1; omega); have m0 := (hgrow2.cell_far ⟨cb, 0, none⟩ (by simp only [World.size_alloc, zset]; omega) (unhide HNC2)).trans ((World.cell?_alloc_past _ _ _ (by rw [zset]; exact zz7)).trans ((World.cell?_setCell_other _ _ _ _ (by intro e; first | exact n1 (congrArg Addr.block e) | exact n2 (congrArg Addr.block e))).trans k0)); have m1 : w9.frozen? ⟨cb, 0, none⟩ = false := (by have := blkX (unhide HM).1.cblk 0; rwa [World.frozen?_setCell] at this); have m2 : w9.cell? ⟨g2, V.length, none⟩ = some (.int .i64 (D.length : Int)) := (hown2.cellAt V.length (by omega)).trans (by simp); have mz := (hown2.lt g2 rfl); have hcw := blk_lt (unhide HM).1.cblk; clear hown2 hgrow2 hat2))) | (at_builtin; go_must (refine wpList_append_own_at _ rfl (.tmp 24) (.tmp 28) 57 rfl (cb + 1) 95 ti (.agg #[.int .i64 0, .int .i64 0, .string ⟨#[]⟩, .int .i64 0, .slice none 0 0, .int .i64 0, .int .i64 0]) 7 80 Tryd.underlying57 hi hz0 hz1 hz2 rfl (by decide) _ D.length (ndsC D) rfl ((unhide H).sown.alloc _) ⟨w.heap.size, 0, none⟩ 1 1 [.int .i64 1, .int .i64 0, .string ⟨#[]⟩, .int .i64 0, .slice none 0 0, .int .i64 (D.length : Int), .int .i64 0] rfl rfl (new7T _ _ _ _ _ rfl rfl) (by simp [Value.oneCell']) (by unfold maxLen; omega) (by omega) (by simp; omega) ?_); go_must (intro v' w7 hown' hgrow _ hat; obtain ⟨g', cap', hv'⟩ := own_someT hown'; subst hv'; have HN := hide ((unhide H).node ((Below.refl _ _).alloc (Nat.le_refl _) _) (d := ⟨1, 0, ⟨#[]⟩, 0, none, 0, []⟩) hown' hgrow (by rcases hat with q | q; exact Or.inl q.symm; (right; simp [Value.ownBlock] at q; omega)) (fun q => absurd rfl q)); have k0 := (hgrow.cell_far ⟨cb, 0, none⟩ (by simp; omega) (unhide HNC)).trans ((World.cell?_alloc_past _ _ _ cz).trans c0); have k1 := (hgrow.cell_far ⟨sb, 0, none⟩ (by simp; omega) (unhide HNS)).trans ((World.cell?_alloc_past _ _ _ sz).trans s0);  have k3 : w7.frozen? ⟨sb, 0, none⟩ = false := (by have := blkX (unhide HN).1.sblk 0; rwa [World.frozen?_setCell] at this); have zz7 : cb < w7.heap.size := (by have := blk_lt (unhide HN).1.cblk; rwa [zset] at this); clear hown' hgrow hat)))
  rw [rounds_succ]
  go_wp2_with fail
  go_ret
  exact ⟨rfl, _, ⟨_, _, _, _, (unhide HM).1, rfl⟩, (unhide HN).2.trans (unhide HM).2⟩
end Go.Proofs.YthfjnfcekeknlaaDoor
namespace Go.Proofs.YthfjnfcekeknlaaDoor
open Go.RowKit

/-- The node n stands for the term t; N: the term's variables, V: their nodes. -/
def RN (D : List Nd) (V : List Nat) (N : List (List UInt8)) : Nat → Nat → Parl.Tm → Prop
  | 0, _, _ => False
  | f + 1, n, t => ∃ d, D[n]? = some d ∧ d.k = ak t.kind ∧ (t.kind = 3 → V[N.idxOf t.text.toList]? = some n) ∧ (t.kind = 4 → d.val = (Parl.numOf t.text : Int) ∧ d.tx = ⟨#[]⟩) ∧ (t.kind = 2 → d.val = 0 ∧ d.tx = t.text) ∧ (t.kind ≠ 3 → d.cnt = t.args.length) ∧ All2 (RN D V N f) d.args t.args
theorem RN.more {D E : List Nd} {V F : List Nat} {N : List (List UInt8)} : ∀ {f n : Nat} {t : Parl.Tm}, RN D V N f n t → RN (D ++ E) (V ++ F) N f n t
  | f + 1, n, t, ⟨d, h1, h2, h3, h4, h5, h6, h7⟩ => ⟨d, by rw [List.getElem?_append_left (List.getElem?_eq_some_iff.1 h1).1]; exact h1, h2, fun k => by have := h3 k; rw [List.getElem?_append_left (List.getElem?_eq_some_iff.1 this).1]; exact this, h4, h5, h6, h7.imp fun _ _ => RN.more⟩
/-- The variables' nodes are variables, each once. -/
structure VarsN (D : List Nd) (V : List Nat) : Prop where
  var : ∀ n ∈ V, ∃ d, D[n]? = some d ∧ d.k = 1 ∧ d.args = []
  one : V.Nodup
theorem VarsN.more {D : List Nd} {V : List Nat} (h : VarsN D V) (E : List Nd) : VarsN (D ++ E) V :=
  ⟨fun n hn => by
    obtain ⟨d, h1, h2⟩ := h.var n hn
    exact ⟨d, by rw [List.getElem?_append_left (List.getElem?_eq_some_iff.1 h1).1]; exact h1, h2⟩, h.one⟩
theorem VarsN.new {D : List Nd} {V : List Nat} (h : VarsN D V) (d : Nd) (hk : d.k = 1) (ha : d.args = []) : VarsN (D ++ [d]) (V ++ [D.length]) := by
  refine ⟨fun n hn => ?_, ?_⟩
  · rcases List.mem_append.1 hn with q | q
    · exact (h.more [d]).var n q
    · obtain rfl : n = D.length := by simpa using q
      exact ⟨d, by simp, hk, ha⟩
  · rw [List.nodup_append]
    refine ⟨h.one, by simp, fun a ha b hb e => ?_⟩
    obtain rfl : b = D.length := by simpa using hb
    subst e
    obtain ⟨d', h1, _⟩ := h.var _ ha
    have := (List.getElem?_eq_some_iff.1 h1).1
    omega
/-- No node has its arguments there. -/
def NoR (D : List Nd) (g : Nat) : Prop := ∀ d ∈ D, d.args ≠ [] → ∀ p, d.ao = some p → p.block ≠ g
/-- What 'Add' is to leave. -/
def PAd (sb cb : Nat) (D : List Nd) (V : List Nat) (R : Nat → Prop) (N ns : List (List UInt8)) (f : Nat) (t : Parl.Tm) (w : World) (e : Ending) (w' : World) : Prop :=
  ∃ (n : Nat) (E : List Nd) (F : List Nat) (R' : Nat → Prop), e = .returned (intV n) ∧ SoA w' sb cb (D ++ E) (V ++ F) R' ∧ VarsN (D ++ E) (V ++ F) ∧ (V ++ F).length = (Parl.namesF f ns t).length ∧ RN (D ++ E) (V ++ F) N f n t ∧ E.length + 1 ≤ 3 ^ f ∧ (∀ d ∈ E, d.args ≠ [] → ∀ p, d.ao = some p → w.heap.size ≤ p.block) ∧ FrG R R' w w'
def AddSaid (f : Nat) : Prop := ∀ (w : World) (sb cb : Nat) (D : List Nd) (V : List Nat) (R : Nat → Prop) (N ns : List (List UInt8)) (a : AV) (t : Parl.Tm), SoA w sb cb D V R → VarsN D V → RA f N (fun g => ¬ R g) w a t → Parl.wfK f t → V.length = ns.length → (∃ M, N = Parl.namesF f ns t ++ M) → D.length + 3 ^ f ≤ 1000000 →
  Calls Tryd.prog 25 #[.pointer (some ⟨sb, 0, none⟩), .agg #[.int .i64 a.k, .int .i64 a.val, .string a.tx, .slice a.ao a.n a.cap], .pointer (some ⟨cb, 0, none⟩)] w fun e w' => PAd sb cb D V R N ns f t w e w'
theorem VarsN.len {D : List Nd} {V : List Nat} (h : VarsN D V) : V.length ≤ D.length := by
  have h1 : ∀ n ∈ V, n < D.length := fun n hn => by
    obtain ⟨d, h1, _⟩ := h.var n hn
    exact (List.getElem?_eq_some_iff.1 h1).1
  have := h.one.length_le_of_subset (l₂ := List.range D.length) (fun n hn => by simpa using h1 n hn)
  simpa using this

set_option maxHeartbeats 2000000 in
set_option maxRecDepth 100000 in
theorem add_var (f : Nat) (w : World) (sb cb : Nat) (D : List Nd) (V : List Nat) (R : Nat → Prop) (N ns : List (List UInt8)) (a : AV) (t : Parl.Tm) (h : SoA w sb cb D V R) (hvn : VarsN D V) (ha : LeafA N a t) (hw : Parl.wfK (f + 1) t) (ka : t.kind = 3) (hv : V.length = ns.length) (hN : ∃ M, N = Parl.namesF (f + 1) ns t ++ M) (hd : D.length + 3 ^ (f + 1) ≤ 1000000) :
    Calls Tryd.prog 25 #[.pointer (some ⟨sb, 0, none⟩), .agg #[.int .i64 a.k, .int .i64 a.val, .string a.tx, .slice a.ao a.n a.cap], .pointer (some ⟨cb, 0, none⟩)] w fun e w' => PAd sb cb D V R N ns (f + 1) t w e w' := by
  have hp : 3 ≤ 3 ^ (f + 1) := by rw [Nat.pow_succ]; have : 1 ≤ 3 ^ f := Nat.one_le_pow _ _ (by omega); omega
  have hlen := hvn.len
  have hnf : Parl.namesF (f + 1) ns t = Parl.addN ns t.text.toList := by unfold Parl.namesF; rw [if_pos ka]
  rw [hnf] at hN
  obtain ⟨M, hM⟩ := hN
  obtain ⟨h1, h2, h3, h4, h5, h6, h7, h8⟩ := ha
  obtain ⟨h9, h10⟩ := h3 ka
  have hargs : t.args = [] := hw.2.1 (by omega)
  obtain ⟨k, val, tx, ao, n, cp⟩ := a
  dsimp only at h1 h2 h10 ⊢
  have e1 : ak t.kind = 1 := by rw [ka]; rfl
  have HW := hide (h.below ((Below.refl _ _).alloc (Nat.le_refl _) (.cells #[.int .i64 k, .int .i64 val, .string tx, .slice ao n cp] 52)))
  rw [e1] at h1
  subst h1 h10
  by_cases hx : t.text.toList ∈ ns
  · have hidx : N.idxOf t.text.toList = ns.idxOf t.text.toList := by
      rw [hM]
      unfold Parl.addN
      rw [if_pos hx, List.idxOf_append, if_pos hx]
    have hlt : N.idxOf t.text.toList < V.length := by rw [hidx, hv]; exact List.idxOf_lt_length_of_mem hx
    have HI := hide (var_old _ sb cb D V R (N.idxOf t.text.toList) (unhide HW) hlt)
    have HFIN := hide (show RN (D ++ []) (V ++ []) N (f + 1) V[N.idxOf t.text.toList] t from by
      obtain ⟨d, q1, q2, q3⟩ := hvn.var V[N.idxOf t.text.toList] (List.getElem_mem hlt)
      exact ⟨d, by simpa using q1, by rw [q2, e1], fun _ => by simp, fun q => by omega, fun q => by omega, fun q => absurd ka q, by rw [q3, hargs]; trivial⟩)
    have HLN := hide (show (V ++ []).length = (Parl.namesF (f + 1) ns t).length by rw [hnf]; unfold Parl.addN; rw [if_pos hx]; simpa using hv)
    have HVN := hide hvn
    clear h hvn h2 h3 h4 h5 h6 h7 h8 h9
    generalize hix : V[N.idxOf t.text.toList] = m at *
    generalize hjx : N.idxOf t.text.toList = ix at *
    clear hix hjx hidx hv hM
    go_enter Tryd.func25, Tryd.ntmps25
    go_wp2_with fail
    refine (unhide HI).mono ?_
    rintro e w2 ⟨rfl, hw2⟩
    rw [hw2]
    clear hw2 w2
    unfold intV
    go_wp2_with fail
    go_ret
    exact ⟨m, [], [], R, rfl, by simpa using unhide HW, by simpa using unhide HVN, unhide HLN, unhide HFIN, by simp; omega, (fun d hd => by cases hd), FrG.of_below ((Below.refl _ _).alloc (Nat.le_refl _) _)⟩
  · have hidx : N.idxOf t.text.toList = V.length := by
      rw [hM, hv]
      unfold Parl.addN
      rw [if_neg hx, List.append_assoc, List.idxOf_append, if_neg hx]
      simp
    rw [hidx] at HW ⊢
    have HI := hide (var_new _ sb cb D V R (unhide HW) (by omega) (by omega))
    have HVN := hide (hvn.new ⟨1, 0, ⟨#[]⟩, 0, none, 0, []⟩ rfl rfl)
    have HFIN := hide (show RN (D ++ [⟨1, 0, ⟨#[]⟩, 0, none, 0, []⟩]) (V ++ [D.length]) N (f + 1) D.length t from
      ⟨⟨1, 0, ⟨#[]⟩, 0, none, 0, []⟩, by simp, by rw [e1], fun _ => by rw [hidx]; simp, fun q => by omega, fun q => by omega, fun q => absurd ka q, by rw [hargs]; trivial⟩)
    have HLN := hide (show (V ++ [D.length]).length = (Parl.namesF (f + 1) ns t).length by rw [hnf]; unfold Parl.addN; rw [if_neg hx]; simp [hv])
    clear h hvn h2 h3 h4 h5 h6 h7 h8 h9 hidx hv hM
    go_enter Tryd.func25, Tryd.ntmps25
    go_wp2_with fail
    refine (unhide HI).mono ?_
    rintro e w2 ⟨rfl, R2, hs2, hf2⟩
    have HS2 := hide hs2
    have HF2 := hide hf2
    clear hs2 hf2
    unfold intV
    go_wp2_with fail
    go_ret
    exact ⟨D.length, [⟨1, 0, ⟨#[]⟩, 0, none, 0, []⟩], [D.length], R2, rfl, unhide HS2, unhide HVN, unhide HLN, unhide HFIN, by simp; omega, (fun d hd q => absurd (by rw [List.mem_singleton.1 hd]) q), (FrG.of_below ((Below.refl _ _).alloc (Nat.le_refl _) _)).trans (unhide HF2)⟩
end Go.Proofs.YthfjnfcekeknlaaDoor
namespace Go.Proofs.YthfjnfcekeknlaaDoor
open Go.RowKit

theorem All2.at' {α β : Type} {R : α → β → Prop} : ∀ {xs : List α} {ys : List β}, All2 R xs ys → ∀ (i : Nat) (h : i < xs.length) (h' : i < ys.length), R xs[i] ys[i]
  | _ :: _, _ :: _, q, 0, _, _ => q.1
  | _ :: _, _ :: _, q, i + 1, h, h' => All2.at' q.2 i (by simpa using h) (by simpa using h')
theorem avC_at' {us : List AV} {i : Nat} (h : i < us.length) (j : Nat) (hj : j < 4) : (us.flatMap avC)[i * 4 + j]? = (avC us[i])[j]? := flat_at (F := avC) (c := 4) (fun _ => rfl) h j hj
theorem RA.frg {f : Nat} {N : List (List UInt8)} {R R' : Nat → Prop} {w w' : World} {a : AV} {t : Parl.Tm} (h : RA f N (fun g => ¬ R g) w a t) (hf : FrG R R' w w') : RA f N (fun g => ¬ R' g) w' a t :=
  h.keep fun g _ hp hg _ => ⟨(hf.block g (blk_lt hg) hp).trans hg, hf.not (blk_lt hg) hp⟩
theorem SoA.rows {w : World} {sb cb : Nat} {D : List Nd} {V : List Nat} {R : Nat → Prop} (h : SoA w sb cb D V R) : ∀ k, R k → sb ≤ k ∧ k < w.heap.size := by
  obtain ⟨no, nc, vo, vc, h, rfl⟩ := h
  exact h.rows
theorem SoA.noR {w : World} {sb cb : Nat} {D : List Nd} {V : List Nat} {R : Nat → Prop} (h : SoA w sb cb D V R) {g : Nat} (hg : w.heap.size ≤ g) : NoR D g := by
  obtain ⟨no, nc, vo, vc, h, rfl⟩ := h
  intro d hd q p e
  obtain ⟨r, cs, e1, _, e3, _⟩ := h.args d hd q
  have := blk_lt e3
  rw [e1] at e
  cases e
  show r ≠ g
  omega
theorem SoA.grown {w2 w7 : World} {sb cb : Nat} {D : List Nd} {V : List Nat} {R : Nat → Prop} {X : Obj} {v : Value} (h : SoA w2 sb cb D V R) (hg : (w2.alloc X).grownBy w7 v.ownBlock) (hf : ∀ g, v.ownBlock = some g → ¬ R g ∧ NoR D g) : SoA w7 sb cb D V R := by
  have hr := h.rows
  obtain ⟨no, nc, vo, vc, h, rfl⟩ := h
  have keep : ∀ k, k < w2.heap.size → (∀ g, v.ownBlock = some g → k ≠ g) → w7.heap[k]? = w2.heap[k]? := fun k h1 h2 => by
    rw [hg.block k (by simp; omega) (fun e => h2 k e.symm rfl), Below.heap_alloc _ _ _ h1]
  have keepR : ∀ k, rowsA sb cb no vo k → w7.heap[k]? = w2.heap[k]? := fun k q => keep k (hr k q).2 (fun g e r => (hf g e).1 (r ▸ q))
  refine ⟨no, nc, vo, vc, ⟨(keepR sb (Or.inl rfl)).trans h.sblk, (keepR cb (Or.inr (Or.inl rfl))).trans h.cblk, own_keepG h.sown (fun g q => keepR g ?_), own_keepG h.cown (fun g q => keepR g ?_), h.lt, fun d hd q => ?_⟩, rfl⟩
  · cases no with
    | none => simp [Value.ownBlock] at q
    | some s => simp [Value.ownBlock] at q; exact Or.inr (Or.inr (Or.inl ⟨s, rfl, q.symm⟩))
  · cases vo with
    | none => simp [Value.ownBlock] at q
    | some s => simp [Value.ownBlock] at q; exact Or.inr (Or.inr (Or.inr ⟨s, rfl, q.symm⟩))
  · obtain ⟨g, cs, h1, h2, h3, h4⟩ := h.args d hd q
    exact ⟨g, cs, h1, h2, (keep g (blk_lt h3) (fun r e => (hf r e).2 d hd q _ h1)).trans h3, h4⟩
/-- The loop over the arguments. -/
def LAd (w : World) (sb cb : Nat) (D : List Nd) (V : List Nat) (R : Nat → Prop) (N ns : List (List UInt8)) (f : Nat) (t : Parl.Tm) (C : Array Value) (k : Nat) (av iv : Value) (wr : World) : Prop :=
  ∃ (j : Nat) (E : List Nd) (F : List Nat) (R1 : Nat → Prop) (gs : List Nat), k + j = t.args.length ∧ iv = .int .i64 (j : Int) ∧ SoA wr sb cb (D ++ E) (V ++ F) R1 ∧ VarsN (D ++ E) (V ++ F) ∧ (V ++ F).length = ((t.args.take j).foldl (Parl.namesF f) ns).length ∧
    wr.ownsRow (w.heap.size + 1) 3 1 av j (gs.map intV) ∧ (∀ g, av.ownBlock = some g → ¬ R1 g ∧ NoR (D ++ E) g) ∧ gs.length = j ∧ All2 (RN (D ++ E) (V ++ F) N f) gs (t.args.take j) ∧ E.length + j ≤ j * 3 ^ f ∧ (∀ d ∈ E, d.args ≠ [] → ∀ p, d.ao = some p → w.heap.size ≤ p.block) ∧ FrG R R1 w wr ∧
    wr.heap[w.heap.size]? = some (.cells C 52 (0, 0)) ∧ ¬ R1 w.heap.size

set_option maxHeartbeats 4000000 in
set_option maxRecDepth 100000 in
theorem add_node {f : Nat} (IH : AddSaid f) (w : World) (sb cb : Nat) (D : List Nd) (V : List Nat) (R : Nat → Prop) (N ns : List (List UInt8)) (a : AV) (t : Parl.Tm) (h : SoA w sb cb D V R) (hvn : VarsN D V) (hr : RA (f + 1) N (fun g => ¬ R g) w a t) (hw : Parl.wfK (f + 1) t) (ka : t.kind ≠ 3) (hv : V.length = ns.length) (hN : ∃ M, N = Parl.namesF (f + 1) ns t ++ M) (hd : D.length + 3 ^ (f + 1) ≤ 1000000) :
    Calls Tryd.prog 25 #[.pointer (some ⟨sb, 0, none⟩), .agg #[.int .i64 a.k, .int .i64 a.val, .string a.tx, .slice a.ao a.n a.cap], .pointer (some ⟨cb, 0, none⟩)] w fun e w' => PAd sb cb D V R N ns (f + 1) t w e w' := by
  obtain ⟨⟨h1, h2, h3, h4, h5, h6, h7, h8⟩, hrow⟩ := hr
  have hnf : Parl.namesF (f + 1) ns t = t.args.foldl (Parl.namesF f) ns := by
    unfold Parl.namesF
    rw [if_neg ka]
    by_cases k4 : t.kind = 4
    · rw [if_pos k4, hw.2.1 (by omega)]; rfl
    · rw [if_neg k4]
  rw [hnf] at hN
  obtain ⟨no, nc, vo, vc, hso, hR⟩ := h
  have hrows : ∀ k, R k → k < w.heap.size := fun k q => by rw [hR] at q; exact (hso.rows k q).2
  have h : SoA w sb cb D V R := ⟨no, nc, vo, vc, hso, hR⟩
  obtain ⟨ki, val, tx, ao, n, cp⟩ := a
  dsimp only at h1 h2 h4 h5 hrow ⊢
  subst h2
  have hk1 : (ki == 1) = false := by rw [h1]; rcases h6 with e | e | e <;> first | (exact absurd e ka) | (rw [e]; decide)
  have HST := hide (show LAd w sb cb D V R N ns f t #[.int .i64 ki, .int .i64 val, .string tx, .slice ao t.args.length cp] t.args.length (.slice none 0 0) (.int .i64 0) (w.alloc (.cells #[.int .i64 ki, .int .i64 val, .string tx, .slice ao t.args.length cp] 52)) from
    ⟨0, [], [], R, [], by omega, rfl, by simpa using h.below ((Below.refl _ _).alloc (Nat.le_refl _) _), by simpa using hvn, by simpa using hv, World.ownsRow_nil _ _ _ _, (fun g q => by simp [Value.ownBlock] at q), rfl, trivial, by simp, (fun d hd => by cases hd), FrG.of_below ((Below.refl _ _).alloc (Nat.le_refl _) _), heap_alloc_new w _, fun q => by have := hrows _ q; omega⟩)
  have HROW := hide hrow
  have HW := hide hw
  have HNN := hide hN
  have HNF := hide hnf
  have HD := hide hd
  have HRO := hide hrows
  have HNR := hide (show ∀ g, w.heap.size ≤ g → NoR D g from fun g hg d hd q p e => by
    obtain ⟨r, cs, e1, _, e3, _⟩ := hso.args d hd q
    have := blk_lt e3
    rw [e1] at e
    cases e
    show r ≠ g
    omega)
  have H4 := hide h4
  have H5 := hide h5
  have H1 := hide h1
  have HKA := hide ka
  have HPO := hide (show 3 ^ (f + 1) = 3 * 3 ^ f by rw [Nat.pow_succ, Nat.mul_comm])
  have HP1 := hide (show 1 ≤ 3 ^ f from Nat.one_le_pow _ _ (by omega))
  have I := hide IH
  obtain ⟨tj, hj, hy0, hy1, hy2⟩ := info_parts infoIn
  clear h hso hR hvn hrow hw ka hv hN hd hnf hrows h3 h4 h5 h6 h7 h1 IH
  go_enter Tryd.func25, Tryd.ntmps25
  go_wp2_with fail
  go_loopg [7, 23] t.args.length (fun k av iv wr => LAd w sb cb D V R N ns f t #[.int .i64 ki, .int .i64 val, .string tx, .slice ao t.args.length cp] k av iv wr)
  case atStart => exact unhide HST
  case round =>
    clear HST
    obtain ⟨j, E, F, R1, gs, hkj, rfl, hso, hvn, hlen, hown, hfree, hgl, hall, hel, hnew, hfr, hbx, hb4⟩ := hrel
    obtain ⟨oo, cp1, rfl⟩ := own_shapeT hown
    have hz := hfr.size
    have z4 := blk_lt hbx
    by_cases hlt : j < t.args.length
    · obtain ⟨g, vs, ca, hao, hga, hca, hta, haa⟩ := unhide HROW (fun q => by rw [q] at hlt; simp at hlt)
      subst hao
      have hjv : j < vs.length := by have := haa.length; omega
      have hcw : wr.heap[g]? = some (.cells ca 52 (0, 0)) := (hfr.block g (blk_lt hca) hga).trans hca
      have fc : ∀ i, i < 4 → wr.cell? ⟨g, j * 4 + i, none⟩ = (avC vs[j])[i]? := fun i hi => by
        rw [blkA hcw, ← Array.getElem?_toList, ← avC_at' hjv i hi, ← hta, List.getElem?_take_of_lt (by omega)]
      have f0 := fc 0 (by omega)
      have f1 := fc 1 (by omega)
      have f2 := fc 2 (by omega)
      have f3 := fc 3 (by omega)
      simp only [avC, List.getElem?_cons_zero, List.getElem?_cons_succ, Nat.add_zero] at f0 f1 f2 f3
      have hfold : (t.args.take (j + 1)).foldl (Parl.namesF f) ns = Parl.namesF f ((t.args.take j).foldl (Parl.namesF f) ns) t.args[j] := by
        rw [List.take_add_one, List.getElem?_eq_getElem hlt, List.foldl_append]; rfl
      have hpre : ∃ M, N = Parl.namesF f ((t.args.take j).foldl (Parl.namesF f) ns) t.args[j] ++ M := by
        obtain ⟨M, hM⟩ := unhide HNN
        rw [← hfold]
        obtain ⟨K, hK⟩ := Parl.namesW_ext f (t.args.drop (j + 1)) ((t.args.take (j + 1)).foldl (Parl.namesF f) ns)
        refine ⟨K ++ M, ?_⟩
        rw [hM, ← List.append_assoc, ← hK, ← List.foldl_append, List.take_append_drop]
      have hDl : (D ++ E).length + 3 ^ f ≤ 1000000 := by
        have q1 := unhide HD
        have q2 := unhide HPO
        have q3 : j * 3 ^ f ≤ 2 * 3 ^ f := Nat.mul_le_mul_right _ (by omega)
        rw [List.length_append]
        omega
      have hW1 : SoA (wr.alloc (.cells #[.int .i64 vs[j].k, .int .i64 vs[j].val, .string vs[j].tx, .slice vs[j].ao vs[j].n vs[j].cap] 52)) sb cb (D ++ E) (V ++ F) R1 := hso.below ((Below.refl _ _).alloc (Nat.le_refl _) _)
      have IC := hide (unhide I (wr.alloc (.cells #[.int .i64 vs[j].k, .int .i64 vs[j].val, .string vs[j].tx, .slice vs[j].ao vs[j].n vs[j].cap] 52)) sb cb (D ++ E) (V ++ F) R1 N ((t.args.take j).foldl (Parl.namesF f) ns) vs[j] t.args[j] hW1 hvn (((haa.at' j hjv hlt).frg hfr).frg (FrG.of_below ((Below.refl _ _).alloc (Nat.le_refl _) _))) ((unhide HW).2.2.2 _ (List.getElem_mem hlt)) hlen hpre hDl)
      have HOWN := hide (hown.alloc (.cells #[.int .i64 vs[j].k, .int .i64 vs[j].val, .string vs[j].tx, .slice vs[j].ao vs[j].n vs[j].cap] 52))
      have HFREE := hide hfree
      have HGL := hide hgl
      have HALL := hide hall
      have HEL := hide hel
      have HNEW := hide hnew
      have HFR := hide (hfr.trans (FrG.of_below ((Below.refl _ _).alloc (Nat.le_refl _) (.cells #[.int .i64 vs[j].k, .int .i64 vs[j].val, .string vs[j].tx, .slice vs[j].ao vs[j].n vs[j].cap] 52))))
      have HBX := hide (blk_alloc hbx (.cells #[.int .i64 vs[j].k, .int .i64 vs[j].val, .string vs[j].tx, .slice vs[j].ao vs[j].n vs[j].cap] 52))
      have HB4 := hide hb4
      have HFO := hide hfold
      have hgw : g < wr.heap.size := blk_lt hcw
      have i0 : (0 : Int) ≤ (j : Int) := by omega
      have i1 : (j : Int) < (t.args.length : Int) := by omega
      have HLT := hide hlt
      have HKJ := hide hkj
      have hj3 : j ≤ 3 := by omega
      clear hso hvn hlen hown hfree hgl hall hel hnew hfr hbx hb4 hca hta haa hcw fc hfold hpre hDl hW1 hkj
      go_wp2_with fail
      refine (unhide IC).mono ?_
      rintro e w2 ⟨m, E2, F2, R2, rfl, hs2, hv2, hl2, hr2, he2, hn2, hf2⟩
      have HOW2 := hide (own_keepG (unhide HOWN) (fun g q => hf2.block g ((unhide HOWN).lt g q).2 (unhide HFREE g q).1))
      have hzz := hf2.size
      rw [World.size_alloc] at hzz
      have HS2 := hide hs2
      have HV2 := hide hv2
      have HL2 := hide hl2
      have HR2 := hide hr2
      have HE2 := hide he2
      have HN2 := hide hn2
      have HF2 := hide hf2
      clear hs2 hv2 hl2 hr2 he2 hn2 hf2 f0 f1 f2 f3 IC
      unfold intV
      go_wp2_with (first | (at_builtin; go_must (refine wpList_append_own_at _ rfl (.tmp 31) (.tmp 33) 22 rfl (w.heap.size + 1) 3 tj (.int .i64 0) 1 8 Tryd.underlying22 hj hy0 hy1 hy2 rfl (by decide) _ j (gs.map intV) rfl ((unhide HOW2).alloc _) ⟨w2.heap.size, 0, none⟩ 1 1 [.int .i64 (m : Int)] rfl rfl (new1T _ _ _ _ rfl) (by simp [Value.oneCell']) (by unfold maxLen; omega) (by omega) (by simp; omega) ?_); go_must (intro v' w7 hown' hgrow _ hat; have HO7 := hide hown'; have HG := hide hgrow; have HAT := hide hat; clear hown' hgrow hat)))
      go_roundg (gk - 1)
      case measure => have := unhide HKJ; have := unhide HLT; omega
      case rel =>
        have hfree2 : ∀ g, (Value.slice oo j cp1).ownBlock = some g → ¬ R2 g ∧ NoR ((D ++ E) ++ E2) g := fun g q => by
          obtain ⟨q1, q2⟩ := unhide HFREE g q
          have q3 := ((unhide HOWN).lt g q).2
          refine ⟨(unhide HF2).not q3 q1, fun d hd qa p e => ?_⟩
          rcases List.mem_append.1 hd with q4 | q4
          · exact q2 d q4 qa p e
          · have := unhide HN2 d q4 qa p e
            omega
        have hS7 := (unhide HS2).grown (unhide HG) hfree2
        have hgA : ∀ g, (Value.slice oo j cp1).ownBlock = some g → w.heap.size + 1 ≤ g := fun g q => ((unhide HOWN).lt g q).1
        have keep7 : ∀ k, k ≤ w.heap.size → k < w2.heap.size → w7.heap[k]? = w2.heap[k]? := fun k h1 h2 => by
          rw [(unhide HG).block k (by simp; omega) (fun e => by have := hgA k e.symm; omega), Below.heap_alloc _ _ _ h2]
        have hF7 : FrG R R2 w w7 := by
          have q := (unhide HFR).trans (unhide HF2)
          refine ⟨(unhide HG).os.trans q.os, (unhide HG).tape.trans q.tape, (unhide HG).output.trans q.output, by have := (unhide HG).size; simp at this; have := q.size; omega, fun k h1 h2 => ?_, q.row⟩
          rw [keep7 k (by omega) (by have := q.size; omega)]
          exact q.block k h1 h2
        have hb4' : ¬ R2 w.heap.size := (unhide HF2).not (by rw [World.size_alloc]; omega) (unhide HB4)
        refine ⟨j + 1, E ++ E2, F ++ F2, R2, gs ++ [m], by have := unhide HKJ; have := unhide HLT; omega, by go_num, by rw [← List.append_assoc, ← List.append_assoc]; exact hS7, by rw [← List.append_assoc, ← List.append_assoc]; exact unhide HV2, by rw [unhide HFO, ← List.append_assoc]; exact unhide HL2, ?_, fun g q => ?_, by simp [unhide HGL], ?_, ?_, ?_, hF7, ?_, hb4'⟩
        · have := unhide HO7
          simpa [intV] using this
        · rw [← List.append_assoc]
          rcases unhide HAT with e | e
          · exact hfree2 g (e ▸ q)
          · rw [e] at q
            have hq : w2.heap.size + 1 = g := by simpa using q
            exact ⟨fun r => by have := ((unhide HS2).rows g r).2; omega, (unhide HS2).noR (by omega)⟩
        · rw [List.take_add_one, List.getElem?_eq_getElem (unhide HLT), ← List.append_assoc, ← List.append_assoc]
          exact All2.snoc (unhide HR2) ((unhide HALL).imp fun _ _ r => r.more)
        · have q1 := unhide HEL
          have q2 := unhide HE2
          rw [List.length_append, Nat.add_mul]
          omega
        · intro d hd q p e
          rcases List.mem_append.1 hd with q4 | q4
          · exact unhide HNEW d q4 q p e
          · have := unhide HN2 d q4 q p e
            rw [World.size_alloc] at this
            omega
        · rw [keep7 w.heap.size (Nat.le_refl _) (by omega), (unhide HF2).block w.heap.size (by rw [World.size_alloc]; omega) (unhide HB4)]
          exact unhide HBX
    · obtain rfl : j = t.args.length := by omega
      rw [List.take_length] at hlen hall
      have hFE : FrG R R1 w wr := hfr
      have hdl : (D ++ E).length + 1 ≤ 1000000 := by
        have q1 := unhide HD
        have q2 := unhide HPO
        have q4 := unhide HP1
        have q5 : E.length + 2 ≤ 3 * 3 ^ f := by
          obtain q | q | q | q : t.args.length = 0 ∨ t.args.length = 1 ∨ t.args.length = 2 ∨ t.args.length = 3 := by omega
          all_goals rw [q] at hel; omega
        rw [List.length_append]
        omega
      have HE2 := hide (show (E.length + 1) + 1 ≤ 3 ^ (f + 1) by
        have q2 := unhide HPO
        have q4 := unhide HP1
        obtain q | q | q | q : t.args.length = 0 ∨ t.args.length = 1 ∨ t.args.length = 2 ∨ t.args.length = 3 := by omega
        all_goals rw [q] at hel; omega)
      generalize hDE : D ++ E = DE at *
      generalize hVF : V ++ F = VF at *
      obtain ⟨no, nc, vo, vc, hsb, rfl⟩ := hso
      have s0 := blkA hsb.sblk 0
      have b0 := blkA hbx 0
      have b1 := blkA hbx 1
      have b2 := blkA hbx 2
      have b3 := blkA hbx 3
      simp only [List.getElem?_toArray, List.getElem?_cons_zero, List.getElem?_cons_succ] at s0 b0 b1 b2 b3
      have sz := blk_lt hsb.sblk
      have hlab := lab_any (wr.drew) ⟨ki, val, tx, ao, t.args.length, cp⟩
      generalize hlv : labV ⟨ki, val, tx, ao, t.args.length, cp⟩ = lv at *
      dsimp only at hlab
      have LB := hide hlab
      have HLV := hide hlv
      have HDE := hide hDE
      have HVF := hide hVF
      have HSB := hide hsb
      have HNS := hide (show some sb ≠ (Value.slice no DE.length nc).ownBlock from fun q => by have := (hsb.sown.lt sb q.symm).1; have := hsb.lt; omega)
      have HNB := hide (show some w.heap.size ≠ (Value.slice no DE.length nc).ownBlock from fun q => hb4 (by
        cases no with
        | none => simp [Value.ownBlock] at q
        | some p => simp [Value.ownBlock] at q; exact Or.inr (Or.inr (Or.inl ⟨p, rfl, q⟩))))
      have HVN := hide hvn
      have HLEN := hide hlen
      have HOWN := hide hown
      have HFREE := hide hfree
      have HGL := hide hgl
      have HALL := hide hall
      have HEL := hide hel
      have HNEW := hide hnew
      have HFR := hide hfr
      have HBX := hide hbx
      have HB4 := hide hb4
      have HDA := hide (show ∀ w2, Below wr.heap.size wr w2 → gs ≠ [] → ∃ (q : Nat) (cs : Array Value), oo = some ⟨q, 0, none⟩ ∧ ¬ rowsA sb cb no vo q ∧ q < w2.heap.size ∧ w2.heap[q]? = some (.cells cs 3 (0, 0)) ∧ cs.toList.take gs.length = gs.map intV from fun w2 hb2 hne => by
        rcases hown.2 with ⟨q, q0⟩ | ⟨g, cap, cur, q1, q2, q3, q4⟩
        · exact absurd (List.length_eq_zero_iff.1 (hgl.trans q0)) hne
        · simp only [Value.slice.injEq] at q1
          obtain ⟨rfl, _, _⟩ := q1
          have q5 := blk_lt q3
          refine ⟨g, cur, rfl, (hfree g rfl).1, Nat.lt_of_lt_of_le q5 hb2.size, (hb2.block g q5).trans q3, ?_⟩
          have q6 := q4.2.2.2
          rw [hgl]
          simpa using q6)
      have HT := hide (show ∀ (g cap' : Nat) (w2 w8 : World), SoB w8 sb cb (DE ++ [⟨ki, lv, tx, t.args.length, oo, cp1, gs⟩]) VF (some ⟨g, 0, none⟩) cap' vo vc → FrG (rowsA sb cb no vo) (rowsA sb cb (some ⟨g, 0, none⟩) vo) w2 w8 → Below wr.heap.size wr w2 → PAd sb cb D V R N ns (f + 1) t w (.returned (.int .i64 (DE.length : Int))) w8 from fun g cap' w2 w8 k1 k2 k3 => by
        refine ⟨DE.length, E ++ [⟨ki, lv, tx, t.args.length, oo, cp1, gs⟩], F, rowsA sb cb (some ⟨g, 0, none⟩) vo, rfl, ?_, ?_, ?_, ?_, ?_, ?_, (hfr.trans (FrG.of_below k3)).trans k2⟩
        · rw [← List.append_assoc, hDE, hVF]
          exact ⟨_, _, _, _, k1, rfl⟩
        · rw [← List.append_assoc, hDE, hVF]
          exact hvn.more _
        · rw [hVF, unhide HNF, hlen]
        · rw [← List.append_assoc, hDE, hVF]
          refine ⟨⟨ki, lv, tx, t.args.length, oo, cp1, gs⟩, by simp, unhide H1, fun q => absurd q (unhide HKA), fun q => ?_, fun q => ?_, fun _ => rfl, hall.imp fun _ _ r => ?_⟩
          · obtain ⟨q1, q2, q3⟩ := unhide H4 q
            refine ⟨?_, q3⟩
            rw [← q1, ← hlv]
            unfold labV
            rw [if_pos]
            rw [unhide H1, q]
            rfl
          · refine ⟨?_, unhide H5 q⟩
            show lv = 0
            rw [← hlv]
            unfold labV
            rw [if_neg]
            rw [unhide H1, q]
            show ¬ ak 2 = 2
            decide
          · have := r.more (E := [⟨ki, lv, tx, t.args.length, oo, cp1, gs⟩]) (F := [])
            rwa [List.append_nil] at this
        · rw [List.length_append]
          exact unhide HE2
        · intro d hd q p e
          rcases List.mem_append.1 hd with q4 | q4
          · exact hnew d q4 q p e
          · obtain rfl := List.mem_singleton.1 q4
            dsimp only at e
            have := (hown.lt p.block (by rw [e]; rfl)).1
            omega)
      obtain ⟨ti, hi, hzz0, hzz1, hzz2⟩ := info_parts infoNd
      have cz := blk_lt hsb.cblk
      have hsb' : sb ≠ w.heap.size := fun e => hb4 (Or.inl e.symm)
      clear hsb hvn hlen hown hfree hgl hall hel hnew hfr hbx hb4 hkj hlab hlv hDE hVF hFE
      go_wp2_with fail
      go_region_law (first
        | (go_simp; go_at_call 43; refine (unhide LB).mono ?_; rintro e w2 ⟨rfl, hb⟩; have HB2 := hide (((Below.refl _ wr).drew).trans hb); have k0 := (hb.cell (p := ⟨sb, 0, none⟩) sz).trans s0; have k1 := (hb.cell (p := ⟨w.heap.size, 0, none⟩) z4).trans b0; have k2 := (hb.cell (p := ⟨w.heap.size, 1, none⟩) z4).trans b1; have k3 := (hb.cell (p := ⟨w.heap.size, 2, none⟩) z4).trans b2; have k4 := (hb.cell (p := ⟨w.heap.size, 3, none⟩) z4).trans b3; have hz2 : wr.heap.size ≤ w2.heap.size := hb.size; have k0' : ∀ o, (w2.alloc o).cell? ⟨sb, 0, none⟩ = some (.slice no DE.length nc) := (fun o => (World.cell?_alloc_past _ _ _ (by omega)).trans k0); clear hb)
        | (refine step_append_lies _ (by rfl) _ _ _ (by rfl) (cb + 1) 95 ti _ 7 80 Tryd.underlying57 hi hzz0 hzz1 hzz2 rfl (by omega) (.slice no DE.length nc) DE.length (ndsC DE) (by rfl) (((unhide HSB).below (unhide HB2)).sown.alloc _) ⟨w2.heap.size, 0, none⟩ 1 1 [.int .i64 ki, .int .i64 lv, .string tx, .int .i64 (t.args.length : Int), .slice oo t.args.length cp1, .int .i64 (DE.length : Int), .int .i64 0] (by rfl) (by rfl) (World.news_of_block (cs := #[.int .i64 ki, .int .i64 lv, .string tx, .int .i64 (t.args.length : Int), .slice oo t.args.length cp1, .int .i64 (DE.length : Int), .int .i64 0]) (t := 95) (fr := (0, 0)) (heap_alloc_new w2 _)) (by simp [Value.oneCell']) (by omega) (by unfold maxLen; omega) (by omega) (by simp; omega) (w2.heap.size + 1) (by simp) ?_; intro g cap' w7 hown1 hgrow hat hlg; have m0 := (hgrow.cell_far ⟨sb, 0, none⟩ (by simp; omega) (unhide HNS)).trans ((World.cell?_alloc_past _ _ _ (by omega)).trans k0); have m1 := (hgrow.cell_far ⟨w.heap.size, 0, none⟩ (by simp; omega) (unhide HNB)).trans ((World.cell?_alloc_past _ _ _ (by omega)).trans k1); have m2 := (hgrow.cell_far ⟨w.heap.size, 1, none⟩ (by simp; omega) (unhide HNB)).trans ((World.cell?_alloc_past _ _ _ (by omega)).trans k2); have m3 := (hgrow.cell_far ⟨w.heap.size, 2, none⟩ (by simp; omega) (unhide HNB)).trans ((World.cell?_alloc_past _ _ _ (by omega)).trans k3); have m4 := (hgrow.cell_far ⟨w.heap.size, 3, none⟩ (by simp; omega) (unhide HNB)).trans ((World.cell?_alloc_past _ _ _ (by omega)).trans k4); have HN := hide (((unhide HSB).below (unhide HB2)).node ((Below.refl _ _).alloc (Nat.le_refl _) _) (d := ⟨ki, lv, tx, t.args.length, oo, cp1, gs⟩) (show w7.ownsRow _ _ _ _ _ (_ ++ [_, _, _, _, _, _, _]) from by rw [unhide HGL]; exact hown1) hgrow (by rcases hat with q | q; exact Or.inl q; (right; omega)) (unhide HDA w2 (unhide HB2))); have k9 : w7.frozen? ⟨sb, 0, none⟩ = false := (by have := blkX (unhide HN).1.sblk 0; rwa [World.frozen?_setCell] at this); have zz7 : sb < w7.heap.size := (by have := blk_lt (unhide HN).1.sblk; rwa [zset] at this); clear hown1 hgrow hat hlg))
      all_goals (go_wp2_with fail; go_ret; exact unhide HT _ _ _ _ (unhide HN).1 (unhide HN).2 (unhide HB2))
theorem add_all : ∀ f, AddSaid f
  | 0 => fun _ _ _ _ _ _ _ _ _ _ _ _ h => absurd h (fun q => q)
  | f + 1 => fun w sb cb D V R N ns a t h hvn hr hw hv hN hd => by
    by_cases ka : t.kind = 3
    · exact add_var f w sb cb D V R N ns a t h hvn hr.1 hw ka hv hN hd
    · exact add_node (add_all f) w sb cb D V R N ns a t h hvn hr hw ka hv hN hd
end Go.Proofs.YthfjnfcekeknlaaDoor
namespace Go.Proofs.YthfjnfcekeknlaaDoor
open Go.RowKit

/-- Where a node lies. -/
theorem SoB.at {w : World} {sb cb : Nat} {D : List Nd} {V : List Nat} {no : Option Addr} {nc : Nat} {vo : Option Addr} {vc : Nat} (h : SoB w sb cb D V no nc vo vc) {n : Nat} (hn : n < D.length) : ∃ g, no = some ⟨g, 0, none⟩ ∧ g < w.heap.size ∧ ∀ j, j < 7 → w.cell? ⟨g, n * 7 + j, none⟩ = (ndC (D[n], n))[j]? := by
  rcases h.sown.2 with ⟨_, q⟩ | ⟨g, cap, cur, q1, _, q3, _⟩
  · omega
  · simp only [Value.slice.injEq] at q1
    obtain ⟨rfl, _, _⟩ := q1
    refine ⟨g, rfl, blk_lt q3, fun j hj => ?_⟩
    rw [h.sown.cellAt (n * 7 + j) (by omega)]
    exact ndsC_at hn j hj

set_option maxHeartbeats 1000000 in
theorem has_any (w : World) (sb cb : Nat) (D : List Nd) (V : List Nat) (R : Nat → Prop) (n : Nat) (h : SoA w sb cb D V R) (hn : n < D.length) :
    Calls Tryd.prog 73 #[.pointer (some ⟨sb, 0, none⟩), .int .i64 (n : Int)] w fun e w' => e = .returned (.bool true) ∧ w' = w := by
  obtain ⟨no, nc, vo, vc, h, rfl⟩ := h
  have s0 := blkA h.sblk 0
  have sz := blk_lt h.sblk
  simp at s0
  have t1 : decide ((0 : Int) ≤ (n : Int)) = true := by simp
  have t2 : decide ((n : Int) < (D.length : Int)) = true := by simp; omega
  clear h
  go_enter Tryd.func73, Tryd.ntmps73
  go_wp2_with fail
  go_ret
  exact ⟨rfl, rfl⟩

set_option maxHeartbeats 2000000 in
theorem front_any (w : World) (sb cb : Nat) (D : List Nd) (V : List Nat) (R : Nat → Prop) (n : Nat) (h : SoA w sb cb D V R) (hn : n < D.length) :
    Calls Tryd.prog 48 #[.pointer (some ⟨sb, 0, none⟩), .int .i64 (n : Int)] w fun e w' => e = .returned (intV n) ∧ w' = w := by
  have HH := hide (has_any w sb cb D V R n h hn)
  obtain ⟨no, nc, vo, vc, h, rfl⟩ := h
  obtain ⟨g, rfl, gz, hc⟩ := h.at hn
  have s0 := blkA h.sblk 0
  have sz := blk_lt h.sblk
  simp at s0
  have f5 := hc 5 (by omega)
  simp only [ndC, List.getElem?_cons_zero, List.getElem?_cons_succ] at f5
  have i0 : (0 : Int) ≤ (n : Int) := by omega
  have i1 : (n : Int) < (D.length : Int) := by omega
  clear h hc
  go_enter Tryd.func48, Tryd.ntmps48
  go_wp2_with fail
  refine wp_loop_rounds 1 ?_
  rw [rounds_succ]
  go_wp2_with fail
  refine (unhide HH).mono ?_
  rintro e w2 ⟨rfl, rfl⟩
  go_wp2_with fail
  go_ret
  exact ⟨rfl, rfl⟩

set_option maxHeartbeats 2000000 in
theorem label_any (w : World) (sb cb : Nat) (D : List Nd) (V : List Nat) (R : Nat → Prop) (n : Nat) (h : SoA w sb cb D V R) (hn : n < D.length) :
    Calls Tryd.prog 47 #[.pointer (some ⟨sb, 0, none⟩), .int .i64 (n : Int)] w fun e w' => e = .returned (.agg #[.int .i64 D[n].k, .int .i64 D[n].val, .string D[n].tx, .int .i64 (D[n].cnt : Int)]) ∧ Below w.heap.size w w' := by
  have HH := hide (has_any (w.alloc (.cells #[.int .i64 0, .int .i64 0, .string ⟨#[]⟩, .int .i64 0] 92)) sb cb D V R n (h.below ((Below.refl _ _).alloc (Nat.le_refl _) _)) hn)
  have HF := hide (front_any (w.alloc (.cells #[.int .i64 0, .int .i64 0, .string ⟨#[]⟩, .int .i64 0] 92)) sb cb D V R n (h.below ((Below.refl _ _).alloc (Nat.le_refl _) _)) hn)
  obtain ⟨no, nc, vo, vc, h, rfl⟩ := h
  obtain ⟨g, rfl, gz, hc⟩ := h.at hn
  have s0 := blkA h.sblk 0
  have sz := blk_lt h.sblk
  simp at s0
  have f0 := hc 0 (by omega)
  have f1 := hc 1 (by omega)
  have f2 := hc 2 (by omega)
  have f3 := hc 3 (by omega)
  simp only [ndC, List.getElem?_cons_zero, List.getElem?_cons_succ, Nat.add_zero] at f0 f1 f2 f3
  have i0 : (0 : Int) ≤ (n : Int) := by omega
  have i1 : (n : Int) < (D.length : Int) := by omega
  clear h hc
  generalize D[n] = d at *
  go_enter Tryd.func47, Tryd.ntmps47
  go_wp2_with fail
  refine (unhide HF).mono ?_
  rintro e w2 ⟨rfl, rfl⟩
  unfold intV
  go_wp2_with fail
  refine (unhide HH).mono ?_
  rintro e w2 ⟨rfl, rfl⟩
  go_wp2_with fail
  refine bodyPost_ret (v := .agg #[.int .i64 d.k, .int .i64 d.val, .string d.tx, .int .i64 (d.cnt : Int)]) (by simp [results, Tryd.results47, go_sem]) rfl ?_
  exact ⟨rfl, (Below.refl _ _).alloc (Nat.le_refl _) _⟩

set_option maxHeartbeats 2000000 in
theorem args_any (w : World) (sb cb : Nat) (D : List Nd) (V : List Nat) (R : Nat → Prop) (n : Nat) (h : SoA w sb cb D V R) (hn : n < D.length) :
    Calls Tryd.prog 46 #[.pointer (some ⟨sb, 0, none⟩), .int .i64 (n : Int)] w fun e w' => e = .returned (.slice D[n].ao D[n].args.length D[n].cap) ∧ w' = w := by
  have HH := hide (has_any w sb cb D V R n h hn)
  have HF := hide (front_any w sb cb D V R n h hn)
  obtain ⟨no, nc, vo, vc, h, rfl⟩ := h
  obtain ⟨g, rfl, gz, hc⟩ := h.at hn
  have s0 := blkA h.sblk 0
  have sz := blk_lt h.sblk
  simp at s0
  have f4 := hc 4 (by omega)
  simp only [ndC, List.getElem?_cons_zero, List.getElem?_cons_succ] at f4
  have i0 : (0 : Int) ≤ (n : Int) := by omega
  have i1 : (n : Int) < (D.length : Int) := by omega
  clear h hc
  generalize D[n] = d at *
  go_enter Tryd.func46, Tryd.ntmps46
  go_wp2_with fail
  refine (unhide HF).mono ?_
  rintro e w2 ⟨rfl, rfl⟩
  unfold intV
  go_wp2_with fail
  refine (unhide HH).mono ?_
  rintro e w2 ⟨rfl, rfl⟩
  go_wp2_with fail
  go_ret
  exact ⟨rfl, rfl⟩
end Go.Proofs.YthfjnfcekeknlaaDoor
namespace Go.Proofs.YthfjnfcekeknlaaDoor
open Go.RowKit

def numV (n : Int) : Value := .int .i64 n
/-- The rows of a look. -/
def rowsK (lb : Nat) (so wo : Option Addr) (k : Nat) : Prop := k = lb ∨ (∃ p, so = some p ∧ k = p.block) ∨ (∃ p, wo = some p ∧ k = p.block)
structure LoB (w : World) (lb : Nat) (S : List Int) (W : List Nat) (no : Bool) (so : Option Addr) (sc : Nat) (wo : Option Addr) (wc : Nat) : Prop where
  blk : w.heap[lb]? = some (.cells #[.slice so S.length sc, .slice wo W.length wc, .bool no] 72 (0, 0))
  sown : w.ownsRow (lb + 1) 3 1 (.slice so S.length sc) S.length (S.map numV)
  wown : w.ownsRow (lb + 1) 3 1 (.slice wo W.length wc) W.length (W.map intV)
  apart : ∀ p q, so = some p → wo = some q → p.block ≠ q.block
def LoA (w : World) (lb : Nat) (S : List Int) (W : List Nat) (no : Bool) (R : Nat → Prop) : Prop := ∃ so sc wo wc, LoB w lb S W no so sc wo wc ∧ R = rowsK lb so wo
theorem LoB.rows {w : World} {lb : Nat} {S : List Int} {W : List Nat} {no : Bool} {so : Option Addr} {sc : Nat} {wo : Option Addr} {wc : Nat} (h : LoB w lb S W no so sc wo wc) : ∀ k, rowsK lb so wo k → lb ≤ k ∧ k < w.heap.size := by
  have h1 := blk_lt h.blk
  rintro k (rfl | ⟨p, rfl, rfl⟩ | ⟨p, rfl, rfl⟩)
  · omega
  · have := h.sown.lt p.block rfl; omega
  · have := h.wown.lt p.block rfl; omega
theorem LoB.keep {w w' : World} {lb : Nat} {S : List Int} {W : List Nat} {no : Bool} {so : Option Addr} {sc : Nat} {wo : Option Addr} {wc : Nat} (h : LoB w lb S W no so sc wo wc) (hk : ∀ k, rowsK lb so wo k → w'.heap[k]? = w.heap[k]?) : LoB w' lb S W no so sc wo wc := by
  refine ⟨(hk lb (Or.inl rfl)).trans h.blk, own_keepG h.sown (fun g q => hk g ?_), own_keepG h.wown (fun g q => hk g ?_), h.apart⟩
  · cases so with
    | none => simp [Value.ownBlock] at q
    | some s => simp [Value.ownBlock] at q; exact Or.inr (Or.inl ⟨s, rfl, q.symm⟩)
  · cases wo with
    | none => simp [Value.ownBlock] at q
    | some s => simp [Value.ownBlock] at q; exact Or.inr (Or.inr ⟨s, rfl, q.symm⟩)
theorem LoA.below {w w' : World} {lb : Nat} {S : List Int} {W : List Nat} {no : Bool} {R : Nat → Prop} (h : LoA w lb S W no R) (hb : Below w.heap.size w w') : LoA w' lb S W no R := by
  obtain ⟨so, sc, wo, wc, h, rfl⟩ := h
  exact ⟨so, sc, wo, wc, h.keep fun k q => hb.block k (h.rows k q).2, rfl⟩

set_option maxHeartbeats 1000000 in
theorem saysA_any (w : World) (lb : Nat) (S : List Int) (W : List Nat) (no : Bool) (R : Nat → Prop) (h : LoA w lb S W no R) :
    Calls Tryd.prog 31 #[.pointer (some ⟨lb, 0, none⟩)] w fun e w' => e = .returned (.int .i64 (if no = true then 2 else if W = [] then 1 else 3)) ∧ w' = w := by
  obtain ⟨so, sc, wo, wc, h, rfl⟩ := h
  have s1 := blkA h.blk 1
  have s2 := blkA h.blk 2
  have sz := blk_lt h.blk
  simp only [List.getElem?_toArray, List.getElem?_cons_zero, List.getElem?_cons_succ] at s1 s2
  clear h
  cases no with
  | true =>
    go_enter Tryd.func31, Tryd.ntmps31
    go_wp2_with fail
    go_ret
    exact ⟨rfl, rfl⟩
  | false =>
    cases W with
    | nil =>
      go_enter Tryd.func31, Tryd.ntmps31
      go_wp2_with fail
      go_ret
      exact ⟨rfl, rfl⟩
    | cons x W =>
      have t1 : decide (0 < W.length + 1) = true := by simp
      have t2 : decide ((0 : Int) < (W.length : Int) + 1) = true := by simp
      go_enter Tryd.func31, Tryd.ntmps31
      go_wp2_with fail
      go_ret
      exact ⟨by simp, rfl⟩

set_option maxHeartbeats 1000000 in
theorem waitsFor_any (w : World) (lb : Nat) (S : List Int) (W : List Nat) (no : Bool) (R : Nat → Prop) (n : Nat) (h : LoA w lb S W no R) (hl : W.length ≤ 100000000) :
    Calls Tryd.prog 53 #[.pointer (some ⟨lb, 0, none⟩), .int .i64 (n : Int)] w fun e w' => e = .returned (.bool (decide (n ∈ W))) ∧ w' = w := by
  obtain ⟨so, sc, wo, wc, h, rfl⟩ := h
  have s1 := blkA h.blk 1
  have sz := blk_lt h.blk
  simp only [List.getElem?_toArray, List.getElem?_cons_zero, List.getElem?_cons_succ] at s1
  have H := hide h
  clear h
  go_enter Tryd.func53, Tryd.ntmps53
  go_wp2_with fail
  go_loopg [12] W.length (fun k iv wr => ∃ j : Nat, k + j = W.length ∧ iv = .int .i64 (j : Int) ∧ wr = w ∧ n ∉ W.take j)
  case atStart => exact ⟨0, by omega, rfl, rfl, by simp⟩
  case round =>
    obtain ⟨j, hkj, rfl, rfl, hno⟩ := hrel
    by_cases hlt : j < W.length
    · obtain ⟨g, hg⟩ : ∃ g, wo = some ⟨g, 0, none⟩ := by
        rcases (unhide H).wown.2 with ⟨q, q2⟩ | ⟨g, cp, cur, q, _⟩
        · omega
        · simp only [Value.slice.injEq] at q
          exact ⟨g, q.1⟩
      subst hg
      have f0 : wr.cell? ⟨g, j, none⟩ = some (.int .i64 (W[j] : Int)) := by
        rw [(unhide H).wown.cellAt j (by omega), List.getElem?_map, List.getElem?_eq_getElem hlt]
        rfl
      have gz := ((unhide H).wown.lt g rfl).2
      have i0 : (0 : Int) ≤ (j : Int) := by omega
      have i1 : (j : Int) < (W.length : Int) := by omega
      by_cases he : W[j] = n
      · have HIN := hide (show n ∈ W from he ▸ List.getElem_mem hlt)
        rw [he] at f0
        clear he hno hkj
        go_wp2_with fail
        go_ret
        exact ⟨by rw [decide_eq_true (unhide HIN)]; rfl, rfl⟩
      · have HNO := hide hno
        have HE := hide he
        have HLT := hide hlt
        have HKJ := hide hkj
        have t1 : (((W[j] : Nat) : Int) == ((n : Nat) : Int)) = false := by simp; omega
        have HM := hide (show W.take (j + 1) = W.take j ++ [W[j]] by rw [List.take_add_one, List.getElem?_eq_getElem hlt]; rfl)
        generalize hm : W[j] = m at *
        clear he hno hkj hm
        go_wp2_with fail
        go_roundg (gk - 1)
        case measure => have := unhide HKJ; have := unhide HLT; omega
        case rel =>
          refine ⟨j + 1, by have := unhide HKJ; have := unhide HLT; omega, by go_num, rfl, ?_⟩
          rw [unhide HM]
          simp only [List.mem_append, List.mem_singleton, not_or]
          exact ⟨unhide HNO, fun q => unhide HE q.symm⟩
    · have hno' : n ∉ W := by rwa [List.take_of_length_le (by omega)] at hno
      have HNO := hide hno'
      clear hno hno'
      obtain rfl : j = W.length := by omega
      go_wp2_with fail
      go_ret
      exact ⟨by rw [decide_eq_false (unhide HNO)]; rfl, rfl⟩
end Go.Proofs.YthfjnfcekeknlaaDoor
namespace Go.Proofs.YthfjnfcekeknlaaDoor
open Go.RowKit

/-- One more that is waited for. -/
theorem LoB.wait1 {w W w1 : World} {lb : Nat} {S : List Int} {T : List Nat} {no : Bool} {so : Option Addr} {sc : Nat} {wo : Option Addr} {wc : Nat} (h : LoB w lb S T no so sc wo wc) (hW : Below w.heap.size w W) {g cap' n : Nat}
    (hown : w1.ownsRow (lb + 1) 3 1 (.slice (some ⟨g, 0, none⟩) (T.length + 1) cap') (T.length + 1) (T.map intV ++ [intV n])) (hg : W.grownBy w1 (Value.slice wo T.length wc).ownBlock) (hat : (Value.slice wo T.length wc).ownBlock = some g ∨ w.heap.size ≤ g) :
    LoB (w1.setCell ⟨lb, 1, none⟩ (.slice (some ⟨g, 0, none⟩) (T.length + 1) cap')) lb S (T ++ [n]) no so sc (some ⟨g, 0, none⟩) cap' ∧ FrG (rowsK lb so wo) (rowsK lb so (some ⟨g, 0, none⟩)) w (w1.setCell ⟨lb, 1, none⟩ (.slice (some ⟨g, 0, none⟩) (T.length + 1) cap')) := by
  have hz := hW.size
  have s0 := blk_lt h.blk
  have keep : ∀ k, k < w.heap.size → k ≠ lb → (∀ p, wo = some p → k ≠ p.block) → (w1.setCell ⟨lb, 1, none⟩ (.slice (some ⟨g, 0, none⟩) (T.length + 1) cap')).heap[k]? = w.heap[k]? := fun k h1 h2 h3 => by
    rw [hset _ _ _ _ h2, hg.block k (by omega) (own_free h3), hW.block k h1]
  have row : ∀ k, rowsK lb so (some ⟨g, 0, none⟩) k → rowsK lb so wo k ∨ w.heap.size ≤ k := by
    rintro k (e | e | ⟨p, q, e⟩)
    · exact Or.inl (Or.inl e)
    · exact Or.inl (Or.inr (Or.inl e))
    · cases q
      dsimp only at e
      rcases hat with a | a
      · left
        right
        right
        cases wo with
        | none => simp [Value.ownBlock] at a
        | some s => simp [Value.ownBlock] at a; exact ⟨s, rfl, by omega⟩
      · right; omega
  have keepR : ∀ k, k < w.heap.size → ¬ rowsK lb so wo k → (w1.setCell ⟨lb, 1, none⟩ (.slice (some ⟨g, 0, none⟩) (T.length + 1) cap')).heap[k]? = w.heap[k]? := fun k hk hr => keep k hk (fun e => hr (Or.inl e)) (fun p q e => hr (Or.inr (Or.inr ⟨p, q, e⟩)))
  refine ⟨⟨?_, ?_, ?_, ?_⟩, ⟨hg.os.trans hW.os, hg.tape.trans hW.tape, hg.output.trans hW.output, by rw [zset]; have := hg.size; omega, keepR, row⟩⟩
  · have q0 : w1.heap[lb]? = some (.cells #[.slice so S.length sc, .slice wo T.length wc, .bool no] 72 (0, 0)) := by
      rw [hg.block lb (by omega) (own_free (fun p q e => by have := h.wown.lt p.block (by rw [q]; rfl); omega)), hW.block lb s0]
      exact h.blk
    have := blk_set q0 1 (.slice (some ⟨g, 0, none⟩) (T.length + 1) cap')
    simpa using this
  · refine own_keepG h.sown (fun k q => keep k (h.sown.lt k q).2 (by have := (h.sown.lt k q).1; omega) (fun p e r => ?_))
    cases so with
    | none => simp [Value.ownBlock] at q
    | some s => simp [Value.ownBlock] at q; exact h.apart s p rfl e (by omega)
  · have := own_keepG hown (w' := w1.setCell ⟨lb, 1, none⟩ (.slice (some ⟨g, 0, none⟩) (T.length + 1) cap')) (fun k q => hset _ _ _ _ (by have := (hown.lt k q).1; omega))
    simpa using this
  · intro p q hp hq
    cases hq
    have hsp := (h.sown.lt p.block (by rw [hp]; rfl)).2
    rcases hat with a | a
    · cases wo with
      | none => simp [Value.ownBlock] at a
      | some s => simp [Value.ownBlock] at a; have := h.apart p s hp rfl; dsimp only; omega
    · dsimp only; omega

/-- What is waited for, and it once. -/
def addW (T : List Nat) (n : Nat) : List Nat := if n ∈ T then T else T ++ [n]

set_option maxHeartbeats 1000000 in
theorem waitA_any (w : World) (lb : Nat) (S : List Int) (T : List Nat) (no : Bool) (R : Nat → Prop) (n : Nat) (h : LoA w lb S T no R) (hl : T.length ≤ 100000000) :
    Calls Tryd.prog 76 #[.pointer (some ⟨lb, 0, none⟩), .int .i64 (n : Int)] w fun e w' => e = .returned (.tuple #[]) ∧ ∃ R', LoA w' lb S (addW T n) no R' ∧ FrG R R' w w' := by
  have HF := hide (waitsFor_any w lb S T no R n h hl)
  have HA := hide h
  obtain ⟨so, sc, wo, wc, h, rfl⟩ := h
  have s1 := blkA h.blk 1
  have sf := blkX h.blk 1
  have sz := blk_lt h.blk
  simp only [List.getElem?_toArray, List.getElem?_cons_zero, List.getElem?_cons_succ] at s1
  have H := hide h
  have HNS := hide (show some lb ≠ (Value.slice wo T.length wc).ownBlock from fun q => by have := (h.wown.lt lb q.symm).1; omega)
  obtain ⟨tj, hj, hy0, hy1, hy2⟩ := info_parts infoIn
  clear h
  by_cases hm : n ∈ T
  · have HM := hide hm
    rw [decide_eq_true hm] at HF
    clear hm
    go_enter Tryd.func76, Tryd.ntmps76
    go_wp2_with fail
    refine (unhide HF).mono ?_
    rintro e w2 ⟨rfl, rfl⟩
    go_wp2_with fail
    go_end0
    refine ⟨rfl, _, ?_, FrG.of_below (Below.refl _ _)⟩
    unfold addW
    rw [if_pos (unhide HM)]
    exact unhide HA
  · have HM := hide hm
    rw [decide_eq_false hm] at HF
    clear hm
    go_enter Tryd.func76, Tryd.ntmps76
    go_wp2_with fail
    refine (unhide HF).mono ?_
    rintro e w2 ⟨rfl, rfl⟩
    go_wp2_with (at_builtin; go_must (refine wpList_append_own_at _ rfl (.tmp 12) (.tmp 14) 22 rfl (lb + 1) 3 tj (.int .i64 0) 1 8 Tryd.underlying22 hj hy0 hy1 hy2 rfl (by decide) _ T.length (T.map intV) rfl ((unhide H).wown.alloc _) ⟨w2.heap.size, 0, none⟩ 1 1 [.int .i64 (n : Int)] rfl rfl (new1T _ _ _ _ rfl) (by simp [Value.oneCell']) (by unfold maxLen; omega) (by omega) (by simp; omega) ?_); go_must (intro v' w7 hown' hgrow _ hat; obtain ⟨g', cap', hv'⟩ := own_someT hown'; subst hv'; have HN := hide ((unhide H).wait1 ((Below.refl _ _).alloc (Nat.le_refl _) _) (n := n) hown' hgrow (by rcases hat with q | q; exact Or.inl q.symm; (right; simp [Value.ownBlock] at q; omega))); have k1 := (hgrow.cell_far ⟨lb, 1, none⟩ (by simp; omega) (unhide HNS)).trans ((World.cell?_alloc_past _ _ _ sz).trans s1); have k3 : w7.frozen? ⟨lb, 1, none⟩ = false := (by have := blkX (unhide HN).1.blk 1; rwa [World.frozen?_setCell] at this); have zz7 : lb < w7.heap.size := (by have := blk_lt (unhide HN).1.blk; rwa [zset] at this); clear hown' hgrow hat))
    go_end0
    refine ⟨rfl, _, ?_, (unhide HN).2⟩
    unfold addW
    rw [if_neg (unhide HM)]
    exact ⟨_, _, _, _, (unhide HN).1, rfl⟩
end Go.Proofs.YthfjnfcekeknlaaDoor
namespace Go.Proofs.YthfjnfcekeknlaaDoor
open Go.RowKit

/-- Who is waited for, and a node besides if it is a variable. -/
def awT (k : Int) (T : List Nat) (n : Nat) : List Nat := if k = 1 then addW T n else T
theorem awT_len (k : Int) (T : List Nat) (n : Nat) : (awT k T n).length ≤ T.length + 1 := by
  unfold awT addW
  split
  · split <;> simp
  · omega

set_option maxHeartbeats 1000000 in
theorem awaitA_any (w : World) (lb sb cb : Nat) (D : List Nd) (V : List Nat) (R0 R : Nat → Prop) (S : List Int) (T : List Nat) (no : Bool) (n : Nat) (d : Nd) (hso : SoA w sb cb D V R0) (hn : D[n]? = some d) (h : LoA w lb S T no R) (hl : T.length ≤ 100000000) :
    Calls Tryd.prog 52 #[.pointer (some ⟨lb, 0, none⟩), .pointer (some ⟨sb, 0, none⟩), .int .i64 (n : Int)] w fun e w' => e = .returned (.tuple #[]) ∧ ∃ R', LoA w' lb S (awT d.k T n) no R' ∧ FrG R R' w w' := by
  obtain ⟨h1, hd⟩ := List.getElem?_eq_some_iff.1 hn
  have HL := hide (label_any w sb cb D V R0 n hso h1)
  have HF := hide (fun w' (hb : Below w.heap.size w w') => front_any w' sb cb D V R0 n (hso.below hb) h1)
  rw [hd] at HL
  have H := hide h
  clear hso hn h hd h1
  obtain ⟨k, val, tx, cnt, ao, cp, ar⟩ := d
  dsimp only at HL ⊢
  by_cases hk : k = 1
  · subst hk
    go_enter Tryd.func52, Tryd.ntmps52
    go_wp2_with fail
    refine (unhide HL).mono ?_
    rintro e w2 ⟨rfl, hb2⟩
    have HB2 := hide hb2
    have z2 := hb2.size
    clear hb2
    go_wp2_with fail
    refine (unhide HF _ ((unhide HB2).alloc z2 _)).mono ?_
    rintro e w3 ⟨rfl, rfl⟩
    unfold intV
    go_wp2_with fail
    refine (waitA_any _ lb S T no R n ((unhide H).below ((unhide HB2).alloc z2 _)) hl).mono ?_
    rintro e w6 ⟨rfl, R6, h6, fr6⟩
    have H6 := hide h6
    have HF6 := hide fr6
    clear h6 fr6
    go_wp2_with fail
    go_end0
    exact ⟨rfl, R6, unhide H6, (FrG.of_below ((unhide HB2).alloc z2 _)).trans (unhide HF6)⟩
  · have t1 : (k == 1) = false := by simpa using hk
    have HK := hide hk
    clear hk
    go_enter Tryd.func52, Tryd.ntmps52
    go_wp2_with fail
    refine (unhide HL).mono ?_
    rintro e w2 ⟨rfl, hb2⟩
    have HB2 := hide hb2
    have z2 := hb2.size
    clear hb2
    go_wp2_with fail
    go_end0
    refine ⟨rfl, R, ?_, FrG.of_below ((unhide HB2).alloc z2 _)⟩
    unfold awT
    rw [if_neg (unhide HK)]
    exact (unhide H).below ((unhide HB2).alloc z2 _)
end Go.Proofs.YthfjnfcekeknlaaDoor
namespace Go.Proofs.YthfjnfcekeknlaaDoor
open Go.RowKit

theorem idx_inj {N : List (List UInt8)} {x y : List UInt8} (hx : x ∈ N) (hy : y ∈ N) (h : N.idxOf x = N.idxOf y) : x = y := by
  have h1 := List.getElem_idxOf (List.idxOf_lt_length_of_mem hx)
  have h2 := List.getElem_idxOf (List.idxOf_lt_length_of_mem hy)
  rw [← h1, ← h2]
  simp only [h]
/-- The node of a variable. -/
def NdV (V : List Nat) (N : List (List UInt8)) (n : Nat) (x : List UInt8) : Prop := x ∈ N ∧ V[N.idxOf x]? = some n
theorem nd_mem {V : List Nat} {N : List (List UInt8)} {n : Nat} {x : List UInt8} (hl : V.length = N.length) (h : V[N.idxOf x]? = some n) : NdV V N n x := by
  refine ⟨?_, h⟩
  have := (List.getElem?_eq_some_iff.1 h).1
  rw [hl] at this
  exact List.idxOf_lt_length_iff.1 this
theorem NdV.eq {V : List Nat} {N : List (List UInt8)} {n : Nat} {x y : List UInt8} (hV : V.Nodup) (h : NdV V N n x) (k : NdV V N n y) : x = y := by
  refine idx_inj h.1 k.1 ?_
  have h1 := List.getElem?_eq_some_iff.1 h.2
  have h2 := List.getElem?_eq_some_iff.1 k.2
  obtain ⟨h1, h3⟩ := h1
  obtain ⟨h2, h4⟩ := h2
  have hp := List.pairwise_iff_getElem.1 hV
  rcases Nat.lt_trichotomy (N.idxOf x) (N.idxOf y) with q | q | q
  · exact absurd (h3.trans h4.symm) (hp _ _ h1 h2 q)
  · exact q
  · exact absurd (h4.trans h3.symm) (hp _ _ h2 h1 q)
theorem NdV.same {V : List Nat} {N : List (List UInt8)} {n m : Nat} {x : List UInt8} (h : NdV V N n x) (k : NdV V N m x) : n = m := by
  have := h.2.symm.trans k.2
  simpa using this
theorem ak_inj {a b : Nat} (ha : a = 2 ∨ a = 3 ∨ a = 4) (hb : b = 2 ∨ b = 3 ∨ b = 4) (h : ak a = ak b) : a = b := by
  rcases ha with rfl | rfl | rfl <;> rcases hb with rfl | rfl | rfl <;> first | rfl | (revert h; decide)
theorem two_same {A : Nat → Parl.Tm → Prop} {g : Parl.Tm → Parl.Tm → Parl.Lk → Parl.Lk} : ∀ {ds : List Nat} {ps qs : List Parl.Tm} {l : Parl.Lk}, All2 A ds ps → All2 A ds qs → (∀ d p q l, p ∈ ps → q ∈ qs → A d p → A d q → g p q l = l) → Parl.two g ps qs l = l
  | [], [], [], _, _, _, _ => rfl
  | d :: ds, p :: ps, q :: qs, l, h, k, hg => by
    rw [Parl.two, hg d p q l (by simp) (by simp) h.1 k.1]
    exact two_same h.2 k.2 (fun d p q l hp hq => hg d p q l (by simp [hp]) (by simp [hq]))
/-- Labels of nodes that stand for terms without value are alike if the terms are. -/
theorem alike_iff {D : List Nd} {V : List Nat} {N : List (List UInt8)} {f a b : Nat} {ta tb : Parl.Tm} {da db : Nd} (ha : RN D V N (f + 1) a ta) (hb : RN D V N (f + 1) b tb) (wa : Parl.wfK (f + 1) ta) (wb : Parl.wfK (f + 1) tb) (ka : ta.kind ≠ 3) (kb : tb.kind ≠ 3) (ea : D[a]? = some da) (eb : D[b]? = some db) :
    Parl.alike ta tb = true ↔ (da.k = db.k ∧ da.val = db.val ∧ da.tx = db.tx ∧ da.cnt = db.cnt) := by
  obtain ⟨d, h1, h2, h3, h4, h5, h6, h7⟩ := ha
  obtain ⟨e, k1, k2, k3, k4, k5, k6, k7⟩ := hb
  rw [ea] at h1
  rw [eb] at k1
  cases h1
  cases k1
  have hk : da.k = db.k ↔ ta.kind = tb.kind := by
    rw [h2, k2]
    exact ⟨fun q => ak_inj wa.1 wb.1 q, fun q => by rw [q]⟩
  rw [hk]
  unfold Parl.alike
  simp only [Bool.and_eq_true, beq_iff_eq]
  constructor
  · rintro ⟨q1, q2, q3⟩
    rcases wa.1 with e | e | e
    · rw [if_neg (by omega)] at q2
      have q2 := eq_of_beq q2
      rw [ByteArray.toList_eq, ByteArray.toList_eq] at q2
      have r1 := h5 e
      have r2 := k5 (q1 ▸ e)
      refine ⟨q1, by rw [r1.1, r2.1], by rw [r1.2, r2.2]; exact ByteArray.ext (Array.ext' q2), by rw [h6 ka, k6 kb, q3]⟩
    · exact absurd e ka
    · rw [if_pos e] at q2
      have q2 := eq_of_beq q2
      have r1 := h4 e
      have r2 := k4 (q1 ▸ e)
      exact ⟨q1, by rw [r1.1, r2.1, q2], by rw [r1.2, r2.2], by rw [h6 ka, k6 kb, q3]⟩
  · rintro ⟨q1, q2, q3, q4⟩
    rw [h6 ka, k6 kb] at q4
    refine ⟨q1, ?_, q4⟩
    rcases wa.1 with e | e | e
    · rw [if_neg (by omega)]
      have r1 := h5 e
      have r2 := k5 (q1 ▸ e)
      rw [r1.2, r2.2] at q3
      rw [q3]
      simp
    · exact absurd e ka
    · rw [if_pos e]
      have r1 := h4 e
      have r2 := k4 (q1 ▸ e)
      rw [r1.1, r2.1] at q2
      simp only [beq_iff_eq]
      omega
theorem cmp_same {D : List Nd} {V : List Nat} {N : List (List UInt8)} (hV : V.Nodup) (hl : V.length = N.length) : ∀ (f n : Nat) (ta tb : Parl.Tm) (l : Parl.Lk), RN D V N f n ta → RN D V N f n tb → Parl.wfK f ta → Parl.wfK f tb → Parl.cmpF f ta tb l = l
  | f + 1, n, ta, tb, l, ha, hb, wa, wb => by
    have HA := ha
    have HB := hb
    obtain ⟨d, h1, h2, h3, h4, h5, h6, h7⟩ := ha
    obtain ⟨e, k1, k2, k3, k4, k5, k6, k7⟩ := hb
    rw [h1] at k1
    cases k1
    have hk : ta.kind = tb.kind := ak_inj wa.1 wb.1 (h2.symm.trans k2)
    unfold Parl.cmpF
    by_cases ka : ta.kind = 3
    · have kb : tb.kind = 3 := hk ▸ ka
      rw [if_pos ka, if_pos kb, if_pos ((nd_mem hl (h3 ka)).eq hV (nd_mem hl (k3 kb)))]
    · have kb : tb.kind ≠ 3 := hk ▸ ka
      rw [if_neg ka, if_neg kb, if_pos ((alike_iff HA HB wa wb ka kb h1 h1).2 ⟨rfl, rfl, rfl, rfl⟩)]
      exact two_same h7 k7 (fun d p q l hp hq r s => cmp_same hV hl f d p q l r s (wa.2.2.2 p hp) (wb.2.2.2 q hq))
/-- Who is waited for, by nodes and by names. -/
def WtA (V : List Nat) (N : List (List UInt8)) (T : List Nat) (wt : List (List UInt8)) : Prop := All2 (NdV V N) T wt
theorem all2_left {α β : Type} {A : α → β → Prop} : ∀ {xs : List α} {ys : List β}, All2 A xs ys → ∀ x ∈ xs, ∃ y ∈ ys, A x y
  | [], _, _, _, hx => by cases hx
  | a :: xs, b :: ys, h, x, hx => by
    rcases List.mem_cons.1 hx with rfl | hx
    · exact ⟨b, by simp, h.1⟩
    · obtain ⟨y, q1, q2⟩ := all2_left h.2 x hx
      exact ⟨y, by simp [q1], q2⟩
theorem all2_right {α β : Type} {A : α → β → Prop} : ∀ {xs : List α} {ys : List β}, All2 A xs ys → ∀ y ∈ ys, ∃ x ∈ xs, A x y
  | _, [], _, _, hy => by cases hy
  | a :: xs, b :: ys, h, y, hy => by
    rcases List.mem_cons.1 hy with rfl | hy
    · exact ⟨a, by simp, h.1⟩
    · obtain ⟨x, q1, q2⟩ := all2_right h.2 y hy
      exact ⟨x, by simp [q1], q2⟩
theorem WtA.mem {V : List Nat} {N : List (List UInt8)} {T : List Nat} {wt : List (List UInt8)} (hV : V.Nodup) (h : WtA V N T wt) {n : Nat} {x : List UInt8} (hn : NdV V N n x) : n ∈ T ↔ x ∈ wt := by
  constructor
  · intro q
    obtain ⟨y, q1, q2⟩ := all2_left h n q
    rw [hn.eq hV q2]
    exact q1
  · intro q
    obtain ⟨m, q1, q2⟩ := all2_right h x q
    rw [hn.same q2]
    exact q1
theorem WtA.add {V : List Nat} {N : List (List UInt8)} {T : List Nat} {wt : List (List UInt8)} (hV : V.Nodup) (h : WtA V N T wt) {n : Nat} {x : List UInt8} (hn : NdV V N n x) : WtA V N (addW T n) (Parl.addN wt x) := by
  unfold addW Parl.addN
  by_cases q : n ∈ T
  · rw [if_pos q, if_pos ((h.mem hV hn).1 q)]; exact h
  · rw [if_neg q, if_neg (fun r => q ((h.mem hV hn).2 r))]
    exact All2.snoc hn h
theorem RN.up {D : List Nd} {V : List Nat} {N : List (List UInt8)} : ∀ {f n : Nat} {t : Parl.Tm}, RN D V N f n t → RN D V N (f + 1) n t
  | _ + 1, _, _, ⟨d, h1, h2, h3, h4, h5, h6, h7⟩ => ⟨d, h1, h2, h3, h4, h5, h6, h7.imp fun _ _ => RN.up⟩
theorem RN.le {D : List Nd} {V : List Nat} {N : List (List UInt8)} {f k n : Nat} {t : Parl.Tm} (h : RN D V N f n t) (hk : f ≤ k) : RN D V N k n t := by
  induction hk with
  | refl => exact h
  | step _ ih => exact ih.up
/-- There is a No. -/
theorem LoB.bad {w : World} {lb : Nat} {S : List Int} {T : List Nat} {no : Bool} {so : Option Addr} {sc : Nat} {wo : Option Addr} {wc : Nat} (h : LoB w lb S T no so sc wo wc) : LoB (w.setCell ⟨lb, 2, none⟩ (.bool true)) lb S T true so sc wo wc ∧ FrG (rowsK lb so wo) (rowsK lb so wo) w (w.setCell ⟨lb, 2, none⟩ (.bool true)) := by
  refine ⟨⟨?_, own_keepG h.sown (fun g q => hset _ _ _ _ (by have := (h.sown.lt g q).1; omega)), own_keepG h.wown (fun g q => hset _ _ _ _ (by have := (h.wown.lt g q).1; omega)), h.apart⟩, rfl, rfl, rfl, by rw [zset]; exact Nat.le_refl _, fun k _ hr => hset _ _ _ _ (fun e => hr (Or.inl e)), fun _ q => Or.inl q⟩
  have := blk_set h.blk 2 (.bool true)
  simpa using this
end Go.Proofs.YthfjnfcekeknlaaDoor
