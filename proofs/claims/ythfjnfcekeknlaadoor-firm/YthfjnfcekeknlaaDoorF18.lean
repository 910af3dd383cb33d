import Derived.Test.YthfjnfcekeknlaaDoorF09
import Derived.Test.YthfjnfcekeknlaaDoorF17
import Derived.Deep.AppendLies
import Derived.Deep.RegionLaw
namespace Parl
/-- A node joins the list, if it is new. -/
def addM (N : List Nat) (n : Nat) : List Nat := if n ∈ N then N else N ++ [n]
def vrs (N : List Nat) : List Vr := N.map fun n => ([], n)
theorem vrs_inj {n m : Nat} (h : (([], n) : Vr) = ([], m)) : n = m := by injection h
theorem mem_vrs {N : List Nat} {n : Nat} : (([], n) : Vr) ∈ vrs N ↔ n ∈ N := by
  unfold vrs
  constructor
  · intro h
    obtain ⟨m, hm, e⟩ := List.mem_map.1 h
    rw [vrs_inj e] at hm
    exact hm
  · exact fun h => List.mem_map_of_mem h
theorem vrs_add (N : List Nat) (n : Nat) : vrs (addM N n) = addU (vrs N) ([], n) := by
  unfold addM addU
  by_cases h : n ∈ N
  · rw [if_pos h, if_pos (mem_vrs.2 h)]
  · rw [if_neg h, if_neg (fun q => h (mem_vrs.1 q))]
    simp [vrs]
theorem vrs_idx (n : Nat) : ∀ N, (vrs N).idxOf ([], n) = N.idxOf n
  | [] => rfl
  | m :: N => by
    have ih := vrs_idx n N
    unfold vrs at ih ⊢
    rw [List.map_cons, List.idxOf_cons, List.idxOf_cons, ih]
    by_cases e : m = n
    · subst e; simp
    · have : (([], m) : Vr) ≠ ([], n) := fun q => e (vrs_inj q)
      rw [beq_false_of_ne this, beq_false_of_ne e]
theorem idx_first {n : Nat} : ∀ {N : List Nat} {j : Nat} (hj : j < N.length), N[j] = n → (∀ i (_ : i < N.length), i < j → N[i] ≠ n) → N.idxOf n = j
  | m :: N, 0, _, he, _ => by rw [List.idxOf_cons]; simp at he; simp [he]
  | m :: N, j + 1, hj, he, hno => by
    have h0 : m ≠ n := hno 0 (by simp) (by omega)
    have := idx_first (N := N) (j := j) (by simpa using hj) (by simpa using he) (fun i hi q => by have := hno (i + 1) (by simpa using hi) (by omega); simpa using this)
    rw [List.idxOf_cons, this, beq_false_of_ne h0]
    rfl
theorem vrs_len (N : List Nat) : (vrs N).length = N.length := by simp [vrs]
end Parl
namespace Go.Proofs.YthfjnfcekeknlaaDoor
open Go.RowKit

/-- The names lie there. -/
structure NmB (w : World) (nb : Nat) (N : List Nat) (mo : Option Addr) (mc : Nat) : Prop where
  blk : w.heap[nb]? = some (.cells #[.slice mo N.length mc] 69 (0, 0))
  own : w.ownsRow 0 3 1 (.slice mo N.length mc) N.length (N.map intV)
def rowsN (nb : Nat) (mo : Option Addr) (k : Nat) : Prop := k = nb ∨ rowOf mo k
theorem NmB.apart {w : World} {nb : Nat} {N : List Nat} {mo : Option Addr} {mc : Nat} (h : NmB w nb N mo mc) {g : Nat} {xs : Array Value} {S : TypeId} (hg : w.heap[g]? = some (.cells xs S (0, 0))) (h1 : S ≠ 69) (h2 : S ≠ 3) : ¬ rowsN nb mo g := by
  rintro (rfl | ⟨p, rfl, rfl⟩)
  · have := h.blk
    rw [hg] at this
    simp only [Option.some.injEq, Obj.cells.injEq] at this
    exact h1 this.2.1
  · rcases h.own.2 with ⟨c, _⟩ | ⟨g, cp, cur, c, _, hc, _⟩
    · cases c
    · simp only [Value.slice.injEq, Option.some.injEq] at c
      obtain ⟨rfl, _⟩ := c
      rw [hc] at hg
      simp only [Option.some.injEq, Obj.cells.injEq] at hg
      exact h2 hg.2.1.symm
theorem NmB.below {w w' : World} {nb : Nat} {N : List Nat} {mo : Option Addr} {mc : Nat} (h : NmB w nb N mo mc) (hb : Below w.heap.size w w') : NmB w' nb N mo mc :=
  ⟨(hb.block nb (blk_lt h.blk)).trans h.blk, own_keepG h.own (fun g q => hb.block g (h.own.lt g q).2)⟩
theorem NmB.rows {w : World} {nb : Nat} {N : List Nat} {mo : Option Addr} {mc : Nat} (h : NmB w nb N mo mc) : ∀ k, rowsN nb mo k → k < w.heap.size := by
  rintro k (rfl | ⟨p, rfl, rfl⟩)
  · exact blk_lt h.blk
  · exact (h.own.lt p.block rfl).2
theorem NmB.ne {w : World} {nb : Nat} {N : List Nat} {mo : Option Addr} {mc : Nat} (h : NmB w nb N mo mc) : ¬ rowOf mo nb := by
  rintro ⟨p, rfl, e⟩
  rcases h.own.2 with ⟨c, _⟩ | ⟨g, cp, cur, c, _, hc, _⟩
  · cases c
  · simp only [Value.slice.injEq, Option.some.injEq] at c
    obtain ⟨rfl, _⟩ := c
    dsimp only at e
    have := h.blk
    rw [e, hc] at this
    simp only [Option.some.injEq, Obj.cells.injEq] at this
    exact absurd this.2.1 (by decide)
def PNm (nb : Nat) (N : List Nat) (mo : Option Addr) (n : Nat) (w : World) (e : Ending) (w' : World) : Prop :=
  ∃ mo' mc', e = .returned (intV (N.idxOf n)) ∧ NmB w' nb (Parl.addM N n) mo' mc' ∧ FrG (rowsN nb mo) (rowsN nb mo') w w'

set_option maxHeartbeats 4000000 in
set_option maxRecDepth 100000 in
theorem number_g (w : World) (nb : Nat) (N : List Nat) (mo : Option Addr) (mc : Nat) (n : Nat) (h : NmB w nb N mo mc) (hl : N.length ≤ 1000000) :
    Calls Tryd.prog 49 #[.pointer (some ⟨nb, 0, none⟩), .int .i64 (n : Int)] w fun e w' => PNm nb N mo n w e w' := by
  have s0 := blkA h.blk 0
  have sx := blkX h.blk 0
  have sz := blk_lt h.blk
  simp only [List.getElem?_toArray, List.getElem?_cons_zero] at s0
  have H := hide h
  obtain ⟨ti, hi, hz0, hz1, hz2⟩ := info_parts infoIn
  have hcell : ∀ j (hj : j < N.length), ∃ g, mo = some ⟨g, 0, none⟩ ∧ g < w.heap.size ∧ w.cell? ⟨g, j, none⟩ = some (.int .i64 (N[j] : Int)) := fun j hj => by
    rcases h.own.2 with ⟨_, q⟩ | ⟨g, cap, cur, q1, _, q3, _⟩
    · omega
    · simp only [Value.slice.injEq] at q1
      obtain ⟨rfl, _, _⟩ := q1
      refine ⟨g, rfl, blk_lt q3, ?_⟩
      rw [h.own.cellAt j (by omega), List.getElem?_map, List.getElem?_eq_getElem hj]
      rfl
  have HC := hide hcell
  have HNE := hide h.ne
  clear h hcell
  go_enter Tryd.func49, Tryd.ntmps49
  go_wp2_with fail
  go_loopg [12] N.length (fun k iv wr => ∃ j : Nat, k + j = N.length ∧ iv = .int .i64 (j : Int) ∧ wr = w ∧ ∀ i (hi : i < N.length), i < j → N[i] ≠ n)
  case atStart => exact ⟨0, by omega, rfl, rfl, fun i _ q => by omega⟩
  case round =>
    obtain ⟨j, hkj, rfl, rfl, hno⟩ := hrel
    by_cases hlt : j < N.length
    · obtain ⟨g, rfl, gz, cj⟩ := unhide HC j hlt
      have j0 : (0 : Int) ≤ (j : Int) := by omega
      have j1 : (j : Int) < (N.length : Int) := by omega
      have HKJ := hide hkj
      by_cases he : N[j] = n
      · have HFIN := hide (show PNm nb N (some ⟨g, 0, none⟩) n wr (.returned (.int .i64 (j : Int))) wr from by
          have hmem : n ∈ N := he ▸ List.getElem_mem hlt
          refine ⟨some ⟨g, 0, none⟩, mc, ?_, ?_, FrG.of_below (Below.refl _ _)⟩
          · have : N.idxOf n = j := Parl.idx_first hlt he hno
            rw [this]; rfl
          · have : Parl.addM N n = N := by unfold Parl.addM; rw [if_pos hmem]
            rw [this]; exact unhide H)
        rw [he] at cj
        clear he hno hkj
        go_wp2_with fail
        go_ret
        exact unhide HFIN
      · have t1 : (((N[j] : Nat) : Int) == (n : Int)) = false := by simp; omega
        have HNO := hide (show ∀ i (hi : i < N.length), i < j + 1 → N[i] ≠ n from fun i hi q => by
          by_cases e : i = j
          · subst e; exact he
          · exact hno i hi (by omega))
        generalize N[j] = na at *
        clear he hno hkj
        go_wp2_with fail
        go_roundg (gk - 1)
        case measure => have := unhide HKJ; omega
        case rel => exact ⟨j + 1, by have := unhide HKJ; omega, by go_num, rfl, unhide HNO⟩
    · obtain rfl : j = N.length := by omega
      have hmem : n ∉ N := fun q => by
        obtain ⟨i, hi, e⟩ := List.getElem_of_mem q
        exact hno i hi hi e
      have HM := hide (show Parl.addM N n = N ++ [n] by unfold Parl.addM; rw [if_neg hmem])
      have HI := hide (show N.idxOf n = N.length from List.idxOf_eq_length hmem)
      clear hno hkj hmem
      go_wp2_with (first | (at_builtin; go_must (refine wpList_append_own_at _ rfl (.tmp 26) (.tmp 28) 22 rfl 0 3 ti (.int .i64 0) 1 8 Tryd.underlying22 hi hz0 hz1 hz2 rfl (by decide) _ N.length (N.map intV) rfl ((unhide H).own.alloc _) ⟨wr.heap.size, 0, none⟩ 1 1 [.int .i64 (n : Int)] rfl rfl (new1T _ _ _ _ rfl) (by simp [Value.oneCell']) (by unfold maxLen; omega) (by omega) (by omega) ?_); go_must (intro v' w7 hown' hgrow _ hat; obtain ⟨g', cap', hv, hcm⟩ := own_some hown'; subst hv; have HO7 := hide hown'; have HG := hide hgrow; have HAT := hide (show (some g' : Option Nat) = (Value.slice mo N.length mc).ownBlock ∨ (some g' : Option Nat) = some (wr.heap.size + 1) from (by rcases hat with q | q; exact Or.inl q; exact Or.inr (by rw [World.size_alloc] at q; exact q))); have b7 := (hgrow.block nb (by simp; omega) (own_free fun p q e => unhide HNE ⟨p, q, e⟩)).trans ((Below.heap_alloc _ _ _ sz).trans (unhide H).blk); have HB7 := hide b7; have c7 := blkA b7 0; have x7 := blkX b7 0; have z7 := blk_lt b7; simp only [List.getElem?_toArray, List.getElem?_cons_zero] at c7; clear hown' hgrow hat b7)))
      go_ret
      refine ⟨some ⟨g', 0, none⟩, cap', ?_, ⟨?_, ?_⟩, ?_⟩
      · rw [unhide HI]
        show Ending.returned (.int .i64 _) = .returned (.int .i64 _)
        congr 2
      · have := blk_set (unhide HB7) 0 (.slice (some ⟨g', 0, none⟩) (N.length + 1) cap')
        rw [unhide HM, List.length_append]
        simpa using this
      · rw [unhide HM, List.length_append, List.map_append]
        have hne : nb ≠ g' := fun e => by
          rcases (unhide HO7).2 with ⟨c, _⟩ | ⟨g, cp, cur, c, _, hc, _⟩
          · cases c
          · simp only [Value.slice.injEq, Option.some.injEq, Addr.mk.injEq] at c
            obtain ⟨⟨rfl, _⟩, _⟩ := c
            have := unhide HB7
            rw [e, hc] at this
            simp only [Option.some.injEq, Obj.cells.injEq] at this
            exact absurd this.2.1 (by decide)
        exact own_keepG (unhide HO7) (fun k q => hset _ _ _ _ (by simp [Value.ownBlock] at q; omega))
      · have hz := (unhide HG).size
        refine ⟨(unhide HG).os, (unhide HG).tape, (unhide HG).output, by rw [zset]; simp at hz; omega, fun k hk hr => ?_, ?_⟩
        · rw [hset _ _ _ _ (fun e => hr (Or.inl e)), (unhide HG).block k (by simp; omega) (own_free fun p q e => hr (Or.inr ⟨p, q, e⟩)), Below.heap_alloc _ _ _ hk]
        · rintro k (rfl | ⟨p, e1, rfl⟩)
          · exact Or.inl (Or.inl rfl)
          · cases e1
            rcases unhide HAT with e | e
            · left; right
              cases mo with
              | none => simp [Value.ownBlock] at e
              | some s => simp [Value.ownBlock] at e; exact ⟨s, rfl, e⟩
            · right
              have := Option.some.inj e
              dsimp only
              omega
end Go.Proofs.YthfjnfcekeknlaaDoor
namespace Go.Proofs.YthfjnfcekeknlaaDoor
open Go.RowKit

/-- What a term's own cells say, as the program lays it; N: the variables. -/
def LeafV (N : List Parl.Vr) (a : AV) : Parl.U → Prop
  | .v x => a.k = 1 ∧ a.val = (N.idxOf x : Int) ∧ x ∈ N ∧ a.n = 0
  | .n k tx num ss => (k = 3 ∧ a.k = 2 ∧ a.val = num ∧ a.n = 0 ∧ ss = []) ∨ (k = 1 ∧ a.k = 3 ∧ a.tx.toList = tx ∧ a.n = ss.length ∧ ss.length ≤ 3)
def RV : Nat → List Parl.Vr → (Nat → Prop) → World → AV → Parl.U → Prop
  | 0, _, _, _, _, _ => False
  | f + 1, N, P, w, a, u => LeafV N a u ∧ (Parl.uargs u ≠ [] → ∃ (g : Nat) (us : List AV) (cs : Array Value), a.ao = some ⟨g, 0, none⟩ ∧ P g ∧ w.heap[g]? = some (.cells cs 52 (0, 0)) ∧ cs.toList.take (us.length * 4) = us.flatMap avC ∧ All2 (RV f N P w) us (Parl.uargs u))
theorem RV.keep {N : List Parl.Vr} {P Q : Nat → Prop} {w w' : World} (hk : ∀ g cs, P g → w.heap[g]? = some (.cells cs 52 (0, 0)) → w'.heap[g]? = some (.cells cs 52 (0, 0)) ∧ Q g) : ∀ {f : Nat} {a : AV} {u : Parl.U}, RV f N P w a u → RV f N Q w' a u
  | _ + 1, _, _, ⟨h, q⟩ => ⟨h, fun n => by
    obtain ⟨g, us, cs, h1, h2, h3, h4, h5⟩ := q n
    obtain ⟨r1, r2⟩ := hk g cs h2 h3
    exact ⟨g, us, cs, h1, r2, r1, h4, h5.imp fun _ _ => RV.keep hk⟩⟩
theorem LeafV.more {N : List Parl.Vr} {a : AV} {u : Parl.U} (h : LeafV N a u) (M : List Parl.Vr) : LeafV (N ++ M) a u := by
  cases u with
  | v x =>
    obtain ⟨h1, h2, h3, h4⟩ := h
    exact ⟨h1, by rw [h2, List.idxOf_append, if_pos h3], List.mem_append_left _ h3, h4⟩
  | n k tx num ss => exact h
theorem RV.more {N : List Parl.Vr} {P : Nat → Prop} {w : World} (M : List Parl.Vr) : ∀ {f : Nat} {a : AV} {u : Parl.U}, RV f N P w a u → RV f (N ++ M) P w a u
  | _ + 1, _, _, ⟨h, q⟩ => ⟨h.more M, fun n => by
    obtain ⟨g, us, cs, h1, h2, h3, h4, h5⟩ := q n
    exact ⟨g, us, cs, h1, h2, h3, h4, h5.imp fun _ _ => RV.more M⟩⟩
theorem RV.leaf {f : Nat} {N : List Parl.Vr} {P : Nat → Prop} {w : World} {a : AV} {u : Parl.U} (h : RV f N P w a u) : LeafV N a u := by
  cases f with
  | zero => exact h.elim
  | succ f => exact h.1
theorem RV.up {N : List Parl.Vr} {P : Nat → Prop} {w : World} : ∀ {f : Nat} {a : AV} {u : Parl.U}, RV f N P w a u → RV (f + 1) N P w a u
  | f + 1, _, _, ⟨h, q⟩ => ⟨h, fun n => by
    obtain ⟨g, us, cs, h1, h2, h3, h4, h5⟩ := q n
    exact ⟨g, us, cs, h1, h2, h3, h4, h5.imp fun _ _ => RV.up⟩⟩
theorem RV.le {N : List Parl.Vr} {P : Nat → Prop} {w : World} {f f' : Nat} {a : AV} {u : Parl.U} (h : RV f N P w a u) (hf : f ≤ f') : RV f' N P w a u := by
  induction hf with
  | refl => exact h
  | step _ ih => exact ih.up
/-- What 'Tree' is to leave. -/
def PTree (s nb : Nat) (N : List Nat) (mo : Option Addr) (u : Parl.U) (w : World) (e : Ending) (w' : World) : Prop :=
  ∃ (a : AV) (N' : List Nat) (mo' : Option Addr) (mc' : Nat), e = .returned (.agg #[.int .i64 a.k, .int .i64 a.val, .string a.tx, .slice a.ao a.n a.cap]) ∧ NmB w' nb N' mo' mc' ∧ Parl.vrs N' = Parl.namesU (Parl.vrs N) u ∧ RV s (Parl.vrs N') (fun g => w.heap.size ≤ g) w' a u ∧ FrG (rowsN nb mo) (rowsN nb mo') w w'
def TreeSaid (s : Nat) : Prop := ∀ (w : World) (sb so : Nat) (cs : Array Value) (T : TypeId) (D : List Ng) (no : Option Addr) (nc : Nat) (fr : Nat → Nat) (n : Nat) (u : Parl.U) (nb : Nat) (N : List Nat) (mo : Option Addr) (mc : Nat), StG w sb so cs T D no nc → T ≠ 69 → T ≠ 3 → OkD D fr → NmB w nb N mo mc → ArgsG w D (fun g => ¬ rowsN nb mo g) → n < D.length → Parl.Tr (gOf D) fr n u → Parl.size u ≤ s → N.length + Parl.size u ≤ 1000000 →
  Calls Tryd.prog 28 #[.pointer (some ⟨sb, so, none⟩), .int .i64 (n : Int), .pointer (some ⟨nb, 0, none⟩)] w fun e w' => PTree s nb N mo u w e w'
theorem StG.frn {w w' : World} {sb so : Nat} {cs : Array Value} {T : TypeId} {D : List Ng} {no : Option Addr} {nc : Nat} {nb : Nat} {N : List Nat} {mo mo' : Option Addr} {mc : Nat} (h : StG w sb so cs T D no nc) (hn : NmB w nb N mo mc) (h1 : T ≠ 69) (h2 : T ≠ 3) (hf : FrG (rowsN nb mo) (rowsN nb mo') w w') : StG w' sb so cs T D no nc := by
  refine ⟨(hf.block sb (blk_lt h.blk) (hn.apart h.blk h1 h2)).trans h.blk, h.cel, own_keepG h.own (fun g q => hf.block g (h.own.lt g q).2 ?_), h.ty⟩
  rcases h.own.2 with ⟨c, _⟩ | ⟨g', cp, cur, c, _, hc, _⟩
  · rw [c] at q; simp [Value.ownBlock] at q
  · rw [c] at q
    simp [Value.ownBlock] at q
    subst q
    exact hn.apart hc (by decide) (by decide)
theorem ArgsG.frn {w w' : World} {D : List Ng} {R R' : Nat → Prop} (h : ArgsG w D fun g => ¬ R g) (hf : FrG R R' w w') : ArgsG w' D fun g => ¬ R' g :=
  h.keep fun g _ hp hg => ⟨(hf.block g (blk_lt hg) hp).trans hg, hf.not (blk_lt hg) hp⟩

set_option maxHeartbeats 4000000 in
set_option maxRecDepth 100000 in
theorem tree_var (s : Nat) (w : World) (sb so : Nat) (cs : Array Value) (T : TypeId) (D : List Ng) (no : Option Addr) (nc : Nat) (fr : Nat → Nat) (n : Nat) (d : Ng) (nb : Nat) (N : List Nat) (mo : Option Addr) (mc : Nat) (h : StG w sb so cs T D no nc) (_hT1 : T ≠ 69) (_hT2 : T ≠ 3) (hok : OkD D fr) (hn : NmB w nb N mo mc) (hnl : n < D.length) (hd : D[fr n]? = some d) (hk : d.k = 1) (hl : N.length + 1 ≤ 1000000) :
    Calls Tryd.prog 28 #[.pointer (some ⟨sb, so, none⟩), .int .i64 (n : Int), .pointer (some ⟨nb, 0, none⟩)] w fun e w' => PTree (s + 1) nb N mo (.v ([], fr n)) w e w' := by
  obtain ⟨k, hk'⟩ := hok.hop n hnl
  have LA := hide (fun W (hb : Below w.heap.size w W) => label_g W sb so cs T D no nc n (fr n) k d (h.below hb) hk' hd)
  have FA := hide (fun W (hb : Below w.heap.size w W) => front_g W sb so cs T D no nc n (fr n) k (h.below hb) hk')
  have NA := hide (fun W (hb : Below w.heap.size w W) => number_g W nb N mo mc (fr n) (hn.below hb) (by omega))
  have HN := hide hn
  obtain ⟨dk, val, tx, cnt, ao, cap, args, nx, mrk⟩ := d
  dsimp only at hk LA
  subst hk
  clear h hok hn hnl hd hk'
  generalize fr n = p at *
  go_enter Tryd.func28, Tryd.ntmps28
  go_wp2_with fail
  refine (unhide LA _ ((Below.refl _ _).alloc (Nat.le_refl _) _)).mono ?_
  rintro e w1 ⟨rfl, hb1⟩
  have HB1 := hide ((((Below.refl w.heap.size w).alloc (Nat.le_refl _) (.cells #[.int .i64 0, .int .i64 0, .string ⟨#[]⟩, .slice none 0 0] 52)).trans (hb1.mono (by simp))).alloc (by have := hb1.size; simp at this; omega) (.cells #[.int .i64 1, .int .i64 val, .string tx, .int .i64 (cnt : Int)] 92))
  have r0 := hb1.block w.heap.size (by simp)
  have r1 := r0.trans (heap_alloc_new w _)
  have z1 : w.heap.size < w1.heap.size := blk_lt r1
  have HR1 := hide (blk_alloc r1 (.cells #[.int .i64 1, .int .i64 val, .string tx, .int .i64 (cnt : Int)] 92))
  clear hb1 r0 r1
  go_wp2_with fail
  refine (unhide FA _ (unhide HB1)).mono ?_
  rintro e w2 ⟨rfl, rfl⟩
  unfold intV
  go_wp2_with fail
  refine (unhide NA _ (unhide HB1)).mono ?_
  rintro e w3 ⟨mo', mc', rfl, hn3, hf3⟩
  unfold intV
  have q3 := (hf3.block w.heap.size (by simp; omega) (((unhide HN).below (unhide HB1)).apart (unhide HR1) (by decide) (by decide))).trans (unhide HR1)
  have HQ3 := hide q3
  have c3 := blkA q3
  have x3 := blkX q3
  have z3 := blk_lt q3
  have HN3 := hide hn3
  have HF3 := hide hf3
  clear hn3 hf3 q3
  go_wp2_with fail
  refine bodyPost_ret (v := .agg #[.int .i64 1, .int .i64 ((N.idxOf p : Nat) : Int), .string ⟨#[]⟩, .slice none 0 0]) (by simp [results, Tryd.results28, go_sem, c3]) rfl ?_
  have hkeep : ∀ g, g ≠ w.heap.size → ((((w3.setCell ⟨w.heap.size, 0, none⟩ (.int .i64 1)).setCell ⟨w.heap.size, 1, none⟩ (.int .i64 ((N.idxOf p : Nat) : Int))).setCell ⟨w.heap.size, 2, none⟩ (.string ⟨#[]⟩)).setCell ⟨w.heap.size, 3, none⟩ (.slice none 0 0)).heap[g]? = w3.heap[g]? := fun g hg => by rw [hset _ _ _ _ hg, hset _ _ _ _ hg, hset _ _ _ _ hg, hset _ _ _ _ hg]
  have hne : nb ≠ w.heap.size := by have := blk_lt (unhide HN).blk; omega
  refine ⟨⟨1, (N.idxOf p : Nat), ⟨#[]⟩, none, 0, 0⟩, Parl.addM N p, mo', mc', rfl, ⟨(hkeep nb hne).trans (unhide HN3).blk, own_keepG (unhide HN3).own (fun g q => hkeep g fun e => ?_)⟩, ?_, ⟨⟨rfl, ?_, ?_, rfl⟩, fun q => absurd rfl q⟩, ?_⟩
  · subst e
    exact (unhide HN3).apart (unhide HQ3) (by decide) (by decide) (Or.inr (by
      cases mo' with
      | none => simp [Value.ownBlock] at q
      | some a => simp [Value.ownBlock] at q; exact ⟨a, rfl, q.symm⟩))
  · rw [Parl.vrs_add]; rfl
  · show ((N.idxOf p : Nat) : Int) = (((Parl.vrs (Parl.addM N p)).idxOf ([], p) : Nat) : Int)
    rw [Parl.vrs_idx]
    congr 1
    unfold Parl.addM
    by_cases q : p ∈ N
    · rw [if_pos q]
    · rw [if_neg q, List.idxOf_append, if_neg q, List.idxOf_eq_length q]; simp
  · rw [Parl.vrs_add]; exact Parl.mem_addU.2 (Or.inr rfl)
  · have q := (FrG.of_below (R := rowsN nb mo) (unhide HB1)).trans (unhide HF3)
    refine ⟨q.os, q.tape, q.output, by simp only [zset]; exact q.size, fun k hk hr => ?_, q.row⟩
    rw [hkeep k (by omega)]
    exact q.block k hk hr
end Go.Proofs.YthfjnfcekeknlaaDoor
namespace Parl
theorem addU_len (N : List Vr) (x : Vr) : (addU N x).length ≤ N.length + 1 := by unfold addU; split <;> simp
theorem namesU_len : ∀ (u : U) (N : List Vr), (namesU N u).length ≤ N.length + size u := by
  refine U.ind (fun x N => by rw [namesU, size]; exact addU_len N x) (fun k tx num ss ih N => ?_)
  rw [namesU_n, size]
  induction ss generalizing N with
  | nil => simp [sizeL]
  | cons a ss ihl =>
    have h1 := ihl (fun b hb => ih b (by simp [hb])) (namesU N a)
    have h2 := ih a (by simp) N
    rw [List.foldl_cons, sizeL]
    omega
theorem foldU_len (us : List U) (N : List Vr) : (us.foldl namesU N).length ≤ N.length + sizeL us := by
  have := namesU_len (.n 1 [] 0 us) N
  rw [namesU_n, size] at this
  induction us generalizing N with
  | nil => simp [sizeL]
  | cons a us ih =>
    have h1 := ih (namesU N a) (by have := namesU_len (.n 1 [] 0 us) (namesU N a); rw [namesU_n, size] at this; exact this)
    have h2 := namesU_len a N
    rw [List.foldl_cons, sizeL]
    omega
theorem namesU_ext : ∀ (u : U) (N : List Vr), ∃ M, namesU N u = N ++ M := by
  refine U.ind (fun x N => ?_) (fun k tx num ss ih N => ?_)
  · rw [namesU]; unfold addU; split
    · exact ⟨[], by simp⟩
    · exact ⟨[x], rfl⟩
  · rw [namesU_n]
    induction ss generalizing N with
    | nil => exact ⟨[], by simp⟩
    | cons a ss ihl =>
      obtain ⟨M, hM⟩ := ih a (by simp) N
      obtain ⟨M', hM'⟩ := ihl (fun b hb => ih b (by simp [hb])) (namesU N a)
      exact ⟨M ++ M', by rw [List.foldl_cons, hM', hM, List.append_assoc]⟩
end Parl
namespace Go.Proofs.YthfjnfcekeknlaaDoor
open Go.RowKit

/-- The loop over the arguments. -/
def LTre (w : World) (sb so : Nat) (cs : Array Value) (T : TypeId) (D : List Ng) (no : Option Addr) (nc : Nat) (tb nb : Nat) (N : List Nat) (mo : Option Addr) (s : Nat) (us : List Parl.U) (kv vv tv : Value) (k : Nat) (iv : Value) (wr : World) : Prop :=
  ∃ (j : Nat) (N1 : List Nat) (mo1 : Option Addr) (mc1 : Nat) (av : Value) (vs : List AV), k + j = us.length ∧ iv = .int .i64 (j : Int) ∧ NmB wr nb N1 mo1 mc1 ∧ Parl.vrs N1 = (us.take j).foldl Parl.namesU (Parl.vrs N) ∧ FrG (rowsN nb mo) (rowsN nb mo1) w wr ∧
    wr.heap[w.heap.size]? = some (.cells #[.int .i64 0, .int .i64 0, .string ⟨#[]⟩, .slice none 0 0] 52 (0, 0)) ∧ wr.heap[tb]? = some (.cells #[kv, vv, tv, av] 52 (0, 0)) ∧ wr.ownsRow (tb + 1) 52 4 av j (vs.flatMap avC) ∧
    All2 (RV s (Parl.vrs N1) (fun g => tb + 1 ≤ g ∧ some g ≠ av.ownBlock) wr) vs (us.take j) ∧ StG wr sb so cs T D no nc ∧ ArgsG wr D (fun g => ¬ rowsN nb mo1 g)
/-- One more argument lies there. -/
theorem tre_next {wr w2 w7 : World} {s tb nb : Nat} {N1 N2 : List Nat} {mo1 mo2 : Option Addr} {mc1 : Nat} {av v' : Value} {vs : List AV} {ts : List Parl.U} {a2 : AV} {t : Parl.U} {X A : Obj} {M : List Parl.Vr}
    (hn : NmB wr nb N1 mo1 mc1) (h : All2 (RV s (Parl.vrs N1) (fun g => tb + 1 ≤ g ∧ some g ≠ av.ownBlock) wr) vs ts) (hv : RV s (Parl.vrs N2) (fun g => wr.heap.size ≤ g) w2 a2 t) (hM : Parl.vrs N2 = Parl.vrs N1 ++ M) (hf : FrG (rowsN nb mo1) (rowsN nb mo2) wr w2) (htb : tb < wr.heap.size) (hav : ∀ k, av.ownBlock = some k → tb + 1 ≤ k ∧ k < wr.heap.size)
    (hg : ((w2.alloc X).alloc A).grownBy w7 av.ownBlock) (hat : v'.ownBlock = av.ownBlock ∨ v'.ownBlock = some ((w2.alloc X).alloc A).heap.size) (u : Value) :
    All2 (RV s (Parl.vrs N2) (fun g => tb + 1 ≤ g ∧ some g ≠ v'.ownBlock) (w7.setCell ⟨tb, 3, none⟩ u)) (vs ++ [a2]) (ts ++ [t]) := by
  have hsz := hf.size
  have keep : ∀ g, g < w2.heap.size → g ≠ tb → some g ≠ av.ownBlock → (w7.setCell ⟨tb, 3, none⟩ u).heap[g]? = w2.heap[g]? := fun g h1 h2 h4 => by
    rw [hset _ _ _ _ h2, hg.block g (by simp; omega) h4, Below.heap_alloc _ _ _ (by simp; omega), Below.heap_alloc _ _ _ h1]
  have away : ∀ g, g < w2.heap.size → some g ≠ av.ownBlock → some g ≠ v'.ownBlock := fun g h1 h2 => by
    rcases hat with e | e <;> rw [e]
    · exact h2
    · simp; omega
  refine All2.snoc (hv.keep fun g cs hp hc => ?_) (h.imp fun a t q => ?_)
  · have hl := blk_lt hc
    have h4 : some g ≠ av.ownBlock := fun e => by have := (hav g e.symm).2; omega
    exact ⟨(keep g hl (by omega) h4).trans hc, by omega, away g hl h4⟩
  · rw [hM]
    refine RV.more M (q.keep fun g cs hp hc => ?_)
    have hl := blk_lt hc
    obtain ⟨p1, p2⟩ := hp
    exact ⟨(keep g (by omega) (by omega) p2).trans ((hf.block g hl (hn.apart hc (by decide) (by decide))).trans hc), p1, away g (by omega) p2⟩

set_option maxHeartbeats 8000000 in
set_option maxRecDepth 100000 in
theorem tree_name {s : Nat} (IH : TreeSaid s) (w : World) (sb so : Nat) (cs : Array Value) (T : TypeId) (D : List Ng) (no : Option Addr) (nc : Nat) (fr : Nat → Nat) (n : Nat) (u : Parl.U) (us : List Parl.U) (d : Ng) (nb : Nat) (N : List Nat) (mo : Option Addr) (mc : Nat) (h : StG w sb so cs T D no nc) (hT1 : T ≠ 69) (hT2 : T ≠ 3) (hok : OkD D fr) (hn : NmB w nb N mo mc) (har : ArgsG w D (fun g => ¬ rowsN nb mo g)) (hnl : n < D.length) (hd : D[fr n]? = some d) (od : NdOk D.length d) (md : d ∈ D) (hk : d.k ≠ 1) (hul : d.args.length = us.length) (hts : ∀ (i a : Nat) (v : Parl.U), d.args[i]? = some a → us[i]? = some v → Parl.Tr (gOf D) fr a v)
    (hu : (d.k = 2 ∧ u = .n 3 [] d.val [] ∧ us = []) ∨ (d.k = 3 ∧ u = .n 1 d.tx.toList 0 us)) (hs : Parl.size u ≤ s + 1) (hl : N.length + Parl.size u ≤ 1000000) :
    Calls Tryd.prog 28 #[.pointer (some ⟨sb, so, none⟩), .int .i64 (n : Int), .pointer (some ⟨nb, 0, none⟩)] w fun e w' => PTree (s + 1) nb N mo u w e w' := by
  obtain ⟨k, hk'⟩ := hok.hop n hnl
  have hsz : Parl.size u = 1 + Parl.sizeL us := by
    rcases hu with ⟨_, rfl, rfl⟩ | ⟨_, rfl⟩
    · simp [Parl.size, Parl.sizeL]
    · rw [Parl.size]
  have hua : Parl.uargs u = us := by
    rcases hu with ⟨_, rfl, rfl⟩ | ⟨_, rfl⟩ <;> rfl
  have hnu : ∀ M, Parl.namesU M u = us.foldl Parl.namesU M := fun M => by
    rcases hu with ⟨_, rfl, rfl⟩ | ⟨_, rfl⟩ <;> rw [Parl.namesU_n]
  have hlf : ∀ M ao cap, LeafV M ⟨d.k, d.val, d.tx, ao, us.length, cap⟩ u := fun M ao cap => by
    rcases hu with ⟨q, rfl, rfl⟩ | ⟨q, rfl⟩
    · exact Or.inl ⟨rfl, q, rfl, rfl, rfl⟩
    · exact Or.inr ⟨rfl, q, rfl, rfl, by rw [← hul]; exact od.few⟩
  have LA := hide (fun W (hb : Below w.heap.size w W) => label_g W sb so cs T D no nc n (fr n) k d (h.below hb) hk' hd)
  have AG := hide (fun W (hb : Below w.heap.size w W) => args_g W sb so cs T D no nc n (fr n) k d (h.below hb) hk' hd)
  have HAR := hide (show ∀ W R, ArgsG W D R → RowG W d.ao d.args from fun W R q => q.row md)
  have HIN := hide od.inn
  have HTS := hide hts
  have HSZ := hide hsz
  have HS := hide hs
  have HL := hide hl
  have HUA := hide hua
  have HNU := hide hnu
  have HLF := hide hlf
  have HN := hide hn
  have HST := hide h
  have HARG := hide har
  have HOK := hide hok
  have I := hide IH
  have hfew := od.few
  have HT1 := hide hT1
  have HT2 := hide hT2
  obtain ⟨i0', hi, hz0, hz1, hz2⟩ := info_parts Tryd.info52
  obtain ⟨dk, val, tx, cnt, ao, cap, xs, nx, mrk⟩ := d
  dsimp only at hk LA AG HAR HIN HTS hul hfew HLF
  have t1 : (dk == 1) = false := by simpa using hk
  have HUL := hide hul
  clear h hok hn har hnl hd od md hk' hk hts hu hsz hua hnu hlf hs hl IH hul hT1 hT2
  go_enter Tryd.func28, Tryd.ntmps28
  go_wp2_with fail
  refine (unhide LA _ ((Below.refl _ _).alloc (Nat.le_refl _) _)).mono ?_
  rintro e w1 ⟨rfl, hb1⟩
  have HB1 := hide ((((Below.refl w.heap.size w).alloc (Nat.le_refl _) (.cells #[.int .i64 0, .int .i64 0, .string ⟨#[]⟩, .slice none 0 0] 52)).trans (hb1.mono (by simp))).alloc (by have := hb1.size; simp at this; omega) (.cells #[.int .i64 dk, .int .i64 val, .string tx, .int .i64 (cnt : Int)] 92))
  have r0 := hb1.block w.heap.size (by simp)
  have r1 := r0.trans (heap_alloc_new w _)
  have z1 : w.heap.size < w1.heap.size := blk_lt r1
  have hB4 : Below w.heap.size w ((w1.alloc (.cells #[.int .i64 dk, .int .i64 val, .string tx, .int .i64 (cnt : Int)] 92)).alloc (.cells #[.int .i64 dk, .int .i64 val, .string tx, .slice none 0 0] 52)) := (unhide HB1).alloc (by simp; omega) _
  have e4 := heap_alloc_new (w1.alloc (.cells #[.int .i64 dk, .int .i64 val, .string tx, .int .i64 (cnt : Int)] 92)) (.cells #[.int .i64 dk, .int .i64 val, .string tx, .slice none 0 0] 52)
  rw [World.size_alloc] at e4
  have HLL := hide (show LTre w sb so cs T D no nc (w1.heap.size + 1) nb N mo s us (.int .i64 dk) (.int .i64 val) (.string tx) us.length (.int .i64 0) ((w1.alloc (.cells #[.int .i64 dk, .int .i64 val, .string tx, .int .i64 (cnt : Int)] 92)).alloc (.cells #[.int .i64 dk, .int .i64 val, .string tx, .slice none 0 0] 52)) from
    ⟨0, N, mo, mc, .slice none 0 0, [], by omega, rfl, (unhide HN).below hB4, rfl, FrG.of_below hB4, blk_alloc (blk_alloc r1 _) _, e4, World.ownsRow_nil _ _ _ _, trivial, (unhide HST).below hB4, (unhide HARG).below hB4⟩)
  have HB4 := hide hB4
  clear hb1 r0 r1 hB4 e4
  go_wp2_with fail
  refine (unhide AG _ (unhide HB4)).mono ?_
  rintro e w2 ⟨rfl, rfl⟩
  have HXU := hide (show xs.length = us.length from unhide HUL)
  go_wp2_with fail
  go_loopg [37] us.length (fun k iv wr => LTre w sb so cs T D no nc (w1.heap.size + 1) nb N mo s us (.int .i64 dk) (.int .i64 val) (.string tx) k iv wr)
  case atStart => exact unhide HLL
  case round =>
    clear HLL
    obtain ⟨j, N1, mo1, mc1, av, vs, hkj, rfl, hnm, hnn, hfr, hbz, hbt, how, hall, hst, har⟩ := hrel
    obtain ⟨oo, cp, rfl⟩ := own_shapeT how
    have z2 := blk_lt hbt
    by_cases hlt : j < us.length
    · have hltx : j < xs.length := by have := unhide HXU; omega
      obtain ⟨gx, ex, zx, cx⟩ := (unhide HAR wr _ har).at hltx
      subst ex
      have hsj : Parl.size us[j] ≤ Parl.sizeL us := Parl.sizeL_mem (List.getElem_mem hlt)
      have hN1 : N1.length ≤ N.length + Parl.sizeL (us.take j) := by
        have := Parl.foldU_len (us.take j) (Parl.vrs N)
        rw [← hnn, Parl.vrs_len, Parl.vrs_len] at this
        exact this
      have hsn : Parl.sizeL (us.take (j + 1)) = Parl.sizeL (us.take j) + Parl.size us[j] := by
        rw [List.take_add_one, List.getElem?_eq_getElem hlt]
        exact sizeL_snoc _ _
      have hle := sizeL_take us (j + 1)
      have IC := hide (unhide I wr sb so cs T D no nc fr xs[j] us[j] nb N1 mo1 mc1 hst (unhide HT1) (unhide HT2) (unhide HOK) hnm har (unhide HIN _ (List.getElem_mem hltx)) (unhide HTS j _ _ (List.getElem?_eq_getElem hltx) (List.getElem?_eq_getElem hlt)) (by have := unhide HSZ; have := unhide HS; omega) (by have := unhide HSZ; have := unhide HL; omega))
      have HNN := hide (show (us.take (j + 1)).foldl Parl.namesU (Parl.vrs N) = Parl.namesU (Parl.vrs N1) us[j] by rw [List.take_add_one, List.getElem?_eq_getElem hlt, List.foldl_append, hnn]; rfl)
      have HTK := hide (show us.take (j + 1) = us.take j ++ [us[j]] by rw [List.take_add_one, List.getElem?_eq_getElem hlt]; rfl)
      have HKJ := hide hkj
      have HLT := hide hlt
      have HNM := hide hnm
      have HFR := hide hfr
      have HBZ := hide hbz
      have HBT := hide hbt
      have HOW := hide how
      have HALL := hide hall
      have HST1 := hide hst
      have HARG1 := hide har
      have j0 : (0 : Int) ≤ (j : Int) := by omega
      have j1 : (j : Int) < (xs.length : Int) := by omega
      have j3 : j ≤ 3 := by omega
      generalize xs[j] = na at *
      generalize us[j] = uj at *
      clear hnm hnn hfr hbz hbt how hall hst har hsj hN1 hsn hle hltx hkj hlt
      go_wp2_with fail
      refine (unhide IC).mono ?_
      rintro e w2 ⟨a2, N2, mo2, mc2, rfl, hn2, hv2, hr2, hf2⟩
      have q0 := (hf2.block w.heap.size (blk_lt (unhide HBZ)) ((unhide HNM).apart (unhide HBZ) (by decide) (by decide))).trans (unhide HBZ)
      have q2 := (hf2.block (w1.heap.size + 1) (blk_lt (unhide HBT)) ((unhide HNM).apart (unhide HBT) (by decide) (by decide))).trans (unhide HBT)
      have HO2 := hide (own_keepG (unhide HOW) (fun g q => hf2.block g ((unhide HOW).lt g q).2 (by
        rcases (unhide HOW).2 with ⟨c, _⟩ | ⟨g', cp', cur, c, _, hc, _⟩
        · rw [c] at q; simp [Value.ownBlock] at q
        · rw [c] at q
          simp [Value.ownBlock] at q
          subst q
          exact (unhide HNM).apart hc (by decide) (by decide))))
      have y2 := blkA q2
      have yz2 := blk_lt q2
      have HQ0 := hide q0
      have HQ2 := hide q2
      have HN2 := hide hn2
      have HV2 := hide hv2
      have HR2 := hide hr2
      have HF2 := hide hf2
      have hz2' := hf2.size
      have hzw : w.heap.size < w1.heap.size + 1 := by omega
      clear q0 q2 hn2 hv2 hr2 hf2 IC
      go_wp2_with (first | (at_builtin; go_must (refine wpList_append_own_at _ rfl (.tmp 46) (.tmp 48) 50 rfl (w1.heap.size + 1 + 1) 52 i0' (.agg #[.int .i64 0, .int .i64 0, .string ⟨#[]⟩, .slice none 0 0]) 4 56 Tryd.underlying50 hi hz0 hz1 hz2 rfl (by decide) _ j (vs.flatMap avC) rfl (((unhide HO2).alloc _).alloc _) ⟨w2.heap.size + 1, 0, none⟩ 1 1 [.int .i64 a2.k, .int .i64 a2.val, .string a2.tx, .slice a2.ao a2.n a2.cap] rfl rfl (new_four _ _ _ _ _ _ _) (four_one _ _ _ _ _ _) (by unfold maxLen; omega) (by omega) (by simp; omega) ?_); go_must (intro v' w7 hown' hgrow _ hat; obtain ⟨g', cap', hv, hcm⟩ := own_some hown'; subst hv; have HAT := hide (show (Value.slice (some ⟨g', 0, none⟩) (j + 1) cap').ownBlock = (Value.slice oo j cp).ownBlock ∨ (Value.slice (some ⟨g', 0, none⟩) (j + 1) cap').ownBlock = some _ from hat); have HG := hide (show _ from hgrow); have HOWN7 := hide hown'; have HB7 := hide ((((Below.refl (w1.heap.size + 1 + 1) w2).alloc (by omega) (.cells #[.int .i64 a2.k, .int .i64 a2.val, .string a2.tx, .slice a2.ao a2.n a2.cap] 52)).alloc (by simp; omega) (.cells #[.int .i64 a2.k, .int .i64 a2.val, .string a2.tx, .slice a2.ao a2.n a2.cap] 52)).grown hgrow (by simp; omega) (fun k q => ((unhide HO2).lt k q).1)); have q7 := ((unhide HB7).block (w1.heap.size + 1) (by omega)).trans (unhide HQ2); have HQ7 := hide q7; have z7 := blkA q7; have zx7 := blkX q7; have zz7 := blk_lt q7; clear hown' hgrow hat q7)))
      obtain ⟨M, hM⟩ := Parl.namesU_ext uj (Parl.vrs N1)
      have HR7 := hide (tre_next (unhide HNM) (unhide HALL) (unhide HR2) ((unhide HV2).trans hM) (unhide HF2) z2 (fun k q => (unhide HOW).lt k q) (unhide HG) (unhide HAT) (.slice (some ⟨g', 0, none⟩) (j + 1) cap'))
      clear hM
      go_roundg (gk - 1)
      case measure => have := unhide HKJ; have := unhide HLT; omega
      case rel =>
        have hG := unhide HG
        have hgz := hG.size
        simp only [World.size_alloc] at hgz
        have keepN : ∀ g, g < w2.heap.size → (∀ p, oo = some p → g ≠ p.block) → g ≠ w1.heap.size + 1 → (w7.setCell ⟨w1.heap.size + 1, 3, none⟩ (.slice (some ⟨g', 0, none⟩) (j + 1) cap')).heap[g]? = w2.heap[g]? := fun g h1 h2 h3 => by
          rw [hset _ _ _ _ h3, hG.block g (by simp; omega) (own_free h2), Below.heap_alloc _ _ _ (by simp; omega), Below.heap_alloc _ _ _ h1]
        have oty : ∀ (g : Nat) (xs : Array Value) (S : TypeId), w2.heap[g]? = some (.cells xs S (0, 0)) → S ≠ 52 → ∀ p, oo = some p → g ≠ p.block := fun g xs S hg hS p hp e => by
          rcases (unhide HO2).2 with ⟨c, _⟩ | ⟨g'', cp', cur, c, _, hc, _⟩
          · rw [hp] at c; cases c
          · simp only [Value.slice.injEq] at c
            rw [hp] at c
            obtain ⟨c, _⟩ := c
            cases c
            dsimp only at e
            subst e
            rw [hc] at hg
            simp only [Option.some.injEq, Obj.cells.injEq] at hg
            exact hS hg.2.1.symm
        have tyT : ∀ (g : Nat) (xs : Array Value) (S : TypeId), w2.heap[g]? = some (.cells xs S (0, 0)) → S ≠ 52 → (w7.setCell ⟨w1.heap.size + 1, 3, none⟩ (.slice (some ⟨g', 0, none⟩) (j + 1) cap')).heap[g]? = w2.heap[g]? := fun g xs S hg hS => keepN g (blk_lt hg) (oty g xs S hg hS) (fun e => by
          subst e
          rw [unhide HQ2] at hg
          simp only [Option.some.injEq, Obj.cells.injEq] at hg
          exact hS hg.2.1.symm)
        have hB7 := unhide HB7
        have lowO : ∀ p, oo = some p → w1.heap.size + 1 + 1 ≤ p.block := fun p q => ((unhide HO2).lt p.block (by rw [q]; rfl)).1
        refine ⟨j + 1, N2, mo2, mc2, .slice (some ⟨g', 0, none⟩) (j + 1) cap', vs ++ [a2], by have := unhide HKJ; have := unhide HLT; omega, by go_num, ⟨(tyT _ _ _ (unhide HN2).blk (by decide)).trans (unhide HN2).blk, own_keepG (unhide HN2).own fun g q => ?_⟩, (unhide HV2).trans (unhide HNN).symm, ?_, ?_, ?_, ?_, ?_, ?_, ?_⟩
        · rcases (unhide HN2).own.2 with ⟨c, _⟩ | ⟨g'', cp', cur, c, _, hc, _⟩
          · rw [c] at q; simp [Value.ownBlock] at q
          · rw [c] at q
            simp [Value.ownBlock] at q
            subst q
            exact tyT _ _ _ hc (by decide)
        · have q := (unhide HFR).trans (unhide HF2)
          refine ⟨hG.os.trans q.os, hG.tape.trans q.tape, hG.output.trans q.output, by rw [zset]; have := q.size; omega, fun k hk hr => ?_, q.row⟩
          rw [keepN k (by have := q.size; omega) (fun p hp e => by have := lowO p hp; omega) (by omega)]
          exact q.block k hk hr
        · exact blk_other ((hB7.block _ (by omega)).trans (unhide HQ0)) (by omega) _ _
        · have := blk_set (unhide HQ7) 3 (.slice (some ⟨g', 0, none⟩) (j + 1) cap')
          simpa using this
        · have := own_keepG (unhide HOWN7) (w' := w7.setCell ⟨w1.heap.size + 1, 3, none⟩ (.slice (some ⟨g', 0, none⟩) (j + 1) cap')) (fun k q => hset _ _ _ _ (by have := ((unhide HOWN7).lt k q).1; omega))
          rw [List.flatMap_append]
          simpa [avC] using this
        · rw [unhide HTK]
          exact unhide HR7
        · have hs2 := (unhide HST1).frn (unhide HNM) (unhide HT1) (unhide HT2) (unhide HF2)
          refine ⟨?_, hs2.cel, own_keepG hs2.own fun g q => ?_, hs2.ty⟩
          · by_cases hTT : T = 52
            · have hlt1 := blk_lt (unhide HST).blk
              exact (hset _ _ _ _ (by omega)).trans ((hG.block sb (by have := blk_lt hs2.blk; simp; omega) (own_free fun p hp e => by have := lowO p hp; omega)).trans ((Below.heap_alloc _ _ _ (by have := blk_lt hs2.blk; simp; omega)).trans ((Below.heap_alloc _ _ _ (blk_lt hs2.blk)).trans hs2.blk)))
            · exact (tyT _ _ _ hs2.blk hTT).trans hs2.blk
          · rcases hs2.own.2 with ⟨c, _⟩ | ⟨g'', cp', cur, c, _, hc, _⟩
            · rw [c] at q; simp [Value.ownBlock] at q
            · rw [c] at q
              simp [Value.ownBlock] at q
              subst q
              exact tyT _ _ _ hc (by decide)
        · exact ((unhide HARG1).frn (unhide HF2)).keep fun g cs hp hc => ⟨(tyT _ _ _ hc (by decide)).trans hc, hp⟩
    · obtain rfl : j = us.length := by omega
      rw [List.take_length] at hall hnn
      have hxu : xs.length = us.length := unhide HXU
      have hrv : RV (s + 1) (Parl.vrs N1) (fun g => w.heap.size < g) wr ⟨dk, val, tx, oo, us.length, cp⟩ u := by
        refine ⟨unhide HLF _ _ _, fun q => ?_⟩
        rw [unhide HUA] at q ⊢
        rcases how.2 with ⟨_, h0⟩ | ⟨g, cap', cur, q1, hb, hc, _, _, _, ht⟩
        · exact absurd (List.length_eq_zero_iff.1 h0) q
        · simp only [Value.slice.injEq] at q1
          obtain ⟨rfl, _, rfl⟩ := q1
          exact ⟨g, vs, cur, rfl, by omega, hc, by rw [hall.length]; exact ht, hall.imp fun _ _ r => r.keep fun k cs hp hc' => ⟨hc', by omega⟩⟩
      have r1 := blkA hbz
      have x1 := blkX hbz
      have y1 := blk_lt hbz
      have r2 := blkA hbt
      have HRV := hide hrv
      have HNM := hide hnm
      have HNN := hide hnn
      have HFR := hide hfr
      have HBZ := hide hbz
      have HBT := hide hbt
      clear hnm hnn hfr hbt how hall hst har hkj hrv hbz
      rw [← hxu]
      go_wp2_with fail
      rw [hxu]
      refine bodyPost_ret (v := .agg #[.int .i64 dk, .int .i64 val, .string tx, .slice oo us.length cp]) (by simp [results, Tryd.results28, go_sem, r1]) rfl ?_
      have hkeep : ∀ g, g ≠ w.heap.size → ((((wr.setCell ⟨w.heap.size, 0, none⟩ (.int .i64 dk)).setCell ⟨w.heap.size, 1, none⟩ (.int .i64 val)).setCell ⟨w.heap.size, 2, none⟩ (.string tx)).setCell ⟨w.heap.size, 3, none⟩ (.slice oo us.length cp)).heap[g]? = wr.heap[g]? := fun g hg => by rw [hset _ _ _ _ hg, hset _ _ _ _ hg, hset _ _ _ _ hg, hset _ _ _ _ hg]
      have hnoz : ¬ rowsN nb mo1 w.heap.size := (unhide HNM).apart (unhide HBZ) (by decide) (by decide)
      have hne : nb ≠ w.heap.size := by have := blk_lt (unhide HN).blk; omega
      refine ⟨⟨dk, val, tx, oo, us.length, cp⟩, N1, mo1, mc1, rfl, ⟨(hkeep nb hne).trans (unhide HNM).blk, own_keepG (unhide HNM).own (fun g q => hkeep g fun e => ?_)⟩, by rw [unhide HNU]; exact unhide HNN, ?_, ?_⟩
      · subst e
        exact hnoz (Or.inr (by
          cases mo1 with
          | none => simp [Value.ownBlock] at q
          | some a => simp [Value.ownBlock] at q; exact ⟨a, rfl, q.symm⟩))
      · exact (unhide HRV).keep (fun g cs hp hc => ⟨(hkeep g (by omega)).trans hc, by omega⟩)
      · have q := unhide HFR
        refine ⟨q.os, q.tape, q.output, by simp only [zset]; exact q.size, fun k hk hr => ?_, q.row⟩
        rw [hkeep k (by omega)]
        exact q.block k hk hr
theorem tree_all : ∀ s, TreeSaid s
  | 0 => fun _ _ _ _ _ _ _ _ _ _ u _ _ _ _ _ _ _ _ _ _ _ _ hs _ => absurd hs (by have := Parl.size_pos u; omega)
  | s + 1 => fun w sb so cs T D no nc fr n u nb N mo mc h hT1 hT2 hok hn har hnl ht hs hl => by
    obtain ⟨d, us, hd, od, md, hul, hts, hu⟩ := tr_parts hok hnl ht
    rcases hu with ⟨hk, rfl, rfl⟩ | hu
    · exact tree_var s w sb so cs T D no nc fr n d nb N mo mc h hT1 hT2 hok hn hnl hd hk (by simpa [Parl.size] using hl)
    · have hk : d.k ≠ 1 := by rcases hu with ⟨q, _⟩ | ⟨q, _⟩ <;> omega
      exact tree_name (tree_all s) w sb so cs T D no nc fr n u us d nb N mo mc h hT1 hT2 hok hn har hnl hd od md hk hul hts hu hs hl
end Go.Proofs.YthfjnfcekeknlaaDoor
namespace Go.Proofs.YthfjnfcekeknlaaDoor
open Go.RowKit

/-- The scope lies there. -/
structure ScB (w : World) (cb : Nat) (V : List Nat) (vo : Option Addr) (vc : Nat) : Prop where
  blk : w.heap[cb]? = some (.cells #[.slice vo V.length vc] 63 (0, 0))
  own : w.ownsRow 0 3 1 (.slice vo V.length vc) V.length (V.map intV)
/-- The rows that grow. -/
def rowsC (sb : Nat) (no : Option Addr) (cb : Nat) (vo : Option Addr) (k : Nat) : Prop := k = sb ∨ rowOf no k ∨ k = cb ∨ rowOf vo k
/-- The store and the scope lie there; P: the rows that may be arguments'. -/
structure AdB (P : Nat → Prop) (w : World) (sb so : Nat) (cs : Array Value) (T : TypeId) (cb : Nat) (D : List Ng) (V : List Nat) (no : Option Addr) (nc : Nat) (vo : Option Addr) (vc : Nat) : Prop where
  st : StG w sb so cs T D no nc
  sc : ScB w cb V vo vc
  t1 : T ≠ 63
  t2 : T ≠ 3
  args : ArgsG w D fun g => P g ∧ ¬ rowOf vo g
theorem row_ty {w : World} {b : Nat} {S S' : TypeId} {sz : Nat} {o : Option Addr} {n cap : Nat} {xs : List Value} (h : w.ownsRow b S sz (.slice o n cap) n xs) {g : Nat} {ys : Array Value} (hg : w.heap[g]? = some (.cells ys S' (0, 0))) (hne : S' ≠ S) : ¬ rowOf o g := by
  rintro ⟨p, rfl, rfl⟩
  rcases h.2 with ⟨c, _⟩ | ⟨g, cp, cur, c, _, hc, _⟩
  · cases c
  · simp only [Value.slice.injEq, Option.some.injEq] at c
    obtain ⟨rfl, _⟩ := c
    rw [hc] at hg
    simp only [Option.some.injEq, Obj.cells.injEq] at hg
    exact hne hg.2.1.symm
theorem own_row {o : Option Addr} {n cap g : Nat} (q : (Value.slice o n cap).ownBlock = some g) : rowOf o g := by
  cases o with
  | none => simp [Value.ownBlock] at q
  | some a => simp [Value.ownBlock] at q; exact ⟨a, rfl, q.symm⟩
theorem row_own {o : Option Addr} {n cap g : Nat} (q : ¬ rowOf o g) : some g ≠ (Value.slice o n cap).ownBlock := own_free fun p hp e => q ⟨p, hp, e⟩
/-- The row's type at its block. -/
theorem own_at_ty {w : World} {b : Nat} {S : TypeId} {sz : Nat} {o : Option Addr} {n cap : Nat} {xs : List Value} (h : w.ownsRow b S sz (.slice o n cap) n xs) {g : Nat} (hg : rowOf o g) : ∃ cur, w.heap[g]? = some (.cells cur S (0, 0)) := by
  obtain ⟨p, rfl, rfl⟩ := hg
  rcases h.2 with ⟨c, _⟩ | ⟨g, cp, cur, c, _, hc, _⟩
  · cases c
  · simp only [Value.slice.injEq, Option.some.injEq] at c
    obtain ⟨rfl, _⟩ := c
    exact ⟨cur, hc⟩
section
variable {P : Nat → Prop} {w : World} {sb so : Nat} {cs : Array Value} {T : TypeId} {cb : Nat} {D : List Ng} {V : List Nat} {no : Option Addr} {nc : Nat} {vo : Option Addr} {vc : Nat}
theorem ScB.below {w' : World} (h : ScB w cb V vo vc) (hb : Below w.heap.size w w') : ScB w' cb V vo vc :=
  ⟨(hb.block cb (blk_lt h.blk)).trans h.blk, own_keepG h.own (fun g q => hb.block g (h.own.lt g q).2)⟩
theorem AdB.below {w' : World} (h : AdB P w sb so cs T cb D V no nc vo vc) (hb : Below w.heap.size w w') : AdB P w' sb so cs T cb D V no nc vo vc :=
  ⟨h.st.below hb, h.sc.below hb, h.t1, h.t2, h.args.below hb⟩
theorem AdB.ne (h : AdB P w sb so cs T cb D V no nc vo vc) : sb ≠ cb := fun e => by
  have h1 := h.st.blk
  rw [e, h.sc.blk] at h1
  simp only [Option.some.injEq, Obj.cells.injEq] at h1
  exact h.t1 h1.2.1.symm
theorem AdB.rows (h : AdB P w sb so cs T cb D V no nc vo vc) : ∀ k, rowsC sb no cb vo k → k < w.heap.size := by
  rintro k (rfl | ⟨p, rfl, rfl⟩ | rfl | ⟨p, rfl, rfl⟩)
  · exact blk_lt h.st.blk
  · exact (h.st.own.lt p.block rfl).2
  · exact blk_lt h.sc.blk
  · exact (h.sc.own.lt p.block rfl).2
/-- A node more. -/
theorem AdB.node {W w1 : World} (h : AdB P w sb so cs T cb D V no nc vo vc) (_hP : ∀ g, w.heap.size ≤ g → P g) (hso : so < cs.size) (hW : Below w.heap.size w W) {g cap' : Nat} {d : Ng}
    (hown : w1.ownsRow 0 95 7 (.slice (some ⟨g, 0, none⟩) (D.length + 1) cap') (D.length + 1) (ngsC D ++ ngC d)) (hg : W.grownBy w1 (Value.slice no D.length nc).ownBlock) (hat : rowOf no g ∨ w.heap.size ≤ g)
    (hd : d.args ≠ [] → ∃ (q : Nat) (xs : Array Value), d.ao = some ⟨q, 0, none⟩ ∧ P q ∧ ¬ rowOf vo q ∧ q < w.heap.size ∧ w.heap[q]? = some (.cells xs 3 (0, 0)) ∧ xs.toList.take d.args.length = d.args.map intV) :
    AdB P (w1.setCell ⟨sb, so, none⟩ (.slice (some ⟨g, 0, none⟩) (D.length + 1) cap')) sb so (cs.setIfInBounds so (.slice (some ⟨g, 0, none⟩) (D.length + 1) cap')) T cb (D ++ [d]) V (some ⟨g, 0, none⟩) cap' vo vc ∧ FrG (rowsC sb no cb vo) (rowsC sb (some ⟨g, 0, none⟩) cb vo) w (w1.setCell ⟨sb, so, none⟩ (.slice (some ⟨g, 0, none⟩) (D.length + 1) cap')) := by
  have hz := hW.size
  have s0 := blk_lt h.st.blk
  have c0 := blk_lt h.sc.blk
  have keep : ∀ k, k < w.heap.size → k ≠ sb → ¬ rowOf no k → (w1.setCell ⟨sb, so, none⟩ (.slice (some ⟨g, 0, none⟩) (D.length + 1) cap')).heap[k]? = w.heap[k]? := fun k h1 h2 h3 => by
    rw [hset _ _ _ _ h2, hg.block k (by omega) (row_own h3), hW.block k h1]
  have nsb : ¬ rowOf no sb := row_ty h.st.own h.st.blk h.st.ty
  have ncb : ¬ rowOf no cb := row_ty h.st.own h.sc.blk (by decide)
  have gsb : g ≠ sb := fun e => by
    rcases hat with q | q
    · exact nsb (e ▸ q)
    · omega
  have row : ∀ k, rowsC sb (some ⟨g, 0, none⟩) cb vo k → rowsC sb no cb vo k ∨ w.heap.size ≤ k := by
    rintro k (e | ⟨p, q, e⟩ | e | e)
    · exact Or.inl (Or.inl e)
    · cases q
      dsimp only at e
      subst e
      rcases hat with q | q
      · exact Or.inl (Or.inr (Or.inl q))
      · exact Or.inr q
    · exact Or.inl (Or.inr (Or.inr (Or.inl e)))
    · exact Or.inl (Or.inr (Or.inr (Or.inr e)))
  have keepT : ∀ (k : Nat) (ys : Array Value) (S : TypeId), w.heap[k]? = some (.cells ys S (0, 0)) → S ≠ T → S ≠ 95 → (w1.setCell ⟨sb, so, none⟩ (.slice (some ⟨g, 0, none⟩) (D.length + 1) cap')).heap[k]? = some (.cells ys S (0, 0)) := fun k ys S hk h1 h2 => (keep k (blk_lt hk) (fun e => by
    rw [e, h.st.blk] at hk
    simp only [Option.some.injEq, Obj.cells.injEq] at hk
    exact h1 hk.2.1.symm) (row_ty h.st.own hk h2)).trans hk
  refine ⟨⟨⟨?_, ?_, ?_, h.st.ty⟩, ⟨keepT cb _ _ h.sc.blk (Ne.symm h.t1) (by decide), own_keepG h.sc.own fun k q => ?_⟩, h.t1, h.t2, ?_⟩, ⟨hg.os.trans hW.os, hg.tape.trans hW.tape, hg.output.trans hW.output, by rw [zset]; have := hg.size; omega, fun k hk hr => keep k hk (fun e => hr (Or.inl e)) (fun q => hr (Or.inr (Or.inl q))), row⟩⟩
  · have q0 : w1.heap[sb]? = some (.cells cs T (0, 0)) := by
      rw [hg.block sb (by omega) (row_own nsb), hW.block sb s0]
      exact h.st.blk
    exact blk_set q0 so _
  · rw [Array.getElem?_setIfInBounds, if_pos rfl, if_pos hso]
    simp
  · rw [ngsC_more, List.length_append]
    exact own_keepG hown (fun k q => hset _ _ _ _ (by simp [Value.ownBlock] at q; omega))
  · obtain ⟨cur, hc⟩ := own_at_ty h.sc.own (own_row q)
    exact (keepT k _ _ hc (Ne.symm h.t2) (by decide)).trans hc.symm
  · intro d' hd' hne
    rcases List.mem_append.1 hd' with q | q
    · obtain ⟨r, xs, h1, h2, h3, h4⟩ := h.args d' q hne
      exact ⟨r, xs, h1, h2, keepT r _ _ h3 (Ne.symm h.t2) (by decide), h4⟩
    · obtain rfl : d' = d := by simpa using q
      obtain ⟨r, xs, h1, h2, h3, h4, h5, h6⟩ := hd hne
      exact ⟨r, xs, h1, ⟨h2, h3⟩, keepT r _ _ h5 (Ne.symm h.t2) (by decide), h6⟩
/-- A variable more. -/
theorem AdB.vari {W w1 : World} (h : AdB P w sb so cs T cb D V no nc vo vc) (hW : Below w.heap.size w W) {g cap' n : Nat}
    (hown : w1.ownsRow 0 3 1 (.slice (some ⟨g, 0, none⟩) (V.length + 1) cap') (V.length + 1) (V.map intV ++ [intV n])) (hg : W.grownBy w1 (Value.slice vo V.length vc).ownBlock) (hat : rowOf vo g ∨ w.heap.size ≤ g) :
    AdB P (w1.setCell ⟨cb, 0, none⟩ (.slice (some ⟨g, 0, none⟩) (V.length + 1) cap')) sb so cs T cb D (V ++ [n]) no nc (some ⟨g, 0, none⟩) cap' ∧ FrG (rowsC sb no cb vo) (rowsC sb no cb (some ⟨g, 0, none⟩)) w (w1.setCell ⟨cb, 0, none⟩ (.slice (some ⟨g, 0, none⟩) (V.length + 1) cap')) := by
  have hz := hW.size
  have s0 := blk_lt h.st.blk
  have c0 := blk_lt h.sc.blk
  have keep : ∀ k, k < w.heap.size → k ≠ cb → ¬ rowOf vo k → (w1.setCell ⟨cb, 0, none⟩ (.slice (some ⟨g, 0, none⟩) (V.length + 1) cap')).heap[k]? = w.heap[k]? := fun k h1 h2 h3 => by
    rw [hset _ _ _ _ h2, hg.block k (by omega) (row_own h3), hW.block k h1]
  have ncb : ¬ rowOf vo cb := row_ty h.sc.own h.sc.blk (by decide)
  have gcb : g ≠ cb := fun e => by
    rcases hat with q | q
    · exact ncb (e ▸ q)
    · omega
  have row : ∀ k, rowsC sb no cb (some ⟨g, 0, none⟩) k → rowsC sb no cb vo k ∨ w.heap.size ≤ k := by
    rintro k (e | e | e | ⟨p, q, e⟩)
    · exact Or.inl (Or.inl e)
    · exact Or.inl (Or.inr (Or.inl e))
    · exact Or.inl (Or.inr (Or.inr (Or.inl e)))
    · cases q
      dsimp only at e
      subst e
      rcases hat with q | q
      · exact Or.inl (Or.inr (Or.inr (Or.inr q)))
      · exact Or.inr q
  have keepT : ∀ (k : Nat) (ys : Array Value) (S : TypeId), w.heap[k]? = some (.cells ys S (0, 0)) → S ≠ 63 → S ≠ 3 → (w1.setCell ⟨cb, 0, none⟩ (.slice (some ⟨g, 0, none⟩) (V.length + 1) cap')).heap[k]? = some (.cells ys S (0, 0)) := fun k ys S hk h1 h2 => (keep k (blk_lt hk) (fun e => by
    rw [e, h.sc.blk] at hk
    simp only [Option.some.injEq, Obj.cells.injEq] at hk
    exact h1 hk.2.1.symm) (row_ty h.sc.own hk h2)).trans hk
  refine ⟨⟨⟨keepT sb _ _ h.st.blk h.t1 h.t2, h.st.cel, own_keepG h.st.own fun k q => ?_, h.st.ty⟩, ⟨?_, ?_⟩, h.t1, h.t2, ?_⟩, ⟨hg.os.trans hW.os, hg.tape.trans hW.tape, hg.output.trans hW.output, by rw [zset]; have := hg.size; omega, fun k hk hr => keep k hk (fun e => hr (Or.inr (Or.inr (Or.inl e)))) (fun q => hr (Or.inr (Or.inr (Or.inr q)))), row⟩⟩
  · obtain ⟨cur, hc⟩ := own_at_ty h.st.own (own_row q)
    exact (keepT k _ _ hc (by decide) (by decide)).trans hc.symm
  · have q0 : w1.heap[cb]? = some (.cells #[.slice vo V.length vc] 63 (0, 0)) := by
      rw [hg.block cb (by omega) (row_own ncb), hW.block cb c0]
      exact h.sc.blk
    have := blk_set q0 0 (.slice (some ⟨g, 0, none⟩) (V.length + 1) cap')
    simpa using this
  · rw [List.length_append, List.map_append]
    exact own_keepG hown (fun k q => hset _ _ _ _ (by simp [Value.ownBlock] at q; omega))
  · intro d' hd' hne
    obtain ⟨r, xs, h1, ⟨h2, h2'⟩, h3, h4⟩ := h.args d' hd' hne
    refine ⟨r, xs, h1, ⟨h2, ?_⟩, (keep r (blk_lt h3) (fun e => by
      rw [e, h.sc.blk] at h3
      simp only [Option.some.injEq, Obj.cells.injEq] at h3
      exact absurd h3.2.1 (by decide)) h2').trans h3, h4⟩
    rintro ⟨p, q, e⟩
    cases q
    dsimp only at e
    subst e
    rcases hat with q | q
    · exact h2' q
    · have := blk_lt h3; omega
end
end Go.Proofs.YthfjnfcekeknlaaDoor
namespace Go.Proofs.YthfjnfcekeknlaaDoor
open Go.RowKit

set_option maxHeartbeats 1000000 in
theorem var_old_g (w : World) (sb so cb : Nat) (V : List Nat) (vo : Option Addr) (vc : Nat) (i : Nat) (h : ScB w cb V vo vc) (hi : i < V.length) :
    Calls Tryd.prog 42 #[.pointer (some ⟨sb, so, none⟩), .int .i64 (i : Int), .pointer (some ⟨cb, 0, none⟩)] w fun e w' => e = .returned (intV V[i]) ∧ w' = w := by
  have c0 := blkA h.blk 0
  have cz := blk_lt h.blk
  simp only [List.getElem?_toArray, List.getElem?_cons_zero] at c0
  obtain ⟨g, hg⟩ : ∃ g, vo = some ⟨g, 0, none⟩ := by
    rcases h.own.2 with ⟨q, q2⟩ | ⟨g, cp, cur, q, _⟩
    · omega
    · simp only [Value.slice.injEq] at q
      exact ⟨g, q.1⟩
  subst hg
  have f0 : w.cell? ⟨g, i, none⟩ = some (.int .i64 (V[i] : Int)) := by
    rw [h.own.cellAt i (by omega), List.getElem?_map, List.getElem?_eq_getElem hi]
    rfl
  have gz := (h.own.lt g rfl).2
  have i0 : (0 : Int) ≤ (i : Int) := by omega
  have i1 : (i : Int) < (V.length : Int) := by omega
  have t1 : decide ((V.length : Int) ≤ (i : Int)) = false := by simp; omega
  have t2 : decide ((i : Int) < 0) = false := by simp
  clear h
  generalize V[i] = n at *
  go_enter Tryd.func42, Tryd.ntmps42
  go_wp2_with fail
  refine wp_loop_rounds 1 ?_
  rw [rounds_succ]
  go_wp2_with fail
  go_ret
  exact ⟨rfl, rfl⟩
/-- A new variable's node. -/
def varN (n : Nat) : Ng := ⟨1, 0, ⟨#[]⟩, 0, none, 0, [], n, 0⟩
set_option maxHeartbeats 4000000 in
set_option maxRecDepth 100000 in
theorem var_new_g (P : Nat → Prop) (w : World) (sb so : Nat) (cs : Array Value) (T : TypeId) (cb : Nat) (D : List Ng) (V : List Nat) (no : Option Addr) (nc : Nat) (vo : Option Addr) (vc : Nat) (h : AdB P w sb so cs T cb D V no nc vo vc) (hP : ∀ g, w.heap.size ≤ g → P g) (hd : D.length ≤ 1000000000) (hv : V.length ≤ 1000000000) :
    Calls Tryd.prog 42 #[.pointer (some ⟨sb, so, none⟩), .int .i64 (V.length : Int), .pointer (some ⟨cb, 0, none⟩)] w fun e w' => e = .returned (intV D.length) ∧ ∃ no' nc' vo' vc', AdB P w' sb so (cs.setIfInBounds so (.slice no' (D.length + 1) nc')) T cb (D ++ [varN D.length]) (V ++ [D.length]) no' nc' vo' vc' ∧ FrG (rowsC sb no cb vo) (rowsC sb no' cb vo') w w' := by
  obtain ⟨ti, hi, hz0, hz1, hz2⟩ := info_parts infoNd
  obtain ⟨tj, hj, hy0, hy1, hy2⟩ := info_parts infoIn
  have s0 := h.st.cell
  have sz := blk_lt h.st.blk
  have c0 := blkA h.sc.blk 0
  have cz := blk_lt h.sc.blk
  simp only [List.getElem?_toArray, List.getElem?_cons_zero] at c0
  have hne := h.ne
  have hso : so < cs.size := by
    have := h.st.cel
    exact (Array.getElem?_eq_some_iff.1 this).1
  have H := hide h
  have HP := hide hP
  have HSO := hide hso
  have t1 : decide ((V.length : Int) ≤ (V.length : Int)) = true := by simp
  have t2 : decide ((V.length : Int) < 0) = false := by simp
  have t3 : decide ((V.length : Int) + 1 ≤ (V.length : Int)) = false := by simp; omega
  have i0 : (0 : Int) ≤ (V.length : Int) := by omega
  have i1 : (V.length : Int) < (V.length : Int) + 1 := by omega
  have n1 : sb ≠ cb := hne
  have n2 : cb ≠ sb := Ne.symm hne
  have HNS := hide (show some sb ≠ (Value.slice no D.length nc).ownBlock from row_own (row_ty h.st.own h.st.blk h.st.ty))
  have HNC := hide (show some cb ≠ (Value.slice no D.length nc).ownBlock from row_own (row_ty h.st.own h.sc.blk (by decide)))
  have HNC2 := hide (show some cb ≠ (Value.slice vo V.length vc).ownBlock from row_own (row_ty h.sc.own h.sc.blk (by decide)))
  clear h hP hso
  go_enter Tryd.func42, Tryd.ntmps42
  go_wp2_with fail
  refine wp_loop_rounds 2 ?_
  rw [rounds_succ]
  go_wp2_with (first | (at_builtin; go_loud ((refine wpList_append_own_at _ rfl (.tmp 36) (.tmp 38) 22 rfl 0 3 tj (.int .i64 0) 1 8 Tryd.underlying22 hj hy0 hy1 hy2 rfl (by decide) _ V.length (V.map intV) rfl ((unhide HN).1.sc.own.alloc _) ⟨w7.heap.size, 0, none⟩ 1 1 [.int .i64 (D.length : Int)] rfl rfl (new1T _ _ _ _ (by rw [zset])) (by simp [Value.oneCell']) (by unfold maxLen; omega) (by omega) (Nat.zero_le _) ?_); (intro v2 w9 hown2 hgrow2 _ hat2; obtain ⟨g2, cap2, hv2, -⟩ := own_some hown2; subst hv2; have HM := hide ((unhide HN).1.vari ((Below.refl _ _).alloc (Nat.le_refl _) _) (n := D.length) hown2 hgrow2 (by rcases hat2 with q | q; exact Or.inl (own_row q.symm); (right; simp only [Value.ownBlock, World.size_alloc, zset, Option.some.injEq] at q ⊢; omega))); have m0 := (hgrow2.cell_far ⟨cb, 0, none⟩ (by simp only [World.size_alloc, zset]; omega) (unhide HNC2)).trans ((World.cell?_alloc_past _ _ _ (by rw [zset]; exact zz7)).trans ((World.cell?_setCell_other _ _ _ _ (by intro e; first | exact n1 (congrArg Addr.block e) | exact n2 (congrArg Addr.block e))).trans k0)); have m1 : w9.frozen? ⟨cb, 0, none⟩ = false := (by have := blkX (unhide HM).1.sc.blk 0; rwa [World.frozen?_setCell] at this); have m2 : w9.cell? ⟨g2, V.length, none⟩ = some (.int .i64 (D.length : Int)) := (hown2.cellAt V.length (by omega)).trans (by simp); have mz := (hown2.lt g2 rfl); have hcw := blk_lt (unhide HM).1.sc.blk; have mne : cb ≠ g2 := (fun e => row_ty (unhide HM).1.sc.own (unhide HM).1.sc.blk (by decide) ⟨_, rfl, e⟩); clear hown2 hgrow2 hat2))) | (at_builtin; go_must (refine wpList_append_own_at _ rfl (.tmp 24) (.tmp 28) 57 rfl 0 95 ti (.agg #[.int .i64 0, .int .i64 0, .string ⟨#[]⟩, .int .i64 0, .slice none 0 0, .int .i64 0, .int .i64 0]) 7 80 Tryd.underlying57 hi hz0 hz1 hz2 rfl (by decide) _ D.length (ngsC D) rfl ((unhide H).st.own.alloc _) ⟨w.heap.size, 0, none⟩ 1 1 [.int .i64 1, .int .i64 0, .string ⟨#[]⟩, .int .i64 0, .slice none 0 0, .int .i64 (D.length : Int), .int .i64 0] rfl rfl (new7T _ _ _ _ _ rfl rfl) (by simp [Value.oneCell']) (by unfold maxLen; omega) (by omega) (Nat.zero_le _) ?_); go_must (intro v' w7 hown' hgrow _ hat; obtain ⟨g', cap', hv', -⟩ := own_some hown'; subst hv'; have HN := hide ((unhide H).node (unhide HP) (unhide HSO) ((Below.refl _ _).alloc (Nat.le_refl _) _) (d := varN D.length) hown' hgrow (by rcases hat with q | q; exact Or.inl (own_row q.symm); (right; simp [Value.ownBlock] at q; omega)) (fun q => absurd rfl q)); have k0 := (hgrow.cell_far ⟨cb, 0, none⟩ (by simp; omega) (unhide HNC)).trans ((World.cell?_alloc_past _ _ _ cz).trans c0); have k1 := (hgrow.cell_far ⟨sb, so, none⟩ (by simp; omega) (unhide HNS)).trans ((World.cell?_alloc_past _ _ _ sz).trans s0);  have k3 : w7.frozen? ⟨sb, so, none⟩ = false := (by have := blkX (unhide HN).1.st.blk so; rwa [World.frozen?_setCell] at this); have zz7 : cb < w7.heap.size := (by have := blk_lt (unhide HN).1.sc.blk; rwa [zset] at this); have zz8 : sb < w7.heap.size := (by have := blk_lt (unhide HN).1.st.blk; rwa [zset] at this); clear hown' hgrow hat)))
  rw [rounds_succ]
  go_wp2_with fail
  go_ret
  exact ⟨rfl, _, _, _, _, (unhide HM).1, (unhide HN).2.trans (unhide HM).2⟩
end Go.Proofs.YthfjnfcekeknlaaDoor
namespace Go.Proofs.YthfjnfcekeknlaaDoor
open Go.RowKit

theorem atAll {α β : Type} {R : α → β → Prop} : ∀ {xs : List α} {ys : List β}, All2 R xs ys → ∀ (i : Nat) (h : i < xs.length) (h' : i < ys.length), R xs[i] ys[i]
  | _ :: _, _ :: _, q, 0, _, _ => q.1
  | _ :: _, _ :: _, q, i + 1, h, h' => atAll q.2 i (by simpa using h) (by simpa using h')
theorem avC_atG {us : List AV} {i : Nat} (h : i < us.length) (j : Nat) (hj : j < 4) : (us.flatMap avC)[i * 4 + j]? = (avC us[i])[j]? := flat_at (F := avC) (c := 4) (fun _ => rfl) h j hj
/-- The node n stands for the term t; N: the term's variables, V: their nodes. -/
def RNg (D : List Ng) (V : List Nat) (N : List (List UInt8)) : Nat → Nat → Parl.Tm → Prop
  | 0, _, _ => False
  | f + 1, n, t => (t.kind = 3 → V[N.idxOf t.text.toList]? = some n) ∧ (t.kind ≠ 3 → ∃ d, D[n]? = some d ∧ d.nx = n ∧ d.k = ak t.kind ∧ (t.kind = 4 → d.val = (Parl.numOf t.text : Int)) ∧ (t.kind = 2 → d.tx = t.text) ∧ All2 (RNg D V N f) d.args t.args)
theorem RNg.more {D E : List Ng} {V F : List Nat} {N : List (List UInt8)} : ∀ {f n : Nat} {t : Parl.Tm}, RNg D V N f n t → RNg (D ++ E) (V ++ F) N f n t
  | f + 1, n, t, ⟨h1, h2⟩ => ⟨fun k => by have := h1 k; rw [List.getElem?_append_left (List.getElem?_eq_some_iff.1 this).1]; exact this, fun k => by
    obtain ⟨d, q1, q2, q3, q4, q5, q6⟩ := h2 k
    exact ⟨d, by rw [List.getElem?_append_left (List.getElem?_eq_some_iff.1 q1).1]; exact q1, q2, q3, q4, q5, q6.imp fun _ _ => RNg.more⟩⟩
/-- The new nodes: each stands for itself, its arguments lie ahead of it. -/
def NewD (b : Nat) (E : List Ng) : Prop := ∀ (i : Nat) (d : Ng), E[i]? = some d → d.nx = b + i ∧ d.mrk = 0 ∧ NdOk (b + i) d ∧ d.tx.size ≤ 240 ∧ 0 ≤ d.val ∧ d.val ≤ 1000000000
theorem NewD.app {b : Nat} {E E2 : List Ng} (h : NewD b E) (h2 : NewD (b + E.length) E2) : NewD b (E ++ E2) := fun i d hd => by
  by_cases q : i < E.length
  · rw [List.getElem?_append_left q] at hd
    exact h i d hd
  · rw [List.getElem?_append_right (by omega)] at hd
    have := h2 _ d hd
    rw [show b + E.length + (i - E.length) = b + i by omega] at this
    exact this
theorem NewD.one {b : Nat} {d : Ng} (h : d.nx = b ∧ d.mrk = 0 ∧ NdOk b d ∧ d.tx.size ≤ 240 ∧ 0 ≤ d.val ∧ d.val ≤ 1000000000) : NewD b [d] := fun i e he => by
  cases i with
  | zero => simp at he; subst he; simpa using h
  | succ i => simp at he
/-- The new variables, in their order. -/
structure NewV (b : Nat) (E : List Ng) (F : List Nat) : Prop where
  var : ∀ n ∈ F, b ≤ n ∧ ∃ d, E[n - b]? = some d ∧ d.k = 1
  ord : F.Pairwise (· < ·)
theorem NewV.app {b : Nat} {E E2 : List Ng} {F F2 : List Nat} (h : NewV b E F) (h2 : NewV (b + E.length) E2 F2) : NewV b (E ++ E2) (F ++ F2) := by
  refine ⟨fun n hn => ?_, ?_⟩
  · rcases List.mem_append.1 hn with q | q
    · obtain ⟨h1, d, h3, h4⟩ := h.var n q
      exact ⟨h1, d, by rw [List.getElem?_append_left (List.getElem?_eq_some_iff.1 h3).1]; exact h3, h4⟩
    · obtain ⟨h1, d, h3, h4⟩ := h2.var n q
      refine ⟨by omega, d, ?_, h4⟩
      rw [List.getElem?_append_right (by omega), show n - b - E.length = n - (b + E.length) by omega]
      exact h3
  · rw [List.pairwise_append]
    refine ⟨h.ord, h2.ord, fun x hx y hy => ?_⟩
    obtain ⟨h1, d, h3, _⟩ := h.var x hx
    obtain ⟨h4, _⟩ := h2.var y hy
    have := (List.getElem?_eq_some_iff.1 h3).1
    omega
theorem NewV.nil (b : Nat) (E : List Ng) : NewV b E [] := ⟨(fun n hn => by cases hn), List.Pairwise.nil⟩
theorem NewV.last {b : Nat} {E : List Ng} {F : List Nat} (h : NewV b E F) (d : Ng) : NewV b (E ++ [d]) F := by
  have := h.app (NewV.nil (b + E.length) [d])
  rwa [List.append_nil] at this
/-- What 'Add' is to leave. -/
def PAg (P : Nat → Prop) (sb so : Nat) (cs : Array Value) (T : TypeId) (cb : Nat) (D : List Ng) (V : List Nat) (no : Option Addr) (vo : Option Addr) (N ns : List (List UInt8)) (f : Nat) (t : Parl.Tm) (w : World) (e : Ending) (w' : World) : Prop :=
  ∃ (n : Nat) (E : List Ng) (F : List Nat) (no' : Option Addr) (nc' : Nat) (vo' : Option Addr) (vc' : Nat), e = .returned (intV n) ∧ AdB P w' sb so (cs.setIfInBounds so (.slice no' (D ++ E).length nc')) T cb (D ++ E) (V ++ F) no' nc' vo' vc' ∧ NewD D.length E ∧ NewV D.length E F ∧ (V ++ F).length = (Parl.namesF f ns t).length ∧ RNg (D ++ E) (V ++ F) N f n t ∧ n < (D ++ E).length ∧ E.length + 1 ≤ 3 ^ f ∧ FrG (rowsC sb no cb vo) (rowsC sb no' cb vo') w w'
def AgSaid (f : Nat) : Prop := ∀ (P : Nat → Prop) (w : World) (sb so : Nat) (cs : Array Value) (T : TypeId) (cb : Nat) (D : List Ng) (V : List Nat) (no : Option Addr) (nc : Nat) (vo : Option Addr) (vc : Nat) (N ns : List (List UInt8)) (Q : Nat → Prop) (a : AV) (t : Parl.Tm), AdB P w sb so cs T cb D V no nc vo vc → (∀ g, w.heap.size ≤ g → P g) → T ≠ 52 → (∀ n ∈ V, n < D.length) → RA f N Q w a t → Parl.wfK f t → V.length = ns.length → (∃ M, N = Parl.namesF f ns t ++ M) → D.length + 3 ^ f ≤ 1000000000 → V.length + 3 ^ f ≤ 1000000000 →
  Calls Tryd.prog 25 #[.pointer (some ⟨sb, so, none⟩), .agg #[.int .i64 a.k, .int .i64 a.val, .string a.tx, .slice a.ao a.n a.cap], .pointer (some ⟨cb, 0, none⟩)] w fun e w' => PAg P sb so cs T cb D V no vo N ns f t w e w'

set_option maxHeartbeats 2000000 in
set_option maxRecDepth 100000 in
theorem ag_var (f : Nat) (P : Nat → Prop) (w : World) (sb so : Nat) (cs : Array Value) (T : TypeId) (cb : Nat) (D : List Ng) (V : List Nat) (no : Option Addr) (nc : Nat) (vo : Option Addr) (vc : Nat) (N ns : List (List UInt8)) (a : AV) (t : Parl.Tm) (h : AdB P w sb so cs T cb D V no nc vo vc) (hP : ∀ g, w.heap.size ≤ g → P g) (hV : ∀ n ∈ V, n < D.length) (ha : LeafA N a t) (_hw : Parl.wfK (f + 1) t) (ka : t.kind = 3) (hv : V.length = ns.length) (hN : ∃ M, N = Parl.namesF (f + 1) ns t ++ M) (hd : D.length + 3 ^ (f + 1) ≤ 1000000000) (hvl : V.length + 3 ^ (f + 1) ≤ 1000000000) :
    Calls Tryd.prog 25 #[.pointer (some ⟨sb, so, none⟩), .agg #[.int .i64 a.k, .int .i64 a.val, .string a.tx, .slice a.ao a.n a.cap], .pointer (some ⟨cb, 0, none⟩)] w fun e w' => PAg P sb so cs T cb D V no vo N ns (f + 1) t w e w' := by
  have hp : 3 ≤ 3 ^ (f + 1) := by rw [Nat.pow_succ]; have : 1 ≤ 3 ^ f := Nat.one_le_pow _ _ (by omega); omega
  have hnf : Parl.namesF (f + 1) ns t = Parl.addN ns t.text.toList := by unfold Parl.namesF; rw [if_pos ka]
  rw [hnf] at hN
  obtain ⟨M, hM⟩ := hN
  obtain ⟨h1, h2, h3, h4, h5, h6, h7, h8⟩ := ha
  obtain ⟨h9, h10⟩ := h3 ka
  obtain ⟨k, val, tx, ao, n, cp⟩ := a
  dsimp only at h1 h2 h10 ⊢
  have e1 : ak t.kind = 1 := by rw [ka]; rfl
  have hB := (Below.refl w.heap.size w).alloc (Nat.le_refl _) (.cells #[.int .i64 k, .int .i64 val, .string tx, .slice ao n cp] 52)
  have HW := hide (h.below hB)
  rw [e1] at h1
  subst h1 h10
  have hcs : ∀ (cs : Array Value) (so : Nat) (v : Value), cs[so]? = some v → cs.setIfInBounds so v = cs := fun cs so v q => by
    apply Array.ext (by simp)
    intro i h1 h2
    rw [Array.getElem_setIfInBounds]
    · split
      · rename_i e
        subst e
        exact (Array.getElem?_eq_some_iff.1 q).2.symm
      · rfl
  by_cases hx : t.text.toList ∈ ns
  · have hidx : N.idxOf t.text.toList = ns.idxOf t.text.toList := by
      rw [hM]
      unfold Parl.addN
      rw [if_pos hx, List.idxOf_append, if_pos hx]
    have hlt : N.idxOf t.text.toList < V.length := by rw [hidx, hv]; exact List.idxOf_lt_length_of_mem hx
    have HI := hide (var_old_g _ sb so cb V vo vc (N.idxOf t.text.toList) (unhide HW).sc hlt)
    have HFIN := hide (show PAg P sb so cs T cb D V no vo N ns (f + 1) t w (.returned (intV V[N.idxOf t.text.toList])) (w.alloc (.cells #[.int .i64 1, .int .i64 (N.idxOf t.text.toList : Int), .string tx, .slice ao n cp] 52)) from by
      refine ⟨V[N.idxOf t.text.toList], [], [], no, nc, vo, vc, rfl, ?_, (fun i d hd => by simp at hd), NewV.nil _ _, ?_, ?_, ?_, by simp; omega, FrG.of_below hB⟩
      · have := hcs cs so _ h.st.cel
        simp only [List.append_nil]
        rw [this]
        exact unhide HW
      · rw [hnf]; unfold Parl.addN; rw [if_pos hx]; simpa using hv
      · exact ⟨fun _ => by simp, fun q => absurd ka q⟩
      · simpa using hV _ (List.getElem_mem hlt))
    clear h hP hV h2 h3 h4 h5 h6 h7 h8 h9 hB hcs
    generalize hix : V[N.idxOf t.text.toList] = m at *
    generalize hjx : N.idxOf t.text.toList = ix at *
    clear hix hjx hidx hv hM
    go_enter Tryd.func25, Tryd.ntmps25
    go_wp2_with fail
    refine (unhide HI).mono ?_
    rintro e w2 ⟨rfl, hw2⟩
    rw [hw2]
    clear hw2 w2
    unfold intV at HFIN ⊢
    go_wp2_with fail
    go_ret
    exact unhide HFIN
  · have hidx : N.idxOf t.text.toList = V.length := by
      rw [hM, hv]
      unfold Parl.addN
      rw [if_neg hx, List.append_assoc, List.idxOf_append, if_neg hx]
      simp
    rw [hidx] at HW hB ⊢
    have HI := hide (var_new_g P _ sb so cs T cb D V no nc vo vc (unhide HW) (fun g q => hP g (by simp at q; omega)) (by omega) (by omega))
    have HFIN := hide (show ∀ w2, (∃ no' nc' vo' vc', AdB P w2 sb so (cs.setIfInBounds so (.slice no' (D.length + 1) nc')) T cb (D ++ [varN D.length]) (V ++ [D.length]) no' nc' vo' vc' ∧ FrG (rowsC sb no cb vo) (rowsC sb no' cb vo') (w.alloc (.cells #[.int .i64 1, .int .i64 (V.length : Int), .string tx, .slice ao n cp] 52)) w2) → PAg P sb so cs T cb D V no vo N ns (f + 1) t w (.returned (intV D.length)) w2 from fun w2 ⟨no', nc', vo', vc', q1, q2⟩ => by
      refine ⟨D.length, [varN D.length], [D.length], no', nc', vo', vc', rfl, by rw [List.length_append]; exact q1, NewD.one ⟨rfl, rfl, ⟨Or.inl rfl, fun _ => ⟨rfl, rfl, rfl, rfl⟩, (fun q => by cases q), (fun q => by cases q), fun a ha => by cases ha⟩, by simp [varN, ByteArray.size], by simp [varN], by simp [varN]⟩, ⟨fun n hn => ?_, by simp⟩, ?_, ?_, by simp, by simp; omega, (FrG.of_below hB).trans q2⟩
      · obtain rfl : n = D.length := by simpa using hn
        exact ⟨Nat.le_refl _, varN D.length, by simp, rfl⟩
      · rw [hnf]; unfold Parl.addN; rw [if_neg hx]; simp [hv]
      · exact ⟨fun _ => by rw [hidx]; simp, fun q => absurd ka q⟩)
    clear h hP hV h2 h3 h4 h5 h6 h7 h8 h9 hidx hv hM hB hcs
    go_enter Tryd.func25, Tryd.ntmps25
    go_wp2_with fail
    refine (unhide HI).mono ?_
    rintro e w2 ⟨rfl, hs2⟩
    have HF := hide (unhide HFIN w2 hs2)
    clear hs2
    unfold intV at HF ⊢
    go_wp2_with fail
    go_ret
    exact unhide HF
end Go.Proofs.YthfjnfcekeknlaaDoor
