import Derived.Test.YthfjnfcekeknlaaGreatDoorC22
import Derived.Test.YthfjnfcekeknlaaGreatDoorC23
namespace Go.Proofs.YthfjnfcekeknlaaGreatDoor
open Go.RowKit

theorem clB_any (w : World) (rb tb cap : Nat) (s : ByteArray) (L : List Parl.Tok) (i : Nat) (p0 : Int) (n : Nat) (h : SB w rb tb cap s L i 0 p0) :
    Calls Tryz.prog 89 #[.pointer (some ⟨rb, 0, none⟩), .int .i64 (n : Int)] w fun e w' => PUniC rb tb cap s L p0 (Parl.clause (decide (n < 12)) (L.drop i)) w e w' := by
  by_cases hn : n < 12
  · rw [show decide (n < 12) = true by simpa using hn]
    by_cases hk : (Parl.hd (L.drop i)).kind = 2
    · rcases hT : Parl.term 8 (L.drop i) with ⟨er, ps⟩ | ⟨t, l1⟩
      · exact clB_term w rb tb cap s L i p0 n h hk hn er ps hT
      · cases hnk : Parl.sees l1 [58, 45]
        · exact clB_fact w rb tb cap s L i p0 n h hk hn t l1 hT hnk
        · rcases hI : Parl.items 5 true true l1.tail with ⟨er, ps⟩ | ⟨⟨xs, t5, g5⟩, l5⟩
          · exact clB_be w rb tb cap s L i p0 n h hk hn t l1 hT hnk er ps hI
          · by_cases hb : t5 = true ∧ Parl.sees l5 [124] = true
            · obtain ⟨rfl, hb⟩ := hb
              rcases hI2 : Parl.items 5 false true l5.tail with ⟨er, ps⟩ | ⟨⟨ys, t9, g9⟩, l9⟩
              · exact clB_br w rb tb cap s L i p0 n h hk hn t l1 hT hnk xs g5 l5 hI hb er ps hI2
              · cases g9
                · exact clB_bt w rb tb cap s L i p0 n h hk hn t l1 hT hnk xs g5 l5 hI hb ys t9 l9 hI2
                · exact clB_bs w rb tb cap s L i p0 n h hk hn t l1 hT hnk xs g5 l5 hI hb ys t9 l9 hI2
            · cases g5
              · exact clB_bq w rb tb cap s L i p0 n h hk hn t l1 hT hnk xs t5 l5 hI hb
              · exact clB_bp w rb tb cap s L i p0 n h hk hn t l1 hT hnk xs t5 l5 hI hb
    · exact clB_k w rb tb cap s L i p0 n h hk hn
  · rw [show decide (n < 12) = false by simpa using hn]
    by_cases hk : (Parl.hd (L.drop i)).kind = 2
    · exact clB_f w rb tb cap s L i p0 n h hk (by omega)
    · exact clB_kf w rb tb cap s L i p0 n h hk (by omega)
end Go.Proofs.YthfjnfcekeknlaaGreatDoor
namespace Go.Proofs.YthfjnfcekeknlaaGreatDoor
open Go.RowKit

theorem Tryz.info112 : (Tryz.prog.info? 112).map (fun i => (i.zero, i.size, i.bytes)) = some (some (.agg #[.int .i64 0, .string ⟨#[]⟩, .int .i64 0, .slice none 0 0, .slice none 0 0, .slice none 0 0]), 6, 104) := by kernel_rfl

theorem own_shape {w : World} {b : Nat} {e : TypeId} {sz : Nat} {v : Value} {n : Nat} {xs : List Value} (h : w.ownsRow b e sz v n xs) : ∃ o cap, v = .slice o n cap := by
  rcases h.2 with ⟨q, rfl⟩ | ⟨g, cap, cur, q, _⟩
  · exact ⟨none, 0, q⟩
  · exact ⟨some ⟨g, 0, none⟩, cap, q⟩
theorem own_lessB {b0 b1 : Nat} {w : World} {T : TypeId} {sz : Nat} {v : Value} {n : Nat} {xs : List Value} (h : w.ownsRow b0 T sz v n xs) (hb : b1 ≤ b0) : w.ownsRow b1 T sz v n xs :=
  ⟨h.1, h.2.imp id fun ⟨g, cap, cur, a, b, c, d⟩ => ⟨g, cap, cur, a, Nat.le_trans hb b, c, d⟩⟩
theorem one6 (a : BV) (o1 o2 : Option Addr) (n1 c1 n2 c2 : Nat) : ∀ u ∈ ([.int .i64 a.k, .string a.nm, .int .i64 a.num, .slice a.ao a.n a.cap, .slice o1 n1 c1, .slice o2 n2 c2] : List Value), u.oneCell' = true := by
  simp [Value.oneCell']

/-- The reader as it stands first. -/
theorem sb_start {w1 : World} {cap tb : Nat} {s : ByteArray} {L : List Parl.Tok} {b0 : Nat} (ho : w1.ownsRow b0 168 3 (.slice (some ⟨tb, 0, none⟩) L.length cap) L.length (L.flatMap tokC)) (hc : Parl.Chain s L) (hh : Parl.hd L = Parl.next s 0) (hs : s.size ≤ 240) (hl : L.length ≤ s.size + 1) :
    SB (w1.alloc (.cells #[.slice (some ⟨tb, 0, none⟩) L.length cap, .int .i64 0, .int .i64 0, .int .i64 0] 166)) w1.heap.size tb cap s L 0 0 0 := by
  have htb : tb < w1.heap.size := (ho.lt tb rfl).2
  have hb := heap_alloc_new w1 (.cells #[.slice (some ⟨tb, 0, none⟩) L.length cap, .int .i64 0, .int .i64 0, .int .i64 0] 166)
  have c := blkA' hb
  have f := blkX' hb
  exact ⟨by rw [c]; rfl, by rw [c]; rfl, by rw [c]; rfl, by rw [c]; rfl, f 1, f 2, f 3, own_lessB (ho.alloc _) (Nat.zero_le _), by omega, hc.pos, hc, by omega, hc.kinds ⟨0, hh⟩ hs, by simp⟩

/-- A clause's six cells. -/
structure CV where
  a : BV
  o1 : Option Addr
  n1 : Nat
  c1 : Nat
  o2 : Option Addr
  n2 : Nat
  c2 : Nat
def cvC (v : CV) : List Value := [.int .i64 v.a.k, .string v.a.nm, .int .i64 v.a.num, .slice v.a.ao v.a.n v.a.cap, .slice v.o1 v.n1 v.c1, .slice v.o2 v.n2 v.c2]
theorem cvC_length (vs : List CV) : (vs.flatMap cvC).length = vs.length * 6 := by
  induction vs with
  | nil => rfl
  | cons a r ih => rw [List.flatMap_cons, List.length_append, ih]; simp [cvC]; omega
def ClauseR (w : World) (v : CV) (c : Parl.Cls) : Prop := ClauseB w v.a v.o1 v.n1 v.o2 v.n2 c
theorem ClauseR.keep {w w' : World} {v : CV} {c : Parl.Cls} (h : ClauseR w v c) (hk : KeepT w w') (hi : KeepI w w') : ClauseR w' v c := ⟨hk.vb h.1, h.2.1.keep hk hi, h.2.2.keep hk hi⟩
def RowC (w : World) (xs : List Value) (ys : List Parl.Cls) : Prop := ∃ vs : List CV, xs = vs.flatMap cvC ∧ All2 (ClauseR w) vs ys
theorem RowC.keep {w w' : World} {xs : List Value} {ys : List Parl.Cls} (h : RowC w xs ys) (hk : KeepT w w') (hi : KeepI w w') : RowC w' xs ys := by
  obtain ⟨vs, rfl, ha⟩ := h
  exact ⟨vs, rfl, ha.imp fun _ _ q => q.keep hk hi⟩
theorem RowC.snoc {w : World} {xs : List Value} {ys : List Parl.Cls} {v : CV} {x : Parl.Cls} (h : RowC w xs ys) (q : ClauseR w v x) : RowC w (xs ++ cvC v) (ys ++ [x]) := by
  obtain ⟨vs, rfl, ha⟩ := h
  exact ⟨vs ++ [v], by simp, ha.snoc q⟩
/-- The clauses lie there. -/
def ClausesB (w : World) (o : Option Addr) (n : Nat) (ys : List Parl.Cls) : Prop := n = ys.length ∧ (ys ≠ [] → ∃ (g : Nat) (vs : List CV) (cs : Array Value), o = some ⟨g, 0, none⟩ ∧ w.heap[g]? = some (.cells cs 112 (0, 0)) ∧ cs.toList.take (vs.length * 6) = vs.flatMap cvC ∧ All2 (ClauseR w) vs ys)
theorem ClausesB.of_row {w : World} {b0 n cap : Nat} {o : Option Addr} {xs : List Value} {ys : List Parl.Cls} (h : RowC w xs ys) (ho : w.ownsRow b0 112 6 (.slice o n cap) n xs) : ClausesB w o n ys := by
  obtain ⟨vs, rfl, ha⟩ := h
  have hl := ho.1
  rw [cvC_length] at hl
  have hl' := ha.length
  refine ⟨by omega, fun q => ?_⟩
  rcases ho.2 with ⟨_, hn⟩ | ⟨g', cap', cur, q', _, hc, _, _, _, ht⟩
  · exact absurd (List.length_eq_zero_iff.1 (by omega : ys.length = 0)) q
  · simp only [Value.slice.injEq, true_and] at q'
    obtain ⟨rfl, rfl⟩ := q'
    exact ⟨g', vs, cur, rfl, hc, by rw [show vs.length = n by omega]; exact ht, ha⟩
def ValP (w' : World) (r : Parl.Res (List Parl.Cls)) (o : Option Addr) (n : Nat) : Prop := match r with
  | .inl (er, _) => er ≠ 0
  | .inr (ys, _) => ClausesB w' o n ys
/-- The loop's relation. -/
def LP (w : World) (rb tb cap : Nat) (s : ByteArray) (L : List Parl.Tok) (k : Nat) (ov : Value) (wr : World) : Prop :=
  ∃ (n : Nat) (xs : List Value) (j : Nat) (e1 p1 : Int), SB wr rb tb cap s L j e1 p1 ∧ Below w.heap.size w wr ∧ wr.ownsRow (rb + 1) 112 6 ov n xs ∧ n ≤ 13 ∧ k + n = 14 ∧
    ((e1 = 0 ∧ n ≤ 12 ∧ ∃ ys : List Parl.Cls, Parl.prog 12 L = Parl.preC ys (Parl.prog (12 - n) (L.drop j)) ∧ RowC wr xs ys) ∨
     (e1 ≠ 0 ∧ ∃ er pos : Nat, e1 = (er : Int) ∧ p1 = (pos : Int) ∧ Parl.prog 12 L = .inl (er, pos)))

/-- What stands behind an append to the clauses. -/
theorem lp_mk {w w5 w7 : World} {rb tb cap : Nat} {s : ByteArray} {L : List Parl.Tok} {j : Nat} {e1 p1 : Int} {n : Nat} {av : Value} {xs : List Value} {X A : Obj}
    (hS : SB w5 rb tb cap s L j e1 p1) (hB : Below w.heap.size w w5) (hw : w.heap.size ≤ rb) (ht : tb < rb)
    (ho : w5.ownsRow (rb + 1) 112 6 av n xs)
    (hg : ((w5.alloc X).alloc A).grownBy w7 av.ownBlock) :
    SB w7 rb tb cap s L j e1 p1 ∧ Below w.heap.size w w7 := by
  have hlt := hS.hlt
  have h1 : Below (rb + 1) w5 w7 := (((Below.refl _ _).alloc (by omega) X).alloc (by simp; omega) A).grown hg (by simp; omega) (fun k q => (ho.lt k q).1)
  exact ⟨hS.blw h1 (by omega) (by omega), hB.trans (h1.mono (by omega))⟩

theorem lp_keep {w5 w7 : World} {b0 n : Nat} {av : Value} {xs : List Value} {X A : Obj} (ho : w5.ownsRow b0 112 6 av n xs) (hg : ((w5.alloc X).alloc A).grownBy w7 av.ownBlock) : KeepT w5 w7 ∧ KeepI w5 w7 :=
  ⟨(KeepT.below (((Below.refl _ _).alloc (Nat.le_refl _) X).alloc (by simp) A)).trans (KeepT.grown ((ho.alloc X).alloc A) hg), (KeepI.below (((Below.refl _ _).alloc (Nat.le_refl _) X).alloc (by simp) A)).trans (KeepI.grown ((ho.alloc X).alloc A) hg)⟩
/-- What Program leaves. -/
def PPrB (r : Parl.Res (List Parl.Cls)) (w : World) (e : Ending) (w' : World) : Prop :=
  ∃ (o : Option Addr) (n c : Nat), e = .returned (.tuple #[.slice o n c, .int .i64 (Parl.errOf r : Int), .int .i64 (Parl.posOf r : Int)]) ∧ Below w.heap.size w w' ∧ ValP w' r o n
end Go.Proofs.YthfjnfcekeknlaaGreatDoor
namespace Go.Proofs.YthfjnfcekeknlaaGreatDoor
open Go.RowKit

set_option maxHeartbeats 8000000 in
set_option maxRecDepth 100000 in
theorem prB_any (w : World) (s : ByteArray) (L : List Parl.Tok) (hs : s.size ≤ 240) (hL : Parl.Chain s L) (hh : Parl.hd L = Parl.next s 0) :
    Calls Tryz.prog 48 #[.string s] w fun e w' => PPrB (Parl.prog 12 L) w e w' := by
  obtain ⟨ti, hi, hz0', hz1', hz2'⟩ := info_parts Tryz.info112
  go_enter Tryz.func48, Tryz.ntmps48
  go_wp2_with fail
  refine (tokens_any s _ hs).mono ?_
  rintro e w1 ⟨tv, ts, rfl, hot, hct, hht, hlt, hbt⟩
  have hts : ts = L := hct.one hL (hht.trans hh.symm)
  subst hts
  obtain ⟨m, hm⟩ : ∃ m, ts.length = m + 1 := ⟨ts.length - 1, by have := hct.pos; omega⟩
  obtain ⟨tb, cap, hv, -⟩ := ownB_some (hm ▸ hot)
  rw [← hm] at hv
  subst hv
  have htb : tb < w1.heap.size := (hot.lt tb rfl).2
  have hw1 : w.heap.size ≤ w1.heap.size := hbt.size
  have HL := hide (show LP w w1.heap.size tb cap s ts 14 (.slice none 0 0) (w1.alloc (.cells #[.slice (some ⟨tb, 0, none⟩) ts.length cap, .int .i64 0, .int .i64 0, .int .i64 0] 166)) from
    ⟨0, [], 0, 0, 0, sb_start hot hct hht hs hlt, hbt.alloc hw1 _, World.ownsRow_nil _ _ _ _, by omega, by omega, Or.inl ⟨rfl, by omega, [], (Parl.preC_nil _).symm, ⟨[], rfl, trivial⟩⟩⟩)
  clear hot hct hht hlt hbt hL hh hm
  go_wp2_with fail
  generalize hrb : w1.heap.size = rb at *
  go_loopg [6] 14 (fun k ov wr => LP w rb tb cap s ts k ov wr)
  case atStart => exact unhide HL
  case round =>
    clear HL hrb
    obtain ⟨n, xs, j, e1, p1, hS, hB, ho, hn13, hkn, hcase⟩ := hrel
    obtain ⟨oo, cp, rfl⟩ := own_shape ho
    have HS := hide hS
    have HB := hide hB
    have HO := hide ho
    have k0 := hS.tok.1
    have c0 := hS.c0
    have c1 := hS.c1
    have c2 := hS.c2
    have c3 := hS.c3
    have hlj := hS.lt
    have hrw := hS.hlt
    have htw := hS.tblt
    have hfew := hS.few
    have hk5 := hS.kind
    clear hS hB ho
    rcases hcase with ⟨rfl, hn12, ys, htot, hrow⟩ | ⟨hne, er, pos, rfl, rfl, htot⟩
    · have HTOT := hide htot
      have HROW := hide hrow
      clear htot hrow
      by_cases h0 : (Parl.hd (ts.drop j)).kind = 0
      · have hq : (bk (Parl.hd (ts.drop j)).kind != 6) = false := by rw [h0]; rfl
        have HF := hide (show Parl.prog 12 ts = .inr (ys, ts.drop j) by rw [unhide HTOT, Parl.prog_end h0]; simp [Parl.preC])
        clear h0 hk5
        generalize bk (Parl.hd (ts.drop j)).kind = q at *
        go_wp2_with fail
        go_big_region
        go_wp2_with fail
        refine bodyPost_ret (v := .tuple #[.slice oo n cp, .int .i64 0, .int .i64 0]) (by simp [results, Tryz.results48, go_sem]) rfl ?_
        rw [unhide HF]
        exact ⟨_, _, _, rfl, (unhide HB).drew, ClausesB.of_row ((unhide HROW).keep (fun _ _ h _ => h) (fun _ _ h _ => h)) (unhide HO)⟩
      · have hq : (bk (Parl.hd (ts.drop j)).kind != 6) = true := by
          have : bk (Parl.hd (ts.drop j)).kind ≠ 6 := by unfold bk; rw [if_neg h0]; split <;> omega
          simpa using this
        have H0 := hide h0
        clear h0 hk5
        generalize bk (Parl.hd (ts.drop j)).kind = q at *
        go_wp2_with fail
        go_big_region
        go_wp2_with fail
        refine (clB_any _ rb tb cap s ts j _ n ((unhide HS).below (Below.refl _ _).drew)).mono ?_
        generalize hC : Parl.clause (decide (n < 12)) (ts.drop j) = r
        have HC := hide hC
        clear hC k0 c0 c1 c2 c3 hrw htw
        rintro e w5 ⟨a, o1, n1, cc1, o2, n2, cc2, j5, e5, p5, rfl, hs5, hk5, hu, hvc⟩
        have HROW5 := hide ((unhide HROW).keep (w' := w5) (fun g cs h q => KeepT.kbs ((unhide HS).below (Below.refl _ _).drew) hk5 g cs h q) (fun g cs h q => KeepI.kbs ((unhide HS).below (Below.refl _ _).drew) hk5 g cs h q))
        have HVC := hide hvc
        clear hvc
        have HS5 := hide hs5
        have HB5 := hide (((unhide HB).drew).trans (hk5.below (by show w.heap.size ≤ wr.heap.size; have := (unhide HB).size; omega) (by simp; omega)))
        have HO5 := hide (own_kb (unhide HO) (((KB.refl [rb] wr).drew).trans hk5) (by simp))
        have HU := hide hu
        have hrw5 := hs5.hlt
        clear hs5 hk5 hu
        go_wp2_with (first | (at_builtin; go_must (refine wpList_append_own _ rfl (.tmp 35) (.tmp 37) 99 rfl (rb + 1) 112 ti (.agg #[.int .i64 0, .string ⟨#[]⟩, .int .i64 0, .slice none 0 0, .slice none 0 0, .slice none 0 0]) 6 104 Tryz.underlying99 hi hz0' hz1' hz2' rfl (by decide) _ n xs rfl (((unhide HO5).alloc _).alloc _) ⟨w5.heap.size + 1, 0, none⟩ 1 1 [.int .i64 a.k, .string a.nm, .int .i64 a.num, .slice a.ao a.n a.cap, .slice o1 n1 cc1, .slice o2 n2 cc2] rfl rfl (newL _ _ _ _ _ (by simp) rfl) (one6 a o1 o2 n1 cc1 n2 cc2) (by unfold maxLen; omega) (by omega) (by simp; omega) ?_); go_must (intro v' w7 hown' hgrow _; have HOWN7 := hide hown'; have HKT := hide (lp_keep (unhide HO5) hgrow); have HR7 := hide (lp_mk (unhide HS5) (unhide HB5) hw1 htb (unhide HO5) hgrow); clear hown' hgrow)))
        go_roundg (gk - 1)
        case measure => omega
        case rel =>
          refine ⟨n + 1, _, j5, e5, p5, (unhide HR7).1, (unhide HR7).2, unhide HOWN7, by omega, by omega, ?_⟩
          rcases r with ⟨er, ps⟩ | ⟨cl, l1⟩
          · obtain ⟨he, hp, hne⟩ := unhide HU
            exact Or.inr ⟨hne, er, ps, he, hp, by rw [unhide HTOT, Parl.prog_err hn12 (unhide H0) (unhide HC)]; rfl⟩
          · obtain ⟨he, hp, hl⟩ := unhide HU
            obtain ⟨h12, hm⟩ := Parl.prog_more (unhide H0) (unhide HC)
            exact Or.inl ⟨he, by omega, ys ++ [cl], by rw [unhide HTOT, hm, Parl.preC_preC, hl], ((unhide HROW5).snoc (v := ⟨a, o1, n1, cc1, o2, n2, cc2⟩) (unhide HVC)).keep (unhide HKT).1 (unhide HKT).2⟩
    · have HF := hide htot
      have he1 : ((er : Int) == 0) = false := by simpa using hne
      have he2 : ((er : Int) != 0) = true := by simpa using hne
      clear htot hne hk5
      cases hq : (bk (Parl.hd (ts.drop j)).kind != 6)
      · generalize bk (Parl.hd (ts.drop j)).kind = q at *
        go_wp2_with fail
        go_big_region
        go_wp2_with fail
        go_big_region
        go_wp2_with fail
        refine bodyPost_ret (v := .tuple #[.slice none 0 0, .int .i64 er, .int .i64 pos]) (by simp [results, Tryz.results48, go_sem]) rfl ?_
        rw [unhide HF]
        exact ⟨_, _, _, rfl, (unhide HB).drew.drew, fun q => by rw [q] at he1; simp at he1⟩
      · generalize bk (Parl.hd (ts.drop j)).kind = q at *
        go_wp2_with fail
        go_big_region
        go_wp2_with fail
        go_big_region
        go_wp2_with fail
        refine bodyPost_ret (v := .tuple #[.slice none 0 0, .int .i64 er, .int .i64 pos]) (by simp [results, Tryz.results48, go_sem]) rfl ?_
        rw [unhide HF]
        exact ⟨_, _, _, rfl, (unhide HB).drew.drew, fun q => by rw [q] at he1; simp at he1⟩
end Go.Proofs.YthfjnfcekeknlaaGreatDoor
namespace Go.Proofs.YthfjnfcekeknlaaGreatDoor
open Go.RowKit

set_option maxHeartbeats 2000000 in
theorem ckB_any (w : World) (s : ByteArray) (L : List Parl.Tok) (hL : Parl.Chain s L) (hh : Parl.hd L = Parl.next s 0) :
    Calls Tryz.prog 31 #[.string s] w fun e w' => e = .returned (.tuple #[.int .i64 (Parl.ckE s L : Int), .int .i64 (Parl.ckP s L : Int)]) ∧ Below w.heap.size w w' := by
  by_cases hs : 240 < s.size
  · have h1 := hide (show Parl.ckE s L = 1 by unfold Parl.ckE; rw [if_pos hs])
    have h2 := hide (show Parl.ckP s L = 0 by unfold Parl.ckP; rw [if_pos hs])
    go_enter Tryz.func31, Tryz.ntmps31
    go_wp2_with fail
    go_ret2
    rw [unhide h1, unhide h2]
    exact ⟨rfl, Below.refl _ _⟩
  · have h1 := hide (show Parl.ckE s L = Parl.errOf (Parl.prog 12 L) by unfold Parl.ckE; rw [if_neg hs])
    have h2 := hide (show Parl.ckP s L = Parl.posOf (Parl.prog 12 L) by unfold Parl.ckP; rw [if_neg hs])
    have I := hide (prB_any w s L (by omega) hL hh)
    rw [unhide h1, unhide h2]
    clear h1 h2 hL hh
    generalize Parl.prog 12 L = r at *
    go_enter Tryz.func31, Tryz.ntmps31
    go_wp2_with fail
    refine (unhide I).mono ?_
    rintro e w' ⟨o, n, c, rfl, hb, -⟩
    have HB := hide hb
    clear hb
    go_wp2_with fail
    go_ret2
    exact ⟨rfl, unhide HB⟩
end Go.Proofs.YthfjnfcekeknlaaGreatDoor
