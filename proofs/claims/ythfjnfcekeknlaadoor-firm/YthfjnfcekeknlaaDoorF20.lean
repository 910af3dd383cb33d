import Derived.Test.YthfjnfcekeknlaaDoorF07
import Derived.Test.YthfjnfcekeknlaaDoorF09
import Derived.Test.YthfjnfcekeknlaaDoorF18
namespace Go.Proofs.YthfjnfcekeknlaaDoor
open Go.RowKit

theorem itoa_int (w : World) (n : Int) (h0 : -9223372036854775808 ≤ n) (h1 : n ≤ 9223372036854775807) (hp : Pow w) :
    Calls Tryd.prog 50 #[.int .i64 n] w fun e w' => e = .returned (.string ⟨(Lib.itoa n).toArray⟩) ∧ Below w.heap.size w w' := by
  refine (Tryd.strconv_Itoa n h0 h1 w hp).mono ?_
  rintro e w' ⟨rfl, k, os, rfl⟩
  exact ⟨rfl, Lib.below_grow _ _ (Nat.le_refl _) _ _⟩
def ShUSaid (f : Nat) : Prop := ∀ (w : World) (N : List Parl.Vr) (P : Nat → Prop) (a : AV) (u : Parl.U), RV f N P w a u → Pow w → N.length ≤ 1000000 → Parl.smU u → Parl.size u ≤ 1000 →
  Calls Tryd.prog 29 #[.agg #[.int .i64 a.k, .int .i64 a.val, .string a.tx, .slice a.ao a.n a.cap]] w fun e w' => e = .returned (.string ⟨(Parl.strU Lib.itoa N u).toArray⟩) ∧ Below w.heap.size w w'

set_option maxHeartbeats 2000000 in
set_option maxRecDepth 100000 in
theorem stU_var (w : World) (N : List Parl.Vr) (a : AV) (x : Parl.Vr) (hr : LeafV N a (.v x)) (hp : Pow w) (hN : N.length ≤ 1000000) :
    Calls Tryd.prog 29 #[.agg #[.int .i64 a.k, .int .i64 a.val, .string a.tx, .slice a.ao a.n a.cap]] w fun e w' => e = .returned (.string ⟨(Parl.strU Lib.itoa N (.v x)).toArray⟩) ∧ Below w.heap.size w w' := by
  obtain ⟨k, val, tx, ao, n, cp⟩ := a
  obtain ⟨h1, h2, h3, h4⟩ := hr
  dsimp only at h1 h2 h4 ⊢
  subst h1 h2
  have hidx : N.idxOf x ≤ 1000000 := by have := List.idxOf_le_length (l := N) (a := x); omega
  have hdl := Lib.itoa_length_le (N.idxOf x : Int) (by omega) (by omega)
  have HS := hide (show Parl.strU Lib.itoa N (.v x) = 86 :: Lib.itoa (N.idxOf x : Int) by rw [Parl.strU])
  have HP := hide (hp.alloc (.cells #[.int .i64 1, .int .i64 (N.idxOf x : Int), .string tx, .slice ao n cp] 52))
  clear h3 h4 hp hN
  generalize N.idxOf x = ix at *
  have HI := hide (itoa_int _ (ix : Int) (by omega) (by omega) (unhide HP))
  generalize Lib.itoa (ix : Int) = S at *
  go_enter Tryd.func29, Tryd.ntmps29
  go_wp2_with fail
  refine (unhide HI).mono ?_
  rintro e w1 ⟨rfl, hb⟩
  have HB := hide hb
  clear hb
  go_wp2_with fail
  go_ret
  refine ⟨?_, ((Below.refl _ _).alloc (Nat.le_refl _) _).trans ((unhide HB).mono (by simp))⟩
  rw [unhide HS]
  rfl

set_option maxHeartbeats 2000000 in
set_option maxRecDepth 100000 in
theorem stU_num (w : World) (N : List Parl.Vr) (a : AV) (tx' : List UInt8) (num : Int) (hk : a.k = 2) (hv : a.val = num) (hp : Pow w) (h0 : -1000000000 ≤ num) (h1 : num ≤ 1000000000) :
    Calls Tryd.prog 29 #[.agg #[.int .i64 a.k, .int .i64 a.val, .string a.tx, .slice a.ao a.n a.cap]] w fun e w' => e = .returned (.string ⟨(Parl.strU Lib.itoa N (.n 3 tx' num [])).toArray⟩) ∧ Below w.heap.size w w' := by
  obtain ⟨k, val, tx, ao, n, cp⟩ := a
  dsimp only at hk hv ⊢
  subst hk hv
  have HS := hide (show Parl.strU Lib.itoa N (.n 3 tx' val []) = Lib.itoa val by rw [Parl.strU_n, if_pos rfl])
  have HP := hide (hp.alloc (.cells #[.int .i64 2, .int .i64 val, .string tx, .slice ao n cp] 52))
  have HI := hide (itoa_int _ val (by omega) (by omega) (unhide HP))
  clear hp
  generalize hS : Lib.itoa val = S at *
  clear hS
  go_enter Tryd.func29, Tryd.ntmps29
  go_wp2_with fail
  refine (unhide HI).mono ?_
  rintro e w1 ⟨rfl, hb⟩
  have HB := hide hb
  clear hb
  go_wp2_with fail
  go_ret
  refine ⟨?_, ((Below.refl _ _).alloc (Nat.le_refl _) _).trans ((unhide HB).mono (by simp))⟩
  rw [unhide HS]
  rfl

set_option maxHeartbeats 2000000 in
set_option maxRecDepth 100000 in
theorem stU_atom (w : World) (N : List Parl.Vr) (a : AV) (num : Int) (hk : a.k = 3) (hn : a.n = 0) :
    Calls Tryd.prog 29 #[.agg #[.int .i64 a.k, .int .i64 a.val, .string a.tx, .slice a.ao a.n a.cap]] w fun e w' => e = .returned (.string ⟨(Parl.strU Lib.itoa N (.n 1 a.tx.toList num [])).toArray⟩) ∧ Below w.heap.size w w' := by
  obtain ⟨k, val, tx, ao, n, cp⟩ := a
  dsimp only at hk hn ⊢
  subst hk hn
  have HS := hide (show Parl.strU Lib.itoa N (.n 1 tx.toList num []) = tx.toList by rw [Parl.strU_n, if_neg (by decide)]; simp [Parl.argS])
  go_enter Tryd.func29, Tryd.ntmps29
  go_wp2_with fail
  go_ret
  refine ⟨?_, (Below.refl _ _).alloc (Nat.le_refl _) _⟩
  rw [unhide HS, ba_self]
  rfl
/-- The loop over the arguments. -/
def LTU (w : World) (N : List Parl.Vr) (tx : List UInt8) (us : List Parl.U) (k : Nat) (sv iv : Value) (wr : World) : Prop :=
  ∃ j : Nat, k + j = us.length ∧ iv = .int .i64 (j : Int) ∧ sv = .string ⟨(tx ++ Parl.argQ ((us.take j).map (Parl.strU Lib.itoa N))).toArray⟩ ∧ Below w.heap.size w wr
theorem argQ_le : ∀ (l : List (List UInt8)) (c : Nat), (∀ x ∈ l, x.length ≤ c) → l.length ≤ 3 → (Parl.argQ l).length ≤ 10 + 3 * c := fun l c h hl => by
  have := Parl.argQ_len (c := c) l h
  have h2 := Nat.mul_le_mul_right (c + 1) hl
  omega

set_option maxHeartbeats 4000000 in
set_option maxRecDepth 100000 in
theorem stU_name {f : Nat} (IH : ShUSaid f) (w : World) (N : List Parl.Vr) (P : Nat → Prop) (a : AV) (num : Int) (us : List Parl.U) (hk : a.k = 3) (hn : a.n = us.length) (hrow : us ≠ [] → ∃ (g : Nat) (vs : List AV) (cs : Array Value), a.ao = some ⟨g, 0, none⟩ ∧ P g ∧ w.heap[g]? = some (.cells cs 52 (0, 0)) ∧ cs.toList.take (vs.length * 4) = vs.flatMap avC ∧ All2 (RV f N P w) vs us) (hp : Pow w) (hN : N.length ≤ 1000000) (hsm : Parl.smU (.n 1 a.tx.toList num us)) (hsz : Parl.size (.n 1 a.tx.toList num us) ≤ 1000) (hne : us ≠ []) :
    Calls Tryd.prog 29 #[.agg #[.int .i64 a.k, .int .i64 a.val, .string a.tx, .slice a.ao a.n a.cap]] w fun e w' => e = .returned (.string ⟨(Parl.strU Lib.itoa N (.n 1 a.tx.toList num us)).toArray⟩) ∧ Below w.heap.size w w' := by
  obtain ⟨g, vs, cs, hao, -, hcs, htk, hall⟩ := hrow hne
  obtain ⟨s1, s2, s3, s4⟩ := hsm.own
  obtain ⟨k, val, tx, ao, an, acp⟩ := a
  dsimp only at hk hn hao s1 hsm hsz ⊢
  subst hk hn hao
  have hlen : ∀ v ∈ us, (Parl.strU Lib.itoa N v).length ≤ 300000 := fun v hv => by
    have h1 := Parl.strU_len (N := N) (by omega) v (hsm.arg hv)
    have h2 := Parl.sizeL_mem hv
    rw [Parl.size] at hsz
    omega
  have HLEN := hide hlen
  have HNE := hide hne
  have hn0 : ((us.length : Int) == 0) = false := by have : us.length ≠ 0 := fun q => hne (List.length_eq_zero_iff.1 q); simp; omega
  have HST := hide (show LTU w N tx.toList us us.length (.string (tx ++ ⟨#[40]⟩)) (.int .i64 0) (w.alloc (.cells #[.int .i64 3, .int .i64 val, .string tx, .slice (some ⟨g, 0, none⟩) us.length acp] 52)) from
    ⟨0, by omega, rfl, by rw [qa_start]; rfl, (Below.refl _ _).alloc (Nat.le_refl _) _⟩)
  have HCS := hide hcs
  have HTK := hide htk
  have HALL := hide hall
  have HT7 := hide s1
  have HPW := hide hp
  have HSM := hide hsm
  have HSZ := hide hsz
  have I := hide IH
  have hbt := Parl.bytes_len tx
  have hb2 : tx.size ≤ 240 := by omega
  clear s1 s2 s3 hrow IH hcs htk hall hne hp hsm hsz hlen hbt
  go_enter Tryd.func29, Tryd.ntmps29
  go_wp2_with fail
  go_loopg [3, 31] us.length (fun k s i wr => LTU w N tx.toList us k s i wr)
  case atStart => exact unhide HST
  case round =>
    clear HST hn0
    obtain ⟨j, hkj, rfl, rfl, hB⟩ := hrel
    have hz := hB.size
    have HB := hide hB
    have hlS : (tx.toList ++ Parl.argQ ((us.take j).map (Parl.strU Lib.itoa N))).length ≤ 5000000 := by
      have h3 := argQ_le ((us.take j).map (Parl.strU Lib.itoa N)) 300000 (fun x hx => by
        obtain ⟨u, hu, rfl⟩ := List.mem_map.1 hx
        exact unhide HLEN u (List.mem_of_mem_take hu)) (by simp; omega)
      have h7 := unhide HT7
      rw [List.length_append]
      omega
    by_cases hlt' : j < us.length
    · have hcs := unhide HCS
      have hall := unhide HALL
      have hvl := hall.length
      have hjv : j < vs.length := by omega
      have hcw : wr.heap[g]? = some (.cells cs 52 (0, 0)) := (hB.block g (Array.getElem?_eq_some_iff.1 hcs).1).trans hcs
      have fc : ∀ i, i < 4 → wr.cell? ⟨g, j * 4 + i, none⟩ = (avC vs[j])[i]? := fun i hi => by
        rw [blkA hcw, ← Array.getElem?_toList, ← avC_at hjv i hi, ← unhide HTK, List.getElem?_take_of_lt (by omega)]
      have f0 := fc 0 (by omega)
      have f1 := fc 1 (by omega)
      have f2 := fc 2 (by omega)
      have f3 := fc 3 (by omega)
      simp only [avC, List.getElem?_cons_zero, List.getElem?_cons_succ, Nat.add_zero] at f0 f1 f2 f3
      have hbA := hB.alloc hz (.cells #[.int .i64 vs[j].k, .int .i64 vs[j].val, .string vs[j].tx, .slice vs[j].ao vs[j].n vs[j].cap] 52)
      have hszj : Parl.size us[j] ≤ 1000 := by
        have := unhide HSZ
        rw [Parl.size] at this
        have := Parl.sizeL_mem (List.getElem_mem hlt')
        omega
      have IC := hide (unhide I (wr.alloc (.cells #[.int .i64 vs[j].k, .int .i64 vs[j].val, .string vs[j].tx, .slice vs[j].ao vs[j].n vs[j].cap] 52)) N P vs[j] us[j] ((hall.at j hjv hlt').keep fun g cs hp hc => ⟨(hbA.block g (blk_lt hc)).trans hc, hp⟩) ((unhide HPW).below hbA) hN ((unhide HSM).arg (List.getElem_mem hlt')) hszj)
      have hgw : g < wr.heap.size := blk_lt hcw
      have i0 : (0 : Int) ≤ (j : Int) := by omega
      have i1 : (j : Int) < (us.length : Int) := by omega
      have hA : (Parl.strU Lib.itoa N us[j]).length ≤ 1000000 := Nat.le_trans (unhide HLEN _ (List.getElem_mem hlt')) (by omega)
      have HMORE := hide (Parl.take_step hlt' (Parl.strU Lib.itoa N))
      have HKJ := hide hkj
      have HLT := hide hlt'
      have HJ0 := hide (show j ≠ 0 → (us.take j).map (Parl.strU Lib.itoa N) ≠ [] from fun q e => by rw [List.map_eq_nil_iff, List.take_eq_nil_iff] at e; rcases e with e | e; exact q e; rw [e] at hlt'; simp at hlt')
      have hj3 : j ≤ 3 := by omega
      clear fc hcw hcs hall hvl hkj hB hbA hszj
      generalize hSS : tx.toList ++ Parl.argQ ((us.take j).map (Parl.strU Lib.itoa N)) = S at *
      have HSS := hide hSS
      clear hSS
      generalize hAA : Parl.strU Lib.itoa N us[j] = A at *
      clear hAA
      by_cases hj0 : j = 0
      · subst hj0
        go_wp2_with fail
        refine (unhide IC).mono ?_
        rintro e w2 ⟨rfl, hb2⟩
        have HB2 := hide ((unhide HB).trans (((Below.refl _ _).alloc hz _).trans (hb2.mono (by simp; omega))))
        clear hb2 IC f0 f1 f2 f3
        go_wp2_with fail
        go_roundg (gk - 1)
        case measure => have := unhide HKJ; have := unhide HLT; omega
        case rel => exact ⟨0 + 1, by have := unhide HKJ; have := unhide HLT; omega, by go_num, by rw [unhide HMORE, ← unhide HSS]; exact congrArg Value.string (qa_str0 _ _ _ (by simp)), unhide HB2⟩
      · have hj0' : decide (0 < (j : Int)) = true := by simp; omega
        have HJ1 := hide (unhide HJ0 hj0)
        clear HJ0
        go_wp2_with fail
        refine (unhide IC).mono ?_
        rintro e w2 ⟨rfl, hb2⟩
        have HB2 := hide ((unhide HB).trans (((Below.refl _ _).alloc hz _).trans (hb2.mono (by simp; omega))))
        clear hb2 IC f0 f1 f2 f3
        go_wp2_with fail
        go_roundg (gk - 1)
        case measure => have := unhide HKJ; have := unhide HLT; omega
        case rel => exact ⟨j + 1, by have := unhide HKJ; have := unhide HLT; omega, by go_num, by rw [unhide HMORE, ← unhide HSS]; exact congrArg Value.string (qa_str1 _ _ _ (unhide HJ1)), unhide HB2⟩
    · obtain rfl : j = us.length := by omega
      have HEND := hide (show Parl.strU Lib.itoa N (.n 1 tx.toList num us) = tx.toList ++ Parl.argS ((us.take us.length).map (Parl.strU Lib.itoa N)) by rw [Parl.strU_n, if_neg (by decide), List.take_length])
      generalize hSS : tx.toList ++ Parl.argQ ((us.take us.length).map (Parl.strU Lib.itoa N)) = S at *
      have HSS := hide hSS
      clear hSS hkj hB
      go_wp2_with fail
      go_ret
      refine ⟨?_, unhide HB⟩
      rw [unhide HEND, ← qa_end _ _ (by have := unhide HNE; simpa using this), unhide HSS]
      rfl
theorem stU_all : ∀ f, ShUSaid f
  | 0 => fun _ _ _ _ _ hr => hr.elim
  | f + 1 => fun w N P a u hr hp hN hsm hsz => by
    obtain ⟨hlf, hrow⟩ := hr
    cases u with
    | v x => exact stU_var w N a x hlf hp hN
    | n k tx num ss =>
      rcases hlf with ⟨rfl, h1, h2, h3, rfl⟩ | ⟨rfl, h1, h2, h3, h4⟩
      · obtain ⟨_, s2, s3, _⟩ := hsm.own
        exact stU_num w N a tx num h1 h2 hp s2 s3
      · subst h2
        by_cases hs : ss = []
        · subst hs
          exact stU_atom w N a num h1 h3
        · exact stU_name (stU_all f) w N P a num ss h1 h3 hrow hp hN hsm hsz hs
end Go.Proofs.YthfjnfcekeknlaaDoor
