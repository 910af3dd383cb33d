import Derived.Test.YthfjnfcekeknlaaGreatDoorS01
import Derived.Test.YthfjnfcekeknlaaGreatDoorS36
import Derived.Test.YthfjnfcekeknlaaGreatDoorS38
import Derived.Lib.AppendIntMem
import Derived.Deep.LoopGhost
import Derived.Deep.RegionWith
namespace Go.Proofs.YthfjnfcekeknlaaGreatDoor
open Go.RowKit

/-- The library's powers of ten lie there. -/
def Pow (w : World) : Prop := Lib.TabIs Tryz.prog w "internal/strconv.uint64pow10" .u64 Lib.pow10Tab
theorem Pow.below {w w' : World} (h : Pow w) (hb : Below w.heap.size w w') : Pow w' := by
  unfold Pow Lib.TabIs World.var? at *
  obtain ⟨g, hg, hq⟩ := Option.bind_eq_some_iff.1 h
  rw [hg]
  dsimp only [Option.bind_some]
  cases hc : w.heap[g]? with
  | none => rw [hc] at hq; cases hq
  | some o =>
    rw [hb.block g (Array.getElem?_eq_some_iff.1 hc).1]
    exact hq
theorem Pow.alloc {w : World} (h : Pow w) (o : Obj) : Pow (w.alloc o) := h.below ((Below.refl _ _).alloc (Nat.le_refl _) o)
theorem itoa_any (w : World) (n : Nat) (hn : n < 1000000000) (hp : Pow w) :
    Calls Tryz.prog 102 #[.int .i64 (n : Int)] w fun e w' => e = .returned (.string ⟨(Lib.decDigits n).toArray⟩) ∧ Below w.heap.size w w' := by
  refine (Tryz.strconv_Itoa (n : Int) (by omega) (by omega) w hp).mono ?_
  rintro e w' ⟨rfl, k, os, rfl⟩
  rw [Lib.itoa_nonneg]
  exact ⟨rfl, Lib.below_grow _ _ (Nat.le_refl _) _ _⟩
theorem avC_at {us : List AV} {i : Nat} (h : i < us.length) (j : Nat) (hj : j < 4) : (us.flatMap avC)[i * 4 + j]? = (avC us[i])[j]? := by
  induction us generalizing i with
  | nil => simp at h
  | cons t r ih =>
    cases i with
    | zero => rw [List.flatMap_cons, List.getElem?_append_left (by simp [avC]; omega)]; simp
    | succ i =>
      rw [List.flatMap_cons, List.getElem?_append_right (by simp [avC]; omega)]
      simp only [show (avC t).length = 4 from rfl]
      rw [show (i + 1) * 4 + j - 4 = i * 4 + j by omega]
      simpa using ih (by simpa using h)
theorem jvC_at {us : List JV} {i : Nat} (h : i < us.length) (j : Nat) (hj : j < 14) : (us.flatMap jvC)[i * 14 + j]? = (jvC us[i])[j]? := by
  induction us generalizing i with
  | nil => simp at h
  | cons t r ih =>
    cases i with
    | zero => rw [List.flatMap_cons, List.getElem?_append_left (by simp [jvC]; omega)]; simp
    | succ i =>
      rw [List.flatMap_cons, List.getElem?_append_right (by simp [jvC]; omega)]
      simp only [show (jvC t).length = 14 from rfl]
      rw [show (i + 1) * 14 + j - 14 = i * 14 + j by omega]
      simpa using ih (by simpa using h)
theorem qvC_at {us : List QV} {i : Nat} (h : i < us.length) (j : Nat) (hj : j < 6) : (us.flatMap qvC)[i * 6 + j]? = (qvC us[i])[j]? := by
  induction us generalizing i with
  | nil => simp at h
  | cons t r ih =>
    cases i with
    | zero => rw [List.flatMap_cons, List.getElem?_append_left (by simp [qvC]; omega)]; simp
    | succ i =>
      rw [List.flatMap_cons, List.getElem?_append_right (by simp [qvC]; omega)]
      simp only [show (qvC t).length = 6 from rfl]
      rw [show (i + 1) * 6 + j - 6 = i * 6 + j by omega]
      simpa using ih (by simpa using h)
/-- What 'Term' is to leave. -/
def PStrT (f : Nat) (N : List (List UInt8)) (t : Parl.Tm) (w : World) (e : Ending) (w' : World) : Prop := e = .returned (.string ⟨(Parl.strF f N t).toArray⟩) ∧ Below w.heap.size w w'
def ShTSaid (f : Nat) : Prop := ∀ (w : World) (N : List (List UInt8)) (a : AV) (t : Parl.Tm), RA f N anyA w a t → Pow w → N.length ≤ 1000000 → f ≤ 8 →
  Calls Tryz.prog 58 #[.agg #[.int .i64 a.k, .int .i64 a.val, .string a.tx, .slice a.ao a.n a.cap]] w fun e w' => PStrT f N t w e w'

set_option maxHeartbeats 2000000 in
set_option maxRecDepth 100000 in
theorem stA_var (f : Nat) (w : World) (N : List (List UInt8)) (a : AV) (t : Parl.Tm) (hr : LeafA N a t) (hp : Pow w) (hN : N.length ≤ 1000000) (hk : t.kind = 3) :
    Calls Tryz.prog 58 #[.agg #[.int .i64 a.k, .int .i64 a.val, .string a.tx, .slice a.ao a.n a.cap]] w fun e w' => PStrT (f + 1) N t w e w' := by
  obtain ⟨k, val, tx, ao, n, cp⟩ := a
  obtain ⟨h1, h2, h3, h4, h5, h6, h7, h8⟩ := hr
  obtain ⟨h9, h10⟩ := h3 hk
  dsimp only at h1 h2 h10 ⊢
  have e1 : ak t.kind = 1 := by rw [hk]; rfl
  rw [e1] at h1
  subst h1 h10
  have hidx : N.idxOf t.text.toList < 1000000000 := by have := List.idxOf_le_length (l := N) (a := t.text.toList); omega
  have hdl := dec9 _ hidx
  have HS := hide (show Parl.strF (f + 1) N t = 86 :: Lib.decDigits (N.idxOf t.text.toList) by unfold Parl.strF; rw [if_pos hk])
  have HP := hide (hp.alloc (.cells #[.int .i64 1, .int .i64 (N.idxOf t.text.toList : Int), .string tx, .slice ao n cp] 76))
  clear h2 h3 h4 h5 h6 h7 h8 h9 e1 hk hp hN
  generalize N.idxOf t.text.toList = ix at *
  go_enter Tryz.func58, Tryz.ntmps58
  go_wp2_with fail
  refine (itoa_any _ ix hidx (unhide HP)).mono ?_
  rintro e w1 ⟨rfl, hb⟩
  have HB := hide hb
  clear hb
  go_wp2_with fail
  go_ret
  refine ⟨?_, ((Below.refl _ _).alloc (Nat.le_refl _) _).trans ((unhide HB).mono (by simp))⟩
  rw [unhide HS]
  rfl

set_option maxHeartbeats 2000000 in
set_option maxRecDepth 100000 in
theorem stA_num (f : Nat) (w : World) (N : List (List UInt8)) (a : AV) (t : Parl.Tm) (hr : LeafA N a t) (hp : Pow w) (hk : t.kind = 4) :
    Calls Tryz.prog 58 #[.agg #[.int .i64 a.k, .int .i64 a.val, .string a.tx, .slice a.ao a.n a.cap]] w fun e w' => PStrT (f + 1) N t w e w' := by
  obtain ⟨k, val, tx, ao, n, cp⟩ := a
  obtain ⟨h1, h2, h3, h4, h5, h6, h7, h8⟩ := hr
  obtain ⟨h9, h10, -⟩ := h4 hk
  dsimp only at h1 h2 h9 ⊢
  have e1 : ak t.kind = 2 := by rw [hk]; rfl
  rw [e1] at h1
  subst h1 h9
  have hnum : Parl.numOf t.text < 1000000000 := by have := Parl.numL_le t.text.toList (by rw [Parl.bytes_len]; exact h10); unfold Parl.numOf; omega
  have HS := hide (show Parl.strF (f + 1) N t = Lib.decDigits (Parl.numOf t.text) by unfold Parl.strF; rw [if_neg (by omega), if_pos hk])
  have HP := hide (hp.alloc (.cells #[.int .i64 2, .int .i64 (Parl.numOf t.text : Int), .string tx, .slice ao n cp] 76))
  clear h2 h3 h4 h5 h6 h7 h8 h10 e1 hk hp
  generalize Parl.numOf t.text = ix at *
  go_enter Tryz.func58, Tryz.ntmps58
  go_wp2_with fail
  refine (itoa_any _ ix hnum (unhide HP)).mono ?_
  rintro e w1 ⟨rfl, hb⟩
  have HB := hide hb
  clear hb
  go_wp2_with fail
  go_ret
  refine ⟨?_, ((Below.refl _ _).alloc (Nat.le_refl _) _).trans ((unhide HB).mono (by simp))⟩
  rw [unhide HS]
  rfl

theorem ak3 {k : Int} {t : Parl.Tm} (h : k = ak t.kind) (h3 : t.kind ≠ 3) (h4 : t.kind ≠ 4) : k = 3 := by rw [h]; unfold ak; rw [if_neg h3, if_neg h4]

set_option maxHeartbeats 2000000 in
set_option maxRecDepth 100000 in
theorem stA_atom (f : Nat) (w : World) (N : List (List UInt8)) (a : AV) (t : Parl.Tm) (hr : LeafA N a t) (hk3 : t.kind ≠ 3) (hk4 : t.kind ≠ 4) (ha : t.args = []) :
    Calls Tryz.prog 58 #[.agg #[.int .i64 a.k, .int .i64 a.val, .string a.tx, .slice a.ao a.n a.cap]] w fun e w' => PStrT (f + 1) N t w e w' := by
  obtain ⟨k, val, tx, ao, n, cp⟩ := a
  obtain ⟨h1, h2, h3, h4, h5, h6, h7, h8⟩ := hr
  have h9 := h5 (by omega)
  dsimp only at h1 h2 h9 ⊢
  obtain rfl := ak3 h1 hk3 hk4
  rw [ha] at h2
  subst h2 h9
  have HS := hide (show Parl.strF (f + 1) N t = t.text.toList by unfold Parl.strF; rw [if_neg hk3, if_neg hk4, ha]; simp [Parl.argS])
  clear h1 h3 h4 h5 h6 h7 h8 hk3 hk4 ha
  go_enter Tryz.func58, Tryz.ntmps58
  go_wp2_with fail
  go_ret
  refine ⟨?_, (Below.refl _ _).alloc (Nat.le_refl _) _⟩
  rw [unhide HS, ba_self]
  rfl
end Go.Proofs.YthfjnfcekeknlaaGreatDoor
namespace Parl
def argQ : List (List UInt8) → List UInt8
  | [] => [40]
  | x :: xs => 40 :: x ++ xs.flatMap (fun y => 44 :: y)
theorem argQ_more (l : List (List UInt8)) (x : List UInt8) (h : l ≠ []) : argQ (l ++ [x]) = argQ l ++ 44 :: x := by
  cases l with
  | nil => exact absurd rfl h
  | cons y ys => simp [argQ]
theorem argQ_end (l : List (List UInt8)) (h : l ≠ []) : argS l = argQ l ++ [41] := by
  cases l with
  | nil => exact absurd rfl h
  | cons y ys => simp [argS, argQ]
theorem argQ_len {c : Nat} (l : List (List UInt8)) (h : ∀ x ∈ l, x.length ≤ c) : (argQ l).length ≤ 1 + l.length * (c + 1) := by
  cases l with
  | nil => simp [argQ]
  | cons y ys => have := argP_len (c := c) (y :: ys) h; simp only [argP] at this; simp only [argQ]; omega
theorem take_step {α β : Type} {ts : List α} {j : Nat} (hj : j < ts.length) (F : α → β) : (ts.take (j + 1)).map F = (ts.take j).map F ++ [F ts[j]] := by
  rw [List.take_add_one, List.getElem?_eq_getElem hj, List.map_append]; rfl
end Parl
namespace Go.Proofs.YthfjnfcekeknlaaGreatDoor
open Go.RowKit

theorem qa_start (b : ByteArray) : b ++ ⟨#[40]⟩ = (⟨(b.toList ++ Parl.argQ []).toArray⟩ : ByteArray) := by
  have := ba_app b.toList [40]
  rw [ba_self] at this
  exact this
theorem qa_str0 (X A : List UInt8) (l : List (List UInt8)) (h : l = []) : (⟨(X ++ Parl.argQ l).toArray⟩ : ByteArray) ++ ⟨A.toArray⟩ = ⟨(X ++ Parl.argQ (l ++ [A])).toArray⟩ := by
  subst h
  rw [ba_app]
  simp [Parl.argQ]
theorem qa_str1 (X A : List UInt8) (l : List (List UInt8)) (h : l ≠ []) : (⟨(X ++ Parl.argQ l).toArray⟩ : ByteArray) ++ ⟨#[44]⟩ ++ ⟨A.toArray⟩ = ⟨(X ++ Parl.argQ (l ++ [A])).toArray⟩ := by
  rw [ba_lit, ba_app, ba_app, Parl.argQ_more _ _ h]
  simp
theorem qa_end (X : List UInt8) (l : List (List UInt8)) (h : l ≠ []) : (⟨(X ++ Parl.argQ l).toArray⟩ : ByteArray) ++ ⟨#[41]⟩ = ⟨(X ++ Parl.argS l).toArray⟩ := by
  rw [ba_lit, ba_app, Parl.argQ_end _ h]
  simp
/-- The loop over the arguments. -/
def LTA (w : World) (N : List (List UInt8)) (t : Parl.Tm) (f : Nat) (k : Nat) (sv iv : Value) (wr : World) : Prop :=
  ∃ j : Nat, k + j = t.args.length ∧ iv = .int .i64 (j : Int) ∧ sv = .string ⟨(t.text.toList ++ Parl.argQ ((t.args.take j).map (Parl.strF f N))).toArray⟩ ∧ Below w.heap.size w wr

set_option maxHeartbeats 4000000 in
set_option maxRecDepth 100000 in
theorem stA_name {f : Nat} (IH : ShTSaid f) (w : World) (N : List (List UInt8)) (a : AV) (t : Parl.Tm) (hr : RA (f + 1) N anyA w a t) (hp : Pow w) (hN : N.length ≤ 1000000) (hf : f + 1 ≤ 8) (hne : t.args ≠ []) (hk3 : t.kind ≠ 3) (hk4 : t.kind ≠ 4) :
    Calls Tryz.prog 58 #[.agg #[.int .i64 a.k, .int .i64 a.val, .string a.tx, .slice a.ao a.n a.cap]] w fun e w' => PStrT (f + 1) N t w e w' := by
  have hok := hr.ok3
  obtain ⟨⟨h1, h2, h3, h4, h5, h6, h7, h8⟩, hrow⟩ := hr
  have h9 := h5 (by omega)
  obtain ⟨g, vs, cs, hao, -, hcs, htk, hall⟩ := hrow hne
  obtain ⟨k, val, tx, ao, an, acp⟩ := a
  dsimp only at h1 h2 h9 hao
  obtain rfl := ak3 h1 hk3 hk4
  subst h2 h9 hao
  obtain ⟨_, _, _, hoks⟩ := hok
  have hLS := lenS_le f (by omega)
  have HOK := hide hoks
  have HNE := hide hne
  have hn0 : ((t.args.length : Int) == 0) = false := by have : t.args.length ≠ 0 := fun q => hne (List.length_eq_zero_iff.1 q); simp; omega
  have HK3 := hide hk3
  have HK4 := hide hk4
  have HST := hide (show LTA w N t f t.args.length (.string (t.text ++ ⟨#[40]⟩)) (.int .i64 0) (w.alloc (.cells #[.int .i64 3, .int .i64 val, .string t.text, .slice (some ⟨g, 0, none⟩) t.args.length acp] 76)) from
    ⟨0, by omega, rfl, by rw [qa_start]; rfl, (Below.refl _ _).alloc (Nat.le_refl _) _⟩)
  have HCS := hide hcs
  have HTK := hide htk
  have HALL := hide hall
  have H8 := hide h8
  have HT7 := hide h7
  have HPW := hide hp
  have I := hide IH
  clear h1 h3 h4 h5 h6 h8 hoks hrow IH hcs htk hall hne hk3 hk4 hp
  go_enter Tryz.func58, Tryz.ntmps58
  go_wp2_with fail
  go_loopg [3, 31] t.args.length (fun k s i wr => LTA w N t f k s i wr)
  case atStart => exact unhide HST
  case round =>
    clear HST hn0
    obtain ⟨j, hkj, rfl, rfl, hB⟩ := hrel
    have h8 := unhide H8
    have hz := hB.size
    have HB := hide hB
    have hlS : (t.text.toList ++ Parl.argQ ((t.args.take j).map (Parl.strF f N))).length ≤ 5000000 := by
      have h3 := Parl.argQ_len (c := Parl.lenS f) ((t.args.take j).map (Parl.strF f N)) (fun x hx => by
        obtain ⟨u, hu, rfl⟩ := List.mem_map.1 hx
        exact Parl.strF_len f u _ (unhide HOK u (List.mem_of_mem_take hu)) (by omega) dec9)
      have h4 : ((t.args.take j).map (Parl.strF f N)).length ≤ 3 := by simp; omega
      have h5 := Nat.mul_le_mul_right (Parl.lenS f + 1) h4
      have h6 := Parl.bytes_len t.text
      have h7 := unhide HT7
      rw [List.length_append]
      omega
    by_cases hlt' : j < t.args.length
    · have hcs := unhide HCS
      have hall := unhide HALL
      have hvl := hall.length
      have hjv : j < vs.length := by omega
      have hcw : wr.heap[g]? = some (.cells cs 76 (0, 0)) := (hB.block g (Array.getElem?_eq_some_iff.1 hcs).1).trans hcs
      have fc : ∀ i, i < 4 → wr.cell? ⟨g, j * 4 + i, none⟩ = (avC vs[j])[i]? := fun i hi => by
        rw [blkA hcw, ← Array.getElem?_toList, ← avC_at hjv i hi, ← unhide HTK, List.getElem?_take_of_lt (by omega)]
      have f0 := fc 0 (by omega)
      have f1 := fc 1 (by omega)
      have f2 := fc 2 (by omega)
      have f3 := fc 3 (by omega)
      simp only [avC, List.getElem?_cons_zero, List.getElem?_cons_succ, Nat.add_zero] at f0 f1 f2 f3
      have hrb := (KeepA.below hB).ra (hall.at j hjv hlt')
      have IC := hide (unhide I (wr.alloc (.cells #[.int .i64 vs[j].k, .int .i64 vs[j].val, .string vs[j].tx, .slice vs[j].ao vs[j].n vs[j].cap] 76)) N vs[j] t.args[j] ((KeepA.alloc _ _).ra hrb) (((unhide HPW).below hB).alloc _) hN (by omega))
      have hgw : g < wr.heap.size := blk_lt hcw
      have i0 : (0 : Int) ≤ (j : Int) := by omega
      have i1 : (j : Int) < (t.args.length : Int) := by omega
      have hA : (Parl.strF f N t.args[j]).length ≤ 1000000 := Nat.le_trans (Parl.strF_len f _ _ (unhide HOK _ (List.getElem_mem hlt')) (by omega) dec9) hLS
      have HMORE := hide (Parl.take_step hlt' (Parl.strF f N))
      have HKJ := hide hkj
      have HLT := hide hlt'
      have HJ0 := hide (show j ≠ 0 → (t.args.take j).map (Parl.strF f N) ≠ [] from fun q e => by rw [List.map_eq_nil_iff, List.take_eq_nil_iff] at e; rcases e with e | e; exact q e; rw [e] at hlt'; simp at hlt')
      have hj3 : j ≤ 3 := by omega
      clear hrb fc hcw hcs hall hvl hkj h8 hB
      generalize hSS : t.text.toList ++ Parl.argQ ((t.args.take j).map (Parl.strF f N)) = S at *
      have HSS := hide hSS
      clear hSS
      unfold PStrT at IC
      generalize hAA : Parl.strF f N t.args[j] = A at *
      clear hAA
      by_cases hj0 : j = 0
      · subst hj0
        go_wp2_with fail
        refine (unhide IC).mono ?_
        rintro e w2 ⟨rfl, hb2⟩
        have HB2 := hide ((unhide HB).trans (((Below.refl _ _).alloc hz _).trans (hb2.mono (by simp; omega))))
        clear hb2 IC f0 f1 f2 f3
        go_wp2_with fail
        go_roundg (gk - 1)
        case measure => have := unhide HKJ; have := unhide HLT; omega
        case rel => exact ⟨0 + 1, by have := unhide HKJ; have := unhide HLT; omega, by go_num, by rw [unhide HMORE, ← unhide HSS]; exact congrArg Value.string (qa_str0 _ _ _ (by simp)), unhide HB2⟩
      · have hj0' : decide (0 < (j : Int)) = true := by simp; omega
        have HJ1 := hide (unhide HJ0 hj0)
        clear HJ0
        go_wp2_with fail
        refine (unhide IC).mono ?_
        rintro e w2 ⟨rfl, hb2⟩
        have HB2 := hide ((unhide HB).trans (((Below.refl _ _).alloc hz _).trans (hb2.mono (by simp; omega))))
        clear hb2 IC f0 f1 f2 f3
        go_wp2_with fail
        go_roundg (gk - 1)
        case measure => have := unhide HKJ; have := unhide HLT; omega
        case rel => exact ⟨j + 1, by have := unhide HKJ; have := unhide HLT; omega, by go_num, by rw [unhide HMORE, ← unhide HSS]; exact congrArg Value.string (qa_str1 _ _ _ (unhide HJ1)), unhide HB2⟩
    · obtain rfl : j = t.args.length := by omega
      have HEND := hide (show Parl.strF (f + 1) N t = t.text.toList ++ Parl.argS ((t.args.take t.args.length).map (Parl.strF f N)) by unfold Parl.strF; rw [if_neg (unhide HK3), if_neg (unhide HK4), List.take_length])
      generalize hSS : t.text.toList ++ Parl.argQ ((t.args.take t.args.length).map (Parl.strF f N)) = S at *
      have HSS := hide hSS
      clear hSS hkj h8 hB
      go_wp2_with fail
      go_ret
      refine ⟨?_, unhide HB⟩
      rw [unhide HEND, ← qa_end _ _ (by have := unhide HNE; simpa using this), unhide HSS]
      rfl

theorem stA_all : ∀ f, ShTSaid f
  | 0 => fun _ _ _ _ hr => hr.elim
  | f + 1 => fun w N a t hr hp hN hf => by
    by_cases hk3 : t.kind = 3
    · exact stA_var f w N a t hr.1 hp hN hk3
    · by_cases hk4 : t.kind = 4
      · exact stA_num f w N a t hr.1 hp hk4
      · by_cases ha : t.args = []
        · exact stA_atom f w N a t hr.1 hk3 hk4 ha
        · exact stA_name (stA_all f) w N a t hr hp hN hf ha hk3 hk4
end Go.Proofs.YthfjnfcekeknlaaGreatDoor
namespace Go.Proofs.YthfjnfcekeknlaaGreatDoor
open Go.RowKit

/-- What 'Item' is to leave. -/
def PStrJ (N : List (List UInt8)) (x : Parl.Itm) (w : World) (e : Ending) (w' : World) : Prop := e = .returned (.string ⟨(Parl.strI N x).toArray⟩) ∧ Below w.heap.size w w'
theorem si_1 (A B : List UInt8) (g : List UInt8) : (⟨A.toArray⟩ : ByteArray) ++ ⟨g.toArray⟩ ++ ⟨B.toArray⟩ = ⟨(A ++ (g ++ B) ++ []).toArray⟩ := by
  rw [ba_app, ba_app]; simp
theorem si_2 (A B C : List UInt8) (g h : List UInt8) : (⟨A.toArray⟩ : ByteArray) ++ ⟨g.toArray⟩ ++ ⟨B.toArray⟩ ++ ⟨h.toArray⟩ ++ ⟨C.toArray⟩ = ⟨(A ++ (g ++ B) ++ (h ++ C)).toArray⟩ := by
  rw [ba_app, ba_app, ba_app, ba_app]; simp

set_option maxHeartbeats 4000000 in
set_option maxRecDepth 100000 in
theorem siA_0 (w : World) (N : List (List UInt8)) (v : JV) (x : Parl.Itm) (hi : ItR N w v x) (hw : Parl.wfI x) (hp : Pow w) (hN : N.length ≤ 1000000) (hr : x.right = none) (hz : x.last = none) :
    Calls Tryz.prog 87 #[.agg #[.int .i64 v.a.k, .int .i64 v.a.val, .string v.a.tx, .slice v.a.ao v.a.n v.a.cap, .string v.sg, .int .i64 v.b.k, .int .i64 v.b.val, .string v.b.tx, .slice v.b.ao v.b.n v.b.cap, .string v.op, .int .i64 v.c.k, .int .i64 v.c.val, .string v.c.tx, .slice v.c.ao v.c.n v.c.cap]] w fun e w' => PStrJ N x w e w' := by
  obtain ⟨_, hs1, hs2, hs3, hs4, _⟩ := hw
  have hok := hi.ok
  have hsg : (v.sg.toList == []) = true := by rw [hi.sign, hs1.2 hr]; rfl
  have HF := hide (show Parl.strI N x = Parl.strF 8 N x.left by unfold Parl.strI; rw [hr, hz]; simp)
  have HP0 := hide (hp.alloc (.cells #[.int .i64 v.a.k, .int .i64 v.a.val, .string v.a.tx, .slice v.a.ao v.a.n v.a.cap, .string v.sg, .int .i64 v.b.k, .int .i64 v.b.val, .string v.b.tx, .slice v.b.ao v.b.n v.b.cap, .string v.op, .int .i64 v.c.k, .int .i64 v.c.val, .string v.c.tx, .slice v.c.ao v.c.n v.c.cap] 151))
  have HI0 := hide (hi.keep (KeepA.alloc _ (.cells #[.int .i64 v.a.k, .int .i64 v.a.val, .string v.a.tx, .slice v.a.ao v.a.n v.a.cap, .string v.sg, .int .i64 v.b.k, .int .i64 v.b.val, .string v.b.tx, .slice v.b.ao v.b.n v.b.cap, .string v.op, .int .i64 v.c.k, .int .i64 v.c.val, .string v.c.tx, .slice v.c.ao v.c.n v.c.cap] 151)))
  have HBX := hide (heap_alloc_new w (.cells #[.int .i64 v.a.k, .int .i64 v.a.val, .string v.a.tx, .slice v.a.ao v.a.n v.a.cap, .string v.sg, .int .i64 v.b.k, .int .i64 v.b.val, .string v.b.tx, .slice v.b.ao v.b.n v.b.cap, .string v.op, .int .i64 v.c.k, .int .i64 v.c.val, .string v.c.tx, .slice v.c.ao v.c.n v.c.cap] 151))
  have HOK := hide hok
  clear hi hs1 hs2 hs3 hs4 hok hp
  go_enter Tryz.func87, Tryz.ntmps87
  go_wp2_with fail
  refine (stA_all 8 _ N v.a x.left (unhide HI0).left (unhide HP0) hN (by omega)).mono ?_
  unfold PStrT
  rintro e w1 ⟨rfl, hb⟩
  have hA1 := str_all hN x.left (unhide HOK).1
  have HP1 := hide ((unhide HP0).below hb)
  have HI1 := hide ((unhide HI0).keep (KeepA.below hb))
  have HBX1 := hide ((hb.block w.heap.size (blk_lt (unhide HBX))).trans (unhide HBX))
  have HB1 := hide (((Below.refl w.heap.size w).alloc (Nat.le_refl _) (.cells #[.int .i64 v.a.k, .int .i64 v.a.val, .string v.a.tx, .slice v.a.ao v.a.n v.a.cap, .string v.sg, .int .i64 v.b.k, .int .i64 v.b.val, .string v.b.tx, .slice v.b.ao v.b.n v.b.cap, .string v.op, .int .i64 v.c.k, .int .i64 v.c.val, .string v.c.tx, .slice v.c.ao v.c.n v.c.cap] 151)).trans (hb.mono (by simp)))
  have r1 := blkA (unhide HBX1)
  have z1 := blk_lt (unhide HBX1)
  clear hb
  generalize hAA1 : Parl.strF 8 N x.left = A1 at *
  have HA1 := hide hAA1
  clear hAA1
  go_wp2_with fail
  go_ret
  refine ⟨?_, unhide HB1⟩
  rw [unhide HF]
  first | rw [unhide HA1] | skip
  rfl

set_option maxHeartbeats 4000000 in
set_option maxRecDepth 100000 in
theorem siA_1 (w : World) (N : List (List UInt8)) (v : JV) (x : Parl.Itm) (hi : ItR N w v x) (hw : Parl.wfI x) (hp : Pow w) (hN : N.length ≤ 1000000) (r : Parl.Tm) (hr : x.right = some r) (hz : x.last = none) :
    Calls Tryz.prog 87 #[.agg #[.int .i64 v.a.k, .int .i64 v.a.val, .string v.a.tx, .slice v.a.ao v.a.n v.a.cap, .string v.sg, .int .i64 v.b.k, .int .i64 v.b.val, .string v.b.tx, .slice v.b.ao v.b.n v.b.cap, .string v.op, .int .i64 v.c.k, .int .i64 v.c.val, .string v.c.tx, .slice v.c.ao v.c.n v.c.cap]] w fun e w' => PStrJ N x w e w' := by
  obtain ⟨_, hs1, hs2, hs3, hs4, _⟩ := hw
  have hok := hi.ok
  have hsg : (v.sg.toList == []) = false := by
    rw [hi.sign]
    cases hx : x.sign with
    | nil => rw [hs1.1 hx] at hr; cases hr
    | cons a b => rfl
  have hgs : v.sg.size ≤ 2 := by rw [← Parl.bytes_len, hi.sign]; exact hs3
  have HSG := hide (ba_list hi.sign)
  have hop : (v.op.toList == []) = true := by rw [hi.op, hs2.2 hz]; rfl
  have HF := hide (show Parl.strI N x = Parl.strF 8 N x.left ++ (x.sign ++ Parl.strF 8 N r) ++ [] by unfold Parl.strI; rw [hr, hz])
  have HP0 := hide (hp.alloc (.cells #[.int .i64 v.a.k, .int .i64 v.a.val, .string v.a.tx, .slice v.a.ao v.a.n v.a.cap, .string v.sg, .int .i64 v.b.k, .int .i64 v.b.val, .string v.b.tx, .slice v.b.ao v.b.n v.b.cap, .string v.op, .int .i64 v.c.k, .int .i64 v.c.val, .string v.c.tx, .slice v.c.ao v.c.n v.c.cap] 151))
  have HI0 := hide (hi.keep (KeepA.alloc _ (.cells #[.int .i64 v.a.k, .int .i64 v.a.val, .string v.a.tx, .slice v.a.ao v.a.n v.a.cap, .string v.sg, .int .i64 v.b.k, .int .i64 v.b.val, .string v.b.tx, .slice v.b.ao v.b.n v.b.cap, .string v.op, .int .i64 v.c.k, .int .i64 v.c.val, .string v.c.tx, .slice v.c.ao v.c.n v.c.cap] 151)))
  have HBX := hide (heap_alloc_new w (.cells #[.int .i64 v.a.k, .int .i64 v.a.val, .string v.a.tx, .slice v.a.ao v.a.n v.a.cap, .string v.sg, .int .i64 v.b.k, .int .i64 v.b.val, .string v.b.tx, .slice v.b.ao v.b.n v.b.cap, .string v.op, .int .i64 v.c.k, .int .i64 v.c.val, .string v.c.tx, .slice v.c.ao v.c.n v.c.cap] 151))
  have HOK := hide hok
  have HO2 := hide (hok.2.1 r hr)
  have HR := hide hr
  clear hi hs1 hs2 hs3 hs4 hok hp
  go_enter Tryz.func87, Tryz.ntmps87
  go_wp2_with fail
  refine (stA_all 8 _ N v.a x.left (unhide HI0).left (unhide HP0) hN (by omega)).mono ?_
  unfold PStrT
  rintro e w1 ⟨rfl, hb⟩
  have hA1 := str_all hN x.left (unhide HOK).1
  have HP1 := hide ((unhide HP0).below hb)
  have HI1 := hide ((unhide HI0).keep (KeepA.below hb))
  have HBX1 := hide ((hb.block w.heap.size (blk_lt (unhide HBX))).trans (unhide HBX))
  have HB1 := hide (((Below.refl w.heap.size w).alloc (Nat.le_refl _) (.cells #[.int .i64 v.a.k, .int .i64 v.a.val, .string v.a.tx, .slice v.a.ao v.a.n v.a.cap, .string v.sg, .int .i64 v.b.k, .int .i64 v.b.val, .string v.b.tx, .slice v.b.ao v.b.n v.b.cap, .string v.op, .int .i64 v.c.k, .int .i64 v.c.val, .string v.c.tx, .slice v.c.ao v.c.n v.c.cap] 151)).trans (hb.mono (by simp)))
  have r1 := blkA (unhide HBX1)
  have z1 := blk_lt (unhide HBX1)
  clear hb
  generalize hAA1 : Parl.strF 8 N x.left = A1 at *
  have HA1 := hide hAA1
  clear hAA1
  go_wp2_with fail
  refine (stA_all 8 _ N v.b r ((unhide HI1).right r (unhide HR)) (unhide HP1) hN (by omega)).mono ?_
  unfold PStrT
  rintro e w2 ⟨rfl, hb⟩
  have hA2 := str_all hN r (unhide HO2)
  have HP2 := hide ((unhide HP1).below hb)
  have HI2 := hide ((unhide HI1).keep (KeepA.below hb))
  have HBX2 := hide ((hb.block w.heap.size (blk_lt (unhide HBX1))).trans (unhide HBX1))
  have HB2 := hide ((unhide HB1).trans (hb.mono (unhide HB1).size))
  have r2 := blkA (unhide HBX2)
  have z2 := blk_lt (unhide HBX2)
  clear hb
  generalize hAA2 : Parl.strF 8 N r = A2 at *
  have HA2 := hide hAA2
  clear hAA2
  clear r1 z1
  go_wp2_with fail
  go_ret
  refine ⟨?_, unhide HB2⟩
  rw [unhide HF, ← si_1, ← unhide HSG]
  rfl

set_option maxHeartbeats 4000000 in
set_option maxRecDepth 100000 in
theorem siA_2 (w : World) (N : List (List UInt8)) (v : JV) (x : Parl.Itm) (hi : ItR N w v x) (hw : Parl.wfI x) (hp : Pow w) (hN : N.length ≤ 1000000) (r z : Parl.Tm) (hr : x.right = some r) (hz : x.last = some z) :
    Calls Tryz.prog 87 #[.agg #[.int .i64 v.a.k, .int .i64 v.a.val, .string v.a.tx, .slice v.a.ao v.a.n v.a.cap, .string v.sg, .int .i64 v.b.k, .int .i64 v.b.val, .string v.b.tx, .slice v.b.ao v.b.n v.b.cap, .string v.op, .int .i64 v.c.k, .int .i64 v.c.val, .string v.c.tx, .slice v.c.ao v.c.n v.c.cap]] w fun e w' => PStrJ N x w e w' := by
  obtain ⟨_, hs1, hs2, hs3, hs4, _⟩ := hw
  have hok := hi.ok
  have hsg : (v.sg.toList == []) = false := by
    rw [hi.sign]
    cases hx : x.sign with
    | nil => rw [hs1.1 hx] at hr; cases hr
    | cons a b => rfl
  have hgs : v.sg.size ≤ 2 := by rw [← Parl.bytes_len, hi.sign]; exact hs3
  have HSG := hide (ba_list hi.sign)
  have hop : (v.op.toList == []) = false := by
    rw [hi.op]
    cases hx : x.op with
    | nil => rw [hs2.1 hx] at hz; cases hz
    | cons a b => rfl
  have hos : v.op.size ≤ 2 := by rw [← Parl.bytes_len, hi.op]; exact hs4
  have HOP := hide (ba_list hi.op)
  have HF := hide (show Parl.strI N x = Parl.strF 8 N x.left ++ (x.sign ++ Parl.strF 8 N r) ++ (x.op ++ Parl.strF 8 N z) by unfold Parl.strI; rw [hr, hz])
  have HP0 := hide (hp.alloc (.cells #[.int .i64 v.a.k, .int .i64 v.a.val, .string v.a.tx, .slice v.a.ao v.a.n v.a.cap, .string v.sg, .int .i64 v.b.k, .int .i64 v.b.val, .string v.b.tx, .slice v.b.ao v.b.n v.b.cap, .string v.op, .int .i64 v.c.k, .int .i64 v.c.val, .string v.c.tx, .slice v.c.ao v.c.n v.c.cap] 151))
  have HI0 := hide (hi.keep (KeepA.alloc _ (.cells #[.int .i64 v.a.k, .int .i64 v.a.val, .string v.a.tx, .slice v.a.ao v.a.n v.a.cap, .string v.sg, .int .i64 v.b.k, .int .i64 v.b.val, .string v.b.tx, .slice v.b.ao v.b.n v.b.cap, .string v.op, .int .i64 v.c.k, .int .i64 v.c.val, .string v.c.tx, .slice v.c.ao v.c.n v.c.cap] 151)))
  have HBX := hide (heap_alloc_new w (.cells #[.int .i64 v.a.k, .int .i64 v.a.val, .string v.a.tx, .slice v.a.ao v.a.n v.a.cap, .string v.sg, .int .i64 v.b.k, .int .i64 v.b.val, .string v.b.tx, .slice v.b.ao v.b.n v.b.cap, .string v.op, .int .i64 v.c.k, .int .i64 v.c.val, .string v.c.tx, .slice v.c.ao v.c.n v.c.cap] 151))
  have HOK := hide hok
  have HO2 := hide (hok.2.1 r hr)
  have HO3 := hide (hok.2.2 z hz)
  have HR := hide hr
  have HZ := hide hz
  clear hi hs1 hs2 hs3 hs4 hok hp
  go_enter Tryz.func87, Tryz.ntmps87
  go_wp2_with fail
  refine (stA_all 8 _ N v.a x.left (unhide HI0).left (unhide HP0) hN (by omega)).mono ?_
  unfold PStrT
  rintro e w1 ⟨rfl, hb⟩
  have hA1 := str_all hN x.left (unhide HOK).1
  have HP1 := hide ((unhide HP0).below hb)
  have HI1 := hide ((unhide HI0).keep (KeepA.below hb))
  have HBX1 := hide ((hb.block w.heap.size (blk_lt (unhide HBX))).trans (unhide HBX))
  have HB1 := hide (((Below.refl w.heap.size w).alloc (Nat.le_refl _) (.cells #[.int .i64 v.a.k, .int .i64 v.a.val, .string v.a.tx, .slice v.a.ao v.a.n v.a.cap, .string v.sg, .int .i64 v.b.k, .int .i64 v.b.val, .string v.b.tx, .slice v.b.ao v.b.n v.b.cap, .string v.op, .int .i64 v.c.k, .int .i64 v.c.val, .string v.c.tx, .slice v.c.ao v.c.n v.c.cap] 151)).trans (hb.mono (by simp)))
  have r1 := blkA (unhide HBX1)
  have z1 := blk_lt (unhide HBX1)
  clear hb
  generalize hAA1 : Parl.strF 8 N x.left = A1 at *
  have HA1 := hide hAA1
  clear hAA1
  go_wp2_with fail
  refine (stA_all 8 _ N v.b r ((unhide HI1).right r (unhide HR)) (unhide HP1) hN (by omega)).mono ?_
  unfold PStrT
  rintro e w2 ⟨rfl, hb⟩
  have hA2 := str_all hN r (unhide HO2)
  have HP2 := hide ((unhide HP1).below hb)
  have HI2 := hide ((unhide HI1).keep (KeepA.below hb))
  have HBX2 := hide ((hb.block w.heap.size (blk_lt (unhide HBX1))).trans (unhide HBX1))
  have HB2 := hide ((unhide HB1).trans (hb.mono (unhide HB1).size))
  have r2 := blkA (unhide HBX2)
  have z2 := blk_lt (unhide HBX2)
  clear hb
  generalize hAA2 : Parl.strF 8 N r = A2 at *
  have HA2 := hide hAA2
  clear hAA2
  clear r1 z1
  go_wp2_with fail
  refine (stA_all 8 _ N v.c z ((unhide HI2).last z (unhide HZ)) (unhide HP2) hN (by omega)).mono ?_
  unfold PStrT
  rintro e w3 ⟨rfl, hb⟩
  have hA3 := str_all hN z (unhide HO3)
  have HP3 := hide ((unhide HP2).below hb)
  have HI3 := hide ((unhide HI2).keep (KeepA.below hb))
  have HBX3 := hide ((hb.block w.heap.size (blk_lt (unhide HBX2))).trans (unhide HBX2))
  have HB3 := hide ((unhide HB2).trans (hb.mono (unhide HB2).size))
  have r3 := blkA (unhide HBX3)
  have z3 := blk_lt (unhide HBX3)
  clear hb
  generalize hAA3 : Parl.strF 8 N z = A3 at *
  have HA3 := hide hAA3
  clear hAA3
  clear r2 z2
  go_wp2_with fail
  go_ret
  refine ⟨?_, unhide HB3⟩
  rw [unhide HF, ← si_2, ← unhide HSG, ← unhide HOP]
  rfl

theorem siA_any (w : World) (N : List (List UInt8)) (v : JV) (x : Parl.Itm) (hi : ItR N w v x) (hw : Parl.wfI x) (hp : Pow w) (hN : N.length ≤ 1000000) :
    Calls Tryz.prog 87 #[.agg #[.int .i64 v.a.k, .int .i64 v.a.val, .string v.a.tx, .slice v.a.ao v.a.n v.a.cap, .string v.sg, .int .i64 v.b.k, .int .i64 v.b.val, .string v.b.tx, .slice v.b.ao v.b.n v.b.cap, .string v.op, .int .i64 v.c.k, .int .i64 v.c.val, .string v.c.tx, .slice v.c.ao v.c.n v.c.cap]] w fun e w' => PStrJ N x w e w' := by
  cases hr : x.right with
  | none => exact siA_0 w N v x hi hw hp hN hr (hw.2.2.2.2.2 hr)
  | some r =>
    cases hz : x.last with
    | none => exact siA_1 w N v x hi hw hp hN r hr hz
    | some z => exact siA_2 w N v x hi hw hp hN r z hr hz

/-- What 'Items' is to leave. -/
def PStrM (N : List (List UInt8)) (ys : List Parl.Itm) (w : World) (e : Ending) (w' : World) : Prop := e = .returned (.string ⟨(Parl.strL N ys).toArray⟩) ∧ Below w.heap.size w w'
def LMA (w : World) (N : List (List UInt8)) (ys : List Parl.Itm) (k : Nat) (sv iv : Value) (wr : World) : Prop :=
  ∃ j : Nat, k + j = ys.length ∧ iv = .int .i64 (j : Int) ∧ sv = .string ⟨(Parl.joinC ((ys.take j).map (Parl.strI N))).toArray⟩ ∧ Below w.heap.size w wr

set_option maxHeartbeats 4000000 in
set_option maxRecDepth 100000 in
theorem smA_some (w : World) (N : List (List UInt8)) (lo : Option Addr) (n cp : Nat) (ys : List Parl.Itm) (hy : ItemsA N w lo n ys) (hne : ys ≠ []) (hw : ∀ x ∈ ys, Parl.wfI x) (h6 : ys.length ≤ 6) (hp : Pow w) (hN : N.length ≤ 1000000) :
    Calls Tryz.prog 154 #[.slice lo n cp] w fun e w' => PStrM N ys w e w' := by
  have HOK := hide hy.ok
  obtain ⟨rfl, hy2⟩ := hy
  obtain ⟨g, vs, cs, rfl, hcs, htk, hall⟩ := hy2 hne
  have HWF := hide hw
  have HL := hide (show LMA w N ys ys.length (.string ⟨#[]⟩) (.int .i64 0) w from ⟨0, by omega, rfl, by simp [Parl.joinC], Below.refl _ _⟩)
  have HCS := hide hcs
  have HTK := hide htk
  have HALL := hide hall
  have HVL := hide hall.length
  have HL6 := hide h6
  have HNE := hide hne
  have HPW := hide hp
  clear hcs htk hall hy2 hw h6 hne hp
  go_enter Tryz.func154, Tryz.ntmps154
  go_wp2_with fail
  go_loopg [3, 8] ys.length (fun k s i wr => LMA w N ys k s i wr)
  case atStart => exact unhide HL
  case round =>
    clear HL
    obtain ⟨j, hkj, rfl, rfl, hB⟩ := hrel
    have h6 := unhide HL6
    have hz := hB.size
    have HB := hide hB
    have hlS : (Parl.joinC ((ys.take j).map (Parl.strI N))).length ≤ 30000000 := by
      have h3 := Parl.joinC_len (c := 3000004) ((ys.take j).map (Parl.strI N)) (fun x hx => by
        obtain ⟨u, hu, rfl⟩ := List.mem_map.1 hx
        have hu' := List.mem_of_mem_take hu
        exact Parl.strI_len _ _ (unhide HOK u hu') (unhide HWF u hu').2.2.2.1 (unhide HWF u hu').2.2.2.2.1 (fun t ht => str_all hN t ht))
      have h4 : ((ys.take j).map (Parl.strI N)).length ≤ 6 := by simp; omega
      have h5 := Nat.mul_le_mul_right (3000004 + 2) h4
      omega
    by_cases hlt' : j < ys.length
    · have hjv : j < vs.length := by have := unhide HVL; omega
      have hcw : wr.heap[g]? = some (.cells cs 151 (0, 0)) := (hB.block g (Array.getElem?_eq_some_iff.1 (unhide HCS)).1).trans (unhide HCS)
      have fc : ∀ i, i < 14 → wr.cell? ⟨g, j * 14 + i, none⟩ = (jvC vs[j])[i]? := fun i hi => by
        rw [blkA hcw, ← Array.getElem?_toList, ← jvC_at hjv i hi, ← unhide HTK, List.getElem?_take_of_lt (by omega)]
      have f0 := fc 0 (by omega)
      have f1 := fc 1 (by omega)
      have f2 := fc 2 (by omega)
      have f3 := fc 3 (by omega)
      have f4 := fc 4 (by omega)
      have f5 := fc 5 (by omega)
      have f6 := fc 6 (by omega)
      have f7 := fc 7 (by omega)
      have f8 := fc 8 (by omega)
      have f9 := fc 9 (by omega)
      have f10 := fc 10 (by omega)
      have f11 := fc 11 (by omega)
      have f12 := fc 12 (by omega)
      have f13 := fc 13 (by omega)
      simp only [jvC, List.getElem?_cons_zero, List.getElem?_cons_succ, Nat.add_zero] at f0 f1 f2 f3 f4 f5 f6 f7 f8 f9 f10 f11 f12 f13
      have hit := ((unhide HALL).at j hjv hlt').keep (KeepA.below hB)
      have IC := hide (siA_any (wr.alloc (.cells #[.int .i64 vs[j].a.k, .int .i64 vs[j].a.val, .string vs[j].a.tx, .slice vs[j].a.ao vs[j].a.n vs[j].a.cap, .string vs[j].sg, .int .i64 vs[j].b.k, .int .i64 vs[j].b.val, .string vs[j].b.tx, .slice vs[j].b.ao vs[j].b.n vs[j].b.cap, .string vs[j].op, .int .i64 vs[j].c.k, .int .i64 vs[j].c.val, .string vs[j].c.tx, .slice vs[j].c.ao vs[j].c.n vs[j].c.cap] 151)) N vs[j] ys[j] (hit.keep (KeepA.alloc _ _)) (unhide HWF _ (List.getElem_mem hlt')) (((unhide HPW).below hB).alloc _) hN)
      have hgw : g < wr.heap.size := blk_lt hcw
      have i0 : (0 : Int) ≤ (j : Int) := by omega
      have i1 : (j : Int) < (ys.length : Int) := by omega
      have hA : (Parl.strI N ys[j]).length ≤ 3000004 := Parl.strI_len _ _ (unhide HOK _ (List.getElem_mem hlt')) (unhide HWF _ (List.getElem_mem hlt')).2.2.2.1 (unhide HWF _ (List.getElem_mem hlt')).2.2.2.2.1 (fun t ht => str_all hN t ht)
      have HMORE := hide (Parl.take_step hlt' (Parl.strI N))
      have HKJ := hide hkj
      have HLT := hide hlt'
      have HJ0 := hide (show j ≠ 0 → (ys.take j).map (Parl.strI N) ≠ [] from fun q e => by rw [List.map_eq_nil_iff, List.take_eq_nil_iff] at e; rcases e with e | e; exact q e; rw [e] at hlt'; simp at hlt')
      have hj6 : j ≤ 6 := by omega
      clear hit fc hcw hkj h6 hB
      generalize hSS : Parl.joinC ((ys.take j).map (Parl.strI N)) = S at *
      have HSS := hide hSS
      clear hSS
      unfold PStrJ at IC
      generalize hAA : Parl.strI N ys[j] = A at *
      clear hAA
      by_cases hj0 : j = 0
      · subst hj0
        go_wp2_with fail
        refine (unhide IC).mono ?_
        rintro e w2 ⟨rfl, hb2⟩
        have HB2 := hide ((unhide HB).trans (((Below.refl _ _).alloc hz _).trans (hb2.mono (by simp; omega))))
        clear hb2 IC f0 f1 f2 f3 f4 f5 f6 f7 f8 f9 f10 f11 f12 f13
        go_wp2_with fail
        go_roundg (gk - 1)
        case measure => have := unhide HKJ; have := unhide HLT; omega
        case rel => exact ⟨0 + 1, by have := unhide HKJ; have := unhide HLT; omega, by go_num, by rw [unhide HMORE, ← unhide HSS]; exact congrArg Value.string (ll_str0 _ _ (by simp)), unhide HB2⟩
      · have hj0' : decide (0 < (j : Int)) = true := by simp; omega
        have HJ1 := hide (unhide HJ0 hj0)
        clear HJ0
        go_wp2_with fail
        refine (unhide IC).mono ?_
        rintro e w2 ⟨rfl, hb2⟩
        have HB2 := hide ((unhide HB).trans (((Below.refl _ _).alloc hz _).trans (hb2.mono (by simp; omega))))
        clear hb2 IC f0 f1 f2 f3 f4 f5 f6 f7 f8 f9 f10 f11 f12 f13
        go_wp2_with fail
        go_roundg (gk - 1)
        case measure => have := unhide HKJ; have := unhide HLT; omega
        case rel => exact ⟨j + 1, by have := unhide HKJ; have := unhide HLT; omega, by go_num, by rw [unhide HMORE, ← unhide HSS]; exact congrArg Value.string (ll_str1 _ _ (unhide HJ1)), unhide HB2⟩
    · obtain rfl : j = ys.length := by omega
      have HEND := hide (show Parl.strL N ys = Parl.joinC ((ys.take ys.length).map (Parl.strI N)) by unfold Parl.strL; rw [List.take_length])
      generalize hSS : Parl.joinC ((ys.take ys.length).map (Parl.strI N)) = S at *
      clear hSS hkj h6 hB
      go_wp2_with fail
      go_ret
      refine ⟨?_, unhide HB⟩
      rw [unhide HEND]
      rfl

set_option maxHeartbeats 1000000 in
theorem smA_none (w : World) (N : List (List UInt8)) (lo : Option Addr) (cp : Nat) :
    Calls Tryz.prog 154 #[.slice lo 0 cp] w fun e w' => PStrM N [] w e w' := by
  go_enter Tryz.func154, Tryz.ntmps154
  go_wp2_with fail
  refine wp_loop_rounds 1 ?_
  rw [rounds_succ]
  go_wp2_with fail
  go_ret
  exact ⟨rfl, Below.refl _ _⟩
theorem smA_any (w : World) (N : List (List UInt8)) (lo : Option Addr) (n cp : Nat) (ys : List Parl.Itm) (hy : ItemsA N w lo n ys) (hw : ∀ x ∈ ys, Parl.wfI x) (h6 : ys.length ≤ 6) (hp : Pow w) (hN : N.length ≤ 1000000) :
    Calls Tryz.prog 154 #[.slice lo n cp] w fun e w' => PStrM N ys w e w' := by
  by_cases hne : ys = []
  · subst hne
    obtain ⟨rfl, _⟩ := hy
    exact smA_none w N lo cp
  · exact smA_some w N lo n cp ys hy hne hw h6 hp hN
end Go.Proofs.YthfjnfcekeknlaaGreatDoor
namespace Parl
/-- A clause as it is written, its line end left out; N: its variables. -/
def strCN (N : List (List UInt8)) (c : Cls) : List UInt8 := strF 8 N c.head ++ midC c ++ guardC N c ++ strL N c.goals ++ [46]
def strC0 (c : Cls) : List UInt8 := strCN (NG c) c
theorem strC_end (c : Cls) : strC c = strC0 c ++ [10] := by unfold strC strC0 strCN; simp
theorem NG_len (c : Cls) (h : okC c) (hw : wfC c) : (NG c).length ≤ 1000000 := by
  have n1 : (NH c).length ≤ 6561 := by
    obtain ⟨M, hM, hl⟩ := namesF_ext 8 c.head h.1 []
    unfold NH
    rw [hM]
    simpa using hl
  have n2 : (NT c).length ≤ (NH c).length + 120000 := namesL_len _ h.2.1 hw.2.2.1 _
  have n3 : (NG c).length ≤ (NT c).length + 120000 := namesL_len _ h.2.2 hw.2.2.2.2 _
  omega
end Parl
namespace Go.Proofs.YthfjnfcekeknlaaGreatDoor
open Go.RowKit

theorem ClauseA.ok {w : World} {a : TV} {o1 : Option Addr} {n1 : Nat} {o2 : Option Addr} {n2 : Nat} {c : Parl.Cls} (h : ClauseA w a o1 n1 o2 n2 c) : Parl.okC c := ⟨h.head.ok3, h.tests.ok, h.goals.ok⟩
theorem sq_00 (A1 A3 : List UInt8) : (⟨A1.toArray⟩ : ByteArray) ++ ⟨A3.toArray⟩ ++ ⟨#[46]⟩ = ⟨(A1 ++ [] ++ [] ++ A3 ++ [46]).toArray⟩ := by
  rw [ba_lit, ba_app, ba_app]; simp
theorem sq_10 (A1 A3 : List UInt8) : (⟨A1.toArray⟩ : ByteArray) ++ ⟨#[32, 58, 45, 32]⟩ ++ ⟨A3.toArray⟩ ++ ⟨#[46]⟩ = ⟨(A1 ++ [32, 58, 45, 32] ++ [] ++ A3 ++ [46]).toArray⟩ := by
  rw [ba_lit, show (⟨#[32, 58, 45, 32]⟩ : ByteArray) = ⟨[32, 58, 45, 32].toArray⟩ from rfl, ba_app, ba_app, ba_app]; simp
theorem sq_01 (A1 A2 A3 : List UInt8) : (⟨A1.toArray⟩ : ByteArray) ++ ⟨A2.toArray⟩ ++ ⟨#[32, 124, 32]⟩ ++ ⟨A3.toArray⟩ ++ ⟨#[46]⟩ = ⟨(A1 ++ [] ++ (A2 ++ [32, 124, 32]) ++ A3 ++ [46]).toArray⟩ := by
  rw [ba_lit, show (⟨#[32, 124, 32]⟩ : ByteArray) = ⟨[32, 124, 32].toArray⟩ from rfl, ba_app, ba_app, ba_app, ba_app]; simp
theorem sq_11 (A1 A2 A3 : List UInt8) : (⟨A1.toArray⟩ : ByteArray) ++ ⟨#[32, 58, 45, 32]⟩ ++ ⟨A2.toArray⟩ ++ ⟨#[32, 124, 32]⟩ ++ ⟨A3.toArray⟩ ++ ⟨#[46]⟩ = ⟨(A1 ++ [32, 58, 45, 32] ++ (A2 ++ [32, 124, 32]) ++ A3 ++ [46]).toArray⟩ := by
  rw [ba_lit, show (⟨#[32, 124, 32]⟩ : ByteArray) = ⟨[32, 124, 32].toArray⟩ from rfl, show (⟨#[32, 58, 45, 32]⟩ : ByteArray) = ⟨[32, 58, 45, 32].toArray⟩ from rfl, ba_app, ba_app, ba_app, ba_app, ba_app]; simp
/-- A clause lies there; N: its variables. -/
structure ClauseN (N : List (List UInt8)) (w : World) (v : QV) (c : Parl.Cls) : Prop where
  head : RA 8 N anyA w v.a c.head
  tests : ItemsA N w v.o1 v.n1 c.tests
  goals : ItemsA N w v.o2 v.n2 c.goals
theorem ClauseN.keep {N : List (List UInt8)} {w w' : World} {v : QV} {c : Parl.Cls} (h : ClauseN N w v c) (hk : KeepAJ w w') : ClauseN N w' v c := ⟨hk.a.ra h.head, h.tests.keep hk, h.goals.keep hk⟩
theorem ClauseN.ok {N : List (List UInt8)} {w : World} {v : QV} {c : Parl.Cls} (h : ClauseN N w v c) : Parl.okC c := ⟨h.head.ok3, h.tests.ok, h.goals.ok⟩
def PStrN (N : List (List UInt8)) (c : Parl.Cls) (w : World) (e : Ending) (w' : World) : Prop := e = .returned (.string ⟨(Parl.strCN N c).toArray⟩) ∧ Below w.heap.size w w'
def PStrC (c : Parl.Cls) (w : World) (e : Ending) (w' : World) : Prop := e = .returned (.string ⟨(Parl.strC0 c).toArray⟩) ∧ Below w.heap.size w w'

set_option maxHeartbeats 4000000 in
set_option maxRecDepth 100000 in
theorem scA_00 (w : World) (N : List (List UInt8)) (v : QV) (c : Parl.Cls) (hc : ClauseN N w v c) (hw : Parl.wfC c) (hp : Pow w) (hN : N.length ≤ 1000000) (hg : c.goals.length = 0) (ht : c.tests.length = 0) :
    Calls Tryz.prog 90 #[.agg #[.int .i64 v.a.k, .int .i64 v.a.val, .string v.a.tx, .slice v.a.ao v.a.n v.a.cap, .slice v.o1 v.n1 v.c1, .slice v.o2 v.n2 v.c2]] w fun e w' => PStrN N c w e w' := by
  have hok := hc.ok
  have hn1 := hc.tests.1
  have hn2 := hc.goals.1
  obtain ⟨va, vo1, vn1, vc1, vo2, vn2, vc2⟩ := v
  dsimp only at hn1 hn2 ⊢
  obtain rfl : vn2 = 0 := by omega
  obtain rfl : vn1 = 0 := by omega
  have HF := hide (show Parl.strCN N c = Parl.strF 8 N c.head ++ [] ++ [] ++ Parl.strL N c.goals ++ [46] by unfold Parl.strCN Parl.midC Parl.guardC; rw [if_pos hg, if_pos ht])
  have HP0 := hide (hp.alloc (.cells #[.int .i64 va.k, .int .i64 va.val, .string va.tx, .slice va.ao va.n va.cap, .slice vo1 0 vc1, .slice vo2 0 vc2] 78))
  have HC0 := hide (hc.keep (KeepAJ.alloc _ (.cells #[.int .i64 va.k, .int .i64 va.val, .string va.tx, .slice va.ao va.n va.cap, .slice vo1 0 vc1, .slice vo2 0 vc2] 78)))
  have HBX0 := hide (heap_alloc_new w (.cells #[.int .i64 va.k, .int .i64 va.val, .string va.tx, .slice va.ao va.n va.cap, .slice vo1 0 vc1, .slice vo2 0 vc2] 78))
  have HOK := hide hok
  have HWC := hide hw
  clear hc hok hw hp hn1 hn2 hg ht
  go_enter Tryz.func90, Tryz.ntmps90
  go_wp2_with fail
  refine (stA_all 8 _ N va c.head (unhide HC0).head (unhide HP0) hN (by omega)).mono ?_
  unfold PStrT
  rintro e w1 ⟨rfl, hb⟩
  have hA1 := str_all hN c.head (unhide HOK).1
  have HP1 := hide ((unhide HP0).below hb)
  have HC1 := hide ((unhide HC0).keep (KeepAJ.below hb))
  have HBX1 := hide ((hb.block w.heap.size (blk_lt (unhide HBX0))).trans (unhide HBX0))
  have HB1 := hide (((Below.refl w.heap.size w).alloc (Nat.le_refl _) (.cells #[.int .i64 va.k, .int .i64 va.val, .string va.tx, .slice va.ao va.n va.cap, .slice vo1 0 vc1, .slice vo2 0 vc2] 78)).trans (hb.mono (by simp)))
  have r1 := blkA (unhide HBX1)
  have z1 := blk_lt (unhide HBX1)
  clear hb
  generalize hAA1 : Parl.strF 8 N c.head = A1 at *
  have HA1 := hide hAA1
  clear hAA1
  go_wp2_with fail
  refine (smA_any _ N vo2 0 vc2 c.goals (unhide HC1).goals (unhide HWC).2.2.2.1 (unhide HWC).2.2.2.2 (unhide HP1) hN).mono ?_
  unfold PStrM
  rintro e w2 ⟨rfl, hb⟩
  have hA2 := Parl.strL_len c.goals N (unhide HOK).2.2 (unhide HWC).2.2.2.1 (unhide HWC).2.2.2.2 (fun t ht => str_all hN t ht)
  have HP2 := hide ((unhide HP1).below hb)
  have HC2 := hide ((unhide HC1).keep (KeepAJ.below hb))
  have HBX2 := hide ((hb.block w.heap.size (blk_lt (unhide HBX1))).trans (unhide HBX1))
  have HB2 := hide ((unhide HB1).trans (hb.mono (unhide HB1).size))
  have r2 := blkA (unhide HBX2)
  have z2 := blk_lt (unhide HBX2)
  clear hb r1 z1
  generalize hAA2 : Parl.strL N c.goals = A2 at *
  have HA2 := hide hAA2
  clear hAA2
  go_wp2_with fail
  go_ret
  refine ⟨?_, unhide HB2⟩
  rw [unhide HF, ← sq_00]
  rfl

set_option maxHeartbeats 4000000 in
set_option maxRecDepth 100000 in
theorem scA_01 (w : World) (N : List (List UInt8)) (v : QV) (c : Parl.Cls) (hc : ClauseN N w v c) (hw : Parl.wfC c) (hp : Pow w) (hN : N.length ≤ 1000000) (hg : c.goals.length = 0) (ht : c.tests.length ≠ 0) :
    Calls Tryz.prog 90 #[.agg #[.int .i64 v.a.k, .int .i64 v.a.val, .string v.a.tx, .slice v.a.ao v.a.n v.a.cap, .slice v.o1 v.n1 v.c1, .slice v.o2 v.n2 v.c2]] w fun e w' => PStrN N c w e w' := by
  have hok := hc.ok
  have hn1 := hc.tests.1
  have hn2 := hc.goals.1
  obtain ⟨va, vo1, vn1, vc1, vo2, vn2, vc2⟩ := v
  dsimp only at hn1 hn2 ⊢
  obtain rfl : vn2 = 0 := by omega
  have t2 : decide (0 < vn1) = true := by simp; omega
  have HF := hide (show Parl.strCN N c = Parl.strF 8 N c.head ++ [] ++ (Parl.strL N c.tests ++ [32, 124, 32]) ++ Parl.strL N c.goals ++ [46] by unfold Parl.strCN Parl.midC Parl.guardC; rw [if_pos hg, if_neg ht])
  have HP0 := hide (hp.alloc (.cells #[.int .i64 va.k, .int .i64 va.val, .string va.tx, .slice va.ao va.n va.cap, .slice vo1 vn1 vc1, .slice vo2 0 vc2] 78))
  have HC0 := hide (hc.keep (KeepAJ.alloc _ (.cells #[.int .i64 va.k, .int .i64 va.val, .string va.tx, .slice va.ao va.n va.cap, .slice vo1 vn1 vc1, .slice vo2 0 vc2] 78)))
  have HBX0 := hide (heap_alloc_new w (.cells #[.int .i64 va.k, .int .i64 va.val, .string va.tx, .slice va.ao va.n va.cap, .slice vo1 vn1 vc1, .slice vo2 0 vc2] 78))
  have HOK := hide hok
  have HWC := hide hw
  clear hc hok hw hp hn1 hn2 hg ht
  go_enter Tryz.func90, Tryz.ntmps90
  go_wp2_with fail
  refine (stA_all 8 _ N va c.head (unhide HC0).head (unhide HP0) hN (by omega)).mono ?_
  unfold PStrT
  rintro e w1 ⟨rfl, hb⟩
  have hA1 := str_all hN c.head (unhide HOK).1
  have HP1 := hide ((unhide HP0).below hb)
  have HC1 := hide ((unhide HC0).keep (KeepAJ.below hb))
  have HBX1 := hide ((hb.block w.heap.size (blk_lt (unhide HBX0))).trans (unhide HBX0))
  have HB1 := hide (((Below.refl w.heap.size w).alloc (Nat.le_refl _) (.cells #[.int .i64 va.k, .int .i64 va.val, .string va.tx, .slice va.ao va.n va.cap, .slice vo1 vn1 vc1, .slice vo2 0 vc2] 78)).trans (hb.mono (by simp)))
  have r1 := blkA (unhide HBX1)
  have z1 := blk_lt (unhide HBX1)
  clear hb
  generalize hAA1 : Parl.strF 8 N c.head = A1 at *
  have HA1 := hide hAA1
  clear hAA1
  go_wp2_with fail
  refine (smA_any _ N vo1 vn1 vc1 c.tests (unhide HC1).tests (unhide HWC).2.1 (unhide HWC).2.2.1 (unhide HP1) hN).mono ?_
  unfold PStrM
  rintro e w2 ⟨rfl, hb⟩
  have hA2 := Parl.strL_len c.tests N (unhide HOK).2.1 (unhide HWC).2.1 (unhide HWC).2.2.1 (fun t ht => str_all hN t ht)
  have HP2 := hide ((unhide HP1).below hb)
  have HC2 := hide ((unhide HC1).keep (KeepAJ.below hb))
  have HBX2 := hide ((hb.block w.heap.size (blk_lt (unhide HBX1))).trans (unhide HBX1))
  have HB2 := hide ((unhide HB1).trans (hb.mono (unhide HB1).size))
  have r2 := blkA (unhide HBX2)
  have z2 := blk_lt (unhide HBX2)
  clear hb r1 z1
  generalize hAA2 : Parl.strL N c.tests = A2 at *
  have HA2 := hide hAA2
  clear hAA2
  go_wp2_with fail
  refine (smA_any _ N vo2 0 vc2 c.goals (unhide HC2).goals (unhide HWC).2.2.2.1 (unhide HWC).2.2.2.2 (unhide HP2) hN).mono ?_
  unfold PStrM
  rintro e w3 ⟨rfl, hb⟩
  have hA3 := Parl.strL_len c.goals N (unhide HOK).2.2 (unhide HWC).2.2.2.1 (unhide HWC).2.2.2.2 (fun t ht => str_all hN t ht)
  have HP3 := hide ((unhide HP2).below hb)
  have HC3 := hide ((unhide HC2).keep (KeepAJ.below hb))
  have HBX3 := hide ((hb.block w.heap.size (blk_lt (unhide HBX2))).trans (unhide HBX2))
  have HB3 := hide ((unhide HB2).trans (hb.mono (unhide HB2).size))
  have r3 := blkA (unhide HBX3)
  have z3 := blk_lt (unhide HBX3)
  clear hb r2 z2
  generalize hAA3 : Parl.strL N c.goals = A3 at *
  have HA3 := hide hAA3
  clear hAA3
  go_wp2_with fail
  go_ret
  refine ⟨?_, unhide HB3⟩
  rw [unhide HF, ← sq_01]
  rfl

set_option maxHeartbeats 4000000 in
set_option maxRecDepth 100000 in
theorem scA_10 (w : World) (N : List (List UInt8)) (v : QV) (c : Parl.Cls) (hc : ClauseN N w v c) (hw : Parl.wfC c) (hp : Pow w) (hN : N.length ≤ 1000000) (hg : c.goals.length ≠ 0) (ht : c.tests.length = 0) :
    Calls Tryz.prog 90 #[.agg #[.int .i64 v.a.k, .int .i64 v.a.val, .string v.a.tx, .slice v.a.ao v.a.n v.a.cap, .slice v.o1 v.n1 v.c1, .slice v.o2 v.n2 v.c2]] w fun e w' => PStrN N c w e w' := by
  have hok := hc.ok
  have hn1 := hc.tests.1
  have hn2 := hc.goals.1
  obtain ⟨va, vo1, vn1, vc1, vo2, vn2, vc2⟩ := v
  dsimp only at hn1 hn2 ⊢
  have g2 : decide (0 < vn2) = true := by simp; omega
  obtain rfl : vn1 = 0 := by omega
  have HF := hide (show Parl.strCN N c = Parl.strF 8 N c.head ++ [32, 58, 45, 32] ++ [] ++ Parl.strL N c.goals ++ [46] by unfold Parl.strCN Parl.midC Parl.guardC; rw [if_neg hg, if_pos ht])
  have HP0 := hide (hp.alloc (.cells #[.int .i64 va.k, .int .i64 va.val, .string va.tx, .slice va.ao va.n va.cap, .slice vo1 0 vc1, .slice vo2 vn2 vc2] 78))
  have HC0 := hide (hc.keep (KeepAJ.alloc _ (.cells #[.int .i64 va.k, .int .i64 va.val, .string va.tx, .slice va.ao va.n va.cap, .slice vo1 0 vc1, .slice vo2 vn2 vc2] 78)))
  have HBX0 := hide (heap_alloc_new w (.cells #[.int .i64 va.k, .int .i64 va.val, .string va.tx, .slice va.ao va.n va.cap, .slice vo1 0 vc1, .slice vo2 vn2 vc2] 78))
  have HOK := hide hok
  have HWC := hide hw
  clear hc hok hw hp hn1 hn2 hg ht
  go_enter Tryz.func90, Tryz.ntmps90
  go_wp2_with fail
  refine (stA_all 8 _ N va c.head (unhide HC0).head (unhide HP0) hN (by omega)).mono ?_
  unfold PStrT
  rintro e w1 ⟨rfl, hb⟩
  have hA1 := str_all hN c.head (unhide HOK).1
  have HP1 := hide ((unhide HP0).below hb)
  have HC1 := hide ((unhide HC0).keep (KeepAJ.below hb))
  have HBX1 := hide ((hb.block w.heap.size (blk_lt (unhide HBX0))).trans (unhide HBX0))
  have HB1 := hide (((Below.refl w.heap.size w).alloc (Nat.le_refl _) (.cells #[.int .i64 va.k, .int .i64 va.val, .string va.tx, .slice va.ao va.n va.cap, .slice vo1 0 vc1, .slice vo2 vn2 vc2] 78)).trans (hb.mono (by simp)))
  have r1 := blkA (unhide HBX1)
  have z1 := blk_lt (unhide HBX1)
  clear hb
  generalize hAA1 : Parl.strF 8 N c.head = A1 at *
  have HA1 := hide hAA1
  clear hAA1
  go_wp2_with fail
  refine (smA_any _ N vo2 vn2 vc2 c.goals (unhide HC1).goals (unhide HWC).2.2.2.1 (unhide HWC).2.2.2.2 (unhide HP1) hN).mono ?_
  unfold PStrM
  rintro e w2 ⟨rfl, hb⟩
  have hA2 := Parl.strL_len c.goals N (unhide HOK).2.2 (unhide HWC).2.2.2.1 (unhide HWC).2.2.2.2 (fun t ht => str_all hN t ht)
  have HP2 := hide ((unhide HP1).below hb)
  have HC2 := hide ((unhide HC1).keep (KeepAJ.below hb))
  have HBX2 := hide ((hb.block w.heap.size (blk_lt (unhide HBX1))).trans (unhide HBX1))
  have HB2 := hide ((unhide HB1).trans (hb.mono (unhide HB1).size))
  have r2 := blkA (unhide HBX2)
  have z2 := blk_lt (unhide HBX2)
  clear hb r1 z1
  generalize hAA2 : Parl.strL N c.goals = A2 at *
  have HA2 := hide hAA2
  clear hAA2
  go_wp2_with fail
  go_ret
  refine ⟨?_, unhide HB2⟩
  rw [unhide HF, ← sq_10]
  rfl

set_option maxHeartbeats 4000000 in
set_option maxRecDepth 100000 in
theorem scA_11 (w : World) (N : List (List UInt8)) (v : QV) (c : Parl.Cls) (hc : ClauseN N w v c) (hw : Parl.wfC c) (hp : Pow w) (hN : N.length ≤ 1000000) (hg : c.goals.length ≠ 0) (ht : c.tests.length ≠ 0) :
    Calls Tryz.prog 90 #[.agg #[.int .i64 v.a.k, .int .i64 v.a.val, .string v.a.tx, .slice v.a.ao v.a.n v.a.cap, .slice v.o1 v.n1 v.c1, .slice v.o2 v.n2 v.c2]] w fun e w' => PStrN N c w e w' := by
  have hok := hc.ok
  have hn1 := hc.tests.1
  have hn2 := hc.goals.1
  obtain ⟨va, vo1, vn1, vc1, vo2, vn2, vc2⟩ := v
  dsimp only at hn1 hn2 ⊢
  have g2 : decide (0 < vn2) = true := by simp; omega
  have t2 : decide (0 < vn1) = true := by simp; omega
  have HF := hide (show Parl.strCN N c = Parl.strF 8 N c.head ++ [32, 58, 45, 32] ++ (Parl.strL N c.tests ++ [32, 124, 32]) ++ Parl.strL N c.goals ++ [46] by unfold Parl.strCN Parl.midC Parl.guardC; rw [if_neg hg, if_neg ht])
  have HP0 := hide (hp.alloc (.cells #[.int .i64 va.k, .int .i64 va.val, .string va.tx, .slice va.ao va.n va.cap, .slice vo1 vn1 vc1, .slice vo2 vn2 vc2] 78))
  have HC0 := hide (hc.keep (KeepAJ.alloc _ (.cells #[.int .i64 va.k, .int .i64 va.val, .string va.tx, .slice va.ao va.n va.cap, .slice vo1 vn1 vc1, .slice vo2 vn2 vc2] 78)))
  have HBX0 := hide (heap_alloc_new w (.cells #[.int .i64 va.k, .int .i64 va.val, .string va.tx, .slice va.ao va.n va.cap, .slice vo1 vn1 vc1, .slice vo2 vn2 vc2] 78))
  have HOK := hide hok
  have HWC := hide hw
  clear hc hok hw hp hn1 hn2 hg ht
  go_enter Tryz.func90, Tryz.ntmps90
  go_wp2_with fail
  refine (stA_all 8 _ N va c.head (unhide HC0).head (unhide HP0) hN (by omega)).mono ?_
  unfold PStrT
  rintro e w1 ⟨rfl, hb⟩
  have hA1 := str_all hN c.head (unhide HOK).1
  have HP1 := hide ((unhide HP0).below hb)
  have HC1 := hide ((unhide HC0).keep (KeepAJ.below hb))
  have HBX1 := hide ((hb.block w.heap.size (blk_lt (unhide HBX0))).trans (unhide HBX0))
  have HB1 := hide (((Below.refl w.heap.size w).alloc (Nat.le_refl _) (.cells #[.int .i64 va.k, .int .i64 va.val, .string va.tx, .slice va.ao va.n va.cap, .slice vo1 vn1 vc1, .slice vo2 vn2 vc2] 78)).trans (hb.mono (by simp)))
  have r1 := blkA (unhide HBX1)
  have z1 := blk_lt (unhide HBX1)
  clear hb
  generalize hAA1 : Parl.strF 8 N c.head = A1 at *
  have HA1 := hide hAA1
  clear hAA1
  go_wp2_with fail
  refine (smA_any _ N vo1 vn1 vc1 c.tests (unhide HC1).tests (unhide HWC).2.1 (unhide HWC).2.2.1 (unhide HP1) hN).mono ?_
  unfold PStrM
  rintro e w2 ⟨rfl, hb⟩
  have hA2 := Parl.strL_len c.tests N (unhide HOK).2.1 (unhide HWC).2.1 (unhide HWC).2.2.1 (fun t ht => str_all hN t ht)
  have HP2 := hide ((unhide HP1).below hb)
  have HC2 := hide ((unhide HC1).keep (KeepAJ.below hb))
  have HBX2 := hide ((hb.block w.heap.size (blk_lt (unhide HBX1))).trans (unhide HBX1))
  have HB2 := hide ((unhide HB1).trans (hb.mono (unhide HB1).size))
  have r2 := blkA (unhide HBX2)
  have z2 := blk_lt (unhide HBX2)
  clear hb r1 z1
  generalize hAA2 : Parl.strL N c.tests = A2 at *
  have HA2 := hide hAA2
  clear hAA2
  go_wp2_with fail
  refine (smA_any _ N vo2 vn2 vc2 c.goals (unhide HC2).goals (unhide HWC).2.2.2.1 (unhide HWC).2.2.2.2 (unhide HP2) hN).mono ?_
  unfold PStrM
  rintro e w3 ⟨rfl, hb⟩
  have hA3 := Parl.strL_len c.goals N (unhide HOK).2.2 (unhide HWC).2.2.2.1 (unhide HWC).2.2.2.2 (fun t ht => str_all hN t ht)
  have HP3 := hide ((unhide HP2).below hb)
  have HC3 := hide ((unhide HC2).keep (KeepAJ.below hb))
  have HBX3 := hide ((hb.block w.heap.size (blk_lt (unhide HBX2))).trans (unhide HBX2))
  have HB3 := hide ((unhide HB2).trans (hb.mono (unhide HB2).size))
  have r3 := blkA (unhide HBX3)
  have z3 := blk_lt (unhide HBX3)
  clear hb r2 z2
  generalize hAA3 : Parl.strL N c.goals = A3 at *
  have HA3 := hide hAA3
  clear hAA3
  go_wp2_with fail
  go_ret
  refine ⟨?_, unhide HB3⟩
  rw [unhide HF, ← sq_11]
  rfl

theorem scA_any (w : World) (v : QV) (c : Parl.Cls) (hc : ClauseA w v.a v.o1 v.n1 v.o2 v.n2 c) (hw : Parl.wfC c) (hp : Pow w) :
    Calls Tryz.prog 90 #[.agg #[.int .i64 v.a.k, .int .i64 v.a.val, .string v.a.tx, .slice v.a.ao v.a.n v.a.cap, .slice v.o1 v.n1 v.c1, .slice v.o2 v.n2 v.c2]] w fun e w' => PStrC c w e w' := by
  have hn : ClauseN (Parl.NG c) w v c := ⟨hc.head, hc.tests, hc.goals⟩
  have hN := Parl.NG_len c hn.ok hw
  by_cases hg : c.goals.length = 0
  · by_cases ht : c.tests.length = 0
    · exact scA_00 w _ v c hn hw hp hN hg ht
    · exact scA_01 w _ v c hn hw hp hN hg ht
  · by_cases ht : c.tests.length = 0
    · exact scA_10 w _ v c hn hw hp hN hg ht
    · exact scA_11 w _ v c hn hw hp hN hg ht

theorem strC0_len (c : Parl.Cls) (h : Parl.okC c) (hw : Parl.wfC c) : (Parl.strC0 c).length ≤ 70000000 := by
  have := Parl.strC_len c h hw (fun N hN t ht => str_all hN t ht)
  rw [Parl.strC_end, List.length_append] at this
  omega
theorem sp_more (S A : List UInt8) : (⟨S.toArray⟩ : ByteArray) ++ ⟨A.toArray⟩ ++ ⟨#[10]⟩ = ⟨(S ++ (A ++ [10])).toArray⟩ := by
  rw [ba_lit, ba_app, ba_app]; simp

set_option maxHeartbeats 4000000 in
set_option maxRecDepth 100000 in
theorem spA_some (w : World) (lo : Option Addr) (n cp : Nat) (ys : List Parl.Cls) (hy : ClausesA w lo n ys) (hne : ys ≠ []) (hw : ∀ c ∈ ys, Parl.wfC c) (h13 : ys.length ≤ 13) (hp : Pow w) :
    Calls Tryz.prog 49 #[.slice lo n cp] w fun e w' => e = .returned (.string ⟨(Parl.strP ys).toArray⟩) ∧ Below w.heap.size w w' := by
  obtain ⟨rfl, hy2⟩ := hy
  obtain ⟨g, vs, cs, rfl, hcs, htk, hall⟩ := hy2 hne
  have HWF := hide hw
  have HL := hide (show LS w ys ys.length (.string ⟨#[]⟩) (.int .i64 0) w from ⟨0, by omega, rfl, by simp [Parl.strP], Below.refl _ _⟩)
  have HCS := hide hcs
  have HTK := hide htk
  have HALL := hide hall
  have HVL := hide hall.length
  have H13 := hide h13
  have HPW := hide hp
  clear hcs htk hall hy2 hw h13 hne hp
  go_enter Tryz.func49, Tryz.ntmps49
  go_wp2_with fail
  go_loopg [3, 8] ys.length (fun k s i wr => LS w ys k s i wr)
  case atStart => exact unhide HL
  case round =>
    clear HL
    obtain ⟨j, hkj, rfl, rfl, hB⟩ := hrel
    have h13 := unhide H13
    have hz := hB.size
    have HB := hide hB
    have hSl : (Parl.strP (ys.take j)).length ≤ 910000000 := by
      have h1 := Parl.strP_len (ys.take j) (fun c hc => by
        have hm := List.mem_of_mem_take hc
        obtain ⟨i, hi, rfl⟩ := List.getElem_of_mem hm
        exact Parl.strC_len _ (ClauseA.ok ((unhide HALL).at i (by have := unhide HVL; omega) hi)) (unhide HWF ys[i] hm) (fun N hN t ht => str_all hN t ht))
      have h2 : (ys.take j).length ≤ 13 := by simp; omega
      have h3 := Nat.mul_le_mul_right 70000000 h2
      omega
    by_cases hlt' : j < ys.length
    · have hjv : j < vs.length := by have := unhide HVL; omega
      have hcw : wr.heap[g]? = some (.cells cs 78 (0, 0)) := (hB.block g (Array.getElem?_eq_some_iff.1 (unhide HCS)).1).trans (unhide HCS)
      have fc : ∀ i, i < 6 → wr.cell? ⟨g, j * 6 + i, none⟩ = (qvC vs[j])[i]? := fun i hi => by
        rw [blkA hcw, ← Array.getElem?_toList, ← qvC_at hjv i hi, ← unhide HTK, List.getElem?_take_of_lt (by omega)]
      have f0 := fc 0 (by omega)
      have f1 := fc 1 (by omega)
      have f2 := fc 2 (by omega)
      have f3 := fc 3 (by omega)
      have f4 := fc 4 (by omega)
      have f5 := fc 5 (by omega)
      simp only [qvC, List.getElem?_cons_zero, List.getElem?_cons_succ, Nat.add_zero] at f0 f1 f2 f3 f4 f5
      have hit : ClauseA wr vs[j].a vs[j].o1 vs[j].n1 vs[j].o2 vs[j].n2 ys[j] := ClauseA.keep ((unhide HALL).at j hjv hlt') (KeepAJ.below hB)
      have IC := hide (scA_any (wr.alloc (.cells #[.int .i64 vs[j].a.k, .int .i64 vs[j].a.val, .string vs[j].a.tx, .slice vs[j].a.ao vs[j].a.n vs[j].a.cap, .slice vs[j].o1 vs[j].n1 vs[j].c1, .slice vs[j].o2 vs[j].n2 vs[j].c2] 78)) vs[j] ys[j] (hit.keep (KeepAJ.alloc _ _)) (unhide HWF _ (List.getElem_mem hlt')) (((unhide HPW).below hB).alloc _))
      have hgw : g < wr.heap.size := blk_lt hcw
      have i0 : (0 : Int) ≤ (j : Int) := by omega
      have i1 : (j : Int) < (ys.length : Int) := by omega
      have hA : (Parl.strC0 ys[j]).length ≤ 70000000 := strC0_len _ hit.ok (unhide HWF _ (List.getElem_mem hlt'))
      have HMORE := hide (Parl.strP_more hlt')
      rw [Parl.strC_end] at HMORE
      have HKJ := hide hkj
      have HLT := hide hlt'
      have hj13 : j ≤ 13 := by omega
      clear hit fc hcw hkj h13 hB
      generalize hSS : Parl.strP (ys.take j) = S at *
      clear hSS
      unfold PStrC at IC
      generalize hAA : Parl.strC0 ys[j] = A at *
      clear hAA
      go_wp2_with fail
      refine (unhide IC).mono ?_
      rintro e w2 ⟨rfl, hb2⟩
      have HB2 := hide ((unhide HB).trans (((Below.refl _ _).alloc hz _).trans (hb2.mono (by simp; omega))))
      clear hb2 IC f0 f1 f2 f3 f4 f5
      go_wp2_with fail
      go_roundg (gk - 1)
      case measure => have := unhide HKJ; have := unhide HLT; omega
      case rel => exact ⟨j + 1, by have := unhide HKJ; have := unhide HLT; omega, by go_num, by rw [unhide HMORE]; exact congrArg Value.string (sp_more _ _), unhide HB2⟩
    · obtain rfl : j = ys.length := by omega
      rw [List.take_length]
      generalize hSS : Parl.strP ys = S at *
      have HSS := hide hSS
      clear hSS hkj h13 hB
      go_wp2_with fail
      go_ret
      exact ⟨by rw [unhide HSS]; rfl, unhide HB⟩

set_option maxHeartbeats 1000000 in
theorem spA_none (w : World) (lo : Option Addr) (cp : Nat) :
    Calls Tryz.prog 49 #[.slice lo 0 cp] w fun e w' => e = .returned (.string ⟨#[]⟩) ∧ Below w.heap.size w w' := by
  go_enter Tryz.func49, Tryz.ntmps49
  go_wp2_with fail
  refine wp_loop_rounds 1 ?_
  rw [rounds_succ]
  go_wp2_with fail
  go_ret
  exact ⟨rfl, Below.refl _ _⟩
theorem spA_any (w : World) (lo : Option Addr) (n cp : Nat) (ys : List Parl.Cls) (hy : ClausesA w lo n ys) (hw : ∀ c ∈ ys, Parl.wfC c) (h13 : ys.length ≤ 13) (hp : Pow w) :
    Calls Tryz.prog 49 #[.slice lo n cp] w fun e w' => e = .returned (.string ⟨(Parl.strP ys).toArray⟩) ∧ Below w.heap.size w w' := by
  by_cases hne : ys = []
  · subst hne
    obtain ⟨rfl, _⟩ := hy
    exact spA_none w lo cp
  · exact spA_some w lo n cp ys hy hne hw h13 hp
end Go.Proofs.YthfjnfcekeknlaaGreatDoor
namespace Go.Proofs.YthfjnfcekeknlaaGreatDoor
open Go.RowKit

set_option maxHeartbeats 4000000 in
set_option maxRecDepth 100000 in
theorem showA_gen (w : World) (s : ByteArray) (er : Int) (X : ByteArray)
    (hA : Calls Tryz.prog 26 #[.string s] w fun e w1 => ∃ (o : Option Addr) (n c : Nat) (ps : Int), e = .returned (.agg #[.slice o n c, .int .i64 er, .int .i64 ps]) ∧
      (∀ W, Below w1.heap.size w1 W → Calls Tryz.prog 49 #[.slice o n c] W fun e w2 => e = .returned (.string X) ∧ Below W.heap.size W w2) ∧ Below w.heap.size w w1) :
    Calls Tryz.prog 32 #[.string s] w fun e w' => e = .returned (.tuple #[.string X, .int .i64 er]) ∧ Below w.heap.size w w' := by
  have IA := hide hA
  clear hA
  go_enter Tryz.func32, Tryz.ntmps32
  go_wp2_with fail
  refine (unhide IA).mono ?_
  rintro e w1 ⟨o, n, c, ps, rfl, hS, hB⟩
  have SP := hide hS
  have HB := hide hB
  have hz := hB.size
  clear hS hB IA
  go_wp2_with fail
  go_region_with (go_at_call 49; refine (unhide SP _ (((Below.refl _ _).alloc (Nat.le_refl _) _).drew)).mono ?_; rintro e w2 ⟨rfl, hb2⟩; have q2 := (hb2.block w1.heap.size (by simp)).trans (heap_alloc_new w1 (.cells #[.slice o n c, .int .i64 er, .int .i64 ps] 52)); have r2 := blkA q2; have z2 := blk_lt q2; have HB2 := hide hb2; clear hb2 q2)
  all_goals
    go_wp2_with fail
    go_ret2
    exact ⟨rfl, (((unhide HB).alloc hz (.cells #[.slice o n c, .int .i64 er, .int .i64 ps] 52)).drew).trans ((unhide HB2).mono (by simp; omega))⟩

theorem prA_short {w : World} {s : ByteArray} {L : List Parl.Tok} (hs : s.size ≤ 240) (hL : Parl.Chain s L) (hh : Parl.hd L = Parl.next s 0) (hl : L.length ≤ 1000) (hsg : Signs w) (h0 : 0 < w.heap.size) (hp : Pow w) :
    Calls Tryz.prog 32 #[.string s] w fun e w' => e = .returned (.tuple #[.string ⟨(Parl.shS s L).toArray⟩, .int .i64 (Parl.ckE s L : Int)]) ∧ Below w.heap.size w w' := by
  have e1 : Parl.ckE s L = Parl.errOf (Parl.prog 12 L) := by unfold Parl.ckE; rw [if_neg (by omega)]
  rw [e1]
  refine showA_gen w s _ _ ((prA_any w s L hs hL hh hl hsg h0).mono ?_)
  rintro e w1 ⟨o, n, c, rfl, hv, hB⟩
  refine ⟨o, n, c, _, rfl, fun W hW => ?_, hB⟩
  have hpW : Pow W := (hp.below hB).below hW
  rcases hr : Parl.prog 12 L with ⟨er, ps⟩ | ⟨ys, l1⟩
  · rw [hr] at hv
    have hn : n = 0 := hv
    rw [hn, show Parl.shS s L = [] by unfold Parl.shS; rw [if_neg (by omega), hr]]
    exact spA_none W o c
  · rw [hr] at hv
    have hc : ClausesA w1 o n ys := hv
    have hwf := Parl.wf_prog 12 L ys l1 hr
    rw [show Parl.shS s L = Parl.strP ys by unfold Parl.shS; rw [if_neg (by omega), hr]]
    exact spA_any W o n c ys (hc.below hW) hwf.1 hwf.2 hpW
theorem shA_any (w : World) (s : ByteArray) (L : List Parl.Tok) (hL : Parl.Chain s L) (hh : Parl.hd L = Parl.next s 0) (hl : s.size ≤ 240 → L.length ≤ 1000) (hsg : Signs w) (h0 : 0 < w.heap.size) (hp : Pow w) :
    Calls Tryz.prog 32 #[.string s] w fun e w' => e = .returned (.tuple #[.string ⟨(Parl.shS s L).toArray⟩, .int .i64 (Parl.ckE s L : Int)]) ∧ Below w.heap.size w w' := by
  by_cases hs : 240 < s.size
  · rw [show Parl.ckE s L = 1 by unfold Parl.ckE; rw [if_pos hs], show Parl.shS s L = [] by unfold Parl.shS; rw [if_pos hs]]
    refine showA_gen w s _ _ ((prA_long w s hs).mono ?_)
    rintro e w1 ⟨rfl, hB⟩
    exact ⟨none, 0, 0, _, rfl, fun W _ => spA_none W none 0, hB⟩
  · exact prA_short (by omega) hL hh (hl (by omega)) hsg h0 hp
end Go.Proofs.YthfjnfcekeknlaaGreatDoor
namespace Go.Proofs.YthfjnfcekeknlaaGreatDoor
open Go.RowKit
/-- What every call finds: the tables. -/
structure Env (w : World) : Prop where
  sg : Signs w
  pos : 0 < w.heap.size
  pow : Pow w
theorem Env.below {w w' : World} (h : Env w) (hb : Below w.heap.size w w') : Env w' := ⟨h.sg.below hb h.pos, Nat.lt_of_lt_of_le h.pos hb.size, h.pow.below hb⟩
theorem Env.alloc {w : World} (h : Env w) (o : Obj) : Env (w.alloc o) := h.below ((Below.refl _ _).alloc (Nat.le_refl _) o)
end Go.Proofs.YthfjnfcekeknlaaGreatDoor
