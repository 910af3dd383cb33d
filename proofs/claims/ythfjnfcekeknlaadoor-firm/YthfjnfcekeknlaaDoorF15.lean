import Derived.Test.YthfjnfcekeknlaaDoorF13
import Derived.Test.YthfjnfcekeknlaaDoorF14
namespace Go.Proofs.YthfjnfcekeknlaaDoor
open Go.RowKit

set_option maxHeartbeats 2000000 in
theorem maA_err (w : World) (a b : ByteArray) (la lb : List Parl.Tok) (hLa : Parl.Chain a la) (hha : Parl.hd la = Parl.next a 0) (hla : a.size ≤ 64 → la.length ≤ 1000) (hLb : Parl.Chain b lb) (hhb : Parl.hd lb = Parl.next b 0) (hlb : b.size ≤ 64 → lb.length ≤ 1000) (hsg : Signs w) (h0 : 0 < w.heap.size) (he : Parl.bothE a b la lb ≠ 0) (hN : Parl.mtN a b la lb = 0) (hW : Parl.mtW a b la lb = []) :
    Calls Tryd.prog 14 #[.string a, .string b] w fun e w' => PMa a b la lb w e w' := by
  have IA := hide (rd_any w a la hLa hha hla hsg h0)
  have IB := hide (fun w' (hb : Below w.heap.size w w') => rd_any w' b lb hLb hhb hlb (hsg.below hb h0) (Nat.lt_of_lt_of_le h0 hb.size))
  have HN := hide hN
  have HW := hide hW
  have HE := hide he
  clear hLa hha hla hLb hhb hlb hsg he hN hW
  go_enter Tryd.func14, Tryd.ntmps14
  go_wp2_with fail
  refine (unhide IA).mono ?_
  rintro e w1 ⟨x, xo, xl, xc, rfl, -, hb1⟩
  have HB1 := hide (hb1.alloc hb1.size (.cells #[.int .i64 x.k, .int .i64 x.val, .string x.tx, .slice x.ao x.n x.cap, .slice xo xl xc, .int .i64 (Parl.erS a la : Int)] 54))
  have hz1 := hb1.size
  clear hb1
  generalize hea : Parl.erS a la = ea at *
  go_wp2_with fail
  refine (unhide IB _ (unhide HB1)).mono ?_
  rintro e w2 ⟨y, yo, yl, yc, rfl, -, hb2⟩
  have f5 := (hb2.cell (p := ⟨w1.heap.size, 5, none⟩) (by simp)).trans (blkA (heap_alloc_new w1 _) 5)
  simp only [List.getElem?_toArray, List.getElem?_cons_zero, List.getElem?_cons_succ] at f5
  have hz2 := hb2.size
  rw [World.size_alloc] at hz2
  have z5 : w1.heap.size < w2.heap.size := by omega
  have HB2 := hide ((unhide HB1).trans (hb2.mono (by rw [World.size_alloc]; omega)))
  clear hb2
  generalize heb : Parl.erS b lb = eb at *
  have HFE := hide (show Parl.fe ea eb = Parl.bothE a b la lb by rw [← hea, ← heb]; exact Parl.fe_both a b la lb)
  clear hea heb
  go_wp2_with fail
  refine (firstError_any _ ea eb).mono ?_
  rintro e w3 ⟨rfl, rfl⟩
  rw [unhide HFE]
  have hne : ((Parl.bothE a b la lb : Int) != 0) = true := by simpa using unhide HE
  generalize hee : Parl.bothE a b la lb = er at *
  have HEE := hide hee
  clear hee
  go_wp2_with fail
  refine bodyPost_ret (v := .tuple #[.int .i64 0, .slice none 0 0, .int .i64 er]) (by simp [results, Tryd.results14, go_sem]) rfl ?_
  refine ⟨.slice none 0 0, by rw [unhide HN, show Parl.mtE a b la lb = er from unhide HEE]; rfl, ?_, (unhide HB2).alloc (by omega) _⟩
  rw [unhide HW]
  exact World.ownsRow_nil _ _ _ _
end Go.Proofs.YthfjnfcekeknlaaDoor
namespace Go.Proofs.YthfjnfcekeknlaaDoor
open Go.RowKit

theorem wtd_filter {T : List Nat} {wt : List (List UInt8)} : ∀ {V : List Nat} {ns : List ByteArray}, All2 (fun v (x : ByteArray) => v ∈ T ↔ x.toList ∈ wt) V ns → nmsA (wtd T V ns) = (nmsA ns).filter fun x => decide (x ∈ wt)
  | [], [], _ => rfl
  | v :: V, x :: ns, h => by
    have ih := wtd_filter h.2
    unfold nmsA at ih ⊢
    unfold wtd
    by_cases q : v ∈ T
    · rw [if_pos q, List.map_cons, List.map_cons, List.filter_cons_of_pos (by simpa using h.1.1 q), ih]
    · rw [if_neg q, List.map_cons, List.filter_cons_of_neg (by simpa using fun r => q (h.1.2 r)), ih]
theorem all2_of {α β : Type} {A : α → β → Prop} : ∀ {xs : List α} {ys : List β}, xs.length = ys.length → (∀ i (h : i < xs.length) (h' : i < ys.length), A xs[i] ys[i]) → All2 A xs ys
  | [], [], _, _ => trivial
  | x :: xs, y :: ys, hl, h => ⟨h 0 (by simp) (by simp), all2_of (by simpa using hl) fun i h1 h2 => h (i + 1) (Nat.succ_lt_succ h1) (Nat.succ_lt_succ h2)⟩
theorem wtd_waits {T V : List Nat} {ns : List ByteArray} {l : Parl.Lk} {t : Parl.Tm} (hN : nmsA ns = Parl.namesF 8 [] t) (hV : V.Nodup) (hl : V.length = ns.length) (hw : WtA V (nmsA ns) T l.wt) : nmsA (wtd T V ns) = l.waits t := by
  unfold Parl.Lk.waits
  rw [← hN]
  have hnd : (nmsA ns).Nodup := hN ▸ Parl.namesF_nodup 8 t [] (by simp)
  refine wtd_filter (all2_of hl fun i h h' => ?_)
  have hi : i < (nmsA ns).length := by unfold nmsA; simpa using h'
  have he : (nmsA ns)[i] = ns[i].toList := List.getElem_map _
  refine hw.mem hV ⟨he ▸ List.getElem_mem hi, ?_⟩
  have hx : (nmsA ns).idxOf ns[i].toList = i := by
    rw [← he]
    have h1 := List.idxOf_lt_length_of_mem (List.getElem_mem hi)
    have h2 := List.getElem_idxOf h1
    have hp := List.pairwise_iff_getElem.1 hnd
    rcases Nat.lt_trichotomy ((nmsA ns).idxOf (nmsA ns)[i]) i with q | q | q
    · exact absurd h2 (hp _ _ h1 hi q)
    · exact q
    · exact absurd h2.symm (hp _ _ hi h1 q)
  rw [hx]
  exact List.getElem?_eq_getElem h
end Go.Proofs.YthfjnfcekeknlaaDoor
namespace Parl
theorem mt_is {a b : ByteArray} {la lb l1 l2 : List Tok} {p t : Tm} (hs : ¬ (64 < a.size ∨ 64 < b.size)) (hp : whole la = .inr (p, l1)) (ht : whole lb = .inr (t, l2)) : bothE a b la lb = 0 ∧ mtN a b la lb = (matF 8 p t Lk.none).says ∧ mtW a b la lb = if (matF 8 p t Lk.none).says = 3 then (matF 8 p t Lk.none).waits t else [] := by
  have hL : mtL a b la lb = some (matF 8 p t Lk.none, t) := by unfold mtL; rw [if_neg hs, hp, ht]
  refine ⟨?_, ?_, ?_⟩
  · rw [bothE_b hs hp, ht]; rfl
  · unfold mtN; rw [hL]
  · unfold mtW; rw [hL]
end Parl
namespace Go.Proofs.YthfjnfcekeknlaaDoor
open Go.RowKit

/-- The store and the scope as they stand first. -/
theorem so_start (w : World) : SoA ((w.alloc (.cells #[.slice none 0 0] 59)).alloc (.cells #[.slice none 0 0] 63)) w.heap.size (w.heap.size + 1) [] [] (rowsA w.heap.size (w.heap.size + 1) none none) := by
  refine ⟨none, 0, none, 0, ⟨?_, ?_, World.ownsRow_nil _ _ _ _, World.ownsRow_nil _ _ _ _, by omega, fun d hd => by cases hd⟩, rfl⟩
  · exact (Below.heap_alloc _ _ _ (by simp)).trans (heap_alloc_new w _)
  · have := heap_alloc_new (w.alloc (.cells #[.slice none 0 0] 59)) (.cells #[.slice none 0 0] 63)
    rw [World.size_alloc] at this
    exact this
theorem lo_start (w : World) : LoA (w.alloc (.cells #[.slice none 0 0, .slice none 0 0, .bool false] 72)) w.heap.size [] [] false (rowsK w.heap.size none none) :=
  ⟨none, 0, none, 0, ⟨heap_alloc_new w _, World.ownsRow_nil _ _ _ _, World.ownsRow_nil _ _ _ _, fun p _ q => by cases q⟩, rfl⟩
theorem st_startM (D : List Nd) (V : List Nat) (N M : List (List UInt8)) : StA D V N M [] [] := ⟨fun _ _ _ _ => Or.inl rfl, fun _ _ _ _ h => by cases h⟩
theorem back_str (ns : List ByteArray) : (nmsA ns).map (fun x => Value.string ⟨x.toArray⟩) = ns.map Value.string := by
  unfold nmsA
  rw [List.map_map]
  refine List.map_congr_left fun b _ => ?_
  show Value.string ⟨b.toList.toArray⟩ = Value.string b
  rw [ByteArray.toList_eq]
theorem says_is {V : List Nat} {N : List (List UInt8)} {T : List Nat} {l : Parl.Lk} (h : WtA V N T l.wt) : (if l.no = true then 2 else if T = [] then 1 else 3 : Int) = (l.says : Int) := by
  have hl := h.length
  unfold Parl.Lk.says
  cases l.no
  · by_cases q : T = []
    · rw [q] at hl
      have : l.wt = [] := List.length_eq_zero_iff.1 hl.symm
      simp [q, this]
    · have : l.wt ≠ [] := fun e => by rw [e] at hl; exact q (List.length_eq_zero_iff.1 hl)
      simp [q, this]
  · rfl

set_option maxHeartbeats 4000000 in
set_option maxRecDepth 100000 in
theorem maA_ok (w : World) (a b : ByteArray) (la lb : List Parl.Tok) (hLa : Parl.Chain a la) (hha : Parl.hd la = Parl.next a 0) (hla : a.size ≤ 64 → la.length ≤ 1000) (hLb : Parl.Chain b lb) (hhb : Parl.hd lb = Parl.next b 0) (hlb : b.size ≤ 64 → lb.length ≤ 1000) (hsg : Signs w) (h0 : 0 < w.heap.size) (hs : ¬ (64 < a.size ∨ 64 < b.size)) (p t : Parl.Tm) (l1 l2 : List Parl.Tok) (hp : Parl.whole la = .inr (p, l1)) (ht : Parl.whole lb = .inr (t, l2)) :
    Calls Tryd.prog 14 #[.string a, .string b] w fun e w' => PMa a b la lb w e w' := by
  have IA := hide (rd_any w a la hLa hha hla hsg h0)
  have IB := hide (fun w' (hb : Below w.heap.size w w') => rd_any w' b lb hLb hhb hlb (hsg.below hb h0) (Nat.lt_of_lt_of_le h0 hb.size))
  have HM := hide (Parl.mt_is hs hp ht)
  have HP := hide hp
  have HT := hide ht
  have HWP := hide (Parl.wfK_term 8 _ _ _ (Parl.whole_is hp).1)
  have HWT := hide (Parl.wfK_term 8 _ _ _ (Parl.whole_is ht).1)
  have hsa : a.size ≤ 64 := by omega
  have hsb : b.size ≤ 64 := by omega
  have hea : Parl.erS a la = 0 := by unfold Parl.erS; rw [if_neg (by omega), hp]; rfl
  have heb : Parl.erS b lb = 0 := by unfold Parl.erS; rw [if_neg (by omega), ht]; rfl
  have HEA := hide hea
  have HEB := hide heb
  clear hLa hha hla hLb hhb hlb hsg hs hp ht hea heb
  go_enter Tryd.func14, Tryd.ntmps14
  go_wp2_with fail
  refine (unhide IA).mono ?_
  rintro e w1 ⟨x, xo, xl, xc, rfl, hx, hb1⟩
  obtain ⟨nx, hrx, hnx, -⟩ := hx p l1 hsa (unhide HP)
  rw [unhide HEA]
  have HRX := hide hrx
  have HNX := hide hnx
  have HB1 := hide (hb1.alloc hb1.size (.cells #[.int .i64 x.k, .int .i64 x.val, .string x.tx, .slice x.ao x.n x.cap, .slice xo xl xc, .int .i64 ((0 : Nat) : Int)] 54))
  have hz1 := hb1.size
  clear hb1 hx hrx hnx
  go_wp2_with fail
  refine (unhide IB _ (unhide HB1)).mono ?_
  rintro e w2 ⟨y, yo, yl, yc, rfl, hy, hb2⟩
  obtain ⟨ny, hry, hny, hoy⟩ := hy t l2 hsb (unhide HT)
  obtain ⟨yo', yc', hyv⟩ := own_shapeT hoy
  cases hyv
  rw [unhide HEB]
  have f0 := (hb2.cell (p := ⟨w1.heap.size, 0, none⟩) (by simp)).trans (blkA (heap_alloc_new w1 _) 0)
  have f1 := (hb2.cell (p := ⟨w1.heap.size, 1, none⟩) (by simp)).trans (blkA (heap_alloc_new w1 _) 1)
  have f2 := (hb2.cell (p := ⟨w1.heap.size, 2, none⟩) (by simp)).trans (blkA (heap_alloc_new w1 _) 2)
  have f3 := (hb2.cell (p := ⟨w1.heap.size, 3, none⟩) (by simp)).trans (blkA (heap_alloc_new w1 _) 3)
  have f5 := (hb2.cell (p := ⟨w1.heap.size, 5, none⟩) (by simp)).trans (blkA (heap_alloc_new w1 _) 5)
  simp only [List.getElem?_toArray, List.getElem?_cons_zero, List.getElem?_cons_succ] at f0 f1 f2 f3 f5
  have hz2 := hb2.size
  rw [World.size_alloc] at hz2
  have z5 : w1.heap.size < w2.heap.size := by omega
  have HRX2 := hide ((unhide HRX).keep (Q := anyA) (w' := w2) fun g cs _ hg _ => ⟨(hb2.block g (by have := blk_lt hg; simp; omega)).trans ((Below.heap_alloc _ _ _ (blk_lt hg)).trans hg), trivial⟩)
  have HB2 := hide ((unhide HB1).trans (hb2.mono (by rw [World.size_alloc]; omega)))
  have HRY := hide hry
  have HNY := hide hny
  have HOY := hide hoy
  clear hb2 hy hry hny hoy
  go_wp2_with fail
  refine (firstError_any _ 0 0).mono ?_
  rintro e w3 ⟨rfl, rfl⟩
  rw [show Parl.fe 0 0 = 0 from rfl]
  go_wp2_with fail
  have hB5 : Below w2.heap.size w2 (((w2.alloc (.cells #[.int .i64 y.k, .int .i64 y.val, .string y.tx, .slice y.ao y.n y.cap, .slice yo ny.length yc, .int .i64 0] 54)).alloc (.cells #[.slice none 0 0] 59)).alloc (.cells #[.slice none 0 0] 63)) := (((Below.refl _ _).alloc (Nat.le_refl _) _).alloc (by simp) _).alloc (by simp; omega) _
  have hR5 := blk_alloc (blk_alloc (heap_alloc_new w2 (.cells #[.int .i64 y.k, .int .i64 y.val, .string y.tx, .slice y.ao y.n y.cap, .slice yo ny.length yc, .int .i64 0] 54)) (.cells #[.slice none 0 0] 59)) (.cells #[.slice none 0 0] 63)
  have hS5 := so_start (w2.alloc (.cells #[.int .i64 y.k, .int .i64 y.val, .string y.tx, .slice y.ao y.n y.cap, .slice yo ny.length yc, .int .i64 0] 54))
  rw [World.size_alloc] at hS5
  generalize hW : ((w2.alloc (.cells #[.int .i64 y.k, .int .i64 y.val, .string y.tx, .slice y.ao y.n y.cap, .slice yo ny.length yc, .int .i64 0] 54)).alloc (.cells #[.slice none 0 0] 59)).alloc (.cells #[.slice none 0 0] 63) = w5 at *
  have hZ5 : w5.heap.size = w2.heap.size + 3 := by rw [← hW]; simp
  clear hW
  have r1 : ¬ rowsA (w2.heap.size + 1) (w2.heap.size + 1 + 1) none none w1.heap.size := by
    rintro (e | e | ⟨p, q, _⟩ | ⟨p, q, _⟩)
    · omega
    · omega
    · cases q
    · cases q
  have rlow : ∀ k, k ≤ w2.heap.size → ¬ rowsA (w2.heap.size + 1) (w2.heap.size + 1 + 1) none none k := by
    rintro k hk (e | e | ⟨p, q, _⟩ | ⟨p, q, _⟩)
    · omega
    · omega
    · cases q
    · cases q
  have IADD := hide (add_all 8 w5 (w2.heap.size + 1) (w2.heap.size + 1 + 1) [] [] _ (nmsA ny) [] y t hS5 ⟨(fun n hn => by cases hn), List.nodup_nil⟩ ((unhide HRY).keep fun g cs _ hg _ => ⟨(hB5.block g (blk_lt hg)).trans hg, rlow g (by have := blk_lt hg; omega)⟩) (unhide HWT) rfl ⟨[], by rw [List.append_nil]; exact unhide HNY⟩ (by decide))
  have f0 := (hB5.cell (p := ⟨w1.heap.size, 0, none⟩) z5).trans f0
  have f1 := (hB5.cell (p := ⟨w1.heap.size, 1, none⟩) z5).trans f1
  have f2 := (hB5.cell (p := ⟨w1.heap.size, 2, none⟩) z5).trans f2
  have f3 := (hB5.cell (p := ⟨w1.heap.size, 3, none⟩) z5).trans f3
  have HRX5 := hide ((unhide HRX2).keep (Q := fun g => g < w2.heap.size) (w' := w5) fun g cs _ hg _ => ⟨(hB5.block g (blk_lt hg)).trans hg, blk_lt hg⟩)
  have HOY5 := hide (own_keepG (unhide HOY) (fun g q => hB5.block g ((unhide HOY).lt g q).2))
  have HOL := hide (fun g q => ((unhide HOY).lt g q).2)
  have HB5 := hide ((unhide HB2).trans (hB5.mono (by omega)))
  clear hS5 hB5
  refine (unhide IADD).mono ?_
  rintro e w6 ⟨n, E, F, R6, rfl, so6, vn6, len6, rn6, el6, -, fr6⟩
  simp only [List.nil_append] at so6 vn6 len6 rn6
  have z6 := fr6.size
  have f0 := (fr6.cell (p := ⟨w1.heap.size, 0, none⟩) (by dsimp only; omega) r1).trans f0
  have f1 := (fr6.cell (p := ⟨w1.heap.size, 1, none⟩) (by dsimp only; omega) r1).trans f1
  have f2 := (fr6.cell (p := ⟨w1.heap.size, 2, none⟩) (by dsimp only; omega) r1).trans f2
  have f3 := (fr6.cell (p := ⟨w1.heap.size, 3, none⟩) (by dsimp only; omega) r1).trans f3
  have HR6 := hide ((fr6.block w2.heap.size (by omega) (rlow _ (Nat.le_refl _))).trans hR5)
  have HRX6 := hide ((unhide HRX5).keep (Q := anyA) (w' := w6) fun g cs hp hg _ => ⟨(fr6.block g (blk_lt hg) (rlow g (by omega))).trans hg, trivial⟩)
  have HOY6 := hide (own_keepG (unhide HOY5) (fun g q => fr6.block g (by have := unhide HOL g q; omega) (rlow g (by have := unhide HOL g q; omega))))
  have HB6 := hide ((unhide HB5).trans (fr6.down (b := w.heap.size) (by have := (unhide HB5).size; omega) (fun k q => by
    rcases Nat.lt_or_ge k w.heap.size with h | h
    · exact absurd q (rlow k (by have := (unhide HB2).size; omega))
    · exact h)))
  have hFN : F.length = (nmsA ny).length := by rw [len6]; exact congrArg List.length (unhide HNY).symm
  have HG := hide (show GrU w6 w6.heap.size (w2.heap.size + 1) (w2.heap.size + 1 + 1) E F R6 (nmsA ny) from ⟨so6, vn6, hFN, Nat.le_refl _⟩)
  have hML : (nmsA nx).length ≤ 100000 := by
    rw [unhide HNX]
    have := Parl.namesK_len 8 p [] (unhide HWP)
    simp only [List.length_nil] at this
    omega
  have HFL := hide (show F.length ≤ 1000000 by have := vn6.len; omega)
  have HFE := hide (show F.length = ny.length by rw [hFN, nmA_len])
  have HVN := hide vn6.one
  have HU7 := hide ((Below.refl w6.heap.size w6).alloc (Nat.le_refl _) (.cells #[.slice none 0 0, .slice none 0 0, .bool false] 72))
  have IM := hide (matA_all 8 w6 (w6.alloc (.cells #[.slice none 0 0, .slice none 0 0, .bool false] 72)) w6.heap.size (w2.heap.size + 1) (w2.heap.size + 1 + 1) E F R6 _ anyA (nmsA ny) (nmsA nx) [] [] x n p t Parl.Lk.none (unhide HG) (unhide HU7) (lo_start w6) (st_startM E F _ _) (by simp) (by rw [unhide HNX]; exact Parl.namesF_nodup 8 p [] (by simp)) hML trivial (unhide HRX6) rn6 (unhide HWP) (unhide HWT) (Nat.le_refl _) (by decide))
  have hz1' : w1.heap.size < w6.heap.size := by omega
  clear so6 vn6 len6 rn6 el6 fr6 hFN hML r1 rlow hR5 IADD
  unfold intV
  go_wp2_with fail
  refine (unhide IM).mono ?_
  rintro e w8 ⟨rfl, S8, T8, R8, h8, -, -, t8, fr8⟩
  have hb8 := (lo_start w6).under fr8 (unhide HU7) (Nat.le_refl _)
  have z8 := hb8.size
  have HSY := hide (saysA_any w8 w6.heap.size S8 T8 _ R8 h8)
  rw [says_is t8] at HSY
  have HTL := hide (show T8.length ≤ 100000000 by
    have q1 := t8.length
    have q2 := (Parl.matF_len 8 p t Parl.Lk.none (unhide HWT) (Nat.le_refl _)).1
    have q3 : 13122 * 3 ^ 8 = 86093442 := by decide
    have q4 : Parl.Lk.none.wt.length = 0 := rfl
    omega)
  have HWW := hide (wtd_waits (t := t) (unhide HNY) (unhide HVN) (unhide HFE) t8)
  have HR8 := hide ((hb8.block w2.heap.size (by omega)).trans (unhide HR6))
  have HOY8 := hide (own_keepG (unhide HOY6) (fun g q => hb8.block g (by have := unhide HOL g q; omega)))
  have HB8 := hide ((unhide HB6).trans (hb8.mono (unhide HB6).size))
  obtain ⟨so, sc, wo, wc, hlo, -⟩ := h8
  obtain ⟨no', nc', vo, vc, hsB, -⟩ := (unhide HG).at hb8
  have c0 := blkA hlo.blk 0
  have c1 := blkA hlo.blk 1
  have c2 := blkA hlo.blk 2
  have cz := blk_lt hlo.blk
  have d0 := blkA hsB.cblk 0
  have dz := blk_lt hsB.cblk
  have e4 := blkA (unhide HR8) 4
  have ez := blk_lt (unhide HR8)
  simp only [List.getElem?_toArray, List.getElem?_cons_zero, List.getElem?_cons_succ] at c0 c1 c2 d0 e4
  have HWO := hide hlo.wown
  have HCO := hide hsB.cown
  clear hlo hsB hb8 t8 fr8 f0 f1 f2 f3 f5
  obtain ⟨hE, hN, hW⟩ := unhide HM
  generalize hl : Parl.matF 8 p t Parl.Lk.none = l at *
  have HE := hide hE
  have HN := hide hN
  have HW := hide hW
  clear hl hE hN hW HM IM
  go_wp2_with fail
  refine (unhide HSY).mono ?_
  rintro e w9 ⟨rfl, rfl⟩
  by_cases hq : l.says = 3
  · rw [hq] at HSY ⊢
    have HQ := hide hq
    clear hq
    go_wp2_with fail
    refine (waitedFor_any w9 _ _ _ T8 F ny so wo vo yo S8.length sc wc vc yc l.no (unhide HWO) (unhide HCO) (unhide HOY8) (unhide HTL) (unhide HFL) (unhide HFE) (by have := unhide HFL; have := unhide HFE; omega)).mono ?_
    rintro e w10 ⟨ov, rfl, how, hb10⟩
    have HOW := hide how
    have HB10 := hide hb10
    clear how hb10
    go_wp2_with fail
    refine bodyPost_ret (v := .tuple #[.int .i64 3, ov, .int .i64 0]) (by simp [results, Tryd.results14, go_sem]) rfl ?_
    refine ⟨ov, ?_, ?_, (unhide HB8).trans ((unhide HB10).mono (unhide HB8).size)⟩
    · rw [unhide HN, unhide HQ, show Parl.mtE a b la lb = 0 from unhide HE]; rfl
    · rw [unhide HW, if_pos (unhide HQ), ← unhide HWW, back_str, nmA_len]
      exact own_down6 (unhide HOW) (unhide HB8).size
  · have t3 : ((l.says : Int) != 3) = true := by simp; omega
    have HW0 := hide (show Parl.mtW a b la lb = [] by rw [unhide HW, if_neg hq])
    clear hq
    go_wp2_with fail
    refine bodyPost_ret (v := .tuple #[.int .i64 (l.says : Int), .slice none 0 0, .int .i64 0]) (by simp [results, Tryd.results14, go_sem]) rfl ?_
    refine ⟨.slice none 0 0, ?_, ?_, unhide HB8⟩
    · rw [unhide HN, show Parl.mtE a b la lb = 0 from unhide HE]; rfl
    · rw [unhide HW0]
      exact World.ownsRow_nil _ _ _ _
end Go.Proofs.YthfjnfcekeknlaaDoor
namespace Go.Proofs.YthfjnfcekeknlaaDoor
open Go.RowKit
theorem maA_any (w : World) (a b : ByteArray) (la lb : List Parl.Tok) (hLa : Parl.Chain a la) (hha : Parl.hd la = Parl.next a 0) (hla : a.size ≤ 64 → la.length ≤ 1000) (hLb : Parl.Chain b lb) (hhb : Parl.hd lb = Parl.next b 0) (hlb : b.size ≤ 64 → lb.length ≤ 1000) (hsg : Signs w) (h0 : 0 < w.heap.size) :
    Calls Tryd.prog 14 #[.string a, .string b] w fun e w' => PMa a b la lb w e w' := by
  have bad : Parl.bothE a b la lb ≠ 0 → Parl.mtL a b la lb = none → Calls Tryd.prog 14 #[.string a, .string b] w fun e w' => PMa a b la lb w e w' := fun h1 h2 =>
    maA_err w a b la lb hLa hha hla hLb hhb hlb hsg h0 h1 (by unfold Parl.mtN; rw [h2]) (by unfold Parl.mtW; rw [h2])
  by_cases hs : 64 < a.size ∨ 64 < b.size
  · exact bad (by unfold Parl.bothE; rw [if_pos hs]; omega) (by unfold Parl.mtL; rw [if_pos hs])
  · rcases hp : Parl.whole la with ⟨er, ps⟩ | ⟨p, l1⟩
    · exact bad (by rw [Parl.bothE_a hs hp]; have := Parl.whole_err2 hp; omega) (by unfold Parl.mtL; rw [if_neg hs, hp])
    · rcases ht : Parl.whole lb with ⟨er, ps⟩ | ⟨t, l2⟩
      · exact bad (by rw [Parl.bothE_b hs hp, ht]; show er ≠ 0; have := Parl.whole_err2 ht; omega) (by unfold Parl.mtL; rw [if_neg hs, hp, ht])
      · exact maA_ok w a b la lb hLa hha hla hLb hhb hlb hsg h0 hs p t l1 l2 hp ht
end Go.Proofs.YthfjnfcekeknlaaDoor
