import Derived.Test.YthfjnfcekeknlaaGreatDoorM11
namespace Go.Proofs.YthfjnfcekeknlaaGreatDoor
open Go.RowKit

theorem set8_block (w2 : World) (b : Nat) (v0 v1 v2 v3 u0 u1 u2 u3 : Value) {k : Nat} (h1 : k ≠ b) (h2 : k ≠ b + 1) :
    ((((((((w2.setCell ⟨b, 0, none⟩ v0).setCell ⟨b, 1, none⟩ v1).setCell ⟨b, 2, none⟩ v2).setCell ⟨b, 3, none⟩ v3).setCell ⟨b + 1, 0, none⟩ u0).setCell ⟨b + 1, 1, none⟩ u1).setCell ⟨b + 1, 2, none⟩ u2).setCell ⟨b + 1, 3, none⟩ u3).heap[k]? = w2.heap[k]? := by
  rw [heap_set _ _ _ _ h2, heap_set _ _ _ _ h2, heap_set _ _ _ _ h2, heap_set _ _ _ _ h2, heap_set _ _ _ _ h1, heap_set _ _ _ _ h1, heap_set _ _ _ _ h1, heap_set _ _ _ _ h1]
theorem set8_below {w w2 : World} {b : Nat} (h : Below w.heap.size w w2) (hb : w.heap.size ≤ b) (v0 v1 v2 v3 u0 u1 u2 u3 : Value) :
    Below w.heap.size w ((((((((w2.setCell ⟨b, 0, none⟩ v0).setCell ⟨b, 1, none⟩ v1).setCell ⟨b, 2, none⟩ v2).setCell ⟨b, 3, none⟩ v3).setCell ⟨b + 1, 0, none⟩ u0).setCell ⟨b + 1, 1, none⟩ u1).setCell ⟨b + 1, 2, none⟩ u2).setCell ⟨b + 1, 3, none⟩ u3) :=
  have hc : w.heap.size ≤ b + 1 := by omega
  (((((((h.setCell (p := ⟨b, 0, none⟩) hb _).setCell (p := ⟨b, 1, none⟩) hb _).setCell (p := ⟨b, 2, none⟩) hb _).setCell (p := ⟨b, 3, none⟩) hb _).setCell (p := ⟨b + 1, 0, none⟩) hc _).setCell (p := ⟨b + 1, 1, none⟩) hc _).setCell (p := ⟨b + 1, 2, none⟩) hc _).setCell (p := ⟨b + 1, 3, none⟩) hc _
theorem set8_size (w2 : World) (b : Nat) (v0 v1 v2 v3 u0 u1 u2 u3 : Value) :
    ((((((((w2.setCell ⟨b, 0, none⟩ v0).setCell ⟨b, 1, none⟩ v1).setCell ⟨b, 2, none⟩ v2).setCell ⟨b, 3, none⟩ v3).setCell ⟨b + 1, 0, none⟩ u0).setCell ⟨b + 1, 1, none⟩ u1).setCell ⟨b + 1, 2, none⟩ u2).setCell ⟨b + 1, 3, none⟩ u3).heap.size = w2.heap.size := by simp only [size_set]
theorem set8_all {w2 : World} {b : Nat} {v0 v1 v2 v3 u0 u1 u2 u3 : Value} {X : Obj} {k : Nat} (hk : k < w2.heap.size) (h1 : k ≠ b) (h2 : k ≠ b + 1) :
    ((((((((((w2.setCell ⟨b, 0, none⟩ v0).setCell ⟨b, 1, none⟩ v1).setCell ⟨b, 2, none⟩ v2).setCell ⟨b, 3, none⟩ v3).setCell ⟨b + 1, 0, none⟩ u0).setCell ⟨b + 1, 1, none⟩ u1).setCell ⟨b + 1, 2, none⟩ u2).setCell ⟨b + 1, 3, none⟩ u3).alloc X).drew).heap[k]? = w2.heap[k]? := by
  have hs := set8_size w2 b v0 v1 v2 v3 u0 u1 u2 u3
  have hb := set8_block w2 b v0 v1 v2 v3 u0 u1 u2 u3 h1 h2
  generalize ((((((((w2.setCell ⟨b, 0, none⟩ v0).setCell ⟨b, 1, none⟩ v1).setCell ⟨b, 2, none⟩ v2).setCell ⟨b, 3, none⟩ v3).setCell ⟨b + 1, 0, none⟩ u0).setCell ⟨b + 1, 1, none⟩ u1).setCell ⟨b + 1, 2, none⟩ u2).setCell ⟨b + 1, 3, none⟩ u3) = G at *
  exact (Below.heap_alloc G X k (by omega)).trans hb
/-- What 'both' is to leave. -/
def PBo (a b : ByteArray) (la lb : List Parl.Tok) (w : World) (e : Ending) (w' : World) : Prop :=
  ∃ x y : BV, e = .returned (.tuple #[.agg #[.int .i64 x.k, .string x.nm, .int .i64 x.num, .slice x.ao x.n x.cap], .agg #[.int .i64 y.k, .string y.nm, .int .i64 y.num, .slice y.ao y.n y.cap], .int .i64 (Parl.bothE a b la lb : Int)]) ∧ (∀ p l1 t l2, ¬ (64 < a.size ∨ 64 < b.size) → Parl.whole la = .inr (p, l1) → Parl.whole lb = .inr (t, l2) → RS 0 8 (fun g => w.heap.size ≤ g) w' x p ∧ RS 0 8 (fun g => w.heap.size ≤ g) w' y t) ∧ Below w.heap.size w w'

set_option maxHeartbeats 2000000 in
set_option maxRecDepth 100000 in
theorem bo_long (w : World) (a b : ByteArray) (la lb : List Parl.Tok) (h : 64 < a.size ∨ 64 < b.size) :
    Calls Tryz.prog 59 #[.string a, .string b] w fun e w' => PBo a b la lb w e w' := by
  have HE := hide (show Parl.bothE a b la lb = 1 by unfold Parl.bothE; rw [if_pos h])
  have HH := hide h
  by_cases ha : 64 < a.size
  · have h1 : decide (64 < (a.size : Int)) = true := by simp; omega
    clear h ha
    go_enter Tryz.func59, Tryz.ntmps59
    go_wp2_with fail
    refine bodyPost_ret (v := .tuple #[.agg #[.int .i64 0, .string ⟨#[]⟩, .int .i64 0, .slice none 0 0], .agg #[.int .i64 0, .string ⟨#[]⟩, .int .i64 0, .slice none 0 0], .int .i64 1]) (by simp [results, Tryz.results59, go_sem]) rfl ?_
    exact ⟨⟨0, ⟨#[]⟩, 0, none, 0, 0⟩, ⟨0, ⟨#[]⟩, 0, none, 0, 0⟩, by rw [unhide HE]; rfl, fun p l1 t l2 q => absurd (unhide HH) q, ((Below.refl _ _).alloc (Nat.le_refl _) _).alloc (by simp) _⟩
  · have h1 : decide (64 < (a.size : Int)) = false := by simp; omega
    have h2 : decide (64 < (b.size : Int)) = true := by simp; omega
    clear h ha
    go_enter Tryz.func59, Tryz.ntmps59
    go_wp2_with fail
    refine bodyPost_ret (v := .tuple #[.agg #[.int .i64 0, .string ⟨#[]⟩, .int .i64 0, .slice none 0 0], .agg #[.int .i64 0, .string ⟨#[]⟩, .int .i64 0, .slice none 0 0], .int .i64 1]) (by simp [results, Tryz.results59, go_sem]) rfl ?_
    exact ⟨⟨0, ⟨#[]⟩, 0, none, 0, 0⟩, ⟨0, ⟨#[]⟩, 0, none, 0, 0⟩, by rw [unhide HE]; rfl, fun p l1 t l2 q => absurd (unhide HH) q, ((Below.refl _ _).alloc (Nat.le_refl _) _).alloc (by simp) _⟩

set_option maxHeartbeats 4000000 in
set_option maxRecDepth 100000 in
theorem bo_short (w : World) (a b : ByteArray) (la lb : List Parl.Tok) (h : ¬ (64 < a.size ∨ 64 < b.size)) (hLa : Parl.Chain a la) (hha : Parl.hd la = Parl.next a 0) (hLb : Parl.Chain b lb) (hhb : Parl.hd lb = Parl.next b 0) :
    Calls Tryz.prog 59 #[.string a, .string b] w fun e w' => PBo a b la lb w e w' := by
  have IA := hide (fun W => whole_any W a la (by omega) hLa hha)
  have IB := hide (fun W => whole_any W b lb (by omega) hLb hhb)
  have HE := hide (And.intro (fun er ps => Parl.bothE_a (b := b) (la := la) (lb := lb) (er := er) (ps := ps) h) (fun p l1 => Parl.bothE_b (a := a) (p := p) (l1 := l1) (la := la) (lb := lb) h))
  have HH := hide h
  have h1 : decide (64 < (a.size : Int)) = false := by simp; omega
  have h2 : decide (64 < (b.size : Int)) = false := by simp; omega
  have hB0 : ((w.alloc (.cells #[.int .i64 0, .string ⟨#[]⟩, .int .i64 0, .slice none 0 0] 109)).alloc (.cells #[.int .i64 0, .string ⟨#[]⟩, .int .i64 0, .slice none 0 0] 109)).heap[w.heap.size]? = some (.cells #[.int .i64 0, .string ⟨#[]⟩, .int .i64 0, .slice none 0 0] 109) := blk_alloc' (heap_alloc_new w _) _
  have hB1 : ((w.alloc (.cells #[.int .i64 0, .string ⟨#[]⟩, .int .i64 0, .slice none 0 0] 109)).alloc (.cells #[.int .i64 0, .string ⟨#[]⟩, .int .i64 0, .slice none 0 0] 109)).heap[w.heap.size + 1]? = some (.cells #[.int .i64 0, .string ⟨#[]⟩, .int .i64 0, .slice none 0 0] 109) := by
    have := heap_alloc_new (w.alloc (.cells #[.int .i64 0, .string ⟨#[]⟩, .int .i64 0, .slice none 0 0] 109)) (.cells #[.int .i64 0, .string ⟨#[]⟩, .int .i64 0, .slice none 0 0] 109)
    rw [World.size_alloc] at this
    exact this
  have hBl : Below w.heap.size w ((w.alloc (.cells #[.int .i64 0, .string ⟨#[]⟩, .int .i64 0, .slice none 0 0] 109)).alloc (.cells #[.int .i64 0, .string ⟨#[]⟩, .int .i64 0, .slice none 0 0] 109)) := ((Below.refl _ _).alloc (Nat.le_refl _) _).alloc (by simp) _
  have hz : ((w.alloc (.cells #[.int .i64 0, .string ⟨#[]⟩, .int .i64 0, .slice none 0 0] 109)).alloc (.cells #[.int .i64 0, .string ⟨#[]⟩, .int .i64 0, .slice none 0 0] 109)).heap.size = w.heap.size + 2 := by simp
  have HB0 := hide hB0
  have HB1 := hide hB1
  have HBL := hide hBl
  have HZ := hide hz
  clear h hLa hha hLb hhb hB0 hB1 hBl hz
  go_enter Tryz.func59, Tryz.ntmps59
  go_wp2_with fail
  generalize hW : ((w.alloc (.cells #[.int .i64 0, .string ⟨#[]⟩, .int .i64 0, .slice none 0 0] 109)).alloc (.cells #[.int .i64 0, .string ⟨#[]⟩, .int .i64 0, .slice none 0 0] 109)) = W0 at *
  clear hW
  refine (unhide IA W0).mono ?_
  generalize hra : Parl.whole la = ra
  have HRA := hide hra
  clear hra
  rintro e w2 ⟨x, rfl, hx, hb2⟩
  have hz := unhide HZ
  have hz2 := hb2.size
  have HX := hide hx
  have HBL2 := hide ((unhide HBL).trans (hb2.mono (by omega)))
  have HQ0 := hide ((hb2.block w.heap.size (by omega)).trans (unhide HB0))
  have HQ1 := hide ((hb2.block (w.heap.size + 1) (by omega)).trans (unhide HB1))
  clear hx hb2
  rcases ra with ⟨er, ps⟩ | ⟨p, l1⟩
  · have hne : ((er : Int) != 0) = true := by have : er ≠ 0 := unhide HX; simpa using this
    have y0 := blkA' (unhide HQ0)
    have x0 := blkX' (unhide HQ0)
    have z0 := blk_lt' (unhide HQ0)
    have y1 := blkA' (unhide HQ1)
    have x1 := blkX' (unhide HQ1)
    have z1 := blk_lt' (unhide HQ1)
    have HEE := hide ((unhide HE).1 er ps (unhide HRA))
    clear HX
    simp only [show Parl.erT (.inl (er, ps) : Parl.Res Parl.Tm) = er from rfl]
    go_wp2_with fail
    go_region
    all_goals go_wp2_with fail
    all_goals refine bodyPost_ret (v := .tuple #[.agg #[.int .i64 x.k, .string x.nm, .int .i64 x.num, .slice x.ao x.n x.cap], .agg #[.int .i64 x.k, .string x.nm, .int .i64 x.num, .slice x.ao x.n x.cap], .int .i64 er]) (by simp [results, Tryz.results59, go_sem, y0, y1, z0, z1]) rfl ?_
    all_goals exact ⟨x, x, by rw [unhide HEE], (fun p l1 t l2 _ q => by rw [unhide HRA] at q; cases q), ((set8_below (unhide HBL2) (Nat.le_refl _) _ _ _ _ _ _ _ _).alloc (by rw [set8_size]; omega) _).drew⟩
  · simp only [show Parl.erT (.inr (p, l1) : Parl.Res Parl.Tm) = 0 from rfl]
    have HEE := hide ((unhide HE).2 p l1 (unhide HRA))
    have HY0 := hide (blk_alloc' (unhide HQ0) (.cells #[.int .i64 x.k, .string x.nm, .int .i64 x.num, .slice x.ao x.n x.cap] 109))
    have HY1 := hide (blk_alloc' (unhide HQ1) (.cells #[.int .i64 x.k, .string x.nm, .int .i64 x.num, .slice x.ao x.n x.cap] 109))
    have HY2 := hide (heap_alloc_new w2 (.cells #[.int .i64 x.k, .string x.nm, .int .i64 x.num, .slice x.ao x.n x.cap] 109))
    have HBL3 := hide ((unhide HBL2).alloc (by omega) (.cells #[.int .i64 x.k, .string x.nm, .int .i64 x.num, .slice x.ao x.n x.cap] 109))
    have HRX := hide ((show RS 0 8 (fun g => W0.heap.size ≤ g) w2 x p from unhide HX).below ((Below.refl _ _).alloc (Nat.le_refl _) (.cells #[.int .i64 x.k, .string x.nm, .int .i64 x.num, .slice x.ao x.n x.cap] 109)))
    have hzz : (w2.alloc (.cells #[.int .i64 x.k, .string x.nm, .int .i64 x.num, .slice x.ao x.n x.cap] 109)).heap.size = w2.heap.size + 1 := by simp
    go_wp2_with fail
    refine (unhide IB _).mono ?_
    rintro e w3 ⟨y, rfl, hy, hb3⟩
    have hz3 := hb3.size
    rw [hzz] at hz3
    have HB3 := hide hb3
    have HY := hide hy
    have q0 := (hb3.block w.heap.size (by omega)).trans (unhide HY0)
    have q1 := (hb3.block (w.heap.size + 1) (by omega)).trans (unhide HY1)
    have q2 := (hb3.block w2.heap.size (by omega)).trans (unhide HY2)
    have y0 := blkA' q0
    have x0 := blkX' q0
    have z0 := blk_lt' q0
    have y1 := blkA' q1
    have x1 := blkX' q1
    have z1 := blk_lt' q1
    have y2 := blkA' q2
    have z2 := blk_lt' q2
    clear hb3 hy q0 q1 q2
    generalize hee : Parl.erT (Parl.whole lb) = er at *
    clear hee
    go_wp2_with fail
    go_region
    all_goals go_wp2_with fail
    all_goals refine bodyPost_ret (v := .tuple #[.agg #[.int .i64 x.k, .string x.nm, .int .i64 x.num, .slice x.ao x.n x.cap], .agg #[.int .i64 y.k, .string y.nm, .int .i64 y.num, .slice y.ao y.n y.cap], .int .i64 er]) (by simp [results, Tryz.results59, go_sem, y0, y1, z0, z1]) rfl ?_
    all_goals refine ⟨x, y, by rw [unhide HEE], fun p' l1' t l2 _ qa qb => ?_, ((set8_below ((unhide HBL3).trans ((unhide HB3).mono (by omega))) (Nat.le_refl _) _ _ _ _ _ _ _ _).alloc (by rw [set8_size]; omega) _).drew⟩
    all_goals rw [unhide HRA] at qa
    all_goals cases qa
    all_goals have hy := unhide HY
    all_goals rw [qb] at hy
    all_goals exact ⟨((unhide HRX).below (unhide HB3)).keep fun g cs hg hc => ⟨(set8_all (blk_lt' hc) (by omega) (by omega)).trans hc, by omega⟩, (show RS 0 8 _ w3 y t from hy).keep fun g cs hg hc => ⟨(set8_all (blk_lt' hc) (by omega) (by omega)).trans hc, by omega⟩⟩
theorem both_any (w : World) (a b : ByteArray) (la lb : List Parl.Tok) (hLa : Parl.Chain a la) (hha : Parl.hd la = Parl.next a 0) (hLb : Parl.Chain b lb) (hhb : Parl.hd lb = Parl.next b 0) :
    Calls Tryz.prog 59 #[.string a, .string b] w fun e w' => PBo a b la lb w e w' := by
  by_cases h : 64 < a.size ∨ 64 < b.size
  · exact bo_long w a b la lb h
  · exact bo_short w a b la lb h hLa hha hLb hhb
end Go.Proofs.YthfjnfcekeknlaaGreatDoor
