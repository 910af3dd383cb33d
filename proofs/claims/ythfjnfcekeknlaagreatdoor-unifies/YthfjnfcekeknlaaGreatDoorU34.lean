import Derived.Test.YthfjnfcekeknlaaGreatDoorU04
import Derived.Test.YthfjnfcekeknlaaGreatDoorU29
import Derived.Test.YthfjnfcekeknlaaGreatDoorU30
import Derived.Test.YthfjnfcekeknlaaGreatDoorU31
import Derived.Test.YthfjnfcekeknlaaGreatDoorU33
namespace Go.Proofs.YthfjnfcekeknlaaGreatDoor
open Go.RowKit

/-- A term's block is written anew. -/
theorem set4_facts {w w' : World} {b : Nat} {old new : BV} (h : w.heap[b]? = some (.cells #[.int .i64 old.k, .string old.nm, .int .i64 old.num, .slice old.ao old.n old.cap] 109 (0, 0))) (hw : w' = (((w.setCell ⟨b, 0, none⟩ (.int .i64 new.k)).setCell ⟨b, 1, none⟩ (.string new.nm)).setCell ⟨b, 2, none⟩ (.int .i64 new.num)).setCell ⟨b, 3, none⟩ (.slice new.ao new.n new.cap)) :
    (∀ g, g ≠ b → w'.heap[g]? = w.heap[g]?) ∧ w'.heap[b]? = some (.cells #[.int .i64 new.k, .string new.nm, .int .i64 new.num, .slice new.ao new.n new.cap] 109 (0, 0)) ∧ w'.heap.size = w.heap.size ∧ ∀ n, n ≤ b → Below n w w' := by
  subst hw
  refine ⟨fun g hg => by rw [heap_set _ _ _ _ hg, heap_set _ _ _ _ hg, heap_set _ _ _ _ hg, heap_set _ _ _ _ hg], ?_, by simp only [size_set], fun n hn => ((((Below.refl n w).setCell (p := ⟨b, 0, none⟩) hn _).setCell (p := ⟨b, 1, none⟩) hn _).setCell (p := ⟨b, 2, none⟩) hn _).setCell (p := ⟨b, 3, none⟩) hn _⟩
  have := blk_set (blk_set (blk_set (blk_set h 0 (.int .i64 new.k)) 1 (.string new.nm)) 2 (.int .i64 new.num)) 3 (.slice new.ao new.n new.cap)
  simpa using this
/-- What the document's Unify is to answer. -/
def PUb (r : List UInt8 × Bool × Nat) (w : World) (e : Ending) (w' : World) : Prop := e = .returned (.tuple #[.string ⟨r.1.toArray⟩, .bool r.2.1, .int .i64 (r.2.2 : Int)]) ∧ Below w.heap.size w w'

set_option maxHeartbeats 2000000 in
set_option maxRecDepth 100000 in
theorem ub_bad (w : World) (a b : ByteArray) (la lb : List Parl.Tok) (hLa : Parl.Chain a la) (hha : Parl.hd la = Parl.next a 0) (hLb : Parl.Chain b lb) (hhb : Parl.hd lb = Parl.next b 0) (he : Parl.bothE a b la lb ≠ 0) :
    Calls Tryz.prog 35 #[.string a, .string b] w fun e w' => PUb (Parl.unA a b la lb) w e w' := by
  have IB := hide (both_any w a b la lb hLa hha hLb hhb)
  have hne : ((Parl.bothE a b la lb : Int) != 0) = true := by simpa using he
  have HN := hide (Parl.unA_err he)
  rw [unhide HN]
  clear hLa hha hLb hhb he HN
  go_enter Tryz.func35, Tryz.ntmps35
  go_wp2_with fail
  refine (unhide IB).mono ?_
  rintro e w1 ⟨x, y, rfl, -, hb1⟩
  have hz := hb1.size
  have HB1 := hide hb1
  clear hb1 IB
  generalize hee : Parl.bothE a b la lb = er at *
  have HEE := hide hee
  clear hee
  go_wp2_with fail
  refine bodyPost_ret (v := .tuple #[.string ⟨#[]⟩, .bool false, .int .i64 er]) (by simp [results, Tryz.results35, go_sem]) rfl ?_
  rw [unhide HEE]
  exact ⟨rfl, ((unhide HB1).alloc hz _).alloc (by simp; omega) _⟩

set_option maxHeartbeats 4000000 in
set_option maxRecDepth 100000 in
theorem ub_good (w : World) (a b : ByteArray) (la lb : List Parl.Tok) (hLa : Parl.Chain a la) (hha : Parl.hd la = Parl.next a 0) (hLb : Parl.Chain b lb) (hhb : Parl.hd lb = Parl.next b 0) (hs : ¬ (64 < a.size ∨ 64 < b.size)) (p t : Parl.Tm) (l1 l2 : List Parl.Tok) (hp : Parl.whole la = .inr (p, l1)) (ht : Parl.whole lb = .inr (t, l2)) :
    Calls Tryz.prog 35 #[.string a, .string b] w fun e w' => PUb (Parl.unA a b la lb) w e w' := by
  have hE : Parl.bothE a b la lb = 0 := by rw [Parl.bothE_b hs hp, ht]; rfl
  have IB := hide (both_any w a b la lb hLa hha hLb hhb)
  have HE := hide hE
  have HU := hide (Parl.unA_is hE hp ht)
  have hgx := Parl.whole_gd (by omega) hLa hha hp 1
  have hgy := Parl.whole_gd (by omega) hLb hhb ht 2
  obtain ⟨θ, B, R, m, s1, s2, s3, s4, s5⟩ := Parl.sol_sml (fun x y => Parl.ltV x y = true) (Parl.whole_sml (by omega) hLa hha hp 1) (Parl.whole_sml (by omega) hLb hhb ht 2)
  have HGO := hide (fun out (ho : R = some out) => s1.gd (fun e he => by
    obtain rfl : e = _ := by simpa using he
    exact ⟨hgx, hgy⟩) out ho)
  have HGX := hide hgx
  have HBD := hide s5
  have ISOL := hide (fun W lv (hr : RowE W lv [(Parl.toU 8 1 p, Parl.toU 8 2 t)]) => solve_any W θ B 1000000 m R lv _ s1 s2 s4 s3 (Nat.le_refl _) hr)
  have HSOL := hide s1.sol
  have HS := hide (And.intro hs (And.intro hp ht))
  rw [unhide HU]
  clear hLa hha hLb hhb hs hp ht hE s1 s2 s3 s4 s5 hgx hgy HU
  go_enter Tryz.func35, Tryz.ntmps35
  go_wp2_with fail
  refine (unhide IB).mono ?_
  rintro e w1 ⟨x, y, rfl, hxy, hb1⟩
  rw [unhide HE]
  obtain ⟨hx, hy⟩ := hxy p l1 t l2 (unhide HS).1 (unhide HS).2.1 (unhide HS).2.2
  have hz := hb1.size
  have HB1 := hide hb1
  have HX := hide hx
  have HY := hide hy
  clear hb1 IB hxy hx hy HS
  have SD := hide (fun W (q : RS 0 8 (fun _ => True) W x p) => sided_all 1 8 W x p q)
  have SD2 := hide (fun W (q : RS 0 8 (fun _ => True) W y t) => sided_all 2 8 W y t q)
  go_wp2_with fail
  refine (unhide SD _ (((unhide HX).below (((Below.refl _ _).alloc (Nat.le_refl _) _).alloc (by simp) _)).imp (fun _ _ _ => trivial))).mono ?_
  rintro e w2 ⟨x2, rfl, hx2, hb2⟩
  have hsz : ((w1.alloc (.cells #[.int .i64 x.k, .string x.nm, .int .i64 x.num, .slice x.ao x.n x.cap] 109)).alloc (.cells #[.int .i64 y.k, .string y.nm, .int .i64 y.num, .slice y.ao y.n y.cap] 109)).heap.size = w1.heap.size + 2 := by simp
  have hz2 := hb2.size
  rw [hsz] at hz2
  have q7 := (hb2.block w1.heap.size (by omega)).trans (blk_alloc' (heap_alloc_new w1 (.cells #[.int .i64 x.k, .string x.nm, .int .i64 x.num, .slice x.ao x.n x.cap] 109)) (.cells #[.int .i64 y.k, .string y.nm, .int .i64 y.num, .slice y.ao y.n y.cap] 109))
  have q8 := (hb2.block (w1.heap.size + 1) (by omega)).trans (show ((w1.alloc (.cells #[.int .i64 x.k, .string x.nm, .int .i64 x.num, .slice x.ao x.n x.cap] 109)).alloc (.cells #[.int .i64 y.k, .string y.nm, .int .i64 y.num, .slice y.ao y.n y.cap] 109)).heap[w1.heap.size + 1]? = some (.cells #[.int .i64 y.k, .string y.nm, .int .i64 y.num, .slice y.ao y.n y.cap] 109) by
    have := heap_alloc_new (w1.alloc (.cells #[.int .i64 x.k, .string x.nm, .int .i64 x.num, .slice x.ao x.n x.cap] 109)) (.cells #[.int .i64 y.k, .string y.nm, .int .i64 y.num, .slice y.ao y.n y.cap] 109)
    rw [World.size_alloc] at this
    exact this)
  have HV2 := hide (set4_facts (new := x2) q7 rfl)
  have HRY := hide (show RS 0 8 (fun g => g < w1.heap.size) w2 y t from (unhide HY).keep fun g cs hg hc => ⟨(hb2.block g (by have := blk_lt' hc; omega)).trans (blk_alloc' (blk_alloc' hc _) _), blk_lt' hc⟩)
  have HRX := hide (show RS 1 8 (fun g => w1.heap.size + 2 ≤ g) w2 x2 p from hx2.imp fun g hg _ => by rw [hsz] at hg; exact hg)
  have HB2 := hide (show Below w.heap.size w w2 from (((unhide HB1).alloc hz _).alloc (by simp; omega) _).trans (hb2.mono (by omega)))
  have y7 := blkA' q7
  have x7 := blkX' q7
  have z7 := blk_lt' q7
  have y8 := blkA' q8
  have z8 := blk_lt' q8
  have n78 : w1.heap.size ≠ w1.heap.size + 1 := by omega
  have HQ8 := hide q8
  clear hb2 hx2 q7 q8 SD HY HX
  go_wp2_with fail
  clear y7 x7 y8 n78
  obtain ⟨V, hV⟩ : ∃ V, V = ((((w2.setCell ⟨w1.heap.size, 0, none⟩ (.int .i64 x2.k)).setCell ⟨w1.heap.size, 1, none⟩ (.string x2.nm)).setCell ⟨w1.heap.size, 2, none⟩ (.int .i64 x2.num)).setCell ⟨w1.heap.size, 3, none⟩ (.slice x2.ao x2.n x2.cap)) := ⟨_, rfl⟩
  rw [← hV] at HV2 ⊢
  clear hV
  obtain ⟨v1, v2, v3, v4⟩ := unhide HV2
  refine (unhide SD2 V ((unhide HRY).keep fun g cs hg hc => ⟨(v1 g (by omega)).trans hc, trivial⟩)).mono ?_
  rintro e w3 ⟨y2, rfl, hy2, hb3⟩
  have hz3 := hb3.size
  rw [v3] at hz3
  have q7 := (hb3.block w1.heap.size (by omega)).trans v2
  have q8 := (hb3.block (w1.heap.size + 1) (by omega)).trans ((v1 _ (by omega)).trans (unhide HQ8))
  have HV3 := hide (set4_facts (new := y2) q8 rfl)
  have HRX3 := hide (show RS 1 8 (fun g => w1.heap.size + 2 ≤ g) w3 x2 p from (unhide HRX).keep fun g cs hg hc => ⟨(hb3.block g (by have := blk_lt' hc; omega)).trans ((v1 g (by omega)).trans hc), hg⟩)
  have HRY3 := hide (show RS 2 8 (fun g => w2.heap.size ≤ g) w3 y2 t from hy2.imp fun g hg _ => by rw [v3] at hg; exact hg)
  have HB3 := hide (show Below w.heap.size w w3 from ((unhide HB2).trans (v4 _ (by omega))).trans (hb3.mono (by omega)))
  have y7 := blkA' q7
  have z73 := blk_lt' q7
  have y8 := blkA' q8
  have x8 := blkX' q8
  have z83 := blk_lt' q8
  have n78 : w1.heap.size ≠ w1.heap.size + 1 := by omega
  have HQ73 := hide q7
  clear hb3 hy2 q7 q8 v1 v2 v3 v4 HV2 HRX HRY SD2 HB2 HQ8 z7 z8
  go_wp2_with fail
  clear y7 y8 x8 n78
  obtain ⟨U, hU⟩ : ∃ U, U = ((((w3.setCell ⟨w1.heap.size + 1, 0, none⟩ (.int .i64 y2.k)).setCell ⟨w1.heap.size + 1, 1, none⟩ (.string y2.nm)).setCell ⟨w1.heap.size + 1, 2, none⟩ (.int .i64 y2.num)).setCell ⟨w1.heap.size + 1, 3, none⟩ (.slice y2.ao y2.n y2.cap)) := ⟨_, rfl⟩
  rw [← hU] at HV3 ⊢
  clear hU
  obtain ⟨v1, v2, v3, v4⟩ := unhide HV3
  have hux : VU anyU (U.alloc (.cells #[.int .i64 x2.k, .string x2.nm, .int .i64 x2.num, .slice x2.ao x2.n x2.cap, .int .i64 y2.k, .string y2.nm, .int .i64 y2.num, .slice y2.ao y2.n y2.cap] 132)) x2 (Parl.toU 8 1 p) := ⟨8, (RU.of_rs (sd := 1) (unhide HRX3)).keep fun g cs hg hc => ⟨blk_alloc' ((v1 g (by omega)).trans hc) _, trivial⟩⟩
  have huy : VU anyU (U.alloc (.cells #[.int .i64 x2.k, .string x2.nm, .int .i64 x2.num, .slice x2.ao x2.n x2.cap, .int .i64 y2.k, .string y2.nm, .int .i64 y2.num, .slice y2.ao y2.n y2.cap] 132)) y2 (Parl.toU 8 2 t) := ⟨8, (RU.of_rs (sd := 2) (unhide HRY3)).keep fun g cs hg hc => ⟨blk_alloc' ((v1 g (by omega)).trans hc) _, trivial⟩⟩
  have hnew := heap_alloc_new U (.cells #[.int .i64 x2.k, .string x2.nm, .int .i64 x2.num, .slice x2.ao x2.n x2.cap, .int .i64 y2.k, .string y2.nm, .int .i64 y2.num, .slice y2.ao y2.n y2.cap] 132)
  rw [v3] at hnew
  have HQ4 := hide (show (U.alloc (.cells #[.int .i64 x2.k, .string x2.nm, .int .i64 x2.num, .slice x2.ao x2.n x2.cap, .int .i64 y2.k, .string y2.nm, .int .i64 y2.num, .slice y2.ao y2.n y2.cap] 132)).heap[w1.heap.size]? = _ from blk_alloc' ((v1 _ (by omega)).trans (unhide HQ73)) _)
  have HB4 := hide (show Below w.heap.size w (U.alloc (.cells #[.int .i64 x2.k, .string x2.nm, .int .i64 x2.num, .slice x2.ao x2.n x2.cap, .int .i64 y2.k, .string y2.nm, .int .i64 y2.num, .slice y2.ao y2.n y2.cap] 132)) from ((unhide HB3).trans (v4 _ (by omega))).alloc (by omega) _)
  have hz4 : (U.alloc (.cells #[.int .i64 x2.k, .string x2.nm, .int .i64 x2.num, .slice x2.ao x2.n x2.cap, .int .i64 y2.k, .string y2.nm, .int .i64 y2.num, .slice y2.ao y2.n y2.cap] 132)).heap.size = w3.heap.size + 1 := by simp [v3]
  generalize (U.alloc (.cells #[.int .i64 x2.k, .string x2.nm, .int .i64 x2.num, .slice x2.ao x2.n x2.cap, .int .i64 y2.k, .string y2.nm, .int .i64 y2.num, .slice y2.ao y2.n y2.cap] 132)) = W4 at *
  have HROW := hide (show RowE W4 (.slice (some ⟨w3.heap.size, 0, none⟩) 1 1) [(Parl.toU 8 1 p, Parl.toU 8 2 t)] from ⟨_, 1, rfl, Nat.le_refl _, fun _ => ⟨w3.heap.size, 0, [(x2, y2)], _, rfl, hnew, rfl, ⟨hux, huy⟩, trivial⟩⟩)
  have HUX := hide hux
  clear v1 v2 v3 v4 hux huy hnew HV3 HRX3 HRY3 HQ73 HB3 HB1 hsz
  refine (unhide ISOL W4 _ (unhide HROW)).mono ?_
  rintro e w5 ⟨hb5, hR⟩
  have hz5 := hb5.size
  rw [hz4] at hz5
  have q5 := (hb5.block w1.heap.size (by omega)).trans (unhide HQ4)
  have HB5 := hide ((unhide HB4).trans (hb5.mono (by omega)))
  have HUX5 := hide ((unhide HUX).below hb5)
  clear HQ4 HB4 HUX HROW ISOL
  cases R with
  | none =>
    have hR : e = .returned (.tuple #[.slice none 0 0, .bool false]) := hR
    subst hR
    have HUN := hide (Parl.unR_no (unhide HSOL).none)
    clear hb5 q5 HUX5 HGO HBD HSOL
    go_wp2_with fail
    refine bodyPost_ret (v := .tuple #[.string ⟨#[]⟩, .bool false, .int .i64 0]) (by simp [results, Tryz.results35, go_sem]) rfl ?_
    rw [unhide HUN]
    exact ⟨rfl, unhide HB5⟩
  | some out =>
    obtain ⟨oo, oc, bo, rfl, hown, hall⟩ := hR
    have HUN := hide (Parl.unR_is (unhide HSOL).isM)
    have HGD := hide (Parl.puts_gd out (Parl.toU 8 1 p) (unhide HGX) (unhide HGO out rfl))
    have hsz := (unhide HBD out rfl).2
    have HPU := hide (puts_any w5 x2 (Parl.toU 8 1 p) _ oo oc bo out (unhide HUX5) hown hall (unhide HBD out rfl).1)
    have y7 := blkA' q5
    have z7 := blk_lt' q5
    clear hb5 q5 HUX5 HGO HBD HSOL HGX hown hall
    generalize Parl.puts (Parl.toU 8 1 p) out = z at *
    go_wp2_with fail
    refine (unhide HPU).mono ?_
    rintro e w6 ⟨zv, rfl, hz6, hb6⟩
    have HZ6 := hide (hz6.below ((Below.refl _ _).alloc (Nat.le_refl _) (.cells #[.int .i64 zv.k, .string zv.nm, .int .i64 zv.num, .slice zv.ao zv.n zv.cap] 109)))
    have hb6' := (unhide HB5).trans (hb6.mono (unhide HB5).size)
    have HB6 := hide (hb6'.alloc hb6'.size (.cells #[.int .i64 zv.k, .string zv.nm, .int .i64 zv.num, .slice zv.ao zv.n zv.cap] 109))
    have ISZ := hide (sizeU _ anyU zv z (unhide HZ6) hsz)
    clear hz6 hb6 hb6' y7 z7 HPU HB5
    go_wp2_with fail
    refine (unhide ISZ).mono ?_
    rintro e w7 ⟨rfl, hb7⟩
    have HZ7 := hide ((unhide HZ6).below hb7)
    have q9 := (hb7.block w6.heap.size (by simp)).trans (heap_alloc_new w6 _)
    have HB7 := hide ((unhide HB6).trans (hb7.mono (unhide HB6).size))
    have y9 := blkA' q9
    have z9 := blk_lt' q9
    have HSZ := hide hsz
    clear hb7 q9 HZ6 ISZ HB6 hsz
    by_cases hbig : 40 < Parl.size z
    · have t1 : decide ((Parl.size z : Int) > 40) = true := by simp; omega
      have t2 : decide ((40 : Int) < (Parl.size z : Int)) = true := by simp; omega
      have HR := hide (show Parl.unR (Parl.toU 8 1 p) (Parl.toU 8 2 t) = ([], false, 4) by rw [unhide HUN, if_pos hbig])
      clear hbig HUN
      generalize Parl.size z = sz at *
      go_wp2_with fail
      refine bodyPost_ret (v := .tuple #[.string ⟨#[]⟩, .bool false, .int .i64 4]) (by simp [results, Tryz.results35, go_sem]) rfl ?_
      rw [unhide HR]
      exact ⟨rfl, unhide HB7⟩
    · have t1 : decide ((Parl.size z : Int) > 40) = false := by simp; omega
      have t2 : decide ((40 : Int) < (Parl.size z : Int)) = false := by simp; omega
      have HR := hide (show Parl.unR (Parl.toU 8 1 p) (Parl.toU 8 2 t) = (Parl.strU Lib.itoa (Parl.namesU [] z) z, true, 0) by rw [unhide HUN, if_neg hbig])
      obtain ⟨f, hf⟩ := (unhide HZ7).imp (Q := fun g => g < w7.heap.size) (fun g _ h => h)
      have ITU := hide (tu_all f (w7.alloc (.cells #[.slice none 0 0] 106)) w7.heap.size #[.slice none 0 0] [] [] none 0 zv z ⟨heap_alloc_new w7 _, rfl, World.ownsRow_nil _ _ _ _, trivial⟩ (hf.below ((Below.refl _ _).alloc (Nat.le_refl _) _)) (unhide HGD) (by simp; omega))
      clear hbig HUN hf HZ7
      generalize Parl.size z = sz at *
      generalize hSS : Parl.strU Lib.itoa (Parl.namesU [] z) z = S at *
      clear hSS
      go_wp2_with fail
      refine (unhide ITU).mono ?_
      rintro e w8 ⟨cs8, us8, o8, cap8, rfl, -, hf8⟩
      have HB8 := hide (show Below w.heap.size w w8 from ((unhide HB7).alloc (unhide HB7).size _).trans ⟨hf8.os, hf8.tape, hf8.output, hf8.size, fun k hk => hf8.block k (by have := (unhide HB7).size; simp; omega) (by have := (unhide HB7).size; omega) (fun p q => by cases q)⟩)
      clear hf8
      go_wp2_with fail
      refine bodyPost_ret (v := .tuple #[.string ⟨S.toArray⟩, .bool true, .int .i64 0]) (by simp [results, Tryz.results35, go_sem]) rfl ?_
      rw [unhide HR]
      exact ⟨rfl, unhide HB8⟩
theorem ub_any (w : World) (a b : ByteArray) (la lb : List Parl.Tok) (hLa : Parl.Chain a la) (hha : Parl.hd la = Parl.next a 0) (hLb : Parl.Chain b lb) (hhb : Parl.hd lb = Parl.next b 0) :
    Calls Tryz.prog 35 #[.string a, .string b] w fun e w' => PUb (Parl.unA a b la lb) w e w' := by
  by_cases he : Parl.bothE a b la lb = 0
  · have hs : ¬ (64 < a.size ∨ 64 < b.size) := fun q => by unfold Parl.bothE at he; rw [if_pos q] at he; cases he
    rcases hp : Parl.whole la with ⟨er, ps⟩ | ⟨p, l1⟩
    · rw [Parl.bothE_a hs hp] at he
      exact absurd he (Parl.whole_err hp)
    · rcases ht : Parl.whole lb with ⟨er, ps⟩ | ⟨t, l2⟩
      · rw [Parl.bothE_b hs hp, ht] at he
        exact absurd he (Parl.whole_err ht)
      · exact ub_good w a b la lb hLa hha hLb hhb hs p t l1 l2 hp ht
  · exact ub_bad w a b la lb hLa hha hLb hhb he
end Go.Proofs.YthfjnfcekeknlaaGreatDoor
