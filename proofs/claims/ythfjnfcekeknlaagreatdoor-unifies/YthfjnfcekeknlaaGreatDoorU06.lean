import Derived.Test.YthfjnfcekeknlaaGreatDoorU05
import Derived.Maps.AppendAt
namespace Go.Proofs.YthfjnfcekeknlaaGreatDoor
open Go.RowKit

set_option maxHeartbeats 1000000 in
/-- A term that may not begin. -/
theorem term_no (w : World) (rb : Nat) (s : ByteArray) (l : List Parl.Tok) (ns : List ByteArray) (nv : Value) (e0 : Int) (f d : Nat) (h : St w rb s l ns nv e0) (hm : mayB d (Parl.hd l) ≠ 0) :
    Calls Tryz.prog 75 #[.pointer (some ⟨rb, 0, none⟩), .int .i64 (d : Int)] w fun e w' => PTerm f rb s ns (Parl.bad (mayB d (Parl.hd l)) l) w e w' := by
  have hb2 : Below w.heap.size w ((w.alloc boxR).alloc (boxT (Parl.hd l))) := ((Below.refl _ _).alloc (Nat.le_refl _) _).alloc (by simp) _
  have H2 := hide (h.below hb2)
  have hlt := h.lt
  unfold boxR boxT at H2
  obtain ⟨⟨c0, c1, c2, c3, c4, c5, f1, f2, f3, f4, f5⟩, own, chain, isn, few, short, signs, pos, lt⟩ := h
  clear own chain isn few short signs hb2
  have hmf : (mayB d (Parl.hd l) == 0) = false := by simpa using hm
  go_enter Tryz.func75, Tryz.ntmps75
  go_wp2_with (go_at_call 129; refine (mayBegin_any _ rb s l ns nv e0 d (unhide H2)).mono ?_; rintro e w1 ⟨rfl, hs, hk⟩; rw [if_neg hm] at hs; obtain ⟨r0, r1, r2, r3, x0, x1, x2, x3, t0, t2⟩ := boxes hlt hk; have HS := hide hs; have HK := hide hk; clear hs hk)
  have R := box_end (unhide HK) (unhide HS) hlt (.int .i64 0) (.int .i64 0) (.string ⟨#[]⟩) (.slice none 0 0)
  refine bodyPost_ret (v := .tuple #[.agg #[.int .i64 0, .int .i64 0, .string ⟨#[]⟩, .slice none 0 0], .bool false]) (by simp [results, Tryz.results75, go_sem, r0, r1, r2, r3]) rfl ?_
  exact ⟨_, _, _, _, _, _, l, ns, nv, rfl, R.1, rfl, R.2⟩

theorem St.tsize {w : World} {rb : Nat} {s : ByteArray} {l : List Parl.Tok} {ns : List ByteArray} {nv : Value} {e : Int} (h : St w rb s l ns nv e) : (Parl.hd l).text.size ≤ 240 := by obtain ⟨p, e⟩ := h.isNext; have h1 := h.short; have h2 := @Parl.next_fits s p; rw [e]; omega
theorem mayB_six {d : Nat} {t : Parl.Tok} (h : mayB d t = 0) (hk : t.kind = 4) : t.text.size ≤ 6 := by
  unfold mayB at h
  split at h
  · split at h
    · cases h
    · omega
  · cases h
theorem ta_var {f : Nat} {ns ns' : List ByteArray} {w w' : World} {x : ByteArray} {i : Int} (hz : x.size ≤ 240) (hn : nmsA ns' = Parl.addN (nmsA ns) x.toList) (hi : i = ((nmsA ns).idxOf x.toList : Int)) : TA (f + 1) ns ns' w w' i ⟨#[]⟩ none 0 ⟨3, x, []⟩ := by
  have hm : x.toList ∈ Parl.addN (nmsA ns) x.toList := by
    unfold Parl.addN
    split
    · assumption
    · simp
  have hx := Parl.addN_idx (nmsA ns) [] x.toList
  rw [List.append_nil] at hx
  exact ⟨RA.one ⟨rfl, rfl, fun _ => ⟨by rw [hn]; exact hm, by rw [hi, hn]; show _ = ((List.idxOf x.toList _ : Nat) : Int); rw [hx]⟩, (fun q => by cases q), (fun q => by cases q), by simp, hz, by simp⟩ rfl, by rw [hn]; simp [Parl.namesF]⟩
theorem ta_num {f : Nat} {ns : List ByteArray} {w w' : World} {x : ByteArray} {i : Int} (hz : x.size ≤ 240) (h6 : x.size ≤ 6) (hi : i = (Parl.numOf x : Int)) : TA (f + 1) ns ns w w' i ⟨#[]⟩ none 0 ⟨4, x, []⟩ :=
  ⟨RA.one ⟨rfl, rfl, (fun q => by cases q), fun _ => ⟨hi, h6, rfl⟩, (fun q => by cases q), by simp, hz, by simp⟩ rfl, by simp [Parl.namesF]⟩
/-- The arguments, seen from ahead of the boxes. -/
def AA1 (f b : Nat) (ns ns' : List ByteArray) (w' : World) (ao : Option Addr) (ts : List Parl.Tm) : Prop :=
  (ts ≠ [] → ∃ (g : Nat) (us : List AV) (cs : Array Value), ao = some ⟨g, 0, none⟩ ∧ b < g ∧ w'.heap[g]? = some (.cells cs 76 (0, 0)) ∧ cs.toList.take (us.length * 4) = us.flatMap avC ∧ All2 (RA f (nmsA ns') (fun g => b < g) w') us ts) ∧ nmsA ns' = ts.foldl (Parl.namesF f) (nmsA ns) ∧ ts.length ≤ 3
theorem AA.up {f : Nat} {ns ns' : List ByteArray} {w0 w w' : World} {o1 o2 : Obj} {ao : Option Addr} {ts : List Parl.Tm} (h : AA f ns ns' w w' ao ts) (hz : ((w0.alloc o1).alloc o2).heap.size ≤ w.heap.size) : AA1 f w0.heap.size ns ns' w' ao ts := by
  have hz' : w0.heap.size + 2 ≤ w.heap.size := by simpa using hz
  refine ⟨fun q => ?_, h.nms, h.few⟩
  obtain ⟨g, us, cs, h1, h2, h3, h4, h5⟩ := h.rows q
  exact ⟨g, us, cs, h1, by omega, h3, h4, h5.imp fun _ _ r => r.imp fun g hg _ => by omega⟩
theorem ta_name {f : Nat} {ns ns' : List ByteArray} {w w3 : World} {x : ByteArray} {ao : Option Addr} {cap : Nat} {ts : List Parl.Tm} {v0 v1 v2 v3 : Value} (hz : x.size ≤ 240) (h : AA1 f w.heap.size ns ns' w3 ao ts) :
    TA (f + 1) ns ns' w ((((w3.setCell ⟨w.heap.size, 0, none⟩ v0).setCell ⟨w.heap.size, 1, none⟩ v1).setCell ⟨w.heap.size, 2, none⟩ v2).setCell ⟨w.heap.size, 3, none⟩ v3) 0 x ao cap ⟨2, x, ts⟩ := by
  obtain ⟨h1, h2, h3⟩ := h
  refine ⟨⟨⟨rfl, rfl, (fun q => by cases q), (fun q => by cases q), fun _ => rfl, by simp, hz, h3⟩, fun q => ?_⟩, by rw [h2]; simp [Parl.namesF]⟩
  obtain ⟨g, us, cs, e1, e2, e3, e4, e5⟩ := h1 q
  have k : ∀ (u : World) (o : Nat) (v : Value), (u.setCell ⟨w.heap.size, o, none⟩ v).heap[g]? = u.heap[g]? := fun u o v => Below.heap_setCell _ _ _ _ (by show g ≠ w.heap.size; omega)
  refine ⟨g, us, cs, e1, by omega, by rw [k, k, k, k]; exact e3, e4, e5.imp fun _ _ r => ?_⟩
  exact ((((r.set (fun g hg => by omega) 0 v0).set (fun g hg => by omega) 1 v1).set (fun g hg => by omega) 2 v2).set (fun g hg => by omega) 3 v3).imp fun g hg _ => by omega

/-- The reader behind a token that has been taken, the boxes laid. -/
theorem few_tail {w : World} {rb : Nat} {s : ByteArray} {l : List Parl.Tok} {ns : List ByteArray} {nv : Value} {e : Int} (h : St w rb s l ns nv e) : ns.length + l.tail.length < 1000 := by
  have := h.few
  rcases l with _ | ⟨a, r⟩
  · exact absurd h.chain (by simp [Parl.Chain])
  · simp at this ⊢; omega

set_option maxHeartbeats 1000000 in
/-- A variable. -/
theorem term_var (w : World) (rb : Nat) (s : ByteArray) (l : List Parl.Tok) (ns : List ByteArray) (nv : Value) (e0 : Int) (d f : Nat) (h : St w rb s l ns nv e0) (hm : mayB d (Parl.hd l) = 0) (hk3 : (Parl.hd l).kind = 3) :
    Calls Tryz.prog 75 #[.pointer (some ⟨rb, 0, none⟩), .int .i64 (d : Int)] w fun e w' => PTerm (f + 1) rb s ns (Parl.term (f + 1) l) w e w' := by
  rw [term_leaf hm (Or.inl hk3), hk3]
  have hb2 : Below w.heap.size w ((w.alloc boxR).alloc (boxT (Parl.hd l))) := ((Below.refl _ _).alloc (Nat.le_refl _) _).alloc (by simp) _
  have H2 := hide (h.below hb2)
  have hfew := few_tail h
  have hlt := h.lt
  have hz := h.tsize
  have hk0 := hide (show (Parl.hd l).kind ≠ 0 by omega)
  unfold boxR boxT at H2
  obtain ⟨⟨c0, c1, c2, c3, c4, c5, f1, f2, f3, f4, f5⟩, own, chain, isn, few, short, signs, pos, lt⟩ := h
  clear own chain isn few short signs hb2
  have hmf : (mayB d (Parl.hd l) == 0) = true := by simpa using hm
  have HK3 := hide hk3
  clear hk3
  go_enter Tryz.func75, Tryz.ntmps75
  go_wp2_with fail
  refine (mayBegin_any _ rb s l ns nv e0 d (unhide H2)).mono ?_
  rintro e w1 ⟨rfl, hs, hk⟩
  rw [if_pos hm] at hs
  have HS := hide hs
  have HK := hide hk
  clear hs hk
  go_wp2_with fail
  refine (take_any _ rb s l ns nv e0 (unhide HS) (unhide hk0)).mono ?_
  rintro e w2 ⟨rfl, hs, hk⟩
  have HS2 := hide hs
  have HK2 := hide ((unhide HK).trans hk)
  clear hs hk HS HK
  obtain ⟨r0, r1, r2, r3, x0, x1, x2, x3, t0, t2⟩ := boxes hlt (unhide HK2)
  rw [unhide HK3] at t0
  go_wp2_with fail
  refine (variable_any _ rb s l.tail ns nv e0 _ (unhide HS2) hfew).mono ?_
  rintro e w3 ⟨ns', nv', rfl, hnm, hs, hk⟩
  have HNM := hide hnm
  generalize hii : (((nmsA ns).idxOf (Parl.hd l).text.toList : Nat) : Int) = i
  have HII := hide hii
  clear hnm hii
  have HS3 := hide hs
  have HK3 := hide ((unhide HK2).trans hk)
  clear hs hk HS2 HK2 r0 r1 r2 r3 x0 x1 x2 x3 t0 t2
  obtain ⟨r0, r1, r2, r3, x0, x1, x2, x3, t0, t2⟩ := boxes hlt (unhide HK3)
  go_wp2_with fail
  have R := box_end (unhide HK3) (unhide HS3) hlt (.int .i64 1) (.int .i64 i) (.string ⟨#[]⟩) (.slice none 0 0)
  refine bodyPost_ret (v := .tuple #[.agg #[.int .i64 1, .int .i64 i, .string ⟨#[]⟩, .slice none 0 0], .bool true]) (by simp [results, Tryz.results75, go_sem, r0, r1, r2, r3]) rfl ?_
  exact ⟨_, _, _, _, ns', nv', e0, rfl, ta_var hz (unhide HNM) (unhide HII).symm, R.1, R.2⟩

set_option maxHeartbeats 1000000 in
/-- A number. -/
theorem term_num (w : World) (rb : Nat) (s : ByteArray) (l : List Parl.Tok) (ns : List ByteArray) (nv : Value) (e0 : Int) (d f : Nat) (h : St w rb s l ns nv e0) (hm : mayB d (Parl.hd l) = 0) (hk4 : (Parl.hd l).kind = 4) :
    Calls Tryz.prog 75 #[.pointer (some ⟨rb, 0, none⟩), .int .i64 (d : Int)] w fun e w' => PTerm (f + 1) rb s ns (Parl.term (f + 1) l) w e w' := by
  rw [term_leaf hm (Or.inr hk4), hk4]
  have hb2 : Below w.heap.size w ((w.alloc boxR).alloc (boxT (Parl.hd l))) := ((Below.refl _ _).alloc (Nat.le_refl _) _).alloc (by simp) _
  have H2 := hide (h.below hb2)
  have hlt := h.lt
  have hz := h.tsize
  have hz6 := mayB_six hm hk4
  have hk0 := hide (show (Parl.hd l).kind ≠ 0 by omega)
  unfold boxR boxT at H2
  obtain ⟨⟨c0, c1, c2, c3, c4, c5, f1, f2, f3, f4, f5⟩, own, chain, isn, few, short, signs, pos, lt⟩ := h
  clear own chain isn few short signs hb2
  have hmf : (mayB d (Parl.hd l) == 0) = true := by simpa using hm
  have HK4 := hide hk4
  clear hk4
  go_enter Tryz.func75, Tryz.ntmps75
  go_wp2_with fail
  refine (mayBegin_any _ rb s l ns nv e0 d (unhide H2)).mono ?_
  rintro e w1 ⟨rfl, hs, hk⟩
  rw [if_pos hm] at hs
  have HS := hide hs
  have HK := hide hk
  clear hs hk
  go_wp2_with fail
  refine (take_any _ rb s l ns nv e0 (unhide HS) (unhide hk0)).mono ?_
  rintro e w2 ⟨rfl, hs, hk⟩
  have HS2 := hide hs
  have HK2 := hide ((unhide HK).trans hk)
  clear hs hk HS HK
  obtain ⟨r0, r1, r2, r3, x0, x1, x2, x3, t0, t2⟩ := boxes hlt (unhide HK2)
  rw [unhide HK4] at t0
  go_wp2_with fail
  refine (valueOf_any _ _ hz6).mono ?_
  rintro e w3 ⟨rfl, rfl⟩
  generalize hii : ((Parl.numOf (Parl.hd l).text : Nat) : Int) = i
  have HII := hide hii
  clear hii
  go_wp2_with fail
  have R := box_end (unhide HK2) (unhide HS2) hlt (.int .i64 2) (.int .i64 i) (.string ⟨#[]⟩) (.slice none 0 0)
  refine bodyPost_ret (v := .tuple #[.agg #[.int .i64 2, .int .i64 i, .string ⟨#[]⟩, .slice none 0 0], .bool true]) (by simp [results, Tryz.results75, go_sem, r0, r1, r2, r3]) rfl ?_
  exact ⟨_, _, _, _, ns, nv, e0, rfl, ta_num hz hz6 (unhide HII).symm, R.1, R.2⟩

set_option maxHeartbeats 1000000 in
/-- A name. -/
theorem term_nam (f : Nat) (IH : ArgsSaid f) (w : World) (rb : Nat) (s : ByteArray) (l : List Parl.Tok) (ns : List ByteArray) (nv : Value) (e0 : Int) (d : Nat) (hfd : f + 1 + d = 9) (h : St w rb s l ns nv e0) (hm : mayB d (Parl.hd l) = 0) (hk2 : (Parl.hd l).kind = 2) :
    Calls Tryz.prog 75 #[.pointer (some ⟨rb, 0, none⟩), .int .i64 (d : Int)] w fun e w' => PTerm (f + 1) rb s ns (Parl.term (f + 1) l) w e w' := by
  rw [term_name hm hk2]
  have hb2 : Below w.heap.size w ((w.alloc boxR).alloc (boxT (Parl.hd l))) := ((Below.refl _ _).alloc (Nat.le_refl _) _).alloc (by simp) _
  have H2 := hide (h.below hb2)
  have hlt := h.lt
  have hz := h.tsize
  have hk0 := hide (show (Parl.hd l).kind ≠ 0 by omega)
  unfold boxR boxT at H2
  have I := hide (fun w (hs : St w rb s l.tail ns nv e0) => IH w rb s l.tail ns nv e0 (d + 1) (by omega) hs)
  generalize optArgs f l.tail = r at I ⊢
  obtain ⟨⟨c0, c1, c2, c3, c4, c5, f1, f2, f3, f4, f5⟩, own, chain, isn, few, short, signs, pos, lt⟩ := h
  clear own chain isn few short signs hb2 IH
  have hmf : (mayB d (Parl.hd l) == 0) = true := by simpa using hm
  have HK2 := hide hk2
  clear hk2
  rcases r with ⟨er, pos⟩ | ⟨ts, l2⟩
  · show Calls _ _ _ _ fun e w' => PTerm (f + 1) rb s ns (.inl (er, pos)) w e w'
    go_enter Tryz.func75, Tryz.ntmps75
    go_wp2_with fail
    refine (mayBegin_any _ rb s l ns nv e0 d (unhide H2)).mono ?_
    rintro e w1 ⟨rfl, hs, hk⟩
    rw [if_pos hm] at hs
    have HS := hide hs
    have HK := hide hk
    clear hs hk
    go_wp2_with fail
    refine (take_any _ rb s l ns nv e0 (unhide HS) (unhide hk0)).mono ?_
    rintro e w2 ⟨rfl, hs, hk⟩
    have HS2 := hide hs
    have HKK := hide ((unhide HK).trans hk)
    clear hs hk HS HK
    obtain ⟨r0, r1, r2, r3, x0, x1, x2, x3, t0, t2⟩ := boxes hlt (unhide HKK)
    rw [unhide HK2] at t0
    go_wp2_with fail
    rw [show ((d : Int) + 1) = ((d + 1 : Nat) : Int) by omega]
    refine (unhide I _ (unhide HS2)).mono ?_
    clear r0 r1 r2 r3 x0 x1 x2 x3 t0 t2
    rintro e w3 ⟨l', ns', nv', ao, n, cap, rfl, hs, hpos, hk⟩
    have HS3 := hide hs
    have HK3 := hide ((unhide HKK).trans hk)
    have HP := hide hpos
    clear hs hk HS2 HKK hpos
    obtain ⟨r0, r1, r2, r3, x0, x1, x2, x3, t0, t2⟩ := boxes hlt (unhide HK3)
    go_wp2_with fail
    have R := box_end (unhide HK3) (unhide HS3) hlt (.int .i64 3) (.int .i64 0) (.string (Parl.hd l).text) (.slice ao n cap)
    refine bodyPost_ret (v := .tuple #[.agg #[.int .i64 3, .int .i64 0, .string (Parl.hd l).text, .slice ao n cap], .bool false]) (by simp [results, Tryz.results75, go_sem, r0, r1, r2, r3]) rfl ?_
    exact ⟨_, _, _, _, _, _, l', ns', nv', rfl, R.1, unhide HP, R.2⟩
  · show Calls _ _ _ _ fun e w' => PTerm (f + 1) rb s ns (.inr (⟨2, (Parl.hd l).text, ts⟩, l2)) w e w'
    go_enter Tryz.func75, Tryz.ntmps75
    go_wp2_with fail
    refine (mayBegin_any _ rb s l ns nv e0 d (unhide H2)).mono ?_
    rintro e w1 ⟨rfl, hs, hk⟩
    rw [if_pos hm] at hs
    have HS := hide hs
    have HK := hide hk
    clear hs hk
    go_wp2_with fail
    refine (take_any _ rb s l ns nv e0 (unhide HS) (unhide hk0)).mono ?_
    rintro e w2 ⟨rfl, hs, hk⟩
    have HS2 := hide hs
    have HKK := hide ((unhide HK).trans hk)
    clear hs hk HS HK
    obtain ⟨r0, r1, r2, r3, x0, x1, x2, x3, t0, t2⟩ := boxes hlt (unhide HKK)
    rw [unhide HK2] at t0
    go_wp2_with fail
    rw [show ((d : Int) + 1) = ((d + 1 : Nat) : Int) by omega]
    refine (unhide I _ (unhide HS2)).mono ?_
    clear r0 r1 r2 r3 x0 x1 x2 x3 t0 t2
    rintro e w3 ⟨ao, cap, ns', nv', e', rfl, haa, hs, hk⟩
    have HAA := hide (haa.up (unhide HKK).size)
    clear haa
    have HS3 := hide hs
    have HK3 := hide ((unhide HKK).trans hk)
    clear hs hk HS2 HKK
    obtain ⟨r0, r1, r2, r3, x0, x1, x2, x3, t0, t2⟩ := boxes hlt (unhide HK3)
    go_wp2_with fail
    have R := box_end (unhide HK3) (unhide HS3) hlt (.int .i64 3) (.int .i64 0) (.string (Parl.hd l).text) (.slice ao ts.length cap)
    refine bodyPost_ret (v := .tuple #[.agg #[.int .i64 3, .int .i64 0, .string (Parl.hd l).text, .slice ao ts.length cap], .bool true]) (by simp [results, Tryz.results75, go_sem, r0, r1, r2, r3]) rfl ?_
    exact ⟨_, _, _, _, ns', nv', e', rfl, ta_name hz (unhide HAA), R.1, R.2⟩

theorem term_step (f : Nat) (IH : ArgsSaid f) : TermSaid (f + 1) := by
  intro w rb s l ns nv e0 d hfd h
  by_cases hm : mayB d (Parl.hd l) = 0
  · rcases mayB_kind hm with hk | hk | hk
    · exact term_nam f IH w rb s l ns nv e0 d hfd h hm hk
    · exact term_var w rb s l ns nv e0 d f h hm hk
    · exact term_num w rb s l ns nv e0 d f h hm hk
  · rw [term_bad (by omega) hm]
    exact term_no w rb s l ns nv e0 _ d h hm
theorem term_none : TermSaid 0 := by
  intro w rb s l ns nv e0 d hfd h
  obtain rfl : d = 9 := by omega
  rw [term_zero]
  exact term_no w rb s l ns nv e0 0 9 h (mayB9 _)
end Go.Proofs.YthfjnfcekeknlaaGreatDoor
namespace Go.Proofs.YthfjnfcekeknlaaGreatDoor
open Go.RowKit

theorem Tryz.info76 : (Tryz.prog.info? 76).map (fun i => (i.zero, i.size, i.bytes)) = some (some (.agg #[.int .i64 0, .int .i64 0, .string ⟨#[]⟩, .slice none 0 0]), 4, 56) := by kernel_rfl

theorem own_ka {rb b0 : Nat} {w w1 : World} {T : TypeId} {sz : Nat} {v : Value} {n : Nat} {xs : List Value} (h : w.ownsRow b0 T sz v n xs) (hk : KA rb [rb] w w1) (hb : rb < b0) (hT : T ≠ 9) : w1.ownsRow b0 T sz v n xs :=
  ⟨h.1, h.2.imp id fun ⟨g, cap, cur, a, b, c, d⟩ => ⟨g, cap, cur, a, b, (hk.block g (Array.getElem?_eq_some_iff.1 c).1 (by simp; omega) (Or.inr (by unfold tyAt; rw [c]; simpa using hT))).trans c, d⟩⟩

theorem St.grown {w w2 : World} {rb : Nat} {s : ByteArray} {l : List Parl.Tok} {ns : List ByteArray} {nv : Value} {e : Int} {row : Option Nat} (h : St w rb s l ns nv e) (hg : w.grownBy w2 row) (hr : ∀ k, row = some k → rb < k ∧ tyAt w k ≠ some 9) : St w2 rb s l ns nv e := by
  have k : ∀ q, q < w.heap.size → some q ≠ row → w2.heap[q]? = w.heap[q]? := hg.block
  have hrb := k rb h.lt (fun e => by have := (hr rb e.symm).1; omega)
  have h0 := k 0 (by have := h.lt; omega) (fun e => by have := (hr 0 e.symm).1; omega)
  have c : ∀ o, w2.cell? ⟨rb, o, none⟩ = w.cell? ⟨rb, o, none⟩ := fun o => World.cell?_of_block hrb
  have f : ∀ o, w2.frozen? ⟨rb, o, none⟩ = w.frozen? ⟨rb, o, none⟩ := fun o => World.frozen?_of_block hrb
  have z : ∀ o, w2.cell? ⟨0, o, none⟩ = w.cell? ⟨0, o, none⟩ := fun o => World.cell?_of_block h0
  obtain ⟨⟨c0, c1, c2, c3, c4, c5, f1, f2, f3, f4, f5⟩, own, chain, isn, few, short, signs, pos, lt⟩ := h
  refine ⟨⟨(c 0).trans c0, (c 1).trans c1, (c 2).trans c2, (c 3).trans c3, (c 4).trans c4, (c 5).trans c5, (f 1).trans f1, (f 2).trans f2, (f 3).trans f3, (f 4).trans f4, (f 5).trans f5⟩, ⟨own.1, ?_⟩, chain, isn, few, short, ⟨(z 0).trans signs.s0, (z 1).trans signs.s1, (z 2).trans signs.s2, (z 3).trans signs.s3, (z 4).trans signs.s4⟩, pos, by have := hg.size; omega⟩
  rcases own.2 with q | ⟨g, cap, cur, a, b', c', d⟩
  · exact Or.inl q
  · refine Or.inr ⟨g, cap, cur, a, b', ?_, d⟩
    rw [k g (Array.getElem?_eq_some_iff.1 c').1 (fun e => (hr g e.symm).2 (by unfold tyAt; rw [c']))]
    exact c'

/-- So many have been read already. -/
def pre (ts : List Parl.Tm) (r : Parl.Res (List Parl.Tm)) : Parl.Res (List Parl.Tm) := match r with
  | .inl e => .inl e
  | .inr (us, l2) => .inr (ts ++ us, l2)
theorem pre_nil (r : Parl.Res (List Parl.Tm)) : r = pre [] r := by rcases r with e | ⟨us, l2⟩ <;> rfl

theorem args_bad {p : List Parl.Tok → Parl.Res Parl.Tm} {k : Nat} {l : List Parl.Tok} {er : Nat × Nat} (h : p l = .inl er) : Parl.argsOf p k l = .inl er := by
  unfold Parl.argsOf; rw [h]
theorem args_end {p : List Parl.Tok → Parl.Res Parl.Tm} {k : Nat} {l l1 : List Parl.Tok} {t : Parl.Tm} (h : p l = .inr (t, l1)) (hc : Parl.sees l1 [44] = false) : Parl.argsOf p k l = if Parl.sees l1 [41] = true then .inr ([t], l1.tail) else Parl.bad 2 l1 := by
  unfold Parl.argsOf; rw [h]; simp only [hc]; rfl
theorem args_many {p : List Parl.Tok → Parl.Res Parl.Tm} {l l1 : List Parl.Tok} {t : Parl.Tm} (h : p l = .inr (t, l1)) (hc : Parl.sees l1 [44] = true) : Parl.argsOf p 0 l = Parl.bad 3 l1 := by
  unfold Parl.argsOf; rw [h]; simp only [hc]; rfl
theorem args_more {p : List Parl.Tok → Parl.Res Parl.Tm} {k : Nat} {l l1 : List Parl.Tok} {t : Parl.Tm} (h : p l = .inr (t, l1)) (hc : Parl.sees l1 [44] = true) (ts : List Parl.Tm) : pre ts (Parl.argsOf p (k + 1) l) = pre (ts ++ [t]) (Parl.argsOf p k l1.tail) := by
  conv => lhs; unfold Parl.argsOf
  rw [h]; simp only [hc]
  rcases Parl.argsOf p k l1.tail with e | ⟨us, l2⟩
  · rfl
  · simp [pre]
end Go.Proofs.YthfjnfcekeknlaaGreatDoor
namespace Go.Proofs.YthfjnfcekeknlaaGreatDoor
open Go.RowKit

theorem new_four (W : World) (o : Obj) (a b c d : Value) (T : TypeId) : ∀ j u, ([a, b, c, d] : List Value)[j]? = some u → ((W.alloc o).alloc (.cells #[a, b, c, d] T)).cell? ((⟨W.heap.size + 1, 0, none⟩ : Addr).add j) = some u := by
  intro j u hj
  match j, hj with
  | 0, hj => simp at hj; subst hj; simp [Addr.add]
  | 1, hj => simp at hj; subst hj; simp [Addr.add]
  | 2, hj => simp at hj; subst hj; simp [Addr.add]
  | 3, hj => simp at hj; subst hj; simp [Addr.add]
theorem four_one (a b : Int) (c : ByteArray) (ao : Option Addr) (n cap : Nat) : ∀ u ∈ ([.int .i64 a, .int .i64 b, .string c, .slice ao n cap] : List Value), u.oneCell' = true := by
  intro u hu; simp at hu; rcases hu with rfl | rfl | rfl | rfl <;> rfl
/-- Behind the append of an argument. -/
theorem arg_grown {w w2 w3 : World} {rb : Nat} {s : ByteArray} {l : List Parl.Tok} {ns : List ByteArray} {nv : Value} {e : Int} {v : Value} {n : Nat} {xs : List Value} {o1 o2 : Obj} {T : TypeId} {sz : Nat} (h : St w2 rb s l ns nv e) (hk : KA rb [rb] w w2) (ho : w2.ownsRow w.heap.size T sz v n xs) (hlt : rb < w.heap.size) (hg : ((w2.alloc o1).alloc o2).grownBy w3 v.ownBlock) (hT : T ≠ 9 := by decide) :
    St w3 rb s l ns nv e ∧ KA rb [rb] w w3 := by
  have hb : Below w2.heap.size w2 ((w2.alloc o1).alloc o2) := ((Below.refl _ _).alloc (Nat.le_refl _) _).alloc (by simp) _
  have hty : ∀ k, v.ownBlock = some k → tyAt ((w2.alloc o1).alloc o2) k ≠ some 9 := fun k hk' => by
    have := ho.lt k hk'
    rcases ho.2 with ⟨rfl, _⟩ | ⟨g, cap, cur, rfl, _, c, _⟩
    · simp [Value.ownBlock] at hk'
    · simp [Value.ownBlock] at hk'
      subst hk'
      unfold tyAt; rw [hb.block g this.2, c]; simpa using hT
  refine ⟨(h.below hb).grown hg (fun k q => ⟨by have := (ho.lt k q).1; omega, hty k q⟩), ((hk.alloc o1).alloc o2).grown hg (fun k q => Or.inl (ho.lt k q).1)⟩

/-- The arguments so far lie there, and not in the row that grows. -/
def ArgRep (f : Nat) (w : World) (ns0 ns : List ByteArray) (v : Value) (wr : World) (us : List AV) (ts : List Parl.Tm) : Prop :=
  All2 (RA f (nmsA ns) (fun g => w.heap.size ≤ g ∧ some g ≠ v.ownBlock) wr) us ts ∧ nmsA ns = ts.foldl (Parl.namesF f) (nmsA ns0)
theorem ArgRep.keep {f : Nat} {w : World} {ns0 ns : List ByteArray} {v : Value} {wr w2 : World} {us : List AV} {ts : List Parl.Tm} (h : ArgRep f w ns0 ns v wr us ts) (hk : KeepA wr w2) : ArgRep f w ns0 ns v w2 us ts :=
  ⟨h.1.imp fun _ _ r => r.keep fun g cs hp hc hi => ⟨hk g cs hc hi, hp⟩, h.2⟩
theorem ArgRep.next {f rb : Nat} {w : World} {ns0 ns1 ns2 : List ByteArray} {v nv : Value} {wr w2 : World} {us : List AV} {ts : List Parl.Tm} {s : ByteArray} {l : List Parl.Tok} {e : Int} {T : TypeId} {sz n : Nat} {xs : List Value} {val : Int} {tx : ByteArray} {ao : Option Addr} {cap : Nat} {t : Parl.Tm}
    (h : ArgRep f w ns0 ns1 v wr us ts) (hs : St wr rb s l ns1 nv e) (hk : KA rb [rb] wr w2) (ho : wr.ownsRow w.heap.size T sz v n xs) (hw : w.heap.size ≤ wr.heap.size) (ht : TA f ns1 ns2 wr w2 val tx ao cap t) :
    ArgRep f w ns0 ns2 v w2 (us ++ [⟨ak t.kind, val, tx, ao, t.args.length, cap⟩]) (ts ++ [t]) := by
  obtain ⟨M, hM, _⟩ := Parl.namesF_ext f t ht.rep.ok3 (nmsA ns1)
  have he : nmsA ns2 = nmsA ns1 ++ M := ht.nms.trans hM
  refine ⟨All2.snoc ?_ ?_, by rw [List.foldl_append, ← h.2]; exact ht.nms⟩
  · exact ht.rep.imp fun g hg _ => ⟨by omega, fun q => by have := (ho.lt g q.symm).2; omega⟩
  · rw [he]
    exact (h.keep (KeepA.ka hs hk)).1.imp fun _ _ r => r.more M
theorem ArgRep.grown {f : Nat} {w : World} {ns0 ns : List ByteArray} {v v' : Value} {w2 w3 : World} {us : List AV} {ts : List Parl.Tm} {o1 o2 : Obj} (h : ArgRep f w ns0 ns v w2 us ts) (hg : ((w2.alloc o1).alloc o2).grownBy w3 v.ownBlock) (hat : v'.ownBlock = v.ownBlock ∨ v'.ownBlock = some ((w2.alloc o1).alloc o2).heap.size) : ArgRep f w ns0 ns v' w3 us ts := by
  have hb : Below w2.heap.size w2 ((w2.alloc o1).alloc o2) := ((Below.refl _ _).alloc (Nat.le_refl _) _).alloc (by simp) _
  have hz : w2.heap.size ≤ ((w2.alloc o1).alloc o2).heap.size := hb.size
  refine ⟨h.1.imp fun _ _ r => r.keep fun g cs hp hc hi => ?_, h.2⟩
  have hlt : g < w2.heap.size := (Array.getElem?_eq_some_iff.1 hc).1
  refine ⟨((hg.block g (by omega) hp.2).trans (hb.block g hlt)).trans hc, hp.1, fun q => ?_⟩
  rcases hat with a | a
  · exact hp.2 (q.trans a)
  · rw [a] at q
    injection q with q
    omega
theorem ArgRep.done {f : Nat} {w : World} {ns0 ns : List ByteArray} {g cap : Nat} {wr : World} {us : List AV} {ts : List Parl.Tm} (h : ArgRep f w ns0 ns (.slice (some ⟨g, 0, none⟩) ts.length cap) wr us ts) (ho : wr.ownsRow w.heap.size 76 4 (.slice (some ⟨g, 0, none⟩) ts.length cap) ts.length (us.flatMap avC)) (h3 : ts.length ≤ 3) : AA f ns0 ns w wr (some ⟨g, 0, none⟩) ts := by
  refine ⟨fun _ => ?_, h.2, h3⟩
  rcases ho.2 with ⟨q, _⟩ | ⟨g', cap', cur, q, hb, hc, _, _, _, ht⟩
  · cases q
  · simp only [Value.slice.injEq, Option.some.injEq, Addr.mk.injEq, and_true, true_and] at q
    obtain ⟨rfl, rfl⟩ := q
    exact ⟨g, us, cur, rfl, hb, hc, by rw [h.1.length]; exact ht, h.1.imp fun _ _ r => r.imp fun _ q _ => q.1⟩
/-- The loop's relation. -/
def ArgRel (w : World) (rb : Nat) (s : ByteArray) (f : Nat) (l0 : List Parl.Tok) (ns0 : List ByteArray) (v : Value) (wr : World) : Prop :=
  ∃ (ts : List Parl.Tm) (us : List AV) (l : List Parl.Tok) (ns : List ByteArray) (nv : Value) (e : Int), St wr rb s l ns nv e ∧ wr.ownsRow w.heap.size 76 4 v ts.length (us.flatMap avC) ∧ ts.length ≤ 2 ∧
    Parl.argsOf (Parl.term f) 2 l0 = pre ts (Parl.argsOf (Parl.term f) (2 - ts.length) l) ∧ KA rb [rb] w wr ∧ ArgRep f w ns0 ns v wr us ts
def lenOf : Value → Nat | .slice _ n _ => n | _ => 0

theorem own_len {w : World} {b : Nat} {e : TypeId} {sz : Nat} {v : Value} {n : Nat} {xs : List Value} (h : w.ownsRow b e sz v n xs) : lenOf v = n := by
  rcases h.2 with ⟨rfl, q⟩ | ⟨g, cap, cur, rfl, _⟩
  · exact q.symm
  · rfl

set_option maxHeartbeats 2000000 in
set_option maxRecDepth 100000 in
theorem args_step (f : Nat) (IH : TermSaid f) : ArgsSaid f := by
  intro w rb s l ns nv e0 d hfd h
  obtain ⟨i0, hi, hz0, hz1, hz2⟩ := info_parts Tryz.info76
  have H := hide h
  have hlt := h.lt
  cases hs0 : Parl.sees l [40]
  · have HO := hide (show optArgs f l = .inr ([], l) by unfold optArgs; rw [hs0]; rfl)
    go_enter Tryz.func132, Tryz.ntmps132
    go_wp2_with (go_at_call 76; refine (sees_any _ rb s l ns nv e0 _ (unhide H)).mono ?_; rintro e w1 ⟨rfl, rfl⟩; simp only [ByteArray.toList_mk])
    go_ret2
    refine (?_ : PArgs f rb s ns (optArgs f l) w1 _ _)
    rw [unhide HO]
    exact ⟨none, 0, ns, nv, e0, rfl, ⟨fun q => absurd rfl q, rfl, by simp⟩, unhide H, KA.refl _ _ _⟩
  · have HO := hide (show optArgs f l = Parl.argsOf (Parl.term f) 2 l.tail by unfold optArgs; rw [hs0]; rfl)
    have hk0 := hide (show (Parl.hd l).kind ≠ 0 by rw [Parl.sees_kind hs0]; omega)
    rw [unhide HO]
    clear HO
    go_enter Tryz.func132, Tryz.ntmps132
    go_wp2_with fail
    refine (sees_any _ rb s l ns nv e0 _ (unhide H)).mono ?_
    rintro e w1 ⟨rfl, hw⟩
    rw [hw]
    simp only [ByteArray.toList_mk]
    rw [hs0]
    clear hw w1
    go_wp2_with fail
    refine (take_any _ rb s l ns nv e0 (unhide H) (unhide hk0)).mono ?_
    rintro e w1 ⟨rfl, hs1, hk1⟩
    have HS1 := hide hs1
    have HK1 := hide hk1
    clear hs1 hk1
    go_wp2_with fail
    go_loopw [6] (fun v wr => ArgRel w rb s f l.tail ns v wr) (fun v _ => 2 - lenOf v)
    case atStart => exact ⟨[], [], l.tail, ns, nv, e0, unhide HS1, World.ownsRow_nil _ _ _ _, by simp, pre_nil _, unhide HK1, trivial, rfl⟩
    case round =>
      obtain ⟨ts, us, l1, ns1, nv1, e1, hst, hown, hts, hpre, hka, hrep⟩ := hrel
      have HREP := hide hrep
      have HST := hide hst
      have HOWN := hide hown
      have HLEN := hide (own_len hown)
      have HPRE := hide hpre
      have HKA := hide hka
      clear hst hown hpre hka hrep
      have I := hide (IH wr rb s l1 ns1 nv1 e1 d hfd (unhide HST))
      generalize hr : Parl.term f l1 = r at I
      have HR := hide hr
      clear hr
      rcases r with ⟨er, pos⟩ | ⟨t, l2⟩
      · have HF : Hid (Parl.argsOf (Parl.term f) 2 l.tail = .inl (er, pos)) := (unhide HPRE).trans (by rw [args_bad (unhide HR)]; rfl)
        go_wp2_with fail
        refine (unhide I).mono ?_
        rintro e w2 ⟨k, val, tx, ao, n, cap, l', ns', nv', rfl, hs2, hpos, hk2⟩
        have HS2 := hide hs2
        have HP := hide hpos
        have HK2 := hide ((unhide HKA).trans hk2)
        clear hs2 hpos hk2
        go_wp2_with fail
        go_ret2
        refine (?_ : PArgs f rb s ns _ w _ _)
        rw [unhide HF]
        exact ⟨l', ns', nv', none, 0, 0, rfl, (unhide HS2).below ((Below.refl _ _).alloc (Nat.le_refl _) _), unhide HP, (unhide HK2).alloc _⟩
      · go_wp2_with fail
        refine (unhide I).mono ?_
        rintro e w2 ⟨val, tx, ao, cap, ns2, nv2, e2, rfl, htx, hs2, hk2⟩
        have HREP2 := hide ((unhide HREP).next (unhide HST) hk2 (unhide HOWN) (unhide HKA).size htx)
        have HS2 := hide hs2
        have HO2 := hide (own_ka (unhide HOWN) hk2 hlt (by decide))
        have HK2 := hide ((unhide HKA).trans hk2)
        have hlt2 : w.heap.size ≤ w2.heap.size := (unhide HK2).size
        clear hs2 hk2 htx
        go_wp2_with (first | (at_builtin; refine wpList_append_own_at _ rfl (.tmp 23) (.tmp 25) 74 rfl w.heap.size 76 i0 (.agg #[.int .i64 0, .int .i64 0, .string ⟨#[]⟩, .slice none 0 0]) 4 56 Tryz.underlying74 hi hz0 hz1 hz2 rfl (by decide) _ ts.length (us.flatMap avC) rfl (((unhide HO2).alloc _).alloc _) ⟨w2.heap.size + 1, 0, none⟩ 1 1 [.int .i64 (ak t.kind), .int .i64 val, .string tx, .slice ao t.args.length cap] rfl rfl (new_four _ _ _ _ _ _ _) (four_one _ _ _ _ _ _) (by unfold maxLen; omega) (by omega) (by simp; omega) ?_; intro v' w3 hown' hgrow _ hat; have HREP3 := hide ((unhide HREP2).grown hgrow hat); clear hat; have HOWN3 := hide hown'; have R3 := hide (arg_grown (unhide HS2) (unhide HK2) (unhide HO2) hlt hgrow); obtain ⟨g', cap', hv, hcm⟩ := own_some hown'; rw [hv] at HOWN3 HREP3 ⊢; clear hown' hgrow hv))
        have HS3 := hide (unhide R3).1
        have HK3 := hide (unhide R3).2
        clear R3
        cases hc : Parl.sees l2 [44]
        · have HF := hide ((unhide HPRE).trans (by rw [args_end (unhide HR) hc]))
          refine (sees_any _ rb s l2 ns2 nv2 e2 _ (unhide HS3)).mono ?_
          rintro e w4 ⟨rfl, hw⟩
          rw [hw]
          simp only [ByteArray.toList_mk]
          rw [hc]
          clear hw w4
          go_wp2_with fail
          refine (sees_any _ rb s l2 ns2 nv2 e2 _ (unhide HS3)).mono ?_
          rintro e w4 ⟨rfl, hw⟩
          rw [hw]
          simp only [ByteArray.toList_mk]
          clear hw w4
          cases hb : Parl.sees l2 [41]
          · rw [hb] at HF
            go_wp2_with fail
            refine (takeIf_any _ rb s l2 ns2 nv2 e2 false (unhide HS3) (fun q => by cases q)).mono ?_
            rintro e w4 ⟨rfl, hs4, hk4⟩
            have HS4 := hide hs4
            have HK4 := hide ((unhide HK3).trans hk4)
            clear hs4 hk4
            go_wp2_with fail
            go_ret2
            refine (?_ : PArgs f rb s ns _ w _ _)
            rw [unhide HF]
            exact ⟨l2, ns2, nv2, _, _, _, rfl, unhide HS4, rfl, unhide HK4⟩
          · rw [hb] at HF
            have hk5 := hide (show (Parl.hd l2).kind ≠ 0 by rw [Parl.sees_kind hb]; omega)
            go_wp2_with fail
            refine (takeIf_any _ rb s l2 ns2 nv2 e2 true (unhide HS3) (fun _ => unhide hk5)).mono ?_
            rintro e w4 ⟨rfl, hs4, hk4⟩
            have HKP4 := hide (KeepA.ka (unhide HS3) hk4)
            have HO4 := hide (own_ka (unhide HOWN3) hk4 hlt (by decide))
            have HS4 := hide hs4
            have HK4 := hide ((unhide HK3).trans hk4)
            clear hs4 hk4
            go_wp2_with fail
            go_ret2
            refine (?_ : PArgs f rb s ns _ w _ _)
            rw [unhide HF]
            exact ⟨some ⟨g', 0, none⟩, cap', ns2, nv2, e2, by simp, ArgRep.done (by simpa using (unhide HREP3).keep (unhide HKP4)) (by simpa [avC] using unhide HO4) (by simp; omega), unhide HS4, unhide HK4⟩
        · have hk5 := hide (show (Parl.hd l2).kind ≠ 0 by rw [Parl.sees_kind hc]; omega)
          refine (sees_any _ rb s l2 ns2 nv2 e2 _ (unhide HS3)).mono ?_
          rintro e w4 ⟨rfl, hw⟩
          rw [hw]
          simp only [ByteArray.toList_mk]
          rw [hc]
          clear hw w4
          go_wp2_with fail
          rw [show ((ts.length : Int) + 1) = ((ts.length + 1 : Nat) : Int) by omega]
          refine (comma_any _ rb s l2 ns2 nv2 e2 (ts.length + 1) 3 (unhide HS3) (unhide hk5)).mono ?_
          by_cases hn : ts.length + 1 < 3
          · have HF := hide ((unhide HPRE).trans (by rw [show 2 - ts.length = (2 - (ts.length + 1)) + 1 by omega, args_more (unhide HR) hc]))
            rw [if_pos hn, if_pos hn, decide_eq_true hn]
            rintro e w4 ⟨rfl, hs4, hk4⟩
            have HS4 := hide hs4
            have HKP4 := hide (KeepA.ka (unhide HS3) hk4)
            have HO4 := hide (own_ka (unhide HOWN3) hk4 hlt (by decide))
            have HK4 := hide ((unhide HK3).trans hk4)
            clear hs4 hk4
            go_wp2_with fail
            go_roundw
            case rel => exact ⟨ts ++ [t], us ++ [⟨ak t.kind, val, tx, ao, t.args.length, cap⟩], l2.tail, ns2, nv2, e2, unhide HS4, by simpa [avC] using unhide HO4, by simp; omega, by simpa using unhide HF, unhide HK4, (unhide HREP3).keep (unhide HKP4)⟩
            case measure => show 2 - (ts.length + 1) < 2 - lenOf _; rw [unhide HLEN]; omega
          · have h0 : ts.length = 2 := by omega
            have HF := hide ((unhide HPRE).trans (by rw [show 2 - ts.length = 0 by omega, args_many (unhide HR) hc]))
            rw [if_neg hn, if_neg hn, decide_eq_false hn]
            rintro e w4 ⟨rfl, hs4, hk4⟩
            have HS4 := hide hs4
            have HK4 := hide ((unhide HK3).trans hk4)
            clear hs4 hk4 h0
            go_wp2_with fail
            go_ret2
            refine (?_ : PArgs f rb s ns _ w _ _)
            rw [unhide HF]
            exact ⟨l2, ns2, nv2, _, _, _, rfl, unhide HS4, rfl, unhide HK4⟩

theorem term_all : ∀ f, TermSaid f
  | 0 => term_none
  | f + 1 => term_step f (args_step f (term_all f))
end Go.Proofs.YthfjnfcekeknlaaGreatDoor
namespace Go.Proofs.YthfjnfcekeknlaaGreatDoor
open Go.RowKit

theorem blkF {w : World} {b : Nat} {cs : Array Value} {T : TypeId} (h : w.heap[b]? = some (.cells cs T (0, 0))) (i : Nat) : w.frozen? ⟨b, i, none⟩ = false := by
  simp [World.frozen?, h]
theorem blkA {w : World} {b : Nat} {cs : Array Value} {T : TypeId} (h : w.heap[b]? = some (.cells cs T (0, 0))) : ∀ i, w.cell? ⟨b, i, none⟩ = cs[i]? := fun i => by
  simp [World.cell?, h]
theorem blkX {w : World} {b : Nat} {cs : Array Value} {T : TypeId} (h : w.heap[b]? = some (.cells cs T (0, 0))) : ∀ i, w.frozen? ⟨b, i, none⟩ = false := fun i => blkF h i
theorem blk_alloc {w : World} {b : Nat} {x : Obj} (h : w.heap[b]? = some x) (o : Obj) : (w.alloc o).heap[b]? = some x := by
  rw [Below.heap_alloc _ _ _ (Array.getElem?_eq_some_iff.1 h).1]; exact h
theorem blk_ka {w w' : World} {rb b : Nat} {X : List Nat} {cs : Array Value} {T : TypeId} (hk : KA rb X w w') (h : w.heap[b]? = some (.cells cs T (0, 0))) (hb : b ∉ X) (hT : T ≠ 9 := by decide) : w'.heap[b]? = some (.cells cs T (0, 0)) :=
  (hk.block b (Array.getElem?_eq_some_iff.1 h).1 hb (Or.inr (by unfold tyAt; rw [h]; simpa using hT))).trans h
theorem blk_lt {w : World} {b : Nat} {x : Obj} (h : w.heap[b]? = some x) : b < w.heap.size := (Array.getElem?_eq_some_iff.1 h).1

/-- Only block b has turned. -/
structure OnlyB (b : Nat) (w w' : World) : Prop where
  os : w'.os = w.os
  tape : w'.tape = w.tape
  output : w'.output = w.output
  size : w'.heap.size = w.heap.size
  block : ∀ k, k ≠ b → w'.heap[k]? = w.heap[k]?
  ty : ∀ k, tyAt w' k = tyAt w k
theorem OnlyB.refl (b : Nat) (w : World) : OnlyB b w w := ⟨rfl, rfl, rfl, rfl, fun _ _ => rfl, fun _ => rfl⟩
theorem OnlyB.set {b : Nat} {a w : World} (h : OnlyB b a w) (i : Nat) (v : Value) : OnlyB b a (w.setCell ⟨b, i, none⟩ v) :=
  ⟨h.os, h.tape, h.output, by simp [World.setCell]; exact h.size, fun k hk => (Below.heap_setCell _ _ _ _ hk).trans (h.block k hk), fun k => (tyAt_setCell _ _ _ _).trans (h.ty k)⟩

theorem St.only {w w' : World} {rb : Nat} {s : ByteArray} {l : List Parl.Tok} {ns : List ByteArray} {nv : Value} {e : Int} {b : Nat} (h : St w rb s l ns nv e) (ho : OnlyB b w w') (hb : b ≠ rb) (h0 : b ≠ 0) (ht : tyAt w b ≠ some 9) : St w' rb s l ns nv e := by
  have k := ho.block
  have c : ∀ o, w'.cell? ⟨rb, o, none⟩ = w.cell? ⟨rb, o, none⟩ := fun o => World.cell?_of_block (k rb (Ne.symm hb))
  have f : ∀ o, w'.frozen? ⟨rb, o, none⟩ = w.frozen? ⟨rb, o, none⟩ := fun o => World.frozen?_of_block (k rb (Ne.symm hb))
  have z : ∀ o, w'.cell? ⟨0, o, none⟩ = w.cell? ⟨0, o, none⟩ := fun o => World.cell?_of_block (k 0 (Ne.symm h0))
  obtain ⟨⟨c0, c1, c2, c3, c4, c5, f1, f2, f3, f4, f5⟩, own, chain, isn, few, short, signs, pos, lt⟩ := h
  refine ⟨⟨(c 0).trans c0, (c 1).trans c1, (c 2).trans c2, (c 3).trans c3, (c 4).trans c4, (c 5).trans c5, (f 1).trans f1, (f 2).trans f2, (f 3).trans f3, (f 4).trans f4, (f 5).trans f5⟩, ⟨own.1, ?_⟩, chain, isn, few, short, ⟨(z 0).trans signs.s0, (z 1).trans signs.s1, (z 2).trans signs.s2, (z 3).trans signs.s3, (z 4).trans signs.s4⟩, pos, by rw [ho.size]; exact lt⟩
  rcases own.2 with q | ⟨g, cap, cur, a, b', c', d⟩
  · exact Or.inl q
  · refine Or.inr ⟨g, cap, cur, a, b', ?_, d⟩
    rw [k g (fun e => ht (by rw [← e]; unfold tyAt; rw [c']))]
    exact c'
theorem KA.onlyNew {rb b : Nat} {X : List Nat} {u w w' : World} (h : KA rb X u w) (ho : OnlyB b w w') (hb : u.heap.size ≤ b) : KA rb X u w' :=
  ⟨ho.os.trans h.os, ho.tape.trans h.tape, ho.output.trans h.output, by rw [ho.size]; exact h.size, fun k hk hX ht => (ho.block k (by omega)).trans (h.block k hk hX ht)⟩
end Go.Proofs.YthfjnfcekeknlaaGreatDoor
namespace Go.Proofs.YthfjnfcekeknlaaGreatDoor
open Go.RowKit

/-- A term's four cells. -/
abbrev TV := AV
/-- Through the box of a function that hands a term on. -/
theorem TA.box {f : Nat} {ns ns' : List ByteArray} {w W w1 : World} {val : Int} {tx : ByteArray} {ao : Option Addr} {cap : Nat} {t : Parl.Tm} (h : TA f ns ns' W w1 val tx ao cap t) (hW : w.heap.size < W.heap.size) (v0 v1 v2 v3 : Value) :
    TA f ns ns' w ((((w1.setCell ⟨w.heap.size, 0, none⟩ v0).setCell ⟨w.heap.size, 1, none⟩ v1).setCell ⟨w.heap.size, 2, none⟩ v2).setCell ⟨w.heap.size, 3, none⟩ v3) val tx ao cap t := by
  refine ⟨?_, h.nms⟩
  have r := h.rep.imp (Q := fun g => w.heap.size < g) fun g hg _ => by omega
  exact ((((r.set (fun g hg => by omega) 0 v0).set (fun g hg => by omega) 1 v1).set (fun g hg => by omega) 2 v2).set (fun g hg => by omega) 3 v3).imp fun g hg _ => by omega

def anyA : Nat → Prop := fun _ => True
/-- The right sides of an item lie there. -/
structure RightA (ns ns' : List ByteArray) (w' : World) (b c : TV) (sg op : ByteArray) (x : Parl.Itm) : Prop where
  sign : sg.toList = x.sign
  right : ∀ r, x.right = some r → RA 8 (nmsA ns') anyA w' b r
  op : op.toList = x.op
  last : ∀ z, x.last = some z → RA 8 (nmsA ns') anyA w' c z
  nms : nmsA ns' = Parl.nameO (Parl.nameO (nmsA ns) x.right) x.last
theorem KeepA.ra {w w' : World} (h : KeepA w w') {f : Nat} {N : List (List UInt8)} {P : Nat → Prop} {a : AV} {t : Parl.Tm} (q : RA f N P w a t) : RA f N anyA w' a t := q.keep fun g cs _ hc hi => ⟨h g cs hc hi, trivial⟩
theorem KeepA.refl (w : World) : KeepA w w := fun _ _ h _ => h
theorem KeepA.alloc (w : World) (o : Obj) : KeepA w (w.alloc o) := KeepA.below ((Below.refl _ _).alloc (Nat.le_refl _) o)
theorem KeepA.only {w w' : World} {b : Nat} (ho : OnlyB b w w') (ht : tyAt w b ≠ some 76) : KeepA w w' := fun g cs hc _ => (ho.block g (fun q => by subst q; exact ht (by unfold tyAt; rw [hc]))).trans hc
end Go.Proofs.YthfjnfcekeknlaaGreatDoor
namespace Parl
theorem whole_a {l : List Tok} {er ps : Nat} (h : term 8 l = .inl (er, ps)) : whole l = .inl (er, ps) := by unfold whole; rw [h]
theorem whole_b {l l1 : List Tok} {t : Tm} (h : term 8 l = .inr (t, l1)) (hk : (hd l1).kind = 0) : whole l = .inr (t, l1) := by unfold whole; rw [h]; dsimp only; rw [if_pos hk]
theorem whole_c {l l1 : List Tok} {t : Tm} (h : term 8 l = .inr (t, l1)) (hk : (hd l1).kind ≠ 0) : whole l = .inl (2, (hd l1).pos) := by unfold whole; rw [h]; dsimp only; rw [if_neg hk]; rfl
end Parl
namespace Go.Proofs.YthfjnfcekeknlaaGreatDoor
open Go.RowKit

/-- The reader as it stands first. -/
theorem st_startT {w1 : World} {s : ByteArray} {L : List Parl.Tok} (hsg : Signs w1) (h0 : 0 < w1.heap.size) (hL : Parl.Chain s L) (hh : Parl.hd L = Parl.next s 0) (hl : L.length ≤ 1000) (hs : s.size ≤ 240) :
    St (w1.alloc (.cells #[.string s, .int .i64 ((Parl.next s 0).kind : Int), .int .i64 ((Parl.next s 0).pos : Int), .string (Parl.next s 0).text, .slice none 0 0, .int .i64 0] 73)) w1.heap.size s L [] (.slice none 0 0) 0 := by
  have hb := heap_alloc_new w1 (.cells #[.string s, .int .i64 ((Parl.next s 0).kind : Int), .int .i64 ((Parl.next s 0).pos : Int), .string (Parl.next s 0).text, .slice none 0 0, .int .i64 0] 73)
  have c := blkA hb
  have f := blkX hb
  exact ⟨⟨by rw [c]; rfl, by rw [c, hh]; rfl, by rw [c, hh]; rfl, by rw [c, hh]; rfl, by rw [c]; rfl, by rw [c]; rfl, f 1, f 2, f 3, f 4, f 5⟩, World.ownsRow_nil _ _ _ _, hL, ⟨0, hh⟩, by simpa using hl, hs, hsg.below ((Below.refl _ _).alloc (Nat.le_refl _) _) h0, h0, by simp⟩

theorem own_shapeT {w : World} {b : Nat} {e : TypeId} {sz : Nat} {v : Value} {n : Nat} {xs : List Value} (h : w.ownsRow b e sz v n xs) : ∃ o cap, v = .slice o n cap := by
  rcases h.2 with ⟨q, rfl⟩ | ⟨g, cap, cur, q, _⟩
  · exact ⟨none, 0, q⟩
  · exact ⟨some ⟨g, 0, none⟩, cap, q⟩
theorem hset (w : World) (b i : Nat) (v : Value) {g : Nat} (h : g ≠ b) : (w.setCell ⟨b, i, none⟩ v).heap[g]? = w.heap[g]? := Below.heap_setCell _ _ _ _ h
theorem zset (w : World) (p : Addr) (v : Value) : (w.setCell p v).heap.size = w.heap.size := by simp [World.setCell]
theorem set6_block (w2 : World) {b : Nat} (v0 v1 v2 v3 v4 v5 : Value) {k : Nat} (h : k ≠ b) : ((((((w2.setCell ⟨b, 0, none⟩ v0).setCell ⟨b, 1, none⟩ v1).setCell ⟨b, 2, none⟩ v2).setCell ⟨b, 3, none⟩ v3).setCell ⟨b, 4, none⟩ v4).setCell ⟨b, 5, none⟩ v5).heap[k]? = w2.heap[k]? := by
  rw [hset _ _ _ _ h, hset _ _ _ _ h, hset _ _ _ _ h, hset _ _ _ _ h, hset _ _ _ _ h, hset _ _ _ _ h]
theorem set6_size (w2 : World) {b : Nat} (v0 v1 v2 v3 v4 v5 : Value) : ((((((w2.setCell ⟨b, 0, none⟩ v0).setCell ⟨b, 1, none⟩ v1).setCell ⟨b, 2, none⟩ v2).setCell ⟨b, 3, none⟩ v3).setCell ⟨b, 4, none⟩ v4).setCell ⟨b, 5, none⟩ v5).heap.size = w2.heap.size := by simp only [zset]
theorem set6_below {w w2 : World} (h : Below w.heap.size w w2) (v0 v1 v2 v3 v4 v5 : Value) : Below w.heap.size w ((((((w2.setCell ⟨w.heap.size, 0, none⟩ v0).setCell ⟨w.heap.size, 1, none⟩ v1).setCell ⟨w.heap.size, 2, none⟩ v2).setCell ⟨w.heap.size, 3, none⟩ v3).setCell ⟨w.heap.size, 4, none⟩ v4).setCell ⟨w.heap.size, 5, none⟩ v5) :=
  (((((h.setCell (p := ⟨w.heap.size, 0, none⟩) (Nat.le_refl _) _).setCell (p := ⟨w.heap.size, 1, none⟩) (Nat.le_refl _) _).setCell (p := ⟨w.heap.size, 2, none⟩) (Nat.le_refl _) _).setCell (p := ⟨w.heap.size, 3, none⟩) (Nat.le_refl _) _).setCell (p := ⟨w.heap.size, 4, none⟩) (Nat.le_refl _) _).setCell (p := ⟨w.heap.size, 5, none⟩) (Nat.le_refl _) _
theorem own_at6 {w : World} {b b0 : Nat} {T : TypeId} {sz : Nat} {v : Value} {n : Nat} {xs : List Value} (h : w.ownsRow b0 T sz v n xs) (hb : b < b0) (v0 v1 v2 v3 v4 v5 : Value) : ((((((w.setCell ⟨b, 0, none⟩ v0).setCell ⟨b, 1, none⟩ v1).setCell ⟨b, 2, none⟩ v2).setCell ⟨b, 3, none⟩ v3).setCell ⟨b, 4, none⟩ v4).setCell ⟨b, 5, none⟩ v5).ownsRow b0 T sz v n xs :=
  ⟨h.1, h.2.imp id fun ⟨g, cap, cur, a, c, d, e⟩ => ⟨g, cap, cur, a, c, (set6_block w _ _ _ _ _ _ (by omega)).trans d, e⟩⟩
theorem own_down6 {b0 b1 : Nat} {w : World} {T : TypeId} {sz : Nat} {v : Value} {n : Nat} {xs : List Value} (h : w.ownsRow b1 T sz v n xs) (hb : b0 ≤ b1) : w.ownsRow b0 T sz v n xs :=
  ⟨h.1, h.2.imp id fun ⟨g, cap, cur, a, b, c, d⟩ => ⟨g, cap, cur, a, Nat.le_trans hb b, c, d⟩⟩
/-- What 'Term' of a text is to leave. -/
def PRt (r : Parl.Res Parl.Tm) (w : World) (e : Ending) (w' : World) : Prop :=
  ∃ (a : AV) (no : Option Addr) (nl nc : Nat), e = .returned (.agg #[.int .i64 a.k, .int .i64 a.val, .string a.tx, .slice a.ao a.n a.cap, .slice no nl nc, .int .i64 (Parl.erT r : Int)]) ∧
    (match r with
      | .inl _ => True
      | .inr (t, _) => ∃ ns : List ByteArray, RA 8 (nmsA ns) anyA w' a t ∧ nmsA ns = Parl.namesF 8 [] t ∧ w'.ownsRow w.heap.size 9 1 (.slice no nl nc) ns.length (ns.map Value.string)) ∧ Below w.heap.size w w'

set_option maxHeartbeats 1000000 in
theorem rt_long (w : World) (s : ByteArray) (hs : 64 < s.size) :
    Calls Tryz.prog 52 #[.string s] w fun e w' => e = .returned (.agg #[.int .i64 0, .int .i64 0, .string ⟨#[]⟩, .slice none 0 0, .slice none 0 0, .int .i64 1]) ∧ Below w.heap.size w w' := by
  have hsz : decide (64 < (s.size : Int)) = true := by simp; omega
  go_enter Tryz.func52, Tryz.ntmps52
  go_wp2_with fail
  refine bodyPost_ret (v := .agg #[.int .i64 0, .int .i64 0, .string ⟨#[]⟩, .slice none 0 0, .slice none 0 0, .int .i64 1]) (by simp [results, Tryz.results52, go_sem]) rfl ?_
  exact ⟨rfl, (Below.refl _ _).alloc (Nat.le_refl _) _⟩

set_option maxHeartbeats 1000000 in
theorem ends_ok (w : World) (rb : Nat) (s : ByteArray) (l : List Parl.Tok) (ns : List ByteArray) (nv : Value) (e0 : Int) (h : St w rb s l ns nv e0) (hk : (Parl.hd l).kind = 0) :
    Calls Tryz.prog 41 #[.pointer (some ⟨rb, 0, none⟩)] w fun e w' => e = .returned (.bool true) ∧ w' = w := by
  have c1 := h.rd.c1
  have zr := h.lt
  rw [hk] at c1
  clear h hk
  go_enter Tryz.func41, Tryz.ntmps41
  go_wp2_with fail
  go_ret
  exact ⟨rfl, rfl⟩

set_option maxHeartbeats 1000000 in
theorem ends_no (w : World) (rb : Nat) (s : ByteArray) (l : List Parl.Tok) (ns : List ByteArray) (nv : Value) (e0 : Int) (h : St w rb s l ns nv e0) (hk : (Parl.hd l).kind ≠ 0) :
    Calls Tryz.prog 41 #[.pointer (some ⟨rb, 0, none⟩)] w fun e w' => e = .returned (.bool false) ∧ St w' rb s l ns nv 2 ∧ KA rb [rb] w w' := by
  have c1 := h.rd.c1
  have zr := h.lt
  have hq : (((Parl.hd l).kind : Int) != 0) = true := by simp; omega
  have H := hide h
  clear h hk
  generalize ((Parl.hd l).kind : Int) = gk at *
  go_enter Tryz.func41, Tryz.ntmps41
  go_wp2_with fail
  refine (refuse_any _ rb s l ns nv e0 2 (unhide H)).mono ?_
  rintro e w3 ⟨rfl, hs3, hk3⟩
  have HS3 := hide hs3
  have HK3 := hide hk3
  clear hs3 hk3
  go_wp2_with fail
  go_ret
  exact ⟨rfl, unhide HS3, unhide HK3⟩

set_option maxHeartbeats 4000000 in
set_option maxRecDepth 100000 in
theorem rt_any (w : World) (s : ByteArray) (L : List Parl.Tok) (hs : s.size ≤ 64) (hL : Parl.Chain s L) (hh : Parl.hd L = Parl.next s 0) (hl : L.length ≤ 1000) (hsg : Signs w) (h0 : 0 < w.heap.size) :
    Calls Tryz.prog 52 #[.string s] w fun e w' => PRt (Parl.whole L) w e w' := by
  have hsz : decide (64 < (s.size : Int)) = false := by simp; omega
  have HSG := hide hsg
  clear hsg
  go_enter Tryz.func52, Tryz.ntmps52
  go_wp2_with fail
  refine (next_any s 0 _ (by unfold maxLen; omega) (Nat.zero_le _) ((unhide HSG).below ((Below.refl _ _).alloc (Nat.le_refl _) _) h0) (by simp)).mono ?_
  rintro e w1 ⟨rfl, hb1⟩
  have hsg1 := ((unhide HSG).below ((Below.refl _ _).alloc (Nat.le_refl _) (.cells #[.int .i64 0, .int .i64 0, .string ⟨#[]⟩, .slice none 0 0, .slice none 0 0, .int .i64 0] 115)) h0).below hb1 (by simp)
  have hw1 : w.heap.size < w1.heap.size := by have := hb1.size; simp at this; omega
  have HS := hide (st_startT hsg1 (by omega) hL hh hl (by omega))
  have HB0 := hide (blk_alloc ((hb1.block w.heap.size (by simp)).trans (heap_alloc_new w (.cells #[.int .i64 0, .int .i64 0, .string ⟨#[]⟩, .slice none 0 0, .slice none 0 0, .int .i64 0] 115))) (.cells #[.string s, .int .i64 ((Parl.next s 0).kind : Int), .int .i64 ((Parl.next s 0).pos : Int), .string (Parl.next s 0).text, .slice none 0 0, .int .i64 0] 73))
  have HBL := hide ((((Below.refl w.heap.size w).alloc (Nat.le_refl _) (.cells #[.int .i64 0, .int .i64 0, .string ⟨#[]⟩, .slice none 0 0, .slice none 0 0, .int .i64 0] 115)).trans (hb1.mono (by simp))).alloc (by omega) (.cells #[.string s, .int .i64 ((Parl.next s 0).kind : Int), .int .i64 ((Parl.next s 0).pos : Int), .string (Parl.next s 0).text, .slice none 0 0, .int .i64 0] 73))
  clear hb1 hsg1 HSG hL hh hl
  generalize (Parl.next s 0).kind = tk at *
  generalize (Parl.next s 0).pos = tp at *
  generalize (Parl.next s 0).text = tt at *
  have hrz : (w1.alloc (.cells #[.string s, .int .i64 (tk : Int), .int .i64 (tp : Int), .string tt, .slice none 0 0, .int .i64 0] 73)).heap.size = w1.heap.size + 1 := by simp
  have I := hide (term_all 8 _ w1.heap.size s L [] (.slice none 0 0) 0 1 rfl (unhide HS))
  go_wp2_with fail
  refine (unhide I).mono ?_
  generalize hW : w1.alloc (.cells #[.string s, .int .i64 (tk : Int), .int .i64 (tp : Int), .string tt, .slice none 0 0, .int .i64 0] 73) = W at *
  generalize hrb : w1.heap.size = rb at *
  clear I hW hrb
  generalize hr : Parl.term 8 L = r
  have HR := hide hr
  clear hr
  rcases r with ⟨er, pos⟩ | ⟨t, l1⟩
  · rintro e w2 ⟨k, val, tx, ao, n, cap, l', ns', nv', rfl, hs2, -, hk2⟩
    have hz2 := hk2.size
    have b0 := blk_ka hk2 (unhide HB0) (by simp; omega)
    have y0 := blkA b0
    have x0 := blkX b0
    have z0 := blk_lt b0
    have c5 := hs2.rd.c5
    have zr := hs2.lt
    have HBL2 := hide (show Below w.heap.size w w2 from (unhide HBL).trans (hk2.below (by have := (unhide HBL).size; omega) (by omega) (by simp; omega)))
    clear hs2 hk2 b0
    go_wp2_with fail
    refine bodyPost_ret (v := .agg #[.int .i64 0, .int .i64 0, .string ⟨#[]⟩, .slice none 0 0, .slice none 0 0, .int .i64 er]) (by simp [results, Tryz.results52, go_sem, y0, z0]) rfl ?_
    rw [Parl.whole_a (unhide HR)]
    refine ⟨⟨0, 0, ⟨#[]⟩, none, 0, 0⟩, none, 0, 0, rfl, trivial, ?_⟩
    exact (set6_below (unhide HBL2) _ _ _ _ _ _).alloc (by rw [set6_size]; omega) _
  · rintro e w2 ⟨val, tx, ao, cap, ns', nv', e', rfl, hta, hs2, hk2⟩
    have hz2 := hk2.size
    have b0 := blk_ka hk2 (unhide HB0) (by simp; omega)
    have zr := hs2.lt
    have HBL2 := hide (show Below w.heap.size w w2 from (unhide HBL).trans (hk2.below (by have := (unhide HBL).size; omega) (by omega) (by simp; omega)))
    have HTA := hide hta
    have HS2 := hide hs2
    have HB02 := hide b0
    have c1 := hs2.rd.c1
    have c4 := hs2.rd.c4
    obtain ⟨oo, cp, hnv⟩ := own_shapeT hs2.own
    subst hnv
    have HOW := hide hs2.own
    clear hs2 hk2 b0 hta
    by_cases hk : (Parl.hd l1).kind = 0
    · rw [hk] at c1
      have HW := hide (Parl.whole_b (unhide HR) hk)
      have y0 := blkA (unhide HB02)
      have x0 := blkX (unhide HB02)
      have z0 := blk_lt (unhide HB02)
      go_wp2_with fail
      refine (ends_ok _ rb s l1 ns' _ e' ((unhide HS2).below ((Below.refl _ _).alloc (Nat.le_refl _) _)) hk).mono ?_
      rintro e w3 ⟨rfl, rfl⟩
      clear hk
      go_wp2_with fail
      refine bodyPost_ret (v := .agg #[.int .i64 (ak t.kind), .int .i64 val, .string tx, .slice ao t.args.length cap, .slice oo ns'.length cp, .int .i64 0]) (by simp [results, Tryz.results52, go_sem, y0, z0]) rfl ?_
      rw [unhide HW]
      refine ⟨⟨ak t.kind, val, tx, ao, t.args.length, cap⟩, oo, ns'.length, cp, rfl, ⟨ns', ?_, (unhide HTA).nms, ?_⟩, ?_⟩
      · refine (unhide HTA).rep.keep fun g cs hg hc _ => ⟨?_, trivial⟩
        have hl := blk_lt hc
        rw [Below.heap_alloc _ _ _ (by rw [set6_size]; exact hl), set6_block _ _ _ _ _ _ _ (by omega)]
        exact hc
      · have h1 := own_at6 (b := w.heap.size) (unhide HOW) (by omega) (.int .i64 (ak t.kind)) (.int .i64 val) (.string tx) (.slice ao t.args.length cap) (.slice oo ns'.length cp) (.int .i64 0)
        exact own_down6 (h1.alloc _) (by omega)
      · exact (set6_below (unhide HBL2) _ _ _ _ _ _).alloc (by rw [set6_size]; omega) _
    · have HW := hide (Parl.whole_c (unhide HR) hk)
      go_wp2_with fail
      refine (ends_no _ rb s l1 ns' _ e' ((unhide HS2).below ((Below.refl _ _).alloc (Nat.le_refl _) _)) hk).mono ?_
      clear hk
      rintro e w3 ⟨rfl, hs3, hk3⟩
      have b3 := blk_ka hk3 (blk_alloc (unhide HB02) _) (by simp; omega)
      have y0 := blkA b3
      have x0 := blkX b3
      have z0 := blk_lt b3
      have c5 := hs3.rd.c5
      have zr3 := hs3.lt
      have HBL3 := hide (show Below w.heap.size w w3 from ((unhide HBL2).alloc (unhide HBL2).size _).trans (hk3.below (by have := (unhide HBL2).size; simp; omega) (by omega) (by simp; omega)))
      clear hs3 hk3 b3 c1 c4
      go_wp2_with fail
      refine bodyPost_ret (v := .agg #[.int .i64 0, .int .i64 0, .string ⟨#[]⟩, .slice none 0 0, .slice none 0 0, .int .i64 2]) (by simp [results, Tryz.results52, go_sem, y0]) rfl ?_
      rw [unhide HW]
      exact ⟨⟨0, 0, ⟨#[]⟩, none, 0, 0⟩, none, 0, 0, rfl, trivial, set6_below (unhide HBL3) _ _ _ _ _ _⟩
end Go.Proofs.YthfjnfcekeknlaaGreatDoor
namespace Go.Proofs.YthfjnfcekeknlaaGreatDoor
open Go.RowKit

theorem flat_at {α : Type} {F : α → List Value} {c : Nat} (hF : ∀ a, (F a).length = c) : ∀ {us : List α} {i : Nat} (h : i < us.length) (j : Nat), j < c → (us.flatMap F)[i * c + j]? = (F us[i])[j]?
  | t :: r, 0, _, j, hj => by rw [List.flatMap_cons, List.getElem?_append_left (by rw [hF]; omega)]; simp
  | t :: r, i + 1, h, j, hj => by
    rw [List.flatMap_cons, List.getElem?_append_right (by rw [hF, Nat.add_mul]; omega), hF]
    rw [show (i + 1) * c + j - c = i * c + j by rw [Nat.add_mul]; omega]
    simpa using flat_at hF (by simpa using h) j hj
/-- A node. -/
structure Nd where
  k : Int
  val : Int
  tx : ByteArray
  cnt : Nat
  ao : Option Addr
  cap : Nat
  args : List Nat
def ndC (p : Nd × Nat) : List Value := [.int .i64 p.1.k, .int .i64 p.1.val, .string p.1.tx, .int .i64 (p.1.cnt : Int), .slice p.1.ao p.1.args.length p.1.cap, .int .i64 (p.2 : Int), .int .i64 0]
def ndsC (D : List Nd) : List Value := D.zipIdx.flatMap ndC
theorem ndsC_more (D : List Nd) (d : Nd) : ndsC (D ++ [d]) = ndsC D ++ ndC (d, D.length) := by
  unfold ndsC
  rw [List.zipIdx_append, List.flatMap_append]
  simp
def intV (n : Nat) : Value := .int .i64 (n : Int)
/-- The rows that grow. -/
def rowsA (sb cb : Nat) (no vo : Option Addr) (k : Nat) : Prop := k = sb ∨ k = cb ∨ (∃ p, no = some p ∧ k = p.block) ∨ (∃ p, vo = some p ∧ k = p.block)
/-- The arguments of the nodes lie there. -/
def ArgsN (w : World) (D : List Nd) (R : Nat → Prop) : Prop := ∀ d ∈ D, d.args ≠ [] → ∃ (g : Nat) (cs : Array Value), d.ao = some ⟨g, 0, none⟩ ∧ ¬ R g ∧ w.heap[g]? = some (.cells cs 3 (0, 0)) ∧ cs.toList.take d.args.length = d.args.map intV
/-- The store and the scope lie there. -/
structure SoB (w : World) (sb cb : Nat) (D : List Nd) (V : List Nat) (no : Option Addr) (nc : Nat) (vo : Option Addr) (vc : Nat) : Prop where
  sblk : w.heap[sb]? = some (.cells #[.slice no D.length nc] 88 (0, 0))
  cblk : w.heap[cb]? = some (.cells #[.slice vo V.length vc] 93 (0, 0))
  sown : w.ownsRow (cb + 1) 180 7 (.slice no D.length nc) D.length (ndsC D)
  cown : w.ownsRow (cb + 1) 3 1 (.slice vo V.length vc) V.length (V.map intV)
  lt : sb < cb
  args : ArgsN w D (rowsA sb cb no vo)
def SoA (w : World) (sb cb : Nat) (D : List Nd) (V : List Nat) (R : Nat → Prop) : Prop := ∃ no nc vo vc, SoB w sb cb D V no nc vo vc ∧ R = rowsA sb cb no vo
theorem SoB.below {w w' : World} {sb cb : Nat} {D : List Nd} {V : List Nat} {no : Option Addr} {nc : Nat} {vo : Option Addr} {vc : Nat} (h : SoB w sb cb D V no nc vo vc) (hb : Below w.heap.size w w') : SoB w' sb cb D V no nc vo vc :=
  ⟨(hb.block sb (blk_lt h.sblk)).trans h.sblk, (hb.block cb (blk_lt h.cblk)).trans h.cblk, own_keepG h.sown (fun g q => hb.block g (h.sown.lt g q).2), own_keepG h.cown (fun g q => hb.block g (h.cown.lt g q).2), h.lt, fun d hd q => by
    obtain ⟨g, cs, h1, h2, h3, h4⟩ := h.args d hd q
    exact ⟨g, cs, h1, h2, (hb.block g (blk_lt h3)).trans h3, h4⟩⟩
theorem SoA.below {w w' : World} {sb cb : Nat} {D : List Nd} {V : List Nat} {R : Nat → Prop} (h : SoA w sb cb D V R) (hb : Below w.heap.size w w') : SoA w' sb cb D V R := by
  obtain ⟨no, nc, vo, vc, h, rfl⟩ := h
  exact ⟨no, nc, vo, vc, h.below hb, rfl⟩
theorem SoB.rows {w : World} {sb cb : Nat} {D : List Nd} {V : List Nat} {no : Option Addr} {nc : Nat} {vo : Option Addr} {vc : Nat} (h : SoB w sb cb D V no nc vo vc) : ∀ k, rowsA sb cb no vo k → sb ≤ k ∧ k < w.heap.size := by
  have h1 := blk_lt h.sblk
  have h2 := blk_lt h.cblk
  have h3 := h.lt
  rintro k (rfl | rfl | ⟨p, rfl, rfl⟩ | ⟨p, rfl, rfl⟩)
  · omega
  · omega
  · have := h.sown.lt p.block rfl; omega
  · have := h.cown.lt p.block rfl; omega
/-- The two rows are of two kinds. -/
theorem SoB.apart {w : World} {sb cb : Nat} {D : List Nd} {V : List Nat} {no : Option Addr} {nc : Nat} {vo : Option Addr} {vc : Nat} (h : SoB w sb cb D V no nc vo vc) : ∀ p q, no = some p → vo = some q → p.block ≠ q.block := by
  rintro p q rfl rfl e
  rcases h.sown.2 with ⟨c, _⟩ | ⟨g, cp, cur, c, _, hc, _⟩
  · cases c
  · rcases h.cown.2 with ⟨d, _⟩ | ⟨g', cp', cur', d, _, hd, _⟩
    · cases d
    · simp only [Value.slice.injEq, Option.some.injEq] at c d
      obtain ⟨rfl, _⟩ := c
      obtain ⟨rfl, _⟩ := d
      dsimp only at e
      subst e
      rw [hc] at hd
      simp at hd
/-- A node more. -/
theorem SoB.node {w W w1 : World} {sb cb : Nat} {D : List Nd} {V : List Nat} {no : Option Addr} {nc : Nat} {vo : Option Addr} {vc : Nat} (h : SoB w sb cb D V no nc vo vc) (hW : Below w.heap.size w W) {g cap' : Nat} {d : Nd}
    (hown : w1.ownsRow (cb + 1) 180 7 (.slice (some ⟨g, 0, none⟩) (D.length + 1) cap') (D.length + 1) (ndsC D ++ ndC (d, D.length))) (hg : W.grownBy w1 (Value.slice no D.length nc).ownBlock) (hat : (Value.slice no D.length nc).ownBlock = some g ∨ w.heap.size ≤ g)
    (hd : d.args ≠ [] → ∃ (q : Nat) (cs : Array Value), d.ao = some ⟨q, 0, none⟩ ∧ ¬ rowsA sb cb no vo q ∧ q < w.heap.size ∧ w.heap[q]? = some (.cells cs 3 (0, 0)) ∧ cs.toList.take d.args.length = d.args.map intV) :
    SoB (w1.setCell ⟨sb, 0, none⟩ (.slice (some ⟨g, 0, none⟩) (D.length + 1) cap')) sb cb (D ++ [d]) V (some ⟨g, 0, none⟩) cap' vo vc ∧ FrG (rowsA sb cb no vo) (rowsA sb cb (some ⟨g, 0, none⟩) vo) w (w1.setCell ⟨sb, 0, none⟩ (.slice (some ⟨g, 0, none⟩) (D.length + 1) cap')) := by
  have hz := hW.size
  have hlt := h.lt
  have s0 := blk_lt h.sblk
  have c0 := blk_lt h.cblk
  have keep : ∀ k, k < w.heap.size → k ≠ sb → (∀ p, no = some p → k ≠ p.block) → (w1.setCell ⟨sb, 0, none⟩ (.slice (some ⟨g, 0, none⟩) (D.length + 1) cap')).heap[k]? = w.heap[k]? := fun k h1 h2 h3 => by
    rw [hset _ _ _ _ h2, hg.block k (by omega) (own_free h3), hW.block k h1]
  have nos : ∀ k, k ≤ cb → ∀ p, no = some p → k ≠ p.block := fun k hk p q e => by
    have := h.sown.lt p.block (by rw [q]; rfl)
    omega
  have row : ∀ k, rowsA sb cb (some ⟨g, 0, none⟩) vo k → rowsA sb cb no vo k ∨ w.heap.size ≤ k := by
    rintro k (e | e | ⟨p, q, e⟩ | e)
    · exact Or.inl (Or.inl e)
    · exact Or.inl (Or.inr (Or.inl e))
    · cases q
      dsimp only at e
      rcases hat with a | a
      · left
        right
        right
        left
        cases no with
        | none => simp [Value.ownBlock] at a
        | some s => simp [Value.ownBlock] at a; exact ⟨s, rfl, by omega⟩
      · right; omega
    · exact Or.inl (Or.inr (Or.inr (Or.inr e)))
  have out : ∀ k, k < w.heap.size → ¬ rowsA sb cb no vo k → ¬ rowsA sb cb (some ⟨g, 0, none⟩) vo k := fun k hk hr q => by
    rcases row k q with e | e
    · exact hr e
    · omega
  have keepR : ∀ k, k < w.heap.size → ¬ rowsA sb cb no vo k → (w1.setCell ⟨sb, 0, none⟩ (.slice (some ⟨g, 0, none⟩) (D.length + 1) cap')).heap[k]? = w.heap[k]? := fun k hk hr => keep k hk (fun e => hr (Or.inl e)) (fun p q e => hr (Or.inr (Or.inr (Or.inl ⟨p, q, e⟩))))
  refine ⟨⟨?_, ?_, ?_, ?_, hlt, ?_⟩, ⟨hg.os.trans hW.os, hg.tape.trans hW.tape, hg.output.trans hW.output, by rw [zset]; have := hg.size; omega, keepR, row⟩⟩
  · have q0 : w1.heap[sb]? = some (.cells #[.slice no D.length nc] 88 (0, 0)) := by
      rw [hg.block sb (by omega) (own_free (nos sb (by omega))), hW.block sb s0]
      exact h.sblk
    have := blk_set q0 0 (.slice (some ⟨g, 0, none⟩) (D.length + 1) cap')
    simpa using this
  · exact (keep cb c0 (by omega) (nos cb (Nat.le_refl _))).trans h.cblk
  · have := own_keepG hown (w' := w1.setCell ⟨sb, 0, none⟩ (.slice (some ⟨g, 0, none⟩) (D.length + 1) cap')) (fun k q => hset _ _ _ _ (by have := (hown.lt k q).1; omega))
    rw [ndsC_more]
    simpa using this
  · refine own_keepG h.cown (fun k q => keep k (h.cown.lt k q).2 (by have := (h.cown.lt k q).1; omega) (fun p e r => ?_))
    cases vo with
    | none => simp [Value.ownBlock] at q
    | some s => simp [Value.ownBlock] at q; exact h.apart p s e rfl (by omega)
  · intro d' hd' hne
    rcases List.mem_append.1 hd' with q | q
    · obtain ⟨r, cs, h1, h2, h3, h4⟩ := h.args d' q hne
      exact ⟨r, cs, h1, out r (blk_lt h3) h2, (keepR r (blk_lt h3) h2).trans h3, h4⟩
    · obtain rfl : d' = d := by simpa using q
      obtain ⟨r, cs, h1, h2, h3, h4, h5⟩ := hd hne
      exact ⟨r, cs, h1, out r h3 h2, (keepR r h3 h2).trans h4, h5⟩
/-- A variable more. -/
theorem SoB.vari {w W w1 : World} {sb cb : Nat} {D : List Nd} {V : List Nat} {no : Option Addr} {nc : Nat} {vo : Option Addr} {vc : Nat} (h : SoB w sb cb D V no nc vo vc) (hW : Below w.heap.size w W) {g cap' n : Nat}
    (hown : w1.ownsRow (cb + 1) 3 1 (.slice (some ⟨g, 0, none⟩) (V.length + 1) cap') (V.length + 1) (V.map intV ++ [intV n])) (hg : W.grownBy w1 (Value.slice vo V.length vc).ownBlock) (hat : (Value.slice vo V.length vc).ownBlock = some g ∨ w.heap.size ≤ g) :
    SoB (w1.setCell ⟨cb, 0, none⟩ (.slice (some ⟨g, 0, none⟩) (V.length + 1) cap')) sb cb D (V ++ [n]) no nc (some ⟨g, 0, none⟩) cap' ∧ FrG (rowsA sb cb no vo) (rowsA sb cb no (some ⟨g, 0, none⟩)) w (w1.setCell ⟨cb, 0, none⟩ (.slice (some ⟨g, 0, none⟩) (V.length + 1) cap')) := by
  have hz := hW.size
  have hlt := h.lt
  have s0 := blk_lt h.sblk
  have c0 := blk_lt h.cblk
  have keep : ∀ k, k < w.heap.size → k ≠ cb → (∀ p, vo = some p → k ≠ p.block) → (w1.setCell ⟨cb, 0, none⟩ (.slice (some ⟨g, 0, none⟩) (V.length + 1) cap')).heap[k]? = w.heap[k]? := fun k h1 h2 h3 => by
    rw [hset _ _ _ _ h2, hg.block k (by omega) (own_free h3), hW.block k h1]
  have nos : ∀ k, k ≤ cb → ∀ p, vo = some p → k ≠ p.block := fun k hk p q e => by
    have := h.cown.lt p.block (by rw [q]; rfl)
    omega
  have row : ∀ k, rowsA sb cb no (some ⟨g, 0, none⟩) k → rowsA sb cb no vo k ∨ w.heap.size ≤ k := by
    rintro k (e | e | e | ⟨p, q, e⟩)
    · exact Or.inl (Or.inl e)
    · exact Or.inl (Or.inr (Or.inl e))
    · exact Or.inl (Or.inr (Or.inr (Or.inl e)))
    · cases q
      dsimp only at e
      rcases hat with a | a
      · left
        right
        right
        right
        cases vo with
        | none => simp [Value.ownBlock] at a
        | some s => simp [Value.ownBlock] at a; exact ⟨s, rfl, by omega⟩
      · right; omega
  have out : ∀ k, k < w.heap.size → ¬ rowsA sb cb no vo k → ¬ rowsA sb cb no (some ⟨g, 0, none⟩) k := fun k hk hr q => by
    rcases row k q with e | e
    · exact hr e
    · omega
  have keepR : ∀ k, k < w.heap.size → ¬ rowsA sb cb no vo k → (w1.setCell ⟨cb, 0, none⟩ (.slice (some ⟨g, 0, none⟩) (V.length + 1) cap')).heap[k]? = w.heap[k]? := fun k hk hr => keep k hk (fun e => hr (Or.inr (Or.inl e))) (fun p q e => hr (Or.inr (Or.inr (Or.inr ⟨p, q, e⟩))))
  refine ⟨⟨?_, ?_, ?_, ?_, hlt, ?_⟩, ⟨hg.os.trans hW.os, hg.tape.trans hW.tape, hg.output.trans hW.output, by rw [zset]; have := hg.size; omega, keepR, row⟩⟩
  · exact (keep sb s0 (by omega) (nos sb (by omega))).trans h.sblk
  · have q0 : w1.heap[cb]? = some (.cells #[.slice vo V.length vc] 93 (0, 0)) := by
      rw [hg.block cb (by omega) (own_free (nos cb (Nat.le_refl _))), hW.block cb c0]
      exact h.cblk
    have := blk_set q0 0 (.slice (some ⟨g, 0, none⟩) (V.length + 1) cap')
    simpa using this
  · refine own_keepG h.sown (fun k q => keep k (h.sown.lt k q).2 (by have := (h.sown.lt k q).1; omega) (fun p e r => ?_))
    cases no with
    | none => simp [Value.ownBlock] at q
    | some s => simp [Value.ownBlock] at q; exact h.apart s p rfl e (by omega)
  · have := own_keepG hown (w' := w1.setCell ⟨cb, 0, none⟩ (.slice (some ⟨g, 0, none⟩) (V.length + 1) cap')) (fun k q => hset _ _ _ _ (by have := (hown.lt k q).1; omega))
    simpa using this
  · intro d' hd' hne
    obtain ⟨r, cs, h1, h2, h3, h4⟩ := h.args d' hd' hne
    exact ⟨r, cs, h1, out r (blk_lt h3) h2, (keepR r (blk_lt h3) h2).trans h3, h4⟩
end Go.Proofs.YthfjnfcekeknlaaGreatDoor
namespace Parl
/-- The error of one text as a term. -/
def erS (s : ByteArray) (l : List Tok) : Nat := if 64 < s.size then 1 else erT (whole l)
def fe (a b : Nat) : Nat := if a = 0 ∨ b = 1 then b else a
theorem whole_err2 {l : List Tok} {er ps : Nat} (h : whole l = .inl (er, ps)) : er = 2 ∨ er = 3 := by
  unfold whole at h
  rcases hq : term 8 l with e | ⟨t, l1⟩
  · rw [hq] at h
    cases h
    exact term_err 8 l _ hq
  · rw [hq] at h
    dsimp only at h
    split at h
    · cases h
    · cases h; omega
theorem erT_is (l : List Tok) : erT (whole l) = 0 ∨ erT (whole l) = 2 ∨ erT (whole l) = 3 := by
  rcases hq : whole l with ⟨e, p⟩ | x
  · right
    exact whole_err2 hq
  · left; rfl
theorem fe_both (a b : ByteArray) (la lb : List Tok) : fe (erS a la) (erS b lb) = bothE a b la lb := by
  have ha := erT_is la
  have hb := erT_is lb
  unfold fe erS bothE
  by_cases h1 : 64 < a.size
  · rw [if_pos h1, if_pos (Or.inl h1)]
    by_cases h2 : 64 < b.size
    · rw [if_pos h2]; simp
    · rw [if_neg h2, if_neg (by omega)]
  · rw [if_neg h1]
    by_cases h2 : 64 < b.size
    · rw [if_pos h2, if_pos (Or.inr rfl), if_pos (Or.inr h2)]
    · rw [if_neg h2, if_neg (show ¬ (64 < a.size ∨ 64 < b.size) by omega)]
      rcases hq : whole la with ⟨e, p⟩ | x
      · rw [hq] at ha
        have := whole_err2 hq
        show (if e = 0 ∨ erT (whole lb) = 1 then erT (whole lb) else e) = e
        rw [if_neg (by omega)]
      · show (if (0 : Nat) = 0 ∨ erT (whole lb) = 1 then erT (whole lb) else 0) = erT (whole lb)
        rw [if_pos (Or.inl rfl)]
end Parl
namespace Go.Proofs.YthfjnfcekeknlaaGreatDoor
open Go.RowKit

set_option maxHeartbeats 1000000 in
theorem firstError_any (w : World) (a b : Nat) :
    Calls Tryz.prog 53 #[.int .i64 (a : Int), .int .i64 (b : Int)] w fun e w' => e = .returned (.int .i64 (Parl.fe a b : Int)) ∧ w' = w := by
  by_cases h1 : a = 0
  · subst h1
    go_enter Tryz.func53, Tryz.ntmps53
    go_wp2_with fail
    go_ret
    exact ⟨by simp [Parl.fe], rfl⟩
  · have t1 : ((a : Int) == 0) = false := by simpa using h1
    by_cases h2 : b = 1
    · subst h2
      have HS := hide (show Parl.fe a 1 = 1 by simp [Parl.fe])
      clear h1
      go_enter Tryz.func53, Tryz.ntmps53
      go_wp2_with fail
      go_ret
      exact ⟨by rw [unhide HS]; rfl, rfl⟩
    · have t2 : ((b : Int) == 1) = false := by simp; omega
      have HS := hide (show Parl.fe a b = a by unfold Parl.fe; rw [if_neg (by omega)])
      clear h1 h2
      go_enter Tryz.func53, Tryz.ntmps53
      go_wp2_with fail
      go_ret
      exact ⟨by rw [unhide HS]; rfl, rfl⟩
/-- What read.Term answers, of any text. -/
def PRd (s : ByteArray) (L : List Parl.Tok) (w : World) (e : Ending) (w' : World) : Prop :=
  ∃ (a : AV) (no : Option Addr) (nl nc : Nat), e = .returned (.agg #[.int .i64 a.k, .int .i64 a.val, .string a.tx, .slice a.ao a.n a.cap, .slice no nl nc, .int .i64 (Parl.erS s L : Int)]) ∧
    (∀ t l1, s.size ≤ 64 → Parl.whole L = .inr (t, l1) → ∃ ns : List ByteArray, RA 8 (nmsA ns) anyA w' a t ∧ nmsA ns = Parl.namesF 8 [] t ∧ w'.ownsRow w.heap.size 9 1 (.slice no nl nc) ns.length (ns.map Value.string)) ∧ Below w.heap.size w w'
theorem rd_any (w : World) (s : ByteArray) (L : List Parl.Tok) (hL : Parl.Chain s L) (hh : Parl.hd L = Parl.next s 0) (hl : s.size ≤ 64 → L.length ≤ 1000) (hsg : Signs w) (h0 : 0 < w.heap.size) :
    Calls Tryz.prog 52 #[.string s] w fun e w' => PRd s L w e w' := by
  by_cases hs : 64 < s.size
  · refine (rt_long w s hs).mono ?_
    rintro e w' ⟨rfl, hb⟩
    exact ⟨⟨0, 0, ⟨#[]⟩, none, 0, 0⟩, none, 0, 0, by unfold Parl.erS; rw [if_pos hs]; rfl, fun _ _ h => absurd h (by omega), hb⟩
  · refine (rt_any w s L (by omega) hL hh (hl (by omega)) hsg h0).mono ?_
    rintro e w' ⟨a, no, nl, nc, rfl, hr, hb⟩
    refine ⟨a, no, nl, nc, by unfold Parl.erS; rw [if_neg hs], fun t l1 _ h => ?_, hb⟩
    rw [h] at hr
    exact hr

end Go.Proofs.YthfjnfcekeknlaaGreatDoor
