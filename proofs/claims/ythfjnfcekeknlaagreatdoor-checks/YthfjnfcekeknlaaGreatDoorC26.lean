import Derived.Test.YthfjnfcekeknlaaGreatDoorC25
import Derived.Maps.AppendAt
namespace Go.Proofs.YthfjnfcekeknlaaGreatDoor
open Go.RowKit

set_option maxHeartbeats 1000000 in
/-- A term that may not begin. -/
theorem term_no (w : World) (rb : Nat) (s : ByteArray) (l : List Parl.Tok) (ns : List ByteArray) (nv : Value) (e0 : Int) (f d : Nat) (h : St w rb s l ns nv e0) (hm : mayB d (Parl.hd l) ≠ 0) :
    Calls Tryz.prog 75 #[.pointer (some ⟨rb, 0, none⟩), .int .i64 (d : Int)] w fun e w' => PTerm f rb s ns (Parl.bad (mayB d (Parl.hd l)) l) w e w' := by
  have hb2 : Below w.heap.size w ((w.alloc boxR).alloc (boxT (Parl.hd l))) := ((Below.refl _ _).alloc (Nat.le_refl _) _).alloc (by simp) _
  have H2 := hide (h.below hb2)
  have hlt := h.lt
  unfold boxR boxT at H2
  obtain ⟨⟨c0, c1, c2, c3, c4, c5, f1, f2, f3, f4, f5⟩, own, chain, isn, few, short, signs, pos, lt⟩ := h
  clear own chain isn few short signs hb2
  have hmf : (mayB d (Parl.hd l) == 0) = false := by simpa using hm
  go_enter Tryz.func75, Tryz.ntmps75
  go_wp2_with (go_at_call 129; refine (mayBegin_any _ rb s l ns nv e0 d (unhide H2)).mono ?_; rintro e w1 ⟨rfl, hs, hk⟩; rw [if_neg hm] at hs; obtain ⟨r0, r1, r2, r3, x0, x1, x2, x3, t0, t2⟩ := boxes hlt hk; have HS := hide hs; have HK := hide hk; clear hs hk)
  have R := box_end (unhide HK) (unhide HS) hlt (.int .i64 0) (.int .i64 0) (.string ⟨#[]⟩) (.slice none 0 0)
  refine bodyPost_ret (v := .tuple #[.agg #[.int .i64 0, .int .i64 0, .string ⟨#[]⟩, .slice none 0 0], .bool false]) (by simp [results, Tryz.results75, go_sem, r0, r1, r2, r3]) rfl ?_
  exact ⟨_, _, _, _, _, _, l, ns, nv, rfl, R.1, rfl, R.2⟩

theorem St.tsize {w : World} {rb : Nat} {s : ByteArray} {l : List Parl.Tok} {ns : List ByteArray} {nv : Value} {e : Int} (h : St w rb s l ns nv e) : (Parl.hd l).text.size ≤ 240 := by obtain ⟨p, e⟩ := h.isNext; have h1 := h.short; have h2 := @Parl.next_fits s p; rw [e]; omega
theorem mayB_six {d : Nat} {t : Parl.Tok} (h : mayB d t = 0) (hk : t.kind = 4) : t.text.size ≤ 6 := by
  unfold mayB at h
  split at h
  · split at h
    · cases h
    · omega
  · cases h
theorem ta_var {f : Nat} {ns ns' : List ByteArray} {w w' : World} {x : ByteArray} {i : Int} (hz : x.size ≤ 240) (hn : nmsA ns' = Parl.addN (nmsA ns) x.toList) (hi : i = ((nmsA ns).idxOf x.toList : Int)) : TA (f + 1) ns ns' w w' i ⟨#[]⟩ none 0 ⟨3, x, []⟩ := by
  have hm : x.toList ∈ Parl.addN (nmsA ns) x.toList := by
    unfold Parl.addN
    split
    · assumption
    · simp
  have hx := Parl.addN_idx (nmsA ns) [] x.toList
  rw [List.append_nil] at hx
  exact ⟨RA.one ⟨rfl, rfl, fun _ => ⟨by rw [hn]; exact hm, by rw [hi, hn]; show _ = ((List.idxOf x.toList _ : Nat) : Int); rw [hx]⟩, (fun q => by cases q), (fun q => by cases q), by simp, hz, by simp⟩ rfl, by rw [hn]; simp [Parl.namesF]⟩
theorem ta_num {f : Nat} {ns : List ByteArray} {w w' : World} {x : ByteArray} {i : Int} (hz : x.size ≤ 240) (h6 : x.size ≤ 6) (hi : i = (Parl.numOf x : Int)) : TA (f + 1) ns ns w w' i ⟨#[]⟩ none 0 ⟨4, x, []⟩ :=
  ⟨RA.one ⟨rfl, rfl, (fun q => by cases q), fun _ => ⟨hi, h6, rfl⟩, (fun q => by cases q), by simp, hz, by simp⟩ rfl, by simp [Parl.namesF]⟩
/-- The arguments, seen from ahead of the boxes. -/
def AA1 (f b : Nat) (ns ns' : List ByteArray) (w' : World) (ao : Option Addr) (ts : List Parl.Tm) : Prop :=
  (ts ≠ [] → ∃ (g : Nat) (us : List AV) (cs : Array Value), ao = some ⟨g, 0, none⟩ ∧ b < g ∧ w'.heap[g]? = some (.cells cs 76 (0, 0)) ∧ cs.toList.take (us.length * 4) = us.flatMap avC ∧ All2 (RA f (nmsA ns') (fun g => b < g) w') us ts) ∧ nmsA ns' = ts.foldl (Parl.namesF f) (nmsA ns) ∧ ts.length ≤ 3
theorem AA.up {f : Nat} {ns ns' : List ByteArray} {w0 w w' : World} {o1 o2 : Obj} {ao : Option Addr} {ts : List Parl.Tm} (h : AA f ns ns' w w' ao ts) (hz : ((w0.alloc o1).alloc o2).heap.size ≤ w.heap.size) : AA1 f w0.heap.size ns ns' w' ao ts := by
  have hz' : w0.heap.size + 2 ≤ w.heap.size := by simpa using hz
  refine ⟨fun q => ?_, h.nms, h.few⟩
  obtain ⟨g, us, cs, h1, h2, h3, h4, h5⟩ := h.rows q
  exact ⟨g, us, cs, h1, by omega, h3, h4, h5.imp fun _ _ r => r.imp fun g hg _ => by omega⟩
theorem ta_name {f : Nat} {ns ns' : List ByteArray} {w w3 : World} {x : ByteArray} {ao : Option Addr} {cap : Nat} {ts : List Parl.Tm} {v0 v1 v2 v3 : Value} (hz : x.size ≤ 240) (h : AA1 f w.heap.size ns ns' w3 ao ts) :
    TA (f + 1) ns ns' w ((((w3.setCell ⟨w.heap.size, 0, none⟩ v0).setCell ⟨w.heap.size, 1, none⟩ v1).setCell ⟨w.heap.size, 2, none⟩ v2).setCell ⟨w.heap.size, 3, none⟩ v3) 0 x ao cap ⟨2, x, ts⟩ := by
  obtain ⟨h1, h2, h3⟩ := h
  refine ⟨⟨⟨rfl, rfl, (fun q => by cases q), (fun q => by cases q), fun _ => rfl, by simp, hz, h3⟩, fun q => ?_⟩, by rw [h2]; simp [Parl.namesF]⟩
  obtain ⟨g, us, cs, e1, e2, e3, e4, e5⟩ := h1 q
  have k : ∀ (u : World) (o : Nat) (v : Value), (u.setCell ⟨w.heap.size, o, none⟩ v).heap[g]? = u.heap[g]? := fun u o v => Below.heap_setCell _ _ _ _ (by show g ≠ w.heap.size; omega)
  refine ⟨g, us, cs, e1, by omega, by rw [k, k, k, k]; exact e3, e4, e5.imp fun _ _ r => ?_⟩
  exact ((((r.set (fun g hg => by omega) 0 v0).set (fun g hg => by omega) 1 v1).set (fun g hg => by omega) 2 v2).set (fun g hg => by omega) 3 v3).imp fun g hg _ => by omega

/-- The reader behind a token that has been taken, the boxes laid. -/
theorem few_tail {w : World} {rb : Nat} {s : ByteArray} {l : List Parl.Tok} {ns : List ByteArray} {nv : Value} {e : Int} (h : St w rb s l ns nv e) : ns.length + l.tail.length < 1000 := by
  have := h.few
  rcases l with _ | ⟨a, r⟩
  · exact absurd h.chain (by simp [Parl.Chain])
  · simp at this ⊢; omega

set_option maxHeartbeats 1000000 in
/-- A variable. -/
theorem term_var (w : World) (rb : Nat) (s : ByteArray) (l : List Parl.Tok) (ns : List ByteArray) (nv : Value) (e0 : Int) (d f : Nat) (h : St w rb s l ns nv e0) (hm : mayB d (Parl.hd l) = 0) (hk3 : (Parl.hd l).kind = 3) :
    Calls Tryz.prog 75 #[.pointer (some ⟨rb, 0, none⟩), .int .i64 (d : Int)] w fun e w' => PTerm (f + 1) rb s ns (Parl.term (f + 1) l) w e w' := by
  rw [term_leaf hm (Or.inl hk3), hk3]
  have hb2 : Below w.heap.size w ((w.alloc boxR).alloc (boxT (Parl.hd l))) := ((Below.refl _ _).alloc (Nat.le_refl _) _).alloc (by simp) _
  have H2 := hide (h.below hb2)
  have hfew := few_tail h
  have hlt := h.lt
  have hz := h.tsize
  have hk0 := hide (show (Parl.hd l).kind ≠ 0 by omega)
  unfold boxR boxT at H2
  obtain ⟨⟨c0, c1, c2, c3, c4, c5, f1, f2, f3, f4, f5⟩, own, chain, isn, few, short, signs, pos, lt⟩ := h
  clear own chain isn few short signs hb2
  have hmf : (mayB d (Parl.hd l) == 0) = true := by simpa using hm
  have HK3 := hide hk3
  clear hk3
  go_enter Tryz.func75, Tryz.ntmps75
  go_wp2_with fail
  refine (mayBegin_any _ rb s l ns nv e0 d (unhide H2)).mono ?_
  rintro e w1 ⟨rfl, hs, hk⟩
  rw [if_pos hm] at hs
  have HS := hide hs
  have HK := hide hk
  clear hs hk
  go_wp2_with fail
  refine (take_any _ rb s l ns nv e0 (unhide HS) (unhide hk0)).mono ?_
  rintro e w2 ⟨rfl, hs, hk⟩
  have HS2 := hide hs
  have HK2 := hide ((unhide HK).trans hk)
  clear hs hk HS HK
  obtain ⟨r0, r1, r2, r3, x0, x1, x2, x3, t0, t2⟩ := boxes hlt (unhide HK2)
  rw [unhide HK3] at t0
  go_wp2_with fail
  refine (variable_any _ rb s l.tail ns nv e0 _ (unhide HS2) hfew).mono ?_
  rintro e w3 ⟨ns', nv', rfl, hnm, hs, hk⟩
  have HNM := hide hnm
  generalize hii : (((nmsA ns).idxOf (Parl.hd l).text.toList : Nat) : Int) = i
  have HII := hide hii
  clear hnm hii
  have HS3 := hide hs
  have HK3 := hide ((unhide HK2).trans hk)
  clear hs hk HS2 HK2 r0 r1 r2 r3 x0 x1 x2 x3 t0 t2
  obtain ⟨r0, r1, r2, r3, x0, x1, x2, x3, t0, t2⟩ := boxes hlt (unhide HK3)
  go_wp2_with fail
  have R := box_end (unhide HK3) (unhide HS3) hlt (.int .i64 1) (.int .i64 i) (.string ⟨#[]⟩) (.slice none 0 0)
  refine bodyPost_ret (v := .tuple #[.agg #[.int .i64 1, .int .i64 i, .string ⟨#[]⟩, .slice none 0 0], .bool true]) (by simp [results, Tryz.results75, go_sem, r0, r1, r2, r3]) rfl ?_
  exact ⟨_, _, _, _, ns', nv', e0, rfl, ta_var hz (unhide HNM) (unhide HII).symm, R.1, R.2⟩

set_option maxHeartbeats 1000000 in
/-- A number. -/
theorem term_num (w : World) (rb : Nat) (s : ByteArray) (l : List Parl.Tok) (ns : List ByteArray) (nv : Value) (e0 : Int) (d f : Nat) (h : St w rb s l ns nv e0) (hm : mayB d (Parl.hd l) = 0) (hk4 : (Parl.hd l).kind = 4) :
    Calls Tryz.prog 75 #[.pointer (some ⟨rb, 0, none⟩), .int .i64 (d : Int)] w fun e w' => PTerm (f + 1) rb s ns (Parl.term (f + 1) l) w e w' := by
  rw [term_leaf hm (Or.inr hk4), hk4]
  have hb2 : Below w.heap.size w ((w.alloc boxR).alloc (boxT (Parl.hd l))) := ((Below.refl _ _).alloc (Nat.le_refl _) _).alloc (by simp) _
  have H2 := hide (h.below hb2)
  have hlt := h.lt
  have hz := h.tsize
  have hz6 := mayB_six hm hk4
  have hk0 := hide (show (Parl.hd l).kind ≠ 0 by omega)
  unfold boxR boxT at H2
  obtain ⟨⟨c0, c1, c2, c3, c4, c5, f1, f2, f3, f4, f5⟩, own, chain, isn, few, short, signs, pos, lt⟩ := h
  clear own chain isn few short signs hb2
  have hmf : (mayB d (Parl.hd l) == 0) = true := by simpa using hm
  have HK4 := hide hk4
  clear hk4
  go_enter Tryz.func75, Tryz.ntmps75
  go_wp2_with fail
  refine (mayBegin_any _ rb s l ns nv e0 d (unhide H2)).mono ?_
  rintro e w1 ⟨rfl, hs, hk⟩
  rw [if_pos hm] at hs
  have HS := hide hs
  have HK := hide hk
  clear hs hk
  go_wp2_with fail
  refine (take_any _ rb s l ns nv e0 (unhide HS) (unhide hk0)).mono ?_
  rintro e w2 ⟨rfl, hs, hk⟩
  have HS2 := hide hs
  have HK2 := hide ((unhide HK).trans hk)
  clear hs hk HS HK
  obtain ⟨r0, r1, r2, r3, x0, x1, x2, x3, t0, t2⟩ := boxes hlt (unhide HK2)
  rw [unhide HK4] at t0
  go_wp2_with fail
  refine (valueOf_any _ _ hz6).mono ?_
  rintro e w3 ⟨rfl, rfl⟩
  generalize hii : ((Parl.numOf (Parl.hd l).text : Nat) : Int) = i
  have HII := hide hii
  clear hii
  go_wp2_with fail
  have R := box_end (unhide HK2) (unhide HS2) hlt (.int .i64 2) (.int .i64 i) (.string ⟨#[]⟩) (.slice none 0 0)
  refine bodyPost_ret (v := .tuple #[.agg #[.int .i64 2, .int .i64 i, .string ⟨#[]⟩, .slice none 0 0], .bool true]) (by simp [results, Tryz.results75, go_sem, r0, r1, r2, r3]) rfl ?_
  exact ⟨_, _, _, _, ns, nv, e0, rfl, ta_num hz hz6 (unhide HII).symm, R.1, R.2⟩

set_option maxHeartbeats 1000000 in
/-- A name. -/
theorem term_nam (f : Nat) (IH : ArgsSaid f) (w : World) (rb : Nat) (s : ByteArray) (l : List Parl.Tok) (ns : List ByteArray) (nv : Value) (e0 : Int) (d : Nat) (hfd : f + 1 + d = 9) (h : St w rb s l ns nv e0) (hm : mayB d (Parl.hd l) = 0) (hk2 : (Parl.hd l).kind = 2) :
    Calls Tryz.prog 75 #[.pointer (some ⟨rb, 0, none⟩), .int .i64 (d : Int)] w fun e w' => PTerm (f + 1) rb s ns (Parl.term (f + 1) l) w e w' := by
  rw [term_name hm hk2]
  have hb2 : Below w.heap.size w ((w.alloc boxR).alloc (boxT (Parl.hd l))) := ((Below.refl _ _).alloc (Nat.le_refl _) _).alloc (by simp) _
  have H2 := hide (h.below hb2)
  have hlt := h.lt
  have hz := h.tsize
  have hk0 := hide (show (Parl.hd l).kind ≠ 0 by omega)
  unfold boxR boxT at H2
  have I := hide (fun w (hs : St w rb s l.tail ns nv e0) => IH w rb s l.tail ns nv e0 (d + 1) (by omega) hs)
  generalize optArgs f l.tail = r at I ⊢
  obtain ⟨⟨c0, c1, c2, c3, c4, c5, f1, f2, f3, f4, f5⟩, own, chain, isn, few, short, signs, pos, lt⟩ := h
  clear own chain isn few short signs hb2 IH
  have hmf : (mayB d (Parl.hd l) == 0) = true := by simpa using hm
  have HK2 := hide hk2
  clear hk2
  rcases r with ⟨er, pos⟩ | ⟨ts, l2⟩
  · show Calls _ _ _ _ fun e w' => PTerm (f + 1) rb s ns (.inl (er, pos)) w e w'
    go_enter Tryz.func75, Tryz.ntmps75
    go_wp2_with fail
    refine (mayBegin_any _ rb s l ns nv e0 d (unhide H2)).mono ?_
    rintro e w1 ⟨rfl, hs, hk⟩
    rw [if_pos hm] at hs
    have HS := hide hs
    have HK := hide hk
    clear hs hk
    go_wp2_with fail
    refine (take_any _ rb s l ns nv e0 (unhide HS) (unhide hk0)).mono ?_
    rintro e w2 ⟨rfl, hs, hk⟩
    have HS2 := hide hs
    have HKK := hide ((unhide HK).trans hk)
    clear hs hk HS HK
    obtain ⟨r0, r1, r2, r3, x0, x1, x2, x3, t0, t2⟩ := boxes hlt (unhide HKK)
    rw [unhide HK2] at t0
    go_wp2_with fail
    rw [show ((d : Int) + 1) = ((d + 1 : Nat) : Int) by omega]
    refine (unhide I _ (unhide HS2)).mono ?_
    clear r0 r1 r2 r3 x0 x1 x2 x3 t0 t2
    rintro e w3 ⟨l', ns', nv', ao, n, cap, rfl, hs, hpos, hk⟩
    have HS3 := hide hs
    have HK3 := hide ((unhide HKK).trans hk)
    have HP := hide hpos
    clear hs hk HS2 HKK hpos
    obtain ⟨r0, r1, r2, r3, x0, x1, x2, x3, t0, t2⟩ := boxes hlt (unhide HK3)
    go_wp2_with fail
    have R := box_end (unhide HK3) (unhide HS3) hlt (.int .i64 3) (.int .i64 0) (.string (Parl.hd l).text) (.slice ao n cap)
    refine bodyPost_ret (v := .tuple #[.agg #[.int .i64 3, .int .i64 0, .string (Parl.hd l).text, .slice ao n cap], .bool false]) (by simp [results, Tryz.results75, go_sem, r0, r1, r2, r3]) rfl ?_
    exact ⟨_, _, _, _, _, _, l', ns', nv', rfl, R.1, unhide HP, R.2⟩
  · show Calls _ _ _ _ fun e w' => PTerm (f + 1) rb s ns (.inr (⟨2, (Parl.hd l).text, ts⟩, l2)) w e w'
    go_enter Tryz.func75, Tryz.ntmps75
    go_wp2_with fail
    refine (mayBegin_any _ rb s l ns nv e0 d (unhide H2)).mono ?_
    rintro e w1 ⟨rfl, hs, hk⟩
    rw [if_pos hm] at hs
    have HS := hide hs
    have HK := hide hk
    clear hs hk
    go_wp2_with fail
    refine (take_any _ rb s l ns nv e0 (unhide HS) (unhide hk0)).mono ?_
    rintro e w2 ⟨rfl, hs, hk⟩
    have HS2 := hide hs
    have HKK := hide ((unhide HK).trans hk)
    clear hs hk HS HK
    obtain ⟨r0, r1, r2, r3, x0, x1, x2, x3, t0, t2⟩ := boxes hlt (unhide HKK)
    rw [unhide HK2] at t0
    go_wp2_with fail
    rw [show ((d : Int) + 1) = ((d + 1 : Nat) : Int) by omega]
    refine (unhide I _ (unhide HS2)).mono ?_
    clear r0 r1 r2 r3 x0 x1 x2 x3 t0 t2
    rintro e w3 ⟨ao, cap, ns', nv', e', rfl, haa, hs, hk⟩
    have HAA := hide (haa.up (unhide HKK).size)
    clear haa
    have HS3 := hide hs
    have HK3 := hide ((unhide HKK).trans hk)
    clear hs hk HS2 HKK
    obtain ⟨r0, r1, r2, r3, x0, x1, x2, x3, t0, t2⟩ := boxes hlt (unhide HK3)
    go_wp2_with fail
    have R := box_end (unhide HK3) (unhide HS3) hlt (.int .i64 3) (.int .i64 0) (.string (Parl.hd l).text) (.slice ao ts.length cap)
    refine bodyPost_ret (v := .tuple #[.agg #[.int .i64 3, .int .i64 0, .string (Parl.hd l).text, .slice ao ts.length cap], .bool true]) (by simp [results, Tryz.results75, go_sem, r0, r1, r2, r3]) rfl ?_
    exact ⟨_, _, _, _, ns', nv', e', rfl, ta_name hz (unhide HAA), R.1, R.2⟩

theorem term_step (f : Nat) (IH : ArgsSaid f) : TermSaid (f + 1) := by
  intro w rb s l ns nv e0 d hfd h
  by_cases hm : mayB d (Parl.hd l) = 0
  · rcases mayB_kind hm with hk | hk | hk
    · exact term_nam f IH w rb s l ns nv e0 d hfd h hm hk
    · exact term_var w rb s l ns nv e0 d f h hm hk
    · exact term_num w rb s l ns nv e0 d f h hm hk
  · rw [term_bad (by omega) hm]
    exact term_no w rb s l ns nv e0 _ d h hm
theorem term_none : TermSaid 0 := by
  intro w rb s l ns nv e0 d hfd h
  obtain rfl : d = 9 := by omega
  rw [term_zero]
  exact term_no w rb s l ns nv e0 0 9 h (mayB9 _)
end Go.Proofs.YthfjnfcekeknlaaGreatDoor
namespace Go.Proofs.YthfjnfcekeknlaaGreatDoor
open Go.RowKit

theorem Tryz.info76 : (Tryz.prog.info? 76).map (fun i => (i.zero, i.size, i.bytes)) = some (some (.agg #[.int .i64 0, .int .i64 0, .string ⟨#[]⟩, .slice none 0 0]), 4, 56) := by kernel_rfl

theorem own_ka {rb b0 : Nat} {w w1 : World} {T : TypeId} {sz : Nat} {v : Value} {n : Nat} {xs : List Value} (h : w.ownsRow b0 T sz v n xs) (hk : KA rb [rb] w w1) (hb : rb < b0) (hT : T ≠ 9) : w1.ownsRow b0 T sz v n xs :=
  ⟨h.1, h.2.imp id fun ⟨g, cap, cur, a, b, c, d⟩ => ⟨g, cap, cur, a, b, (hk.block g (Array.getElem?_eq_some_iff.1 c).1 (by simp; omega) (Or.inr (by unfold tyAt; rw [c]; simpa using hT))).trans c, d⟩⟩

theorem St.grown {w w2 : World} {rb : Nat} {s : ByteArray} {l : List Parl.Tok} {ns : List ByteArray} {nv : Value} {e : Int} {row : Option Nat} (h : St w rb s l ns nv e) (hg : w.grownBy w2 row) (hr : ∀ k, row = some k → rb < k ∧ tyAt w k ≠ some 9) : St w2 rb s l ns nv e := by
  have k : ∀ q, q < w.heap.size → some q ≠ row → w2.heap[q]? = w.heap[q]? := hg.block
  have hrb := k rb h.lt (fun e => by have := (hr rb e.symm).1; omega)
  have h0 := k 0 (by have := h.lt; omega) (fun e => by have := (hr 0 e.symm).1; omega)
  have c : ∀ o, w2.cell? ⟨rb, o, none⟩ = w.cell? ⟨rb, o, none⟩ := fun o => World.cell?_of_block hrb
  have f : ∀ o, w2.frozen? ⟨rb, o, none⟩ = w.frozen? ⟨rb, o, none⟩ := fun o => World.frozen?_of_block hrb
  have z : ∀ o, w2.cell? ⟨0, o, none⟩ = w.cell? ⟨0, o, none⟩ := fun o => World.cell?_of_block h0
  obtain ⟨⟨c0, c1, c2, c3, c4, c5, f1, f2, f3, f4, f5⟩, own, chain, isn, few, short, signs, pos, lt⟩ := h
  refine ⟨⟨(c 0).trans c0, (c 1).trans c1, (c 2).trans c2, (c 3).trans c3, (c 4).trans c4, (c 5).trans c5, (f 1).trans f1, (f 2).trans f2, (f 3).trans f3, (f 4).trans f4, (f 5).trans f5⟩, ⟨own.1, ?_⟩, chain, isn, few, short, ⟨(z 0).trans signs.s0, (z 1).trans signs.s1, (z 2).trans signs.s2, (z 3).trans signs.s3, (z 4).trans signs.s4⟩, pos, by have := hg.size; omega⟩
  rcases own.2 with q | ⟨g, cap, cur, a, b', c', d⟩
  · exact Or.inl q
  · refine Or.inr ⟨g, cap, cur, a, b', ?_, d⟩
    rw [k g (Array.getElem?_eq_some_iff.1 c').1 (fun e => (hr g e.symm).2 (by unfold tyAt; rw [c']))]
    exact c'

/-- So many have been read already. -/
def pre (ts : List Parl.Tm) (r : Parl.Res (List Parl.Tm)) : Parl.Res (List Parl.Tm) := match r with
  | .inl e => .inl e
  | .inr (us, l2) => .inr (ts ++ us, l2)
theorem pre_nil (r : Parl.Res (List Parl.Tm)) : r = pre [] r := by rcases r with e | ⟨us, l2⟩ <;> rfl

theorem args_bad {p : List Parl.Tok → Parl.Res Parl.Tm} {k : Nat} {l : List Parl.Tok} {er : Nat × Nat} (h : p l = .inl er) : Parl.argsOf p k l = .inl er := by
  unfold Parl.argsOf; rw [h]
theorem args_end {p : List Parl.Tok → Parl.Res Parl.Tm} {k : Nat} {l l1 : List Parl.Tok} {t : Parl.Tm} (h : p l = .inr (t, l1)) (hc : Parl.sees l1 [44] = false) : Parl.argsOf p k l = if Parl.sees l1 [41] = true then .inr ([t], l1.tail) else Parl.bad 2 l1 := by
  unfold Parl.argsOf; rw [h]; simp only [hc]; rfl
theorem args_many {p : List Parl.Tok → Parl.Res Parl.Tm} {l l1 : List Parl.Tok} {t : Parl.Tm} (h : p l = .inr (t, l1)) (hc : Parl.sees l1 [44] = true) : Parl.argsOf p 0 l = Parl.bad 3 l1 := by
  unfold Parl.argsOf; rw [h]; simp only [hc]; rfl
theorem args_more {p : List Parl.Tok → Parl.Res Parl.Tm} {k : Nat} {l l1 : List Parl.Tok} {t : Parl.Tm} (h : p l = .inr (t, l1)) (hc : Parl.sees l1 [44] = true) (ts : List Parl.Tm) : pre ts (Parl.argsOf p (k + 1) l) = pre (ts ++ [t]) (Parl.argsOf p k l1.tail) := by
  conv => lhs; unfold Parl.argsOf
  rw [h]; simp only [hc]
  rcases Parl.argsOf p k l1.tail with e | ⟨us, l2⟩
  · rfl
  · simp [pre]
end Go.Proofs.YthfjnfcekeknlaaGreatDoor
namespace Go.Proofs.YthfjnfcekeknlaaGreatDoor
open Go.RowKit

theorem new_four (W : World) (o : Obj) (a b c d : Value) (T : TypeId) : ∀ j u, ([a, b, c, d] : List Value)[j]? = some u → ((W.alloc o).alloc (.cells #[a, b, c, d] T)).cell? ((⟨W.heap.size + 1, 0, none⟩ : Addr).add j) = some u := by
  intro j u hj
  match j, hj with
  | 0, hj => simp at hj; subst hj; simp [Addr.add]
  | 1, hj => simp at hj; subst hj; simp [Addr.add]
  | 2, hj => simp at hj; subst hj; simp [Addr.add]
  | 3, hj => simp at hj; subst hj; simp [Addr.add]
theorem four_one (a b : Int) (c : ByteArray) (ao : Option Addr) (n cap : Nat) : ∀ u ∈ ([.int .i64 a, .int .i64 b, .string c, .slice ao n cap] : List Value), u.oneCell' = true := by
  intro u hu; simp at hu; rcases hu with rfl | rfl | rfl | rfl <;> rfl
/-- Behind the append of an argument. -/
theorem arg_grown {w w2 w3 : World} {rb : Nat} {s : ByteArray} {l : List Parl.Tok} {ns : List ByteArray} {nv : Value} {e : Int} {v : Value} {n : Nat} {xs : List Value} {o1 o2 : Obj} {T : TypeId} {sz : Nat} (h : St w2 rb s l ns nv e) (hk : KA rb [rb] w w2) (ho : w2.ownsRow w.heap.size T sz v n xs) (hlt : rb < w.heap.size) (hg : ((w2.alloc o1).alloc o2).grownBy w3 v.ownBlock) (hT : T ≠ 9 := by decide) :
    St w3 rb s l ns nv e ∧ KA rb [rb] w w3 := by
  have hb : Below w2.heap.size w2 ((w2.alloc o1).alloc o2) := ((Below.refl _ _).alloc (Nat.le_refl _) _).alloc (by simp) _
  have hty : ∀ k, v.ownBlock = some k → tyAt ((w2.alloc o1).alloc o2) k ≠ some 9 := fun k hk' => by
    have := ho.lt k hk'
    rcases ho.2 with ⟨rfl, _⟩ | ⟨g, cap, cur, rfl, _, c, _⟩
    · simp [Value.ownBlock] at hk'
    · simp [Value.ownBlock] at hk'
      subst hk'
      unfold tyAt; rw [hb.block g this.2, c]; simpa using hT
  refine ⟨(h.below hb).grown hg (fun k q => ⟨by have := (ho.lt k q).1; omega, hty k q⟩), ((hk.alloc o1).alloc o2).grown hg (fun k q => Or.inl (ho.lt k q).1)⟩

/-- The arguments so far lie there, and not in the row that grows. -/
def ArgRep (f : Nat) (w : World) (ns0 ns : List ByteArray) (v : Value) (wr : World) (us : List AV) (ts : List Parl.Tm) : Prop :=
  All2 (RA f (nmsA ns) (fun g => w.heap.size ≤ g ∧ some g ≠ v.ownBlock) wr) us ts ∧ nmsA ns = ts.foldl (Parl.namesF f) (nmsA ns0)
theorem ArgRep.keep {f : Nat} {w : World} {ns0 ns : List ByteArray} {v : Value} {wr w2 : World} {us : List AV} {ts : List Parl.Tm} (h : ArgRep f w ns0 ns v wr us ts) (hk : KeepA wr w2) : ArgRep f w ns0 ns v w2 us ts :=
  ⟨h.1.imp fun _ _ r => r.keep fun g cs hp hc hi => ⟨hk g cs hc hi, hp⟩, h.2⟩
theorem ArgRep.next {f rb : Nat} {w : World} {ns0 ns1 ns2 : List ByteArray} {v nv : Value} {wr w2 : World} {us : List AV} {ts : List Parl.Tm} {s : ByteArray} {l : List Parl.Tok} {e : Int} {T : TypeId} {sz n : Nat} {xs : List Value} {val : Int} {tx : ByteArray} {ao : Option Addr} {cap : Nat} {t : Parl.Tm}
    (h : ArgRep f w ns0 ns1 v wr us ts) (hs : St wr rb s l ns1 nv e) (hk : KA rb [rb] wr w2) (ho : wr.ownsRow w.heap.size T sz v n xs) (hw : w.heap.size ≤ wr.heap.size) (ht : TA f ns1 ns2 wr w2 val tx ao cap t) :
    ArgRep f w ns0 ns2 v w2 (us ++ [⟨ak t.kind, val, tx, ao, t.args.length, cap⟩]) (ts ++ [t]) := by
  obtain ⟨M, hM, _⟩ := Parl.namesF_ext f t ht.rep.ok3 (nmsA ns1)
  have he : nmsA ns2 = nmsA ns1 ++ M := ht.nms.trans hM
  refine ⟨All2.snoc ?_ ?_, by rw [List.foldl_append, ← h.2]; exact ht.nms⟩
  · exact ht.rep.imp fun g hg _ => ⟨by omega, fun q => by have := (ho.lt g q.symm).2; omega⟩
  · rw [he]
    exact (h.keep (KeepA.ka hs hk)).1.imp fun _ _ r => r.more M
theorem ArgRep.grown {f : Nat} {w : World} {ns0 ns : List ByteArray} {v v' : Value} {w2 w3 : World} {us : List AV} {ts : List Parl.Tm} {o1 o2 : Obj} (h : ArgRep f w ns0 ns v w2 us ts) (hg : ((w2.alloc o1).alloc o2).grownBy w3 v.ownBlock) (hat : v'.ownBlock = v.ownBlock ∨ v'.ownBlock = some ((w2.alloc o1).alloc o2).heap.size) : ArgRep f w ns0 ns v' w3 us ts := by
  have hb : Below w2.heap.size w2 ((w2.alloc o1).alloc o2) := ((Below.refl _ _).alloc (Nat.le_refl _) _).alloc (by simp) _
  have hz : w2.heap.size ≤ ((w2.alloc o1).alloc o2).heap.size := hb.size
  refine ⟨h.1.imp fun _ _ r => r.keep fun g cs hp hc hi => ?_, h.2⟩
  have hlt : g < w2.heap.size := (Array.getElem?_eq_some_iff.1 hc).1
  refine ⟨((hg.block g (by omega) hp.2).trans (hb.block g hlt)).trans hc, hp.1, fun q => ?_⟩
  rcases hat with a | a
  · exact hp.2 (q.trans a)
  · rw [a] at q
    injection q with q
    omega
theorem ArgRep.done {f : Nat} {w : World} {ns0 ns : List ByteArray} {g cap : Nat} {wr : World} {us : List AV} {ts : List Parl.Tm} (h : ArgRep f w ns0 ns (.slice (some ⟨g, 0, none⟩) ts.length cap) wr us ts) (ho : wr.ownsRow w.heap.size 76 4 (.slice (some ⟨g, 0, none⟩) ts.length cap) ts.length (us.flatMap avC)) (h3 : ts.length ≤ 3) : AA f ns0 ns w wr (some ⟨g, 0, none⟩) ts := by
  refine ⟨fun _ => ?_, h.2, h3⟩
  rcases ho.2 with ⟨q, _⟩ | ⟨g', cap', cur, q, hb, hc, _, _, _, ht⟩
  · cases q
  · simp only [Value.slice.injEq, Option.some.injEq, Addr.mk.injEq, and_true, true_and] at q
    obtain ⟨rfl, rfl⟩ := q
    exact ⟨g, us, cur, rfl, hb, hc, by rw [h.1.length]; exact ht, h.1.imp fun _ _ r => r.imp fun _ q _ => q.1⟩
/-- The loop's relation. -/
def ArgRel (w : World) (rb : Nat) (s : ByteArray) (f : Nat) (l0 : List Parl.Tok) (ns0 : List ByteArray) (v : Value) (wr : World) : Prop :=
  ∃ (ts : List Parl.Tm) (us : List AV) (l : List Parl.Tok) (ns : List ByteArray) (nv : Value) (e : Int), St wr rb s l ns nv e ∧ wr.ownsRow w.heap.size 76 4 v ts.length (us.flatMap avC) ∧ ts.length ≤ 2 ∧
    Parl.argsOf (Parl.term f) 2 l0 = pre ts (Parl.argsOf (Parl.term f) (2 - ts.length) l) ∧ KA rb [rb] w wr ∧ ArgRep f w ns0 ns v wr us ts
def lenOf : Value → Nat | .slice _ n _ => n | _ => 0

theorem own_len {w : World} {b : Nat} {e : TypeId} {sz : Nat} {v : Value} {n : Nat} {xs : List Value} (h : w.ownsRow b e sz v n xs) : lenOf v = n := by
  rcases h.2 with ⟨rfl, q⟩ | ⟨g, cap, cur, rfl, _⟩
  · exact q.symm
  · rfl

set_option maxHeartbeats 2000000 in
set_option maxRecDepth 100000 in
theorem args_step (f : Nat) (IH : TermSaid f) : ArgsSaid f := by
  intro w rb s l ns nv e0 d hfd h
  obtain ⟨i0, hi, hz0, hz1, hz2⟩ := info_parts Tryz.info76
  have H := hide h
  have hlt := h.lt
  cases hs0 : Parl.sees l [40]
  · have HO := hide (show optArgs f l = .inr ([], l) by unfold optArgs; rw [hs0]; rfl)
    go_enter Tryz.func132, Tryz.ntmps132
    go_wp2_with (go_at_call 76; refine (sees_any _ rb s l ns nv e0 _ (unhide H)).mono ?_; rintro e w1 ⟨rfl, rfl⟩; simp only [ByteArray.toList_mk])
    go_ret2
    refine (?_ : PArgs f rb s ns (optArgs f l) w1 _ _)
    rw [unhide HO]
    exact ⟨none, 0, ns, nv, e0, rfl, ⟨fun q => absurd rfl q, rfl, by simp⟩, unhide H, KA.refl _ _ _⟩
  · have HO := hide (show optArgs f l = Parl.argsOf (Parl.term f) 2 l.tail by unfold optArgs; rw [hs0]; rfl)
    have hk0 := hide (show (Parl.hd l).kind ≠ 0 by rw [Parl.sees_kind hs0]; omega)
    rw [unhide HO]
    clear HO
    go_enter Tryz.func132, Tryz.ntmps132
    go_wp2_with fail
    refine (sees_any _ rb s l ns nv e0 _ (unhide H)).mono ?_
    rintro e w1 ⟨rfl, hw⟩
    rw [hw]
    simp only [ByteArray.toList_mk]
    rw [hs0]
    clear hw w1
    go_wp2_with fail
    refine (take_any _ rb s l ns nv e0 (unhide H) (unhide hk0)).mono ?_
    rintro e w1 ⟨rfl, hs1, hk1⟩
    have HS1 := hide hs1
    have HK1 := hide hk1
    clear hs1 hk1
    go_wp2_with fail
    go_loopw [6] (fun v wr => ArgRel w rb s f l.tail ns v wr) (fun v _ => 2 - lenOf v)
    case atStart => exact ⟨[], [], l.tail, ns, nv, e0, unhide HS1, World.ownsRow_nil _ _ _ _, by simp, pre_nil _, unhide HK1, trivial, rfl⟩
    case round =>
      obtain ⟨ts, us, l1, ns1, nv1, e1, hst, hown, hts, hpre, hka, hrep⟩ := hrel
      have HREP := hide hrep
      have HST := hide hst
      have HOWN := hide hown
      have HLEN := hide (own_len hown)
      have HPRE := hide hpre
      have HKA := hide hka
      clear hst hown hpre hka hrep
      have I := hide (IH wr rb s l1 ns1 nv1 e1 d hfd (unhide HST))
      generalize hr : Parl.term f l1 = r at I
      have HR := hide hr
      clear hr
      rcases r with ⟨er, pos⟩ | ⟨t, l2⟩
      · have HF : Hid (Parl.argsOf (Parl.term f) 2 l.tail = .inl (er, pos)) := (unhide HPRE).trans (by rw [args_bad (unhide HR)]; rfl)
        go_wp2_with fail
        refine (unhide I).mono ?_
        rintro e w2 ⟨k, val, tx, ao, n, cap, l', ns', nv', rfl, hs2, hpos, hk2⟩
        have HS2 := hide hs2
        have HP := hide hpos
        have HK2 := hide ((unhide HKA).trans hk2)
        clear hs2 hpos hk2
        go_wp2_with fail
        go_ret2
        refine (?_ : PArgs f rb s ns _ w _ _)
        rw [unhide HF]
        exact ⟨l', ns', nv', none, 0, 0, rfl, (unhide HS2).below ((Below.refl _ _).alloc (Nat.le_refl _) _), unhide HP, (unhide HK2).alloc _⟩
      · go_wp2_with fail
        refine (unhide I).mono ?_
        rintro e w2 ⟨val, tx, ao, cap, ns2, nv2, e2, rfl, htx, hs2, hk2⟩
        have HREP2 := hide ((unhide HREP).next (unhide HST) hk2 (unhide HOWN) (unhide HKA).size htx)
        have HS2 := hide hs2
        have HO2 := hide (own_ka (unhide HOWN) hk2 hlt (by decide))
        have HK2 := hide ((unhide HKA).trans hk2)
        have hlt2 : w.heap.size ≤ w2.heap.size := (unhide HK2).size
        clear hs2 hk2 htx
        go_wp2_with (first | (at_builtin; refine wpList_append_own_at _ rfl (.tmp 23) (.tmp 25) 74 rfl w.heap.size 76 i0 (.agg #[.int .i64 0, .int .i64 0, .string ⟨#[]⟩, .slice none 0 0]) 4 56 Tryz.underlying74 hi hz0 hz1 hz2 rfl (by decide) _ ts.length (us.flatMap avC) rfl (((unhide HO2).alloc _).alloc _) ⟨w2.heap.size + 1, 0, none⟩ 1 1 [.int .i64 (ak t.kind), .int .i64 val, .string tx, .slice ao t.args.length cap] rfl rfl (new_four _ _ _ _ _ _ _) (four_one _ _ _ _ _ _) (by unfold maxLen; omega) (by omega) (by simp; omega) ?_; intro v' w3 hown' hgrow _ hat; have HREP3 := hide ((unhide HREP2).grown hgrow hat); clear hat; have HOWN3 := hide hown'; have R3 := hide (arg_grown (unhide HS2) (unhide HK2) (unhide HO2) hlt hgrow); obtain ⟨g', cap', hv, hcm⟩ := own_some hown'; rw [hv] at HOWN3 HREP3 ⊢; clear hown' hgrow hv))
        have HS3 := hide (unhide R3).1
        have HK3 := hide (unhide R3).2
        clear R3
        cases hc : Parl.sees l2 [44]
        · have HF := hide ((unhide HPRE).trans (by rw [args_end (unhide HR) hc]))
          refine (sees_any _ rb s l2 ns2 nv2 e2 _ (unhide HS3)).mono ?_
          rintro e w4 ⟨rfl, hw⟩
          rw [hw]
          simp only [ByteArray.toList_mk]
          rw [hc]
          clear hw w4
          go_wp2_with fail
          refine (sees_any _ rb s l2 ns2 nv2 e2 _ (unhide HS3)).mono ?_
          rintro e w4 ⟨rfl, hw⟩
          rw [hw]
          simp only [ByteArray.toList_mk]
          clear hw w4
          cases hb : Parl.sees l2 [41]
          · rw [hb] at HF
            go_wp2_with fail
            refine (takeIf_any _ rb s l2 ns2 nv2 e2 false (unhide HS3) (fun q => by cases q)).mono ?_
            rintro e w4 ⟨rfl, hs4, hk4⟩
            have HS4 := hide hs4
            have HK4 := hide ((unhide HK3).trans hk4)
            clear hs4 hk4
            go_wp2_with fail
            go_ret2
            refine (?_ : PArgs f rb s ns _ w _ _)
            rw [unhide HF]
            exact ⟨l2, ns2, nv2, _, _, _, rfl, unhide HS4, rfl, unhide HK4⟩
          · rw [hb] at HF
            have hk5 := hide (show (Parl.hd l2).kind ≠ 0 by rw [Parl.sees_kind hb]; omega)
            go_wp2_with fail
            refine (takeIf_any _ rb s l2 ns2 nv2 e2 true (unhide HS3) (fun _ => unhide hk5)).mono ?_
            rintro e w4 ⟨rfl, hs4, hk4⟩
            have HKP4 := hide (KeepA.ka (unhide HS3) hk4)
            have HO4 := hide (own_ka (unhide HOWN3) hk4 hlt (by decide))
            have HS4 := hide hs4
            have HK4 := hide ((unhide HK3).trans hk4)
            clear hs4 hk4
            go_wp2_with fail
            go_ret2
            refine (?_ : PArgs f rb s ns _ w _ _)
            rw [unhide HF]
            exact ⟨some ⟨g', 0, none⟩, cap', ns2, nv2, e2, by simp, ArgRep.done (by simpa using (unhide HREP3).keep (unhide HKP4)) (by simpa [avC] using unhide HO4) (by simp; omega), unhide HS4, unhide HK4⟩
        · have hk5 := hide (show (Parl.hd l2).kind ≠ 0 by rw [Parl.sees_kind hc]; omega)
          refine (sees_any _ rb s l2 ns2 nv2 e2 _ (unhide HS3)).mono ?_
          rintro e w4 ⟨rfl, hw⟩
          rw [hw]
          simp only [ByteArray.toList_mk]
          rw [hc]
          clear hw w4
          go_wp2_with fail
          rw [show ((ts.length : Int) + 1) = ((ts.length + 1 : Nat) : Int) by omega]
          refine (comma_any _ rb s l2 ns2 nv2 e2 (ts.length + 1) 3 (unhide HS3) (unhide hk5)).mono ?_
          by_cases hn : ts.length + 1 < 3
          · have HF := hide ((unhide HPRE).trans (by rw [show 2 - ts.length = (2 - (ts.length + 1)) + 1 by omega, args_more (unhide HR) hc]))
            rw [if_pos hn, if_pos hn, decide_eq_true hn]
            rintro e w4 ⟨rfl, hs4, hk4⟩
            have HS4 := hide hs4
            have HKP4 := hide (KeepA.ka (unhide HS3) hk4)
            have HO4 := hide (own_ka (unhide HOWN3) hk4 hlt (by decide))
            have HK4 := hide ((unhide HK3).trans hk4)
            clear hs4 hk4
            go_wp2_with fail
            go_roundw
            case rel => exact ⟨ts ++ [t], us ++ [⟨ak t.kind, val, tx, ao, t.args.length, cap⟩], l2.tail, ns2, nv2, e2, unhide HS4, by simpa [avC] using unhide HO4, by simp; omega, by simpa using unhide HF, unhide HK4, (unhide HREP3).keep (unhide HKP4)⟩
            case measure => show 2 - (ts.length + 1) < 2 - lenOf _; rw [unhide HLEN]; omega
          · have h0 : ts.length = 2 := by omega
            have HF := hide ((unhide HPRE).trans (by rw [show 2 - ts.length = 0 by omega, args_many (unhide HR) hc]))
            rw [if_neg hn, if_neg hn, decide_eq_false hn]
            rintro e w4 ⟨rfl, hs4, hk4⟩
            have HS4 := hide hs4
            have HK4 := hide ((unhide HK3).trans hk4)
            clear hs4 hk4 h0
            go_wp2_with fail
            go_ret2
            refine (?_ : PArgs f rb s ns _ w _ _)
            rw [unhide HF]
            exact ⟨l2, ns2, nv2, _, _, _, rfl, unhide HS4, rfl, unhide HK4⟩

theorem term_all : ∀ f, TermSaid f
  | 0 => term_none
  | f + 1 => term_step f (args_step f (term_all f))
end Go.Proofs.YthfjnfcekeknlaaGreatDoor
namespace Go.Proofs.YthfjnfcekeknlaaGreatDoor
open Go.RowKit

/-- A block that is written out: its cells. -/
theorem blkC {w : World} {b : Nat} {cs : Array Value} {T : TypeId} (h : w.heap[b]? = some (.cells cs T (0, 0))) (i : Nat) {v : Value} (hv : cs[i]? = some v) : w.cell? ⟨b, i, none⟩ = some v := by
  simp [World.cell?, h, hv]
theorem blkF {w : World} {b : Nat} {cs : Array Value} {T : TypeId} (h : w.heap[b]? = some (.cells cs T (0, 0))) (i : Nat) : w.frozen? ⟨b, i, none⟩ = false := by
  simp [World.frozen?, h]
theorem blkA {w : World} {b : Nat} {cs : Array Value} {T : TypeId} (h : w.heap[b]? = some (.cells cs T (0, 0))) : ∀ i, w.cell? ⟨b, i, none⟩ = cs[i]? := fun i => by
  simp [World.cell?, h]
theorem blkX {w : World} {b : Nat} {cs : Array Value} {T : TypeId} (h : w.heap[b]? = some (.cells cs T (0, 0))) : ∀ i, w.frozen? ⟨b, i, none⟩ = false := fun i => blkF h i
theorem blk_new (w : World) (cs : Array Value) (T : TypeId) : (w.alloc (.cells cs T)).heap[w.heap.size]? = some (.cells cs T (0, 0)) := heap_alloc_new w _
theorem blk_alloc {w : World} {b : Nat} {x : Obj} (h : w.heap[b]? = some x) (o : Obj) : (w.alloc o).heap[b]? = some x := by
  rw [Below.heap_alloc _ _ _ (Array.getElem?_eq_some_iff.1 h).1]; exact h
theorem blk_ka {w w' : World} {rb b : Nat} {X : List Nat} {cs : Array Value} {T : TypeId} (hk : KA rb X w w') (h : w.heap[b]? = some (.cells cs T (0, 0))) (hb : b ∉ X) (hT : T ≠ 9 := by decide) : w'.heap[b]? = some (.cells cs T (0, 0)) :=
  (hk.block b (Array.getElem?_eq_some_iff.1 h).1 hb (Or.inr (by unfold tyAt; rw [h]; simpa using hT))).trans h
theorem blk_lt {w : World} {b : Nat} {x : Obj} (h : w.heap[b]? = some x) : b < w.heap.size := (Array.getElem?_eq_some_iff.1 h).1

/-- Only block b has turned. -/
structure OnlyB (b : Nat) (w w' : World) : Prop where
  os : w'.os = w.os
  tape : w'.tape = w.tape
  output : w'.output = w.output
  size : w'.heap.size = w.heap.size
  block : ∀ k, k ≠ b → w'.heap[k]? = w.heap[k]?
  ty : ∀ k, tyAt w' k = tyAt w k
theorem OnlyB.refl (b : Nat) (w : World) : OnlyB b w w := ⟨rfl, rfl, rfl, rfl, fun _ _ => rfl, fun _ => rfl⟩
theorem OnlyB.set {b : Nat} {a w : World} (h : OnlyB b a w) (i : Nat) (v : Value) : OnlyB b a (w.setCell ⟨b, i, none⟩ v) :=
  ⟨h.os, h.tape, h.output, by simp [World.setCell]; exact h.size, fun k hk => (Below.heap_setCell _ _ _ _ hk).trans (h.block k hk), fun k => (tyAt_setCell _ _ _ _).trans (h.ty k)⟩

theorem St.only {w w' : World} {rb : Nat} {s : ByteArray} {l : List Parl.Tok} {ns : List ByteArray} {nv : Value} {e : Int} {b : Nat} (h : St w rb s l ns nv e) (ho : OnlyB b w w') (hb : b ≠ rb) (h0 : b ≠ 0) (ht : tyAt w b ≠ some 9) : St w' rb s l ns nv e := by
  have k := ho.block
  have c : ∀ o, w'.cell? ⟨rb, o, none⟩ = w.cell? ⟨rb, o, none⟩ := fun o => World.cell?_of_block (k rb (Ne.symm hb))
  have f : ∀ o, w'.frozen? ⟨rb, o, none⟩ = w.frozen? ⟨rb, o, none⟩ := fun o => World.frozen?_of_block (k rb (Ne.symm hb))
  have z : ∀ o, w'.cell? ⟨0, o, none⟩ = w.cell? ⟨0, o, none⟩ := fun o => World.cell?_of_block (k 0 (Ne.symm h0))
  obtain ⟨⟨c0, c1, c2, c3, c4, c5, f1, f2, f3, f4, f5⟩, own, chain, isn, few, short, signs, pos, lt⟩ := h
  refine ⟨⟨(c 0).trans c0, (c 1).trans c1, (c 2).trans c2, (c 3).trans c3, (c 4).trans c4, (c 5).trans c5, (f 1).trans f1, (f 2).trans f2, (f 3).trans f3, (f 4).trans f4, (f 5).trans f5⟩, ⟨own.1, ?_⟩, chain, isn, few, short, ⟨(z 0).trans signs.s0, (z 1).trans signs.s1, (z 2).trans signs.s2, (z 3).trans signs.s3, (z 4).trans signs.s4⟩, pos, by rw [ho.size]; exact lt⟩
  rcases own.2 with q | ⟨g, cap, cur, a, b', c', d⟩
  · exact Or.inl q
  · refine Or.inr ⟨g, cap, cur, a, b', ?_, d⟩
    rw [k g (fun e => ht (by rw [← e]; unfold tyAt; rw [c']))]
    exact c'
theorem KA.onlyNew {rb b : Nat} {X : List Nat} {u w w' : World} (h : KA rb X u w) (ho : OnlyB b w w') (hb : u.heap.size ≤ b) : KA rb X u w' :=
  ⟨ho.os.trans h.os, ho.tape.trans h.tape, ho.output.trans h.output, by rw [ho.size]; exact h.size, fun k hk hX ht => (ho.block k (by omega)).trans (h.block k hk hX ht)⟩
theorem KA.onlyIn {rb b : Nat} {X : List Nat} {u w w' : World} (h : KA rb X u w) (ho : OnlyB b w w') (hb : b ∈ X) : KA rb X u w' :=
  h.trans ⟨ho.os, ho.tape, ho.output, by rw [ho.size]; exact Nat.le_refl _, fun k _ hX _ => ho.block k (fun e => hX (e ▸ hb))⟩

theorem sees_5 {l : List Parl.Tok} (h : (Parl.hd l).kind = 5) (g : List UInt8) : Parl.sees l g = ((Parl.hd l).text.toList == g) := by simp [Parl.sees, h]
theorem sees_no {l : List Parl.Tok} (h : (Parl.hd l).kind ≠ 5) (g : List UInt8) : Parl.sees l g = false := by simp [Parl.sees, h]

set_option maxHeartbeats 1000000 in
theorem seesTestSign_any (w : World) (rb : Nat) (s : ByteArray) (l : List Parl.Tok) (ns : List ByteArray) (nv : Value) (e0 : Int) (h : St w rb s l ns nv e0) :
    Calls Tryz.prog 133 #[.pointer (some ⟨rb, 0, none⟩)] w fun e w' => e = .returned (.bool (Parl.testSign l)) ∧ w' = w := by
  obtain ⟨⟨c0, c1, c2, c3, c4, c5, f1, f2, f3, f4, f5⟩, own, chain, isn, few, short, signs, pos, lt⟩ := h
  clear own chain isn few short signs pos lt c0 c2 c4 c5 f1 f2 f3 f4 f5
  by_cases hk : (Parl.hd l).kind = 5
  · have HT := hide (show Parl.testSign l = (((Parl.hd l).text.toList == [60]) || ((Parl.hd l).text.toList == [61, 60]) || ((Parl.hd l).text.toList == [61, 61]) || ((Parl.hd l).text.toList == [92, 61])) by simp only [Parl.testSign, sees_5 hk])
    rw [hk] at c1
    clear hk
    generalize (Parl.hd l).text = tx at *
    cases b1 : (tx.toList == [60])
    · cases b2 : (tx.toList == [61, 60])
      · cases b3 : (tx.toList == [61, 61])
        · cases b4 : (tx.toList == [92, 61])
          all_goals
            go_enter Tryz.func133, Tryz.ntmps133
            go_wp2_with fail
            go_ret
            exact ⟨ret_bool (by rw [unhide HT, b1, b2, b3, b4]; rfl), rfl⟩
        · go_enter Tryz.func133, Tryz.ntmps133
          go_wp2_with fail
          go_ret
          exact ⟨ret_bool (by rw [unhide HT, b1, b2, b3]; rfl), rfl⟩
      · go_enter Tryz.func133, Tryz.ntmps133
        go_wp2_with fail
        go_ret
        exact ⟨ret_bool (by rw [unhide HT, b1, b2]; rfl), rfl⟩
    · go_enter Tryz.func133, Tryz.ntmps133
      go_wp2_with fail
      go_ret
      exact ⟨ret_bool (by rw [unhide HT, b1]; rfl), rfl⟩
  · have HT := hide (show Parl.testSign l = false by simp [Parl.testSign, sees_no hk])
    have hk' : (((Parl.hd l).kind : Int) != 5) = true := by simp; omega
    clear hk
    go_enter Tryz.func133, Tryz.ntmps133
    go_wp2_with fail
    go_ret
    exact ⟨ret_bool (by rw [unhide HT]), rfl⟩

set_option maxHeartbeats 1000000 in
theorem seesOperator_any (w : World) (rb : Nat) (s : ByteArray) (l : List Parl.Tok) (ns : List ByteArray) (nv : Value) (e0 : Int) (h : St w rb s l ns nv e0) :
    Calls Tryz.prog 177 #[.pointer (some ⟨rb, 0, none⟩)] w fun e w' => e = .returned (.bool (Parl.operSign l)) ∧ w' = w := by
  have HT := hide (show Parl.operSign l = (Parl.sees l [43] || Parl.sees l [45] || Parl.sees l [42]) from rfl)
  have H := hide h
  clear h
  cases b1 : Parl.sees l [43]
  · cases b2 : Parl.sees l [45]
    · go_enter Tryz.func177, Tryz.ntmps177
      go_wp2_with (go_at_call 76; refine (sees_any _ rb s l ns nv e0 _ (unhide H)).mono ?_; rintro e w1 ⟨rfl, hw⟩; rw [hw]; clear hw; simp only [ByteArray.toList_mk])
      go_ret
      exact ⟨ret_bool (by rw [unhide HT, b1, b2]; rfl), rfl⟩
    · go_enter Tryz.func177, Tryz.ntmps177
      go_wp2_with (go_at_call 76; refine (sees_any _ rb s l ns nv e0 _ (unhide H)).mono ?_; rintro e w1 ⟨rfl, hw⟩; rw [hw]; clear hw; simp only [ByteArray.toList_mk])
      go_ret
      exact ⟨ret_bool (by rw [unhide HT, b1, b2]; rfl), rfl⟩
  · go_enter Tryz.func177, Tryz.ntmps177
    go_wp2_with (go_at_call 76; refine (sees_any _ rb s l ns nv e0 _ (unhide H)).mono ?_; rintro e w1 ⟨rfl, hw⟩; rw [hw]; clear hw; simp only [ByteArray.toList_mk])
    go_ret
    exact ⟨ret_bool (by rw [unhide HT, b1]; rfl), rfl⟩

set_option maxHeartbeats 1000000 in
theorem isIntTest_any (w : World) (t : Parl.Tm) (val : Int) (tx : ByteArray) (ao : Option Addr) (cap : Nat) (ht : t.kind = 2 → tx = t.text) (hk : t.kind = 2 ∨ t.kind = 3 ∨ t.kind = 4) :
    Calls Tryz.prog 136 #[.agg #[.int .i64 (ak t.kind), .int .i64 val, .string tx, .slice ao t.args.length cap]] w fun e w' => e = .returned (.bool (Parl.isInt t)) ∧ Below w.heap.size w w' := by
  by_cases h2 : t.kind = 2
  · have HT := hide (show Parl.isInt t = ((tx.toList == [105, 110, 116]) && (t.args.length == 1)) by simp [Parl.isInt, h2, ht h2])
    have ha : ak t.kind = 3 := by rw [h2]; rfl
    rw [ha]
    clear ha h2 ht hk
    generalize t.args.length = n at *
    cases b1 : (tx.toList == [105, 110, 116])
    · go_enter Tryz.func136, Tryz.ntmps136
      go_wp2_with fail
      go_ret
      exact ⟨ret_bool (by rw [unhide HT, b1]; rfl), (Below.refl _ _).alloc (Nat.le_refl _) _⟩
    · by_cases hn : n = 1
      · have hn' : ((n : Int) == 1) = true := by simp; omega
        go_enter Tryz.func136, Tryz.ntmps136
        go_wp2_with fail
        go_ret
        exact ⟨ret_bool (by rw [unhide HT, b1, hn]; rfl), (Below.refl _ _).alloc (Nat.le_refl _) _⟩
      · have hn' : ((n : Int) == 1) = false := by simp; omega
        go_enter Tryz.func136, Tryz.ntmps136
        go_wp2_with fail
        go_ret
        exact ⟨ret_bool (by rw [unhide HT, b1]; simp [hn]), (Below.refl _ _).alloc (Nat.le_refl _) _⟩
  · have HT := hide (show Parl.isInt t = false by simp [Parl.isInt, h2])
    have ha : (ak t.kind == 3) = false := by rcases hk with e | e | e <;> simp_all [ak]
    generalize ak t.kind = q at *
    clear h2 ht hk
    go_enter Tryz.func136, Tryz.ntmps136
    go_wp2_with fail
    go_ret
    exact ⟨ret_bool (by rw [unhide HT]), (Below.refl _ _).alloc (Nat.le_refl _) _⟩
end Go.Proofs.YthfjnfcekeknlaaGreatDoor
namespace Go.Proofs.YthfjnfcekeknlaaGreatDoor
open Go.RowKit

/-- A term's four cells. -/
abbrev TV := AV
/-- Through the box of a function that hands a term on. -/
theorem TA.box {f : Nat} {ns ns' : List ByteArray} {w W w1 : World} {val : Int} {tx : ByteArray} {ao : Option Addr} {cap : Nat} {t : Parl.Tm} (h : TA f ns ns' W w1 val tx ao cap t) (hW : w.heap.size < W.heap.size) (v0 v1 v2 v3 : Value) :
    TA f ns ns' w ((((w1.setCell ⟨w.heap.size, 0, none⟩ v0).setCell ⟨w.heap.size, 1, none⟩ v1).setCell ⟨w.heap.size, 2, none⟩ v2).setCell ⟨w.heap.size, 3, none⟩ v3) val tx ao cap t := by
  refine ⟨?_, h.nms⟩
  have r := h.rep.imp (Q := fun g => w.heap.size < g) fun g hg _ => by omega
  exact ((((r.set (fun g hg => by omega) 0 v0).set (fun g hg => by omega) 1 v1).set (fun g hg => by omega) 2 v2).set (fun g hg => by omega) 3 v3).imp fun g hg _ => by omega

def anyA : Nat → Prop := fun _ => True
/-- The right sides of an item lie there. -/
structure RightA (ns ns' : List ByteArray) (w' : World) (b c : TV) (sg op : ByteArray) (x : Parl.Itm) : Prop where
  sign : sg.toList = x.sign
  right : ∀ r, x.right = some r → RA 8 (nmsA ns') anyA w' b r
  op : op.toList = x.op
  last : ∀ z, x.last = some z → RA 8 (nmsA ns') anyA w' c z
  nms : nmsA ns' = Parl.nameO (Parl.nameO (nmsA ns) x.right) x.last
theorem KeepA.ra {w w' : World} (h : KeepA w w') {f : Nat} {N : List (List UInt8)} {P : Nat → Prop} {a : AV} {t : Parl.Tm} (q : RA f N P w a t) : RA f N anyA w' a t := q.keep fun g cs _ hc hi => ⟨h g cs hc hi, trivial⟩
theorem KeepA.refl (w : World) : KeepA w w := fun _ _ h _ => h
theorem KeepA.alloc (w : World) (o : Obj) : KeepA w (w.alloc o) := KeepA.below ((Below.refl _ _).alloc (Nat.le_refl _) o)
theorem KeepA.only {w w' : World} {b : Nat} (ho : OnlyB b w w') (ht : tyAt w b ≠ some 76) : KeepA w w' := fun g cs hc _ => (ho.block g (fun q => by subst q; exact ht (by unfold tyAt; rw [hc]))).trans hc
def PItem (rb : Nat) (s : ByteArray) (a0 : TV) (left : Parl.Tm) (ns : List ByteArray) (r : Parl.Res Parl.Itm) (w : World) (e : Ending) (w' : World) : Prop := match r with
  | .inl (er, pos) => ∃ (a b c : TV) (sg op : ByteArray) (l' : List Parl.Tok) (ns' : List ByteArray) (nv' : Value),
      e = .returned (.tuple #[.agg #[.int .i64 a.k, .int .i64 a.val, .string a.tx, .slice a.ao a.n a.cap, .string sg, .int .i64 b.k, .int .i64 b.val, .string b.tx, .slice b.ao b.n b.cap, .string op, .int .i64 c.k, .int .i64 c.val, .string c.tx, .slice c.ao c.n c.cap], .bool false]) ∧ St w' rb s l' ns' nv' (er : Int) ∧ (Parl.hd l').pos = pos ∧ KA rb [rb] w w'
  | .inr (x, l1) => ∃ (a b c : TV) (sg op : ByteArray) (ns' : List ByteArray) (nv' : Value) (e' : Int),
      e = .returned (.tuple #[.agg #[.int .i64 a.k, .int .i64 a.val, .string a.tx, .slice a.ao a.n a.cap, .string sg, .int .i64 b.k, .int .i64 b.val, .string b.tx, .slice b.ao b.n b.cap, .string op, .int .i64 c.k, .int .i64 c.val, .string c.tx, .slice c.ao c.n c.cap], .bool true]) ∧ (a = a0 ∧ x.left = left ∧ RightA ns ns' w' b c sg op x) ∧ St w' rb s l1 ns' nv' e' ∧ KA rb [rb] w w'

theorem box1_end {w w1 w2 : World} {rb : Nat} {s : ByteArray} {l : List Parl.Tok} {ns : List ByteArray} {nv : Value} {e : Int} {b : Nat} {cs : Array Value} {T : TypeId} (h : St w1 rb s l ns nv e) (hk : KA rb [rb] w w1) (hlt : rb < w.heap.size) (hb : w.heap.size ≤ b) (hc : w1.heap[b]? = some (.cells cs T (0, 0))) (ho : OnlyB b w1 w2) (hT : T ≠ 9 := by decide) :
    St w2 rb s l ns nv e ∧ KA rb [rb] w w2 :=
  ⟨h.only ho (by omega) (by omega) (by unfold tyAt; rw [hc]; simpa using hT), hk.onlyNew ho hb⟩

theorem box1_keep {w w1 w2 : World} {rb : Nat} {s : ByteArray} {l : List Parl.Tok} {ns : List ByteArray} {nv : Value} {e : Int} {b : Nat} {cs : Array Value} {T : TypeId} (h : St w1 rb s l ns nv e) (hk : KA rb [rb] w w1) (hlt : rb < w.heap.size) (hb : w.heap.size ≤ b) (hc : w1.heap[b]? = some (.cells cs T (0, 0))) (ho : OnlyB b w1 w2) (hT : T ≠ 9 := by decide) (hT' : T ≠ 76 := by decide) :
    (St w2 rb s l ns nv e ∧ KA rb [rb] w w2) ∧ KeepA w1 w2 :=
  ⟨box1_end h hk hlt hb hc ho hT, KeepA.only ho (by unfold tyAt; rw [hc]; simpa using hT')⟩

set_option maxHeartbeats 1000000 in
theorem operand_any (w : World) (rb : Nat) (s : ByteArray) (l : List Parl.Tok) (ns : List ByteArray) (nv : Value) (e0 : Int) (h : St w rb s l ns nv e0) :
    Calls Tryz.prog 176 #[.pointer (some ⟨rb, 0, none⟩)] w fun e w' => PTerm 8 rb s ns (Parl.operand l) w e w' := by
  have hb2 : Below w.heap.size w (w.alloc boxR) := (Below.refl _ _).alloc (Nat.le_refl _) _
  have H2 := hide (h.below hb2)
  have hlt := h.lt
  have hK0 := hide ((KA.refl rb [rb] w).alloc boxR)
  have hB0 := hide (blk_new w #[.int .i64 0, .int .i64 0, .string ⟨#[]⟩, .slice none 0 0] 76)
  have I := hide (fun W (hW : St W rb s l ns nv e0) => term_all 8 W rb s l ns nv e0 1 rfl hW)
  unfold boxR at H2 hK0
  obtain ⟨⟨c0, c1, c2, c3, c4, c5, f1, f2, f3, f4, f5⟩, own, chain, isn, few, short, signs, pos, lt⟩ := h
  clear own chain isn few short signs hb2 c0 c2 c3 c4 c5 f1 f2 f3 f4 f5
  by_cases hk : (Parl.hd l).kind = 2
  · have HO := hide (show Parl.operand l = Parl.bad 2 l by unfold Parl.operand; rw [if_pos hk])
    rw [unhide HO]
    have hk' : (((Parl.hd l).kind : Int) == 2) = true := by simp; omega
    clear hk HO
    go_enter Tryz.func176, Tryz.ntmps176
    go_wp2_with fail
    refine (refuse_any _ rb s l ns nv e0 2 (unhide H2)).mono ?_
    rintro e w1 ⟨rfl, hs, hk⟩
    have HS := hide hs
    have HK := hide ((unhide hK0).trans hk)
    have hB := blk_ka hk (unhide hB0) (by simp; omega)
    clear hs hk
    have r0 := blkC (hB) 0 rfl
    have r1 := blkC (hB) 1 rfl
    have r2 := blkC (hB) 2 rfl
    have r3 := blkC (hB) 3 rfl
    have x0 := blkF (hB) 0
    have x1 := blkF (hB) 1
    have x2 := blkF (hB) 2
    have x3 := blkF (hB) 3
    have HB := hide hB
    clear hB
    go_wp2_with fail
    have R := box1_end (unhide HS) (unhide HK) hlt (Nat.le_refl _) (unhide HB) (((((OnlyB.refl _ _).set 0 (.int .i64 0)).set 1 (.int .i64 0)).set 2 (.string ⟨#[]⟩)).set 3 (.slice none 0 0))
    refine bodyPost_ret (v := .tuple #[.agg #[.int .i64 0, .int .i64 0, .string ⟨#[]⟩, .slice none 0 0], .bool false]) (by simp [results, Tryz.results176, go_sem, r0, r1, r2, r3]) rfl ?_
    exact ⟨_, _, _, _, _, _, l, ns, nv, rfl, R.1, rfl, R.2⟩
  · have HO := hide (show Parl.operand l = Parl.term 8 l by unfold Parl.operand; rw [if_neg hk])
    rw [unhide HO]
    generalize Parl.term 8 l = r at I ⊢
    have hk' : (((Parl.hd l).kind : Int) == 2) = false := by simp; omega
    clear hk HO
    rcases r with ⟨er, pos⟩ | ⟨t, l2⟩
    · go_enter Tryz.func176, Tryz.ntmps176
      go_wp2_with fail
      refine (unhide I _ (unhide H2)).mono ?_
      rintro e w1 ⟨k, val, tx, ao, n, cap, l', ns', nv', rfl, hs, hpos, hk⟩
      have HS := hide hs
      have HP := hide hpos
      have HK := hide ((unhide hK0).trans hk)
      have hB := blk_ka hk (unhide hB0) (by simp; omega)
      clear hs hk hpos
      have r0 := blkC (hB) 0 rfl
      have r1 := blkC (hB) 1 rfl
      have r2 := blkC (hB) 2 rfl
      have r3 := blkC (hB) 3 rfl
      have x0 := blkF (hB) 0
      have x1 := blkF (hB) 1
      have x2 := blkF (hB) 2
      have x3 := blkF (hB) 3
      have HB := hide hB
      clear hB
      go_wp2_with fail
      have R := box1_end (unhide HS) (unhide HK) hlt (Nat.le_refl _) (unhide HB) (((((OnlyB.refl _ _).set 0 (.int .i64 k)).set 1 (.int .i64 val)).set 2 (.string tx)).set 3 (.slice ao n cap))
      refine bodyPost_ret (v := .tuple #[.agg #[.int .i64 k, .int .i64 val, .string tx, .slice ao n cap], .bool false]) (by simp [results, Tryz.results176, go_sem, r0, r1, r2, r3]) rfl ?_
      exact ⟨_, _, _, _, _, _, l', ns', nv', rfl, R.1, unhide HP, R.2⟩
    · go_enter Tryz.func176, Tryz.ntmps176
      go_wp2_with fail
      refine (unhide I _ (unhide H2)).mono ?_
      rintro e w1 ⟨val, tx, ao, cap, ns', nv', e', rfl, htx, hs, hk⟩
      have HS := hide hs
      have HP := hide htx
      have HK := hide ((unhide hK0).trans hk)
      have hB := blk_ka hk (unhide hB0) (by simp; omega)
      clear hs hk htx
      have r0 := blkC (hB) 0 rfl
      have r1 := blkC (hB) 1 rfl
      have r2 := blkC (hB) 2 rfl
      have r3 := blkC (hB) 3 rfl
      have x0 := blkF (hB) 0
      have x1 := blkF (hB) 1
      have x2 := blkF (hB) 2
      have x3 := blkF (hB) 3
      have HB := hide hB
      clear hB
      go_wp2_with fail
      have R := box1_end (unhide HS) (unhide HK) hlt (Nat.le_refl _) (unhide HB) (((((OnlyB.refl _ _).set 0 (.int .i64 (ak t.kind))).set 1 (.int .i64 val)).set 2 (.string tx)).set 3 (.slice ao t.args.length cap))
      refine bodyPost_ret (v := .tuple #[.agg #[.int .i64 (ak t.kind), .int .i64 val, .string tx, .slice ao t.args.length cap], .bool true]) (by simp [results, Tryz.results176, go_sem, r0, r1, r2, r3]) rfl ?_
      exact ⟨_, _, _, _, ns', nv', e', rfl, (unhide HP).box (by simp) _ _ _ _, R.1, R.2⟩
end Go.Proofs.YthfjnfcekeknlaaGreatDoor
