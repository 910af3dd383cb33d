import Derived.Test.YtombbccmeeaimaaGreatDoorP01
namespace Go.Proofs.YtombbccmeeaimaaGreatDoor
open Go.RowKit

set_option maxHeartbeats 1000000 in
theorem take_any (w : World) (rb : Nat) (s : ByteArray) (l : List Parl.Tok) (ns : List ByteArray) (nv : Value) (e0 : Int) (h : St w rb s l ns nv e0) (h0 : (Parl.hd l).kind ≠ 0) :
    Calls Tryz.prog 64 #[.pointer (some ⟨rb, 0, none⟩)] w fun e w' => e = .returned (.tuple #[]) ∧ St w' rb s l.tail ns nv e0 ∧ KA rb [rb] w w' := by
  have HS := hide h
  obtain ⟨⟨c0, c1, c2, c3, c4, c5, f1, f2, f3, f4, f5⟩, own, chain, ⟨p, isn⟩, few, short, signs, pos, lt⟩ := h
  have hfit : (Parl.hd l).pos + (Parl.hd l).text.size ≤ s.size := by rw [isn]; exact Parl.next_fits
  have hmx : s.size ≤ maxLen := by unfold maxLen; omega
  have hz : 0 < w.heap.size := by omega
  have hC := hide chain
  have HG := hide signs
  have hw : IntKind.i64.wrap (((Parl.hd l).pos : Int) + ((Parl.hd l).text.size : Int)) = ((Parl.hd l).pos : Int) + ((Parl.hd l).text.size : Int) := by rw [IntWalk.i64_in _ ⟨by omega, by omega⟩]
  have HP := hide (show ((Parl.hd l).pos : Int) + ((Parl.hd l).text.size : Int) = (((Parl.hd l).pos + (Parl.hd l).text.size : Nat) : Int) by omega)
  clear chain own isn few signs
  go_enter Tryz.func64, Tryz.ntmps64
  go_wp2
  go_region_with (go_at_call 33; rw [unhide HP]; refine (next_any s ((Parl.hd l).pos + (Parl.hd l).text.size) _ hmx hfit ((unhide HG).draws 1) hz).mono ?_; rintro e w1 ⟨rfl, hb⟩; obtain ⟨d0, d1, d2, d3, d4, d5, g1, g2, g3, g4, g5⟩ := (unhide HS).rd.below (Below.trans (Below.refl _ _).drew hb) lt)
  all_goals
    go_wp2
    go_end0
    exact ⟨rfl, take_end (unhide HS) h0 (Below.trans (Below.refl _ _).drew hb)⟩
end Go.Proofs.YtombbccmeeaimaaGreatDoor
namespace Go.Proofs.YtombbccmeeaimaaGreatDoor
open Go.RowKit

theorem takeIf_any (w : World) (rb : Nat) (s : ByteArray) (l : List Parl.Tok) (ns : List ByteArray) (nv : Value) (e0 : Int) (f : Bool) (h : St w rb s l ns nv e0) (h0 : f = true → (Parl.hd l).kind ≠ 0) :
    Calls Tryz.prog 66 #[.pointer (some ⟨rb, 0, none⟩), .bool f] w fun e w' => e = .returned (.bool f) ∧ St w' rb s (if f then l.tail else l) ns nv (if f then e0 else 2) ∧ KA rb [rb] w w' := by
  have H := hide h
  clear h
  cases f
  · go_enter Tryz.func66, Tryz.ntmps66
    go_wp2_with (go_at_call 97; refine (refuse_any _ _ _ _ _ _ _ 2 (unhide H)).mono ?_; rintro e w1 ⟨rfl, hs, hk⟩; have HS := hide hs; have HK := hide hk; clear hs hk)
    go_ret
    exact ⟨rfl, unhide HS, unhide HK⟩
  · have h0' := hide (h0 rfl)
    clear h0
    go_enter Tryz.func66, Tryz.ntmps66
    go_wp2_with (go_at_call 64; refine (take_any _ _ _ _ _ _ _ (unhide H) (unhide h0')).mono ?_; rintro e w1 ⟨rfl, hs, hk⟩; have HS := hide hs; have HK := hide hk; clear hs hk)
    go_ret
    exact ⟨rfl, unhide HS, unhide HK⟩

theorem comma_any (w : World) (rb : Nat) (s : ByteArray) (l : List Parl.Tok) (ns : List ByteArray) (nv : Value) (e0 : Int) (c m : Nat) (h : St w rb s l ns nv e0) (h0 : (Parl.hd l).kind ≠ 0) :
    Calls Tryz.prog 113 #[.pointer (some ⟨rb, 0, none⟩), .int .i64 (c : Int), .int .i64 (m : Int)] w fun e w' => e = .returned (.bool (decide (c < m))) ∧ St w' rb s (if c < m then l.tail else l) ns nv (if c < m then e0 else 3) ∧ KA rb [rb] w w' := by
  have H := hide h
  have h0' := hide h0
  clear h h0
  by_cases hc : c < m
  · rw [if_pos hc, if_pos hc]
    go_enter Tryz.func113, Tryz.ntmps113
    go_wp2_with (go_at_call 64; refine (take_any _ _ _ _ _ _ _ (unhide H) (unhide h0')).mono ?_; rintro e w1 ⟨rfl, hs, hk⟩; have HS := hide hs; have HK := hide hk; clear hs hk)
    go_ret
    exact ⟨ret_bool (by simp [hc]), unhide HS, unhide HK⟩
  · rw [if_neg hc, if_neg hc]
    go_enter Tryz.func113, Tryz.ntmps113
    go_wp2_with (go_at_call 97; refine (refuse_any _ _ _ _ _ _ _ 3 (unhide H)).mono ?_; rintro e w1 ⟨rfl, hs, hk⟩; have HS := hide hs; have HK := hide hk; clear hs hk)
    go_ret
    exact ⟨ret_bool (by simp; omega), unhide HS, unhide HK⟩

end Go.Proofs.YtombbccmeeaimaaGreatDoor
namespace Go.Proofs.YtombbccmeeaimaaGreatDoor
open Go.RowKit

/-- What mayBegin says: 0 it may; else the error. -/
def mayB (d : Nat) (t : Parl.Tok) : Nat := if Parl.begins t = true then (if t.kind = 4 ∧ 6 < t.text.size ∨ 8 < d then 3 else 0) else 2

theorem mayB_two {d : Nat} {t : Parl.Tok} (h : ¬ (t.kind = 2 ∨ t.kind = 3 ∨ t.kind = 4)) : mayB d t = 2 := by
  unfold mayB Parl.begins; rw [if_neg]; simp; omega
theorem mayB_three {d : Nat} {t : Parl.Tok} (h : t.kind = 2 ∨ t.kind = 3 ∨ t.kind = 4) (b : t.kind = 4 ∧ 6 < t.text.size ∨ 8 < d) : mayB d t = 3 := by
  unfold mayB Parl.begins; rw [if_pos, if_pos b]; simp; omega
theorem mayB_none {d : Nat} {t : Parl.Tok} (h : t.kind = 2 ∨ t.kind = 3 ∨ t.kind = 4) (b : ¬ (t.kind = 4 ∧ 6 < t.text.size ∨ 8 < d)) : mayB d t = 0 := by
  unfold mayB Parl.begins; rw [if_pos, if_neg b]; simp; omega

set_option maxHeartbeats 1000000 in
/-- It may not begin here. -/
theorem may_no (w : World) (rb : Nat) (s : ByteArray) (l : List Parl.Tok) (ns : List ByteArray) (nv : Value) (e0 : Int) (d k z : Nat) (h : St w rb s l ns nv e0) (hkk : (Parl.hd l).kind = k) (hzz : (Parl.hd l).text.size = z) (hz : z ≤ 240) (m : Nat)
    (hm : (m = 2 ∧ ¬ (k = 2 ∨ k = 3 ∨ k = 4)) ∨ (m = 3 ∧ (k = 2 ∨ k = 3 ∨ k = 4) ∧ (k = 4 ∧ 6 < z ∨ 8 < d))) :
    Calls Tryz.prog 98 #[.pointer (some ⟨rb, 0, none⟩), .int .i64 (d : Int)] w fun e w' => e = .returned (.bool false) ∧ St w' rb s l ns nv (m : Int) ∧ KA rb [rb] w w' := by
  have H := hide h
  obtain ⟨⟨c0, c1, c2, c3, c4, c5, f1, f2, f3, f4, f5⟩, own, chain, isn, few, short, signs, pos, lt⟩ := h
  clear own chain isn few short signs pos lt c0 c2 c4 c5 f1 f2 f3 f4 f5
  rw [hkk] at c1
  generalize (Parl.hd l).text = tx at c3 hzz
  clear hkk
  subst hzz
  rcases hm with ⟨rfl, hn⟩ | ⟨rfl, hk, hb⟩
  · have n2 : ((k : Int) != 2) = true := by simp; omega
    have n3 : ((k : Int) != 3) = true := by simp; omega
    have n4 : ((k : Int) != 4) = true := by simp; omega
    clear hn
    go_enter Tryz.func98, Tryz.ntmps98
    go_wp2_with (go_at_call 97; refine (refuse_any _ _ _ _ _ _ _ 2 (unhide H)).mono ?_; rintro e w1 ⟨rfl, hs, hk⟩; have HS := hide hs; have HK := hide hk; clear hs hk)
    go_ret
    exact ⟨rfl, unhide HS, unhide HK⟩
  · rcases hk with rfl | rfl | rfl
    · have hd8 : 8 < d := by omega
      clear hb
      go_enter Tryz.func98, Tryz.ntmps98
      go_wp2_with (go_at_call 97; refine (refuse_any _ _ _ _ _ _ _ 3 (unhide H)).mono ?_; rintro e w1 ⟨rfl, hs, hk⟩; have HS := hide hs; have HK := hide hk; clear hs hk)
      go_ret
      exact ⟨rfl, unhide HS, unhide HK⟩
    · have hd8 : 8 < d := by omega
      clear hb
      go_enter Tryz.func98, Tryz.ntmps98
      go_wp2_with (go_at_call 97; refine (refuse_any _ _ _ _ _ _ _ 3 (unhide H)).mono ?_; rintro e w1 ⟨rfl, hs, hk⟩; have HS := hide hs; have HK := hide hk; clear hs hk)
      go_ret
      exact ⟨rfl, unhide HS, unhide HK⟩
    · by_cases h6 : 6 < tx.size
      · clear hb
        go_enter Tryz.func98, Tryz.ntmps98
        go_wp2_with (go_at_call 97; refine (refuse_any _ _ _ _ _ _ _ 3 (unhide H)).mono ?_; rintro e w1 ⟨rfl, hs, hk⟩; have HS := hide hs; have HK := hide hk; clear hs hk)
        go_ret
        exact ⟨rfl, unhide HS, unhide HK⟩
      · have hd8 : 8 < d := by omega
        clear hb
        go_enter Tryz.func98, Tryz.ntmps98
        go_wp2_with (go_at_call 97; refine (refuse_any _ _ _ _ _ _ _ 3 (unhide H)).mono ?_; rintro e w1 ⟨rfl, hs, hk⟩; have HS := hide hs; have HK := hide hk; clear hs hk)
        go_ret
        exact ⟨rfl, unhide HS, unhide HK⟩

set_option maxHeartbeats 1000000 in
/-- It may. -/
theorem may_yes (w : World) (rb : Nat) (s : ByteArray) (l : List Parl.Tok) (ns : List ByteArray) (nv : Value) (e0 : Int) (d k z : Nat) (h : St w rb s l ns nv e0) (hkk : (Parl.hd l).kind = k) (hzz : (Parl.hd l).text.size = z) (hz : z ≤ 240)
    (hk : k = 2 ∨ k = 3 ∨ k = 4) (hn : ¬ (k = 4 ∧ 6 < z ∨ 8 < d)) :
    Calls Tryz.prog 98 #[.pointer (some ⟨rb, 0, none⟩), .int .i64 (d : Int)] w fun e w' => e = .returned (.bool true) ∧ w' = w := by
  obtain ⟨⟨c0, c1, c2, c3, c4, c5, f1, f2, f3, f4, f5⟩, own, chain, isn, few, short, signs, pos, lt⟩ := h
  clear own chain isn few short signs pos lt c0 c2 c4 c5 f1 f2 f3 f4 f5
  rw [hkk] at c1
  generalize (Parl.hd l).text = tx at c3 hzz
  clear hkk
  subst hzz
  have hd8 : d ≤ 8 := by omega
  rcases hk with rfl | rfl | rfl
  · clear hn
    go_enter Tryz.func98, Tryz.ntmps98
    go_wp2_with fail
    go_ret
    exact ⟨rfl, rfl⟩
  · clear hn
    go_enter Tryz.func98, Tryz.ntmps98
    go_wp2_with fail
    go_ret
    exact ⟨rfl, rfl⟩
  · have h6 : tx.size ≤ 6 := by omega
    clear hn
    go_enter Tryz.func98, Tryz.ntmps98
    go_wp2_with fail
    go_ret
    exact ⟨rfl, rfl⟩

theorem mayBegin_any (w : World) (rb : Nat) (s : ByteArray) (l : List Parl.Tok) (ns : List ByteArray) (nv : Value) (e0 : Int) (d : Nat) (h : St w rb s l ns nv e0) :
    Calls Tryz.prog 98 #[.pointer (some ⟨rb, 0, none⟩), .int .i64 (d : Int)] w fun e w' => e = .returned (.bool (mayB d (Parl.hd l) == 0)) ∧ St w' rb s l ns nv (if mayB d (Parl.hd l) = 0 then e0 else (mayB d (Parl.hd l) : Int)) ∧ KA rb [rb] w w' := by
  have hz : (Parl.hd l).text.size ≤ 240 := by obtain ⟨p, e⟩ := h.isNext; have h1 := h.short; have h2 := @Parl.next_fits s p; rw [e]; omega
  by_cases hk : (Parl.hd l).kind = 2 ∨ (Parl.hd l).kind = 3 ∨ (Parl.hd l).kind = 4
  · by_cases hb : (Parl.hd l).kind = 4 ∧ 6 < (Parl.hd l).text.size ∨ 8 < d
    · rw [mayB_three hk hb]
      exact may_no w rb s l ns nv e0 d _ _ h rfl rfl hz 3 (Or.inr ⟨rfl, hk, hb⟩)
    · rw [mayB_none hk hb]
      refine (may_yes w rb s l ns nv e0 d _ _ h rfl rfl hz hk hb).mono ?_
      rintro e w' ⟨rfl, rfl⟩
      exact ⟨rfl, h, KA.refl _ _ _⟩
  · rw [mayB_two hk]
    exact may_no w rb s l ns nv e0 d _ _ h rfl rfl hz 2 (Or.inl ⟨rfl, hk⟩)
end Go.Proofs.YtombbccmeeaimaaGreatDoor
namespace Go.Proofs.YtombbccmeeaimaaGreatDoor
open Go.RowKit

theorem Tryz.info9 : (Tryz.prog.info? 9).map (fun i => (i.zero, i.size, i.bytes)) = some (some (.string ⟨#[]⟩), 1, 16) := by kernel_rfl

theorem valueOf_any (g : ByteArray) (w : World) (hg : g.size ≤ 240) : Calls Tryz.prog 100 #[.string g] w fun e w' => (∃ n : Int, e = .returned (.int .i64 n)) ∧ w' = w := by
  go_enter Tryz.func100, Tryz.ntmps100
  go_wp2
  go_loop [3, 4] (fun v i => ∃ (k : Nat) (n : Int), k ≤ g.size ∧ i = .int .i64 k ∧ v = .int .i64 n) (fun _ i => g.size - (intOf i).toNat)
  case atStart => exact ⟨0, 0, by omega, rfl, rfl⟩
  case round =>
    obtain ⟨k, n, hk, rfl, rfl⟩ := hrel
    by_cases hlt : k < g.size
    · go_wp2
      go_round
      case rel => exact ⟨k + 1, _, by omega, by go_num, rfl⟩
      case measure => simp [intOf]; omega
    · go_wp2
      go_ret
      exact ⟨⟨n, rfl⟩, rfl⟩

/-- The names' cell behind the append. -/
theorem names_cell {w w1 : World} {rb : Nat} {s : ByteArray} {l : List Parl.Tok} {ns : List ByteArray} {nv : Value} {e0 : Int} {o : Obj} (h : St w rb s l ns nv e0) (hg : (w.alloc o).grownBy w1 nv.ownBlock) :
    w1.cell? ⟨rb, 4, none⟩ = some nv ∧ w1.frozen? ⟨rb, 4, none⟩ = false := by
  have hne : some rb ≠ nv.ownBlock := fun e => by have := (h.own.lt rb e.symm).1; omega
  have hb := hg.block rb (by simp; have := h.lt; omega) hne
  exact ⟨by rw [World.cell?_of_block (a := ⟨rb, 4, none⟩) hb, World.cell?_alloc_past _ _ _ h.lt]; exact h.rd.c4, by rw [World.frozen?_of_block (a := ⟨rb, 4, none⟩) hb, World.frozen?_alloc_past _ _ _ h.lt]; exact h.rd.f4⟩
/-- A row that owns something is no nil. -/
theorem own_some {w : World} {b : Nat} {e : TypeId} {sz : Nat} {v : Value} {n : Nat} {xs : List Value} (h : w.ownsRow b e sz v (n + 1) xs) : ∃ g cap, v = .slice (some ⟨g, 0, none⟩) (n + 1) cap ∧ cap ≤ maxLen := by
  rcases h.2 with ⟨_, q⟩ | ⟨g, cap, cur, q, _, _, _, m, _⟩
  · omega
  · exact ⟨g, cap, q, m⟩
/-- What stands behind a store of the names. -/
theorem names_end {w w1 : World} {rb : Nat} {s : ByteArray} {l : List Parl.Tok} {ns : List ByteArray} {nv nv' : Value} {e0 : Int} {g : ByteArray} {o : Obj} (h : St w rb s l ns nv e0) (few : ns.length + l.length < 1000)
    (hown : w1.ownsRow (rb + 1) 9 1 nv' (ns.length + 1) (ns.map Value.string ++ [.string g])) (hg : (w.alloc o).grownBy w1 nv.ownBlock) :
    St (w1.setCell ⟨rb, 4, none⟩ nv') rb s l (ns ++ [g]) nv' e0 ∧ KA rb [rb] w (w1.setCell ⟨rb, 4, none⟩ nv') := by
  have hka : KA rb [rb] w w1 := ((KA.refl rb [rb] w).alloc o).grown hg (fun k hk => by
    have h1 := h.own.lt k hk
    rcases h.own.2 with ⟨rfl, _⟩ | ⟨q, cap, cur, rfl, hb, hq, _⟩
    · simp [Value.ownBlock] at hk
    · simp [Value.ownBlock] at hk
      subst hk
      refine Or.inr (Or.inr ⟨by omega, ?_⟩)
      unfold tyAt
      rw [Below.heap_alloc _ _ _ h1.2, hq])
  have hne : some rb ≠ nv.ownBlock := fun e => by have := (h.own.lt rb e.symm).1; omega
  have cell : ∀ i v, w.cell? ⟨rb, i, none⟩ = some v → w1.cell? ⟨rb, i, none⟩ = some v := fun i v q => by
    rw [World.cell?_of_block (a := ⟨rb, i, none⟩) (hg.block rb (by simp; have := h.lt; omega) hne), World.cell?_alloc_past _ _ _ h.lt]; exact q
  have fro : ∀ i, w.frozen? ⟨rb, i, none⟩ = false → w1.frozen? ⟨rb, i, none⟩ = false := fun i q => by
    rw [World.frozen?_of_block (a := ⟨rb, i, none⟩) (hg.block rb (by simp; have := h.lt; omega) hne), World.frozen?_alloc_past _ _ _ h.lt]; exact q
  have z : rb ≠ 0 := by have := h.pos; omega
  have sg : Signs w1 := h.signs.ka hka (by have := h.lt; omega) (by simp; omega) h.pos
  obtain ⟨⟨c0, c1, c2, c3, c4, c5, f1, f2, f3, f4, f5⟩, own, chain, isn, few1, short, signs, pos, lt⟩ := h
  have d0 := cell _ _ c0
  have d1 := cell _ _ c1
  have d2 := cell _ _ c2
  have d3 := cell _ _ c3
  have d4 := cell _ _ c4
  have d5 := cell _ _ c5
  have g1 := fro _ f1
  have g2 := fro _ f2
  have g3 := fro _ f3
  have g4 := fro _ f4
  have g5 := fro _ f5
  refine ⟨⟨⟨by go_cell, by go_cell, by go_cell, by go_cell, by go_cell, by go_cell, by go_cell, by go_cell, by go_cell, by go_cell, by go_cell⟩, ?_, chain, isn, by simp; omega, short, sg.setCell (by exact z) _, pos, by have := hka.size; simp; omega⟩, hka.setIn (by simp) _⟩
  have := own_setCell hown 4 nv'
  simpa using this

/-- What 'variable' leaves. -/
def PVar (rb : Nat) (s : ByteArray) (l : List Parl.Tok) (e0 : Int) (w : World) (e : Ending) (w' : World) : Prop := ∃ (i : Int) (ns' : List ByteArray) (nv' : Value), e = .returned (.int .i64 i) ∧ St w' rb s l ns' nv' e0 ∧ KA rb [rb] w w'

set_option maxHeartbeats 1000000 in
theorem variable_any (w : World) (rb : Nat) (s : ByteArray) (l : List Parl.Tok) (ns : List ByteArray) (nv : Value) (e0 : Int) (g : ByteArray) (h : St w rb s l ns nv e0) (few : ns.length + l.length < 1000) :
    Calls Tryz.prog 99 #[.pointer (some ⟨rb, 0, none⟩), .string g] w fun e w' => PVar rb s l e0 w e w' := by
  have H := hide h
  obtain ⟨i0, hi, hz0, hz1, hz2⟩ := info_parts Tryz.info9
  have hnl : ns.length ≤ 1000 := by have := h.few; omega
  rcases h.own.2 with ⟨hnv, hn0⟩ | ⟨q, cap, cur, hnv, hb, hq, hcap, hmx, _⟩
  · subst hnv
    obtain rfl : ns = [] := List.length_eq_zero_iff.1 hn0
    have hown := h.own
    obtain ⟨⟨c0, c1, c2, c3, c4, c5, f1, f2, f3, f4, f5⟩, own, chain, isn, few1, short, signs, pos, lt⟩ := h
    clear own chain isn few1 short signs
    go_enter Tryz.func99, Tryz.ntmps99
    go_wp2
    refine wp_loop_rounds 1 ?_
    rw [rounds_succ]
    go_wp2_with (first | (at_builtin; refine wpList_append_own _ rfl (.tmp 26) (.tmp 28) 65 rfl (rb + 1) 9 i0 (.string ⟨#[]⟩) 1 16 Tryz.underlying65 hi hz0 hz1 hz2 rfl (by decide) _ 0 [] rfl (hown.alloc _) ⟨w.heap.size, 0, none⟩ 1 1 [.string g] rfl rfl (by intro j u hj; match j, hj with | 0, hj => simp at hj; subst hj; simp [Addr.add]) (by intro u hu; simp at hu; subst hu; rfl) (by unfold maxLen; omega) (by omega) (by simp; omega) ?_; intro v' w1 hown' hgrow _; have R := hide (names_end (unhide H) few hown' hgrow); obtain ⟨d4, x4⟩ := names_cell (unhide H) hgrow; obtain ⟨g', cap', hv, hcm⟩ := own_some hown'; rw [hv] at R ⊢; clear hown' hgrow hv))
    go_ret
    exact ⟨_, _, _, rfl, (unhide R).1, (unhide R).2⟩
  · subst hnv
    have hown := h.own
    have hcell := hide (fun k (hk : k < ns.length) => (h.own.cellAt k (by omega)))
    obtain ⟨⟨c0, c1, c2, c3, c4, c5, f1, f2, f3, f4, f5⟩, own, chain, isn, few1, short, signs, pos, lt⟩ := h
    clear own chain isn few1 short signs hq
    go_enter Tryz.func99, Tryz.ntmps99
    go_wp2
    go_loop [12] (fun v => ∃ k : Nat, k ≤ ns.length ∧ v = .int .i64 k) (fun v => ns.length - (intOf v).toNat)
    case atStart => exact ⟨0, by omega, rfl⟩
    case round =>
      obtain ⟨k, hk, rfl⟩ := hrel
      by_cases hlt : k < ns.length
      · have hc : w.cell? ⟨q, k, none⟩ = some (.string ns[k]) := by rw [unhide hcell k hlt]; simp [hlt]
        cases he : (ns[k].toList == g.toList)
        · go_wp2_with fail
          go_round
          case rel => exact ⟨k + 1, by omega, by go_num⟩
          case measure => simp [intOf]; omega
        · go_wp2_with fail
          go_ret
          exact ⟨_, _, _, rfl, unhide H, KA.refl _ _ _⟩
      · go_wp2_with (first | (at_builtin; refine wpList_append_own _ rfl (.tmp 26) (.tmp 28) 65 rfl (rb + 1) 9 i0 (.string ⟨#[]⟩) 1 16 Tryz.underlying65 hi hz0 hz1 hz2 rfl (by decide) _ ns.length _ rfl (hown.alloc _) ⟨w.heap.size, 0, none⟩ 1 1 [.string g] rfl rfl (by intro j u hj; match j, hj with | 0, hj => simp at hj; subst hj; simp [Addr.add]) (by intro u hu; simp at hu; subst hu; rfl) (by unfold maxLen; omega) (by omega) (by simp; omega) ?_; intro v' w1 hown' hgrow _; have R := hide (names_end (unhide H) few hown' hgrow); obtain ⟨d4, x4⟩ := names_cell (unhide H) hgrow; obtain ⟨g', cap', hv, hcm⟩ := own_some hown'; rw [hv] at R ⊢; clear hown' hgrow hv))
        go_ret
        exact ⟨_, _, _, rfl, (unhide R).1, (unhide R).2⟩
end Go.Proofs.YtombbccmeeaimaaGreatDoor
namespace Go.Proofs.YtombbccmeeaimaaGreatDoor
open Go.RowKit

/-- The kinds of terms, as the program numbers them. -/
def ak (k : Nat) : Int := if k = 3 then 1 else if k = 4 then 2 else 3

def PTerm (rb : Nat) (s : ByteArray) (r : Parl.Res Parl.Tm) (w : World) (e : Ending) (w' : World) : Prop := match r with
  | .inl (er, pos) => ∃ (k val : Int) (tx : ByteArray) (ao : Option Addr) (n cap : Nat) (l' : List Parl.Tok) (ns' : List ByteArray) (nv' : Value),
      e = .returned (.tuple #[.agg #[.int .i64 k, .int .i64 val, .string tx, .slice ao n cap], .bool false]) ∧ St w' rb s l' ns' nv' (er : Int) ∧ (Parl.hd l').pos = pos ∧ KA rb [rb] w w'
  | .inr (t, l1) => ∃ (val : Int) (tx : ByteArray) (ao : Option Addr) (cap : Nat) (ns' : List ByteArray) (nv' : Value) (e' : Int),
      e = .returned (.tuple #[.agg #[.int .i64 (ak t.kind), .int .i64 val, .string tx, .slice ao t.args.length cap], .bool true]) ∧ (t.kind = 2 → tx = t.text) ∧ St w' rb s l1 ns' nv' e' ∧ KA rb [rb] w w'

def PArgs (rb : Nat) (s : ByteArray) (r : Parl.Res (List Parl.Tm)) (w : World) (e : Ending) (w' : World) : Prop := match r with
  | .inl (er, pos) => ∃ (l' : List Parl.Tok) (ns' : List ByteArray) (nv' : Value) (ao : Option Addr) (n cap : Nat),
      e = .returned (.tuple #[.slice ao n cap, .bool false]) ∧ St w' rb s l' ns' nv' (er : Int) ∧ (Parl.hd l').pos = pos ∧ KA rb [rb] w w'
  | .inr (ts, l1) => ∃ (ao : Option Addr) (cap : Nat) (ns' : List ByteArray) (nv' : Value) (e' : Int),
      e = .returned (.tuple #[.slice ao ts.length cap, .bool true]) ∧ St w' rb s l1 ns' nv' e' ∧ KA rb [rb] w w'

/-- The arguments that may stand behind a name. -/
def optArgs (f : Nat) (l : List Parl.Tok) : Parl.Res (List Parl.Tm) := if Parl.sees l [40] = true then Parl.argsOf (Parl.term f) 2 l.tail else .inr ([], l)

def TermSaid (f : Nat) : Prop := ∀ (w : World) (rb : Nat) (s : ByteArray) (l : List Parl.Tok) (ns : List ByteArray) (nv : Value) (e0 : Int) (d : Nat), f + d = 9 → St w rb s l ns nv e0 →
  Calls Tryz.prog 62 #[.pointer (some ⟨rb, 0, none⟩), .int .i64 (d : Int)] w fun e w' => PTerm rb s (Parl.term f l) w e w'
def ArgsSaid (f : Nat) : Prop := ∀ (w : World) (rb : Nat) (s : ByteArray) (l : List Parl.Tok) (ns : List ByteArray) (nv : Value) (e0 : Int) (d : Nat), f + d = 9 → St w rb s l ns nv e0 →
  Calls Tryz.prog 101 #[.pointer (some ⟨rb, 0, none⟩), .int .i64 (d : Int)] w fun e w' => PArgs rb s (optArgs f l) w e w'

theorem term_zero (l : List Parl.Tok) : Parl.term 0 l = Parl.bad (mayB 9 (Parl.hd l)) l := by
  unfold Parl.term mayB
  by_cases h : Parl.begins (Parl.hd l) = true
  · rw [if_pos h, if_pos h, if_pos (by omega)]
  · rw [if_neg h, if_neg h]
theorem mayB9 (t : Parl.Tok) : mayB 9 t ≠ 0 := by unfold mayB; split <;> (try rw [if_pos (by omega)]) <;> omega
theorem term_bad {f d : Nat} {l : List Parl.Tok} (hd : d ≤ 8) (h : mayB d (Parl.hd l) ≠ 0) : Parl.term (f + 1) l = Parl.bad (mayB d (Parl.hd l)) l := by
  unfold Parl.term mayB at *
  by_cases hb : Parl.begins (Parl.hd l) = true
  · rw [if_pos hb] at h ⊢
    rw [if_pos hb]
    by_cases hc : (Parl.hd l).kind = 4 ∧ 6 < (Parl.hd l).text.size
    · rw [if_pos hc, if_pos (Or.inl hc)]
    · rw [if_neg (by omega)] at h; exact absurd rfl h
  · rw [if_neg hb, if_neg hb]
theorem term_name {f d : Nat} {l : List Parl.Tok} (_h : mayB d (Parl.hd l) = 0) (hk : (Parl.hd l).kind = 2) : Parl.term (f + 1) l = match optArgs f l.tail with
    | .inl e => .inl e
    | .inr (ts, l2) => .inr (⟨2, (Parl.hd l).text, ts⟩, l2) := by
  have hb : Parl.begins (Parl.hd l) = true := by simp [Parl.begins, hk]
  rw [Parl.term, if_pos hb, if_neg (by omega), if_pos hk]
  unfold optArgs
  by_cases hs : Parl.sees l.tail [40] = true
  · rw [if_pos hs, if_pos hs]
    rcases Parl.argsOf (Parl.term f) 2 l.tail.tail with e | ⟨ts, l2⟩ <;> rfl
  · rw [if_neg hs, if_neg hs]
theorem term_leaf {f d : Nat} {l : List Parl.Tok} (h : mayB d (Parl.hd l) = 0) (hk : (Parl.hd l).kind = 3 ∨ (Parl.hd l).kind = 4) : Parl.term (f + 1) l = .inr (⟨(Parl.hd l).kind, (Parl.hd l).text, []⟩, l.tail) := by
  have hb : Parl.begins (Parl.hd l) = true := by rcases hk with e | e <;> simp [Parl.begins, e]
  unfold mayB at h
  rw [if_pos hb] at h
  have hc : ¬ ((Parl.hd l).kind = 4 ∧ 6 < (Parl.hd l).text.size) := fun q => by rw [if_pos (Or.inl q)] at h; omega
  rw [Parl.term, if_pos hb, if_neg hc, if_neg (by omega)]
theorem mayB_kind {d : Nat} {t : Parl.Tok} (h : mayB d t = 0) : t.kind = 2 ∨ t.kind = 3 ∨ t.kind = 4 := by
  unfold mayB at h
  by_cases hb : Parl.begins t = true
  · simpa [Parl.begins, or_assoc] using hb
  · rw [if_neg hb] at h; omega

/-- A cell of a block that is neither the reader's nor a row of texts stays. -/
theorem KA.loc {rb : Nat} {W w : World} (hk : KA rb [rb] W w) {b i : Nat} {v : Value} (hc : W.cell? ⟨b, i, none⟩ = some v) (hb : b < W.heap.size) (hne : b ≠ rb) (ht : tyAt W b ≠ some 9) : w.cell? ⟨b, i, none⟩ = some v :=
  (hk.cell (p := ⟨b, i, none⟩) hb (by simpa using hne) (Or.inr ht)).trans hc
theorem KA.locF {rb : Nat} {W w : World} (hk : KA rb [rb] W w) {b i : Nat} (hc : W.frozen? ⟨b, i, none⟩ = false) (hb : b < W.heap.size) (hne : b ≠ rb) (ht : tyAt W b ≠ some 9) : w.frozen? ⟨b, i, none⟩ = false :=
  (hk.frozen (p := ⟨b, i, none⟩) hb (by simpa using hne) (Or.inr ht)).trans hc

/-- The two boxes that 'term' lays: its result's, its first token's. -/
def boxR : Obj := .cells #[.int .i64 0, .int .i64 0, .string ⟨#[]⟩, .slice none 0 0] 86
def boxT (t : Parl.Tok) : Obj := .cells #[.int .i64 (t.kind : Int), .int .i64 (t.pos : Int), .string t.text] 80

/-- What is known of the boxes in a later world. -/
structure Boxes (w : World) (n : Nat) (t : Parl.Tok) : Prop where
  r0 : w.cell? ⟨n, 0, none⟩ = some (.int .i64 0)
  r1 : w.cell? ⟨n, 1, none⟩ = some (.int .i64 0)
  r2 : w.cell? ⟨n, 2, none⟩ = some (.string ⟨#[]⟩)
  r3 : w.cell? ⟨n, 3, none⟩ = some (.slice none 0 0)
  x0 : w.frozen? ⟨n, 0, none⟩ = false
  x1 : w.frozen? ⟨n, 1, none⟩ = false
  x2 : w.frozen? ⟨n, 2, none⟩ = false
  x3 : w.frozen? ⟨n, 3, none⟩ = false
  t0 : w.cell? ⟨n + 1, 0, none⟩ = some (.int .i64 (t.kind : Int))
  t2 : w.cell? ⟨n + 1, 2, none⟩ = some (.string t.text)

theorem boxes {rb : Nat} {w w1 : World} {t : Parl.Tok} (hlt : rb < w.heap.size) (hk : KA rb [rb] ((w.alloc boxR).alloc (boxT t)) w1) : Boxes w1 w.heap.size t := by
  have ty0 : tyAt ((w.alloc boxR).alloc (boxT t)) w.heap.size ≠ some 9 := by
    unfold tyAt; rw [Below.heap_alloc _ _ _ (by simp), heap_alloc_new]; simp [boxR]
  have ty1 : tyAt ((w.alloc boxR).alloc (boxT t)) (w.heap.size + 1) ≠ some 9 := by
    unfold tyAt
    have := heap_alloc_new (w.alloc boxR) (boxT t)
    rw [World.size_alloc] at this
    rw [this]; simp [boxT]
  refine ⟨hk.loc ?_ ?_ ?_ ty0, hk.loc ?_ ?_ ?_ ty0, hk.loc ?_ ?_ ?_ ty0, hk.loc ?_ ?_ ?_ ty0, hk.locF ?_ ?_ ?_ ty0, hk.locF ?_ ?_ ?_ ty0, hk.locF ?_ ?_ ?_ ty0, hk.locF ?_ ?_ ?_ ty0, hk.loc ?_ ?_ ?_ ty1, hk.loc ?_ ?_ ?_ ty1⟩
  all_goals first | (simp; done) | omega | (simp; omega) | (simp [boxR, boxT]; done)
end Go.Proofs.YtombbccmeeaimaaGreatDoor
namespace Go.Proofs.YtombbccmeeaimaaGreatDoor
open Go.RowKit

theorem tyAt_setCell (w : World) (a : Addr) (v : Value) (k : Nat) : tyAt (w.setCell a v) k = tyAt w k := by
  unfold tyAt World.setCell
  simp only [Array.getElem?_modify]
  by_cases h : a.block = k
  · rw [if_pos h]
    cases hq : w.heap[k]? with
    | none => rfl
    | some o => cases o <;> rfl
  · rw [if_neg h]
theorem KA.ty {b : Nat} {X : List Nat} {w w' : World} (h : KA b X w w') {k : Nat} (hk : k < w.heap.size) (hX : k ∉ X) (ht : tyAt w k ≠ some 9) : tyAt w' k = tyAt w k := by
  unfold tyAt; rw [h.block k hk hX (Or.inr ht)]

theorem St.setBox {w : World} {rb : Nat} {s : ByteArray} {l : List Parl.Tok} {ns : List ByteArray} {nv : Value} {e : Int} (h : St w rb s l ns nv e) {b : Nat} (hb : b ≠ rb) (h0 : b ≠ 0) (ht : tyAt w b ≠ some 9) (i : Nat) (v : Value) : St (w.setCell ⟨b, i, none⟩ v) rb s l ns nv e := by
  have k : ∀ q, q ≠ b → (w.setCell ⟨b, i, none⟩ v).heap[q]? = w.heap[q]? := fun q hq => Below.heap_setCell _ _ _ _ hq
  have c : ∀ o, (w.setCell ⟨b, i, none⟩ v).cell? ⟨rb, o, none⟩ = w.cell? ⟨rb, o, none⟩ := fun o => World.cell?_of_block (k rb (Ne.symm hb))
  have f : ∀ o, (w.setCell ⟨b, i, none⟩ v).frozen? ⟨rb, o, none⟩ = w.frozen? ⟨rb, o, none⟩ := fun o => World.frozen?_of_block (k rb (Ne.symm hb))
  obtain ⟨⟨c0, c1, c2, c3, c4, c5, f1, f2, f3, f4, f5⟩, own, chain, isn, few, short, signs, pos, lt⟩ := h
  refine ⟨⟨(c 0).trans c0, (c 1).trans c1, (c 2).trans c2, (c 3).trans c3, (c 4).trans c4, (c 5).trans c5, (f 1).trans f1, (f 2).trans f2, (f 3).trans f3, (f 4).trans f4, (f 5).trans f5⟩, ⟨own.1, ?_⟩, chain, isn, few, short, signs.setCell h0 _, pos, by simpa using lt⟩
  rcases own.2 with q | ⟨g, cap, cur, a, b', c', d⟩
  · exact Or.inl q
  · refine Or.inr ⟨g, cap, cur, a, b', ?_, d⟩
    rw [k g (fun e => ht (by rw [← e]; unfold tyAt; rw [c']))]
    exact c'

/-- Storing the result into its box. -/
theorem box_end {w w1 : World} {rb : Nat} {s : ByteArray} {l' : List Parl.Tok} {ns : List ByteArray} {nv : Value} {e : Int} {t : Parl.Tok} (hk : KA rb [rb] ((w.alloc boxR).alloc (boxT t)) w1) (h : St w1 rb s l' ns nv e) (hlt : rb < w.heap.size) (v0 v1 v2 v3 : Value) :
    St ((((w1.setCell ⟨w.heap.size, 0, none⟩ v0).setCell ⟨w.heap.size, 1, none⟩ v1).setCell ⟨w.heap.size, 2, none⟩ v2).setCell ⟨w.heap.size, 3, none⟩ v3) rb s l' ns nv e ∧
    KA rb [rb] w ((((w1.setCell ⟨w.heap.size, 0, none⟩ v0).setCell ⟨w.heap.size, 1, none⟩ v1).setCell ⟨w.heap.size, 2, none⟩ v2).setCell ⟨w.heap.size, 3, none⟩ v3) := by
  have ty0 : tyAt ((w.alloc boxR).alloc (boxT t)) w.heap.size = some 86 := by
    unfold tyAt; rw [Below.heap_alloc _ _ _ (by simp), heap_alloc_new]; simp [boxR]
  have ne : w.heap.size ≠ rb := by omega
  have n0 : w.heap.size ≠ 0 := by omega
  have ty1 : tyAt w1 w.heap.size ≠ some 9 := by
    rw [hk.ty (by simp; omega) (by simpa using ne) (by rw [ty0]; simp), ty0]; simp
  have base : KA rb [rb] w w1 := (((KA.refl rb [rb] w).alloc _).alloc _).trans hk
  refine ⟨?_, (((base.setNew (Nat.le_refl _) _).setNew (Nat.le_refl _) _).setNew (Nat.le_refl _) _).setNew (Nat.le_refl _) _⟩
  have a1 := h.setBox ne n0 ty1 0 v0
  have a2 := a1.setBox ne n0 (by rw [tyAt_setCell]; exact ty1) 1 v1
  have a3 := a2.setBox ne n0 (by rw [tyAt_setCell, tyAt_setCell]; exact ty1) 2 v2
  exact a3.setBox ne n0 (by rw [tyAt_setCell, tyAt_setCell, tyAt_setCell]; exact ty1) 3 v3
end Go.Proofs.YtombbccmeeaimaaGreatDoor
namespace Go.Proofs.YtombbccmeeaimaaGreatDoor
open Go.RowKit

theorem blk_set {w : World} {b : Nat} {cs : Array Value} {T : TypeId} (h : w.heap[b]? = some (.cells cs T (0, 0))) (i : Nat) (v : Value) : (w.setCell ⟨b, i, none⟩ v).heap[b]? = some (.cells (cs.setIfInBounds i v) T (0, 0)) := by
  simp [World.setCell, Array.getElem?_modify, h]
theorem blk_other {w : World} {b : Nat} {x : Obj} (h : w.heap[b]? = some x) {b' : Nat} (hne : b ≠ b') (i : Nat) (v : Value) : (w.setCell ⟨b', i, none⟩ v).heap[b]? = some x := (Below.heap_setCell _ _ _ _ hne).trans h
theorem blk_set5 {w : World} {b : Nat} {T : TypeId} {c0 c1 c2 c3 c4 c5 c6 c7 c8 c9 c10 c11 c12 c13 : Value} (v5 v6 v7 v8 v9 : Value) (h : w.heap[b]? = some (.cells #[c0, c1, c2, c3, c4, c5, c6, c7, c8, c9, c10, c11, c12, c13] T (0, 0))) : (((((w.setCell ⟨b, 5, none⟩ v5).setCell ⟨b, 6, none⟩ v6).setCell ⟨b, 7, none⟩ v7).setCell ⟨b, 8, none⟩ v8).setCell ⟨b, 9, none⟩ v9).heap[b]? = some (.cells #[c0, c1, c2, c3, c4, v5, v6, v7, v8, v9, c10, c11, c12, c13] T (0, 0)) := by
  have := blk_set (blk_set (blk_set (blk_set (blk_set h 5 v5) 6 v6) 7 v7) 8 v8) 9 v9
  simpa using this
theorem blk_other5 {w : World} {b b' : Nat} {x : Obj} (v5 v6 v7 v8 v9 : Value) (h : w.heap[b']? = some x) (hne : b' ≠ b) : (((((w.setCell ⟨b, 5, none⟩ v5).setCell ⟨b, 6, none⟩ v6).setCell ⟨b, 7, none⟩ v7).setCell ⟨b, 8, none⟩ v8).setCell ⟨b, 9, none⟩ v9).heap[b']? = some x :=
  blk_other (blk_other (blk_other (blk_other (blk_other h hne 5 v5) hne 6 v6) hne 7 v7) hne 8 v8) hne 9 v9
end Go.Proofs.YtombbccmeeaimaaGreatDoor
namespace Parl

/-- Behind a term in brackets: k more at most. -/
def contArgs (p : List Tok → Res Tm) (k : Nat) (l1 : List Tok) : Res (List Tm) :=
  if sees l1 [44] = true then (match k with
    | 0 => bad 3 l1
    | k + 1 => argsOf p k l1.tail)
  else if sees l1 [41] = true then .inr ([], l1.tail) else bad 2 l1
def preT (ts : List Tm) (r : Res (List Tm)) : Res (List Tm) := match r with
  | .inl e => .inl e
  | .inr (us, l2) => .inr (ts ++ us, l2)

theorem args_cont (p : List Tok → Res Tm) (k : Nat) (l : List Tok) : argsOf p k l = match p l with
    | .inl e => .inl e
    | .inr (t, l1) => preT [t] (contArgs p k l1) := by
  unfold argsOf contArgs
  rcases p l with e | ⟨t, l1⟩
  · rfl
  · dsimp only
    by_cases hc : sees l1 [44] = true
    · rw [if_pos hc, if_pos hc]
      cases k with
      | zero => rfl
      | succ k =>
        dsimp only
        rcases argsOf p k l1.tail with e | ⟨us, l2⟩ <;> rfl
    · rw [if_neg hc, if_neg hc]
      by_cases hb : sees l1 [41] = true
      · rw [if_pos hb, if_pos hb]; rfl
      · rw [if_neg hb, if_neg hb]; rfl
theorem preT_nil (r : Res (List Tm)) : preT [] r = r := by rcases r with e | ⟨us, l2⟩ <;> rfl
theorem preT_preT (a b : List Tm) (r : Res (List Tm)) : preT a (preT b r) = preT (a ++ b) r := by rcases r with e | ⟨us, l2⟩ <;> simp [preT]

theorem argsOf_err {p : List Tok → Res Tm} (hp : ∀ l e, p l = .inl e → e.1 = 2 ∨ e.1 = 3) : ∀ k l e, argsOf p k l = .inl e → e.1 = 2 ∨ e.1 = 3 := by
  intro k
  induction k with
  | zero =>
    intro l e h
    rw [args_cont] at h
    rcases hr : p l with x | ⟨t, l1⟩
    · rw [hr] at h; injection h with h; subst h; exact hp _ _ hr
    · rw [hr] at h
      dsimp only at h
      unfold contArgs at h
      by_cases hc : sees l1 [44] = true
      · rw [if_pos hc] at h; simp only [preT, bad, Sum.inl.injEq] at h; subst h; exact Or.inr rfl
      · rw [if_neg hc] at h
        by_cases hb : sees l1 [41] = true
        · rw [if_pos hb] at h; cases h
        · rw [if_neg hb] at h; simp only [preT, bad, Sum.inl.injEq] at h; subst h; exact Or.inl rfl
  | succ k ih =>
    intro l e h
    rw [args_cont] at h
    rcases hr : p l with x | ⟨t, l1⟩
    · rw [hr] at h; injection h with h; subst h; exact hp _ _ hr
    · rw [hr] at h
      dsimp only at h
      unfold contArgs at h
      by_cases hc : sees l1 [44] = true
      · rw [if_pos hc] at h
        dsimp only at h
        rcases hq : argsOf p k l1.tail with x | ⟨us, l2⟩
        · rw [hq] at h; simp only [preT, Sum.inl.injEq] at h; subst h; exact ih _ _ hq
        · rw [hq] at h; cases h
      · rw [if_neg hc] at h
        by_cases hb : sees l1 [41] = true
        · rw [if_pos hb] at h; cases h
        · rw [if_neg hb] at h; simp only [preT, bad, Sum.inl.injEq] at h; subst h; exact Or.inl rfl

theorem term_err : ∀ f l e, term f l = .inl e → e.1 = 2 ∨ e.1 = 3 := by
  intro f
  induction f with
  | zero =>
    intro l e h
    rw [term] at h
    by_cases hb : begins (hd l) = true
    · rw [if_pos hb] at h; injection h with h; subst h; exact Or.inr rfl
    · rw [if_neg hb] at h; injection h with h; subst h; exact Or.inl rfl
  | succ f ih =>
    intro l e h
    rw [term] at h
    by_cases hb : begins (hd l) = true
    · rw [if_pos hb] at h
      by_cases hl : (hd l).kind = 4 ∧ 6 < (hd l).text.size
      · rw [if_pos hl] at h; injection h with h; subst h; exact Or.inr rfl
      · rw [if_neg hl] at h
        by_cases hk : (hd l).kind = 2
        · rw [if_pos hk] at h
          by_cases hs : sees l.tail [40] = true
          · rw [if_pos hs] at h
            rcases hq : argsOf (term f) 2 l.tail.tail with x | ⟨us, l2⟩
            · rw [hq] at h; injection h with h; subst h; exact argsOf_err ih _ _ _ hq
            · rw [hq] at h; cases h
          · rw [if_neg hs] at h; cases h
        · rw [if_neg hk] at h; cases h
    · rw [if_neg hb] at h; injection h with h; subst h; exact Or.inl rfl
end Parl
