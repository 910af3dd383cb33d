import Derived.Test.YthfjnfcekeknlaaDoorF01
namespace Go.Proofs.YthfjnfcekeknlaaDoor
open Go.RowKit

set_option maxHeartbeats 1000000 in
theorem take_any (w : World) (rb : Nat) (s : ByteArray) (l : List Parl.Tok) (ns : List ByteArray) (nv : Value) (e0 : Int) (h : St w rb s l ns nv e0) (h0 : (Parl.hd l).kind ≠ 0) :
    Calls Tryd.prog 60 #[.pointer (some ⟨rb, 0, none⟩)] w fun e w' => e = .returned (.tuple #[]) ∧ St w' rb s l.tail ns nv e0 ∧ KA rb [rb] w w' := by
  have HS := hide h
  obtain ⟨⟨c0, c1, c2, c3, c4, c5, f1, f2, f3, f4, f5⟩, own, chain, ⟨p, isn⟩, few, short, signs, pos, lt⟩ := h
  have hfit : (Parl.hd l).pos + (Parl.hd l).text.size ≤ s.size := by rw [isn]; exact Parl.next_fits
  have hmx : s.size ≤ maxLen := by unfold maxLen; omega
  have hz : 0 < w.heap.size := by omega
  have hC := hide chain
  have HG := hide signs
  have hw : IntKind.i64.wrap (((Parl.hd l).pos : Int) + ((Parl.hd l).text.size : Int)) = ((Parl.hd l).pos : Int) + ((Parl.hd l).text.size : Int) := by rw [IntWalk.i64_in _ ⟨by omega, by omega⟩]
  have HP := hide (show ((Parl.hd l).pos : Int) + ((Parl.hd l).text.size : Int) = (((Parl.hd l).pos + (Parl.hd l).text.size : Nat) : Int) by omega)
  clear chain own isn few signs
  go_enter Tryd.func60, Tryd.ntmps60
  go_wp2
  go_region_with (go_at_call 37; rw [unhide HP]; refine (next_any s ((Parl.hd l).pos + (Parl.hd l).text.size) _ hmx hfit ((unhide HG).draws 1) hz).mono ?_; rintro e w1 ⟨rfl, hb⟩; obtain ⟨d0, d1, d2, d3, d4, d5, g1, g2, g3, g4, g5⟩ := (unhide HS).rd.below (Below.trans (Below.refl _ _).drew hb) lt)
  all_goals
    go_wp2
    go_end0
    exact ⟨rfl, take_end (unhide HS) h0 (Below.trans (Below.refl _ _).drew hb)⟩
end Go.Proofs.YthfjnfcekeknlaaDoor
namespace Go.Proofs.YthfjnfcekeknlaaDoor
open Go.RowKit

theorem takeIf_any (w : World) (rb : Nat) (s : ByteArray) (l : List Parl.Tok) (ns : List ByteArray) (nv : Value) (e0 : Int) (f : Bool) (h : St w rb s l ns nv e0) (h0 : f = true → (Parl.hd l).kind ≠ 0) :
    Calls Tryd.prog 62 #[.pointer (some ⟨rb, 0, none⟩), .bool f] w fun e w' => e = .returned (.bool f) ∧ St w' rb s (if f then l.tail else l) ns nv (if f then e0 else 2) ∧ KA rb [rb] w w' := by
  have H := hide h
  clear h
  cases f
  · go_enter Tryd.func62, Tryd.ntmps62
    go_wp2_with (go_at_call 68; refine (refuse_any _ _ _ _ _ _ _ 2 (unhide H)).mono ?_; rintro e w1 ⟨rfl, hs, hk⟩; have HS := hide hs; have HK := hide hk; clear hs hk)
    go_ret
    exact ⟨rfl, unhide HS, unhide HK⟩
  · have h0' := hide (h0 rfl)
    clear h0
    go_enter Tryd.func62, Tryd.ntmps62
    go_wp2_with (go_at_call 60; refine (take_any _ _ _ _ _ _ _ (unhide H) (unhide h0')).mono ?_; rintro e w1 ⟨rfl, hs, hk⟩; have HS := hide hs; have HK := hide hk; clear hs hk)
    go_ret
    exact ⟨rfl, unhide HS, unhide HK⟩

theorem comma_any (w : World) (rb : Nat) (s : ByteArray) (l : List Parl.Tok) (ns : List ByteArray) (nv : Value) (e0 : Int) (c m : Nat) (h : St w rb s l ns nv e0) (h0 : (Parl.hd l).kind ≠ 0) :
    Calls Tryd.prog 85 #[.pointer (some ⟨rb, 0, none⟩), .int .i64 (c : Int), .int .i64 (m : Int)] w fun e w' => e = .returned (.bool (decide (c < m))) ∧ St w' rb s (if c < m then l.tail else l) ns nv (if c < m then e0 else 3) ∧ KA rb [rb] w w' := by
  have H := hide h
  have h0' := hide h0
  clear h h0
  by_cases hc : c < m
  · rw [if_pos hc, if_pos hc]
    go_enter Tryd.func85, Tryd.ntmps85
    go_wp2_with (go_at_call 60; refine (take_any _ _ _ _ _ _ _ (unhide H) (unhide h0')).mono ?_; rintro e w1 ⟨rfl, hs, hk⟩; have HS := hide hs; have HK := hide hk; clear hs hk)
    go_ret
    exact ⟨ret_bool (by simp [hc]), unhide HS, unhide HK⟩
  · rw [if_neg hc, if_neg hc]
    go_enter Tryd.func85, Tryd.ntmps85
    go_wp2_with (go_at_call 68; refine (refuse_any _ _ _ _ _ _ _ 3 (unhide H)).mono ?_; rintro e w1 ⟨rfl, hs, hk⟩; have HS := hide hs; have HK := hide hk; clear hs hk)
    go_ret
    exact ⟨ret_bool (by simp; omega), unhide HS, unhide HK⟩

end Go.Proofs.YthfjnfcekeknlaaDoor
namespace Go.Proofs.YthfjnfcekeknlaaDoor
open Go.RowKit
/-- What 'Match' is to leave. -/
def PMa (a b : ByteArray) (la lb : List Parl.Tok) (w : World) (e : Ending) (w' : World) : Prop :=
  ∃ ov : Value, e = .returned (.tuple #[.int .i64 (Parl.mtN a b la lb : Int), ov, .int .i64 (Parl.mtE a b la lb : Int)]) ∧ w'.ownsRow w.heap.size 9 1 ov (Parl.mtW a b la lb).length ((Parl.mtW a b la lb).map fun x => .string ⟨x.toArray⟩) ∧ Below w.heap.size w w'
theorem infoStrS : (Tryd.prog.info? 9).map (fun i => (i.zero, i.size, i.bytes)) = some (some (.string ⟨#[]⟩), 1, 16) := by kernel_rfl
def LS (w1 : World) (ys : List Parl.Cls) (k : Nat) (sv iv : Value) (wr : World) : Prop :=
  ∃ j : Nat, k + j = ys.length ∧ iv = .int .i64 (j : Int) ∧ sv = .string ⟨(Parl.strP (ys.take j)).toArray⟩ ∧ Below w1.heap.size w1 wr
end Go.Proofs.YthfjnfcekeknlaaDoor
namespace Parl
theorem Chain.len {s : ByteArray} : ∀ (n p : Nat) (l : List Tok), Chain s l → hd l = next s p → s.size - p ≤ n → l.length ≤ n + 1 := by
  intro n
  induction n with
  | zero =>
    intro p l h hh hn
    match l, h with
    | [t], _ => simp
    | t :: u :: r, h =>
      have ht : t = next s p := hh
      have h0 : t.kind ≠ 0 := h.1
      rw [ht, Ne, next_kind] at h0
      have := skip_ge s p
      omega
  | succ n ih =>
    intro p l h hh hn
    match l, h with
    | [t], _ => simp
    | t :: u :: r, h =>
      have ht : t = next s p := hh
      have h0 : t.kind ≠ 0 := h.1
      have hu : u = next s (t.pos + t.text.size) := h.2.1
      rw [ht, Ne, next_kind] at h0
      have h1 := skip_ge s p
      have h2 := endAt_gt (s := s) (i := skip s p) (by omega)
      have h3 : t.pos + t.text.size = endAt s (skip s p) := by rw [ht]; exact next_behind (by omega)
      have := ih (t.pos + t.text.size) (u :: r) h.2.2 hu (by omega)
      simp only [List.length_cons] at this ⊢
      omega
/-- Every text has its tokens. -/
theorem toks_of (s : ByteArray) : ∃ L, Chain s L ∧ hd L = next s 0 ∧ (s.size ≤ 240 → L.length ≤ 1000) := by
  obtain ⟨l, hl⟩ := chain_is s s.size 0 (by omega)
  exact ⟨_, hl, rfl, fun hs => by have := hl.len s.size 0 _ rfl (by omega); omega⟩
end Parl
