import Derived.Test.YthfjnfcekeknlaaGreatDoorSt05
import Derived.Deep.LoopGhost
import Derived.Deep.RegionHeld3
set_option maxHeartbeats 8000000
set_option maxRecDepth 100000
namespace Go.Proofs.YthfjnfcekeknlaaGreatDoor
open Go.RowKit
def fO (n:Int):Value:= .int .i64 n
def fC (lb:Nat) (so wo:Option Addr) (k:Nat):Prop:=k=lb∨(∃p,so=some p∧k=p.block)∨(∃p,wo=some p∧k=p.block)
structure mh (w:World) (lb:Nat) (S:List Int) (W:List Nat) (no:Bool) (so:Option Addr) (sc:Nat) (wo:Option Addr) (wc:Nat):Prop where
 blk:w.heap[lb]?=some (.cells #[.slice so S.length sc,.slice wo W.length wc,.bool no] 189 (0,0))
 sown:w.ownsRow (lb+1) 3 1 (.slice so S.length sc) S.length (S.map fO)
 wown:w.ownsRow (lb+1) 3 1 (.slice wo W.length wc) W.length (W.map aI)
 apart:∀p q,so=some p→wo=some q→p.block≠q.block
def cT (w:World) (lb:Nat) (S:List Int) (W:List Nat) (no:Bool) (R:Nat→Prop):Prop:=∃so sc wo wc,mh w lb S W no so sc wo wc∧R=fC lb so wo
theorem mh.rows {w:World} {lb:Nat} {S:List Int} {W:List Nat} {no:Bool} {so:Option Addr} {sc:Nat} {wo:Option Addr} {wc:Nat} (h:mh w lb S W no so sc wo wc):∀k,fC lb so wo k→lb≤k∧k<w.heap.size:=by
 have h1:=af h.blk
 rintro k (rfl | ⟨p,rfl,rfl⟩ | ⟨p,rfl,rfl⟩)
 ·omega
 ·have:=h.sown.lt p.block rfl;omega
 ·have:=h.wown.lt p.block rfl;omega
theorem mh.keep {w w':World} {lb:Nat} {S:List Int} {W:List Nat} {no:Bool} {so:Option Addr} {sc:Nat} {wo:Option Addr} {wc:Nat} (h:mh w lb S W no so sc wo wc) (hk:∀k,fC lb so wo k→w'.heap[k]?=w.heap[k]?):mh w' lb S W no so sc wo wc:=by
 refine⟨(hk lb (Or.inl rfl)).trans h.blk,ah h.sown (fun g q=>hk g ?_),ah h.wown (fun g q=>hk g ?_),h.apart⟩
 ·cases so with
  | none=>simp[Value.ownBlock]at q
  | some s=>simp[Value.ownBlock]at q;exact Or.inr (Or.inl ⟨s,rfl,q.symm⟩)
 ·cases wo with
  | none=>simp[Value.ownBlock]at q
  | some s=>simp[Value.ownBlock]at q;exact Or.inr (Or.inr ⟨s,rfl,q.symm⟩)
theorem cT.below {w w':World} {lb:Nat} {S:List Int} {W:List Nat} {no:Bool} {R:Nat→Prop} (h:cT w lb S W no R) (hb:Below w.heap.size w w'):cT w' lb S W no R:=by
 obtain⟨so,sc,wo,wc,h,rfl⟩:=h
 exact⟨so,sc,wo,wc,h.keep fun k q=>hb.block k (h.rows k q).2,rfl⟩
theorem y5 (w:World) (lb:Nat) (S:List Int) (W:List Nat) (no:Bool) (R:Nat→Prop) (h:cT w lb S W no R):
 Calls Tryz.prog 110 #[.pointer (some ⟨lb,0,none⟩)] w fun e w'=>e= .returned (.int .i64 (if no=true then 2 else if W=[]then 1 else 3))∧w'=w:=by
 obtain⟨so,sc,wo,wc,h,rfl⟩:=h
 have s1:=ag h.blk 1
 have s2:=ag h.blk 2
 have sz:=af h.blk
 simp only[List.getElem?_toArray,List.getElem?_cons_zero,List.getElem?_cons_succ]at s1 s2
 clear h
 cases no with
 | true=>
  go_enter Tryz.func110,Tryz.ntmps110
  go_wp2_with fail
  go_ret
  exact⟨rfl,rfl⟩
 | false=>
  cases W with
  | nil=>
   go_enter Tryz.func110,Tryz.ntmps110
   go_wp2_with fail
   go_ret
   exact⟨rfl,rfl⟩
  | cons x W=>
   have t1:decide (0<W.length+1)=true:=by simp
   have t2:decide ((0:Int)<(W.length:Int)+1)=true:=by simp
   go_enter Tryz.func110,Tryz.ntmps110
   go_wp2_with fail
   go_ret
   exact⟨by simp,rfl⟩
theorem Bf (w:World) (lb:Nat) (S:List Int) (W:List Nat) (no:Bool) (R:Nat→Prop) (n:Nat) (h:cT w lb S W no R) (hl:W.length≤100000000):
 Calls Tryz.prog 163 #[.pointer (some ⟨lb,0,none⟩),.int .i64 (n:Int)] w fun e w'=>e= .returned (.bool (decide (n∈W)))∧w'=w:=by
 obtain⟨so,sc,wo,wc,h,rfl⟩:=h
 have s1:=ag h.blk 1
 have sz:=af h.blk
 simp only[List.getElem?_toArray,List.getElem?_cons_zero,List.getElem?_cons_succ]at s1
 have H:=hide h
 clear h
 go_enter Tryz.func163,Tryz.ntmps163
 go_wp2_with fail
 go_loopg [12] W.length (fun k iv wr=>∃j:Nat,k+j=W.length∧iv= .int .i64 (j:Int)∧wr=w∧n∉W.take j)
 case atStart=>exact⟨0,by omega,rfl,rfl,by simp⟩
 case round=>
  obtain⟨j,hkj,rfl,rfl,hno⟩:=hrel
  by_cases hlt:j<W.length
  ·obtain⟨g,hg⟩:∃g,wo=some ⟨g,0,none⟩:=by
    rcases(ae H).wown.2 with⟨q,q2⟩ | ⟨g,cp,cur,q,_⟩
    ·omega
    ·simp only[Value.slice.injEq]at q
     exact⟨g,q.1⟩
   subst hg
   have f0:wr.cell? ⟨g,j,none⟩=some (.int .i64 (W[j]:Int)):=by
    rw[(ae H).wown.cellAt j (by omega),List.getElem?_map,List.getElem?_eq_getElem hlt]
    rfl
   have gz:=((ae H).wown.lt g rfl).2
   have i0:(0:Int)≤(j:Int):=by omega
   have i1:(j:Int)<(W.length:Int):=by omega
   by_cases he:W[j]=n
   ·have oP:=hide (show n∈W from he ▸ List.getElem_mem hlt)
    rw[he]at f0
    clear he hno hkj
    go_wp2_with fail
    go_ret
    exact⟨by rw[decide_eq_true (ae oP)];rfl,rfl⟩
   ·have gF:=hide hno
    have HE:=hide he
    have aY:=hide hlt
    have aP:=hide hkj
    have t1:(((W[j]:Nat):Int) == ((n:Nat):Int))=false:=by simp;omega
    have HM:=hide (show W.take (j+1)=W.take j++[W[j]]by rw[List.take_add_one,List.getElem?_eq_getElem hlt];rfl)
    generalize hm:W[j]=m at*
    clear he hno hkj hm
    go_wp2_with fail
    go_roundg (gk - 1)
    case measure=>have:=ae aP;have:=ae aY;omega
    case rel=>
     refine⟨j+1,by have:=ae aP;have:=ae aY;omega,by go_num,rfl,?_⟩
     rw[ae HM]
     simp only[List.mem_append,List.mem_singleton,not_or]
     exact⟨ae gF,fun q=>ae HE q.symm⟩
  ·have E4:n∉W:=by rwa [List.take_of_length_le (by omega)]at hno
   have gF:=hide E4
   clear hno E4
   obtain rfl:j=W.length:=by omega
   go_wp2_with fail
   go_ret
   exact⟨by rw[decide_eq_false (ae gF)];rfl,rfl⟩
theorem mh.SY {w W w1:World} {lb:Nat} {S:List Int} {T:List Nat} {no:Bool} {so:Option Addr} {sc:Nat} {wo:Option Addr} {wc:Nat} (h:mh w lb S T no so sc wo wc) (hW:Below w.heap.size w W) {g cap' n:Nat}
 (hown:w1.ownsRow (lb+1) 3 1 (.slice (some ⟨g,0,none⟩) (T.length+1) cap') (T.length+1) (T.map aI++[aI n])) (hg:W.grownBy w1 (Value.slice wo T.length wc).ownBlock) (hat:(Value.slice wo T.length wc).ownBlock=some g∨w.heap.size≤g):
 mh (w1.setCell ⟨lb,1,none⟩ (.slice (some ⟨g,0,none⟩) (T.length+1) cap')) lb S (T++[n]) no so sc (some ⟨g,0,none⟩) cap'∧aj (fC lb so wo) (fC lb so (some ⟨g,0,none⟩)) w (w1.setCell ⟨lb,1,none⟩ (.slice (some ⟨g,0,none⟩) (T.length+1) cap')):=by
 have hz:=hW.size
 have s0:=af h.blk
 have keep:∀k,k<w.heap.size→k≠lb→(∀p,wo=some p→k≠p.block)→(w1.setCell ⟨lb,1,none⟩ (.slice (some ⟨g,0,none⟩) (T.length+1) cap')).heap[k]?=w.heap[k]?:=fun k h1 h2 h3=>by
  rw[aF _ _ _ _ h2,hg.block k (by omega) (iL h3),hW.block k h1]
 have row:∀k,fC lb so (some ⟨g,0,none⟩) k→fC lb so wo k∨w.heap.size≤k:=by
  rintro k (e | e | ⟨p,q,e⟩)
  ·exact Or.inl (Or.inl e)
  ·exact Or.inl (Or.inr (Or.inl e))
  ·cases q
   dsimp only at e
   rcases hat with a | a
   ·left
    right
    right
    cases wo with
    | none=>simp[Value.ownBlock]at a
    | some s=>simp[Value.ownBlock]at a;exact⟨s,rfl,by omega⟩
   ·right;omega
 have keepR:∀k,k<w.heap.size→¬fC lb so wo k→(w1.setCell ⟨lb,1,none⟩ (.slice (some ⟨g,0,none⟩) (T.length+1) cap')).heap[k]?=w.heap[k]?:=fun k hk hr=>keep k hk (fun e=>hr (Or.inl e)) (fun p q e=>hr (Or.inr (Or.inr ⟨p,q,e⟩)))
 refine⟨⟨?_,?_,?_,?_⟩,⟨hg.os.trans hW.os,hg.tape.trans hW.tape,hg.output.trans hW.output,by rw[cC];have:=hg.size;omega,keepR,row⟩⟩
 ·have q0:w1.heap[lb]?=some (.cells #[.slice so S.length sc,.slice wo T.length wc,.bool no] 189 (0,0)):=by
   rw[hg.block lb (by omega) (iL (fun p q e=>by have:=h.wown.lt p.block (by rw[q];rfl);omega)),hW.block lb s0]
   exact h.blk
  have:=au q0 1 (.slice (some ⟨g,0,none⟩) (T.length+1) cap')
  simpa using this
 ·refine ah h.sown (fun k q=>keep k (h.sown.lt k q).2 (by have:=(h.sown.lt k q).1;omega) (fun p e r=> ?_))
  cases so with
  | none=>simp[Value.ownBlock]at q
  | some s=>simp[Value.ownBlock]at q;exact h.apart s p rfl e (by omega)
 ·have:=ah hown (w':=w1.setCell ⟨lb,1,none⟩ (.slice (some ⟨g,0,none⟩) (T.length+1) cap')) (fun k q=>aF _ _ _ _ (by have:=(hown.lt k q).1;omega))
  simpa using this
 ·intro p q hp hq
  cases hq
  have hsp:=(h.sown.lt p.block (by rw[hp];rfl)).2
  rcases hat with a | a
  ·cases wo with
   | none=>simp[Value.ownBlock]at a
   | some s=>simp[Value.ownBlock]at a;have:=h.apart p s hp rfl;dsimp only;omega
  ·dsimp only;omega
def E5 (T:List Nat) (n:Nat):List Nat:=if n∈T then T else T++[n]
theorem Hh (w:World) (lb:Nat) (S:List Int) (T:List Nat) (no:Bool) (R:Nat→Prop) (n:Nat) (h:cT w lb S T no R) (hl:T.length≤100000000):
 Calls Tryz.prog 189 #[.pointer (some ⟨lb,0,none⟩),.int .i64 (n:Int)] w fun e w'=>e= .returned (.tuple #[])∧∃R',cT w' lb S (E5 T n) no R'∧aj R R' w w':=by
 have HF:=hide (Bf w lb S T no R n h hl)
 have HA:=hide h
 obtain⟨so,sc,wo,wc,h,rfl⟩:=h
 have s1:=ag h.blk 1
 have sf:=aq h.blk 1
 have sz:=af h.blk
 simp only[List.getElem?_toArray,List.getElem?_cons_zero,List.getElem?_cons_succ]at s1
 have H:=hide h
 have sF:=hide (show some lb≠(Value.slice wo T.length wc).ownBlock from fun q=>by have:=(h.wown.lt lb q.symm).1;omega)
 obtain⟨tj,hj,hy0,hy1,hy2⟩:=info_parts infoIn
 clear h
 by_cases hm:n∈T
 ·have HM:=hide hm
  rw[decide_eq_true hm]at HF
  clear hm
  go_enter Tryz.func189,Tryz.ntmps189
  go_wp2_with fail
  refine(ae HF).mono ?_
  rintro e w2 ⟨rfl,rfl⟩
  go_wp2_with fail
  go_end0
  refine⟨rfl,_,?_,aj.of_below (Below.refl _ _)⟩
  unfold E5
  rw[if_pos (ae HM)]
  exact ae HA
 ·have HM:=hide hm
  rw[decide_eq_false hm]at HF
  clear hm
  go_enter Tryz.func189,Tryz.ntmps189
  go_wp2_with fail
  refine(ae HF).mono ?_
  rintro e w2 ⟨rfl,rfl⟩
  go_wp2_with (at_builtin;go_must (refine wpList_append_own_at _ rfl (.tmp 12) (.tmp 14) 25 rfl (lb+1) 3 tj (.int .i64 0) 1 8 Tryz.underlying25 hj hy0 hy1 hy2 rfl (by decide) _ T.length (T.map aI) rfl ((ae H).wown.alloc _) ⟨w2.heap.size,0,none⟩ 1 1 [.int .i64 (n:Int)] rfl rfl (ie _ _ _ _ rfl) (by simp[Value.oneCell']) (by unfold maxLen;omega) (by omega) (by simp;omega) ?_);go_must (intro v' w7 hown' hgrow _ hat;obtain⟨g',cap',hv'⟩:=su hown';subst hv';have HN:=hide ((ae H).SY ((Below.refl _ _).alloc (Nat.le_refl _) _) (n:=n) hown' hgrow (by rcases hat with q | q;exact Or.inl q.symm;(right;simp[Value.ownBlock]at q;omega)));have k1:=(hgrow.cell_far ⟨lb,1,none⟩ (by simp;omega) (ae sF)).trans ((World.cell?_alloc_past _ _ _ sz).trans s1);have k3:w7.frozen? ⟨lb,1,none⟩=false:=(by have:=aq (ae HN).1.blk 1;rwa [World.frozen?_setCell]at this);have zz7:lb<w7.heap.size:=(by have:=af (ae HN).1.blk;rwa [cC]at this);clear hown' hgrow hat))
  go_end0
  refine⟨rfl,_,?_,(ae HN).2⟩
  unfold E5
  rw[if_neg (ae HM)]
  exact⟨_,_,_,_,(ae HN).1,rfl⟩
theorem mh.bad {w:World} {lb:Nat} {S:List Int} {T:List Nat} {no:Bool} {so:Option Addr} {sc:Nat} {wo:Option Addr} {wc:Nat} (h:mh w lb S T no so sc wo wc):mh (w.setCell ⟨lb,2,none⟩ (.bool true)) lb S T true so sc wo wc∧aj (fC lb so wo) (fC lb so wo) w (w.setCell ⟨lb,2,none⟩ (.bool true)):=by
 refine⟨⟨?_,ah h.sown (fun g q=>aF _ _ _ _ (by have:=(h.sown.lt g q).1;omega)),ah h.wown (fun g q=>aF _ _ _ _ (by have:=(h.wown.lt g q).1;omega)),h.apart⟩,rfl,rfl,rfl,by rw[cC];exact Nat.le_refl _,fun k _ hr=>aF _ _ _ _ (fun e=>hr (Or.inl e)),fun _ q=>Or.inl q⟩
 have:=au h.blk 2 (.bool true)
 simpa using this
theorem cT.rows {w:World} {lb:Nat} {S:List Int} {T:List Nat} {no:Bool} {R:Nat→Prop} (h:cT w lb S T no R):∀k,R k→lb≤k∧k<w.heap.size:=by
 obtain⟨so,sc,wo,wc,h,rfl⟩:=h
 exact h.rows
theorem cT.under {w w' u:World} {lb:Nat} {S:List Int} {T:List Nat} {no:Bool} {R R':Nat→Prop} (h:cT w lb S T no R) (hf:aj R R' w w') (hu:Below u.heap.size u w) (hl:u.heap.size≤lb):Below u.heap.size u w':=
 ⟨hf.os.trans hu.os,hf.tape.trans hu.tape,hf.output.trans hu.output,Nat.le_trans hu.size hf.size,fun k hk=>(hf.block k (by have:=hu.size;omega) (fun q=>by have:=(h.rows k q).1;omega)).trans (hu.block k hk)⟩
theorem Hj {x y:ByteArray} (h:x.toList=y.toList):x=y:=by
 rw[ByteArray.toList_eq,ByteArray.toList_eq]at h
 exact ByteArray.ext (Array.ext' h)
theorem mh.PC {w W w1:World} {lb:Nat} {S:List Int} {T:List Nat} {no:Bool} {so:Option Addr} {sc:Nat} {wo:Option Addr} {wc:Nat} (h:mh w lb S T no so sc wo wc) (hW:Below w.heap.size w W) {g cap':Nat} {n:Int}
 (hown:w1.ownsRow (lb+1) 3 1 (.slice (some ⟨g,0,none⟩) (S.length+1) cap') (S.length+1) (S.map fO++[fO n])) (hg:W.grownBy w1 (Value.slice so S.length sc).ownBlock) (hat:(Value.slice so S.length sc).ownBlock=some g∨w.heap.size≤g):
 mh (w1.setCell ⟨lb,0,none⟩ (.slice (some ⟨g,0,none⟩) (S.length+1) cap')) lb (S++[n]) T no (some ⟨g,0,none⟩) cap' wo wc∧aj (fC lb so wo) (fC lb (some ⟨g,0,none⟩) wo) w (w1.setCell ⟨lb,0,none⟩ (.slice (some ⟨g,0,none⟩) (S.length+1) cap')):=by
 have hz:=hW.size
 have s0:=af h.blk
 have keep:∀k,k<w.heap.size→k≠lb→(∀p,so=some p→k≠p.block)→(w1.setCell ⟨lb,0,none⟩ (.slice (some ⟨g,0,none⟩) (S.length+1) cap')).heap[k]?=w.heap[k]?:=fun k h1 h2 h3=>by
  rw[aF _ _ _ _ h2,hg.block k (by omega) (iL h3),hW.block k h1]
 have row:∀k,fC lb (some ⟨g,0,none⟩) wo k→fC lb so wo k∨w.heap.size≤k:=by
  rintro k (e | ⟨p,q,e⟩ | e)
  ·exact Or.inl (Or.inl e)
  ·cases q
   dsimp only at e
   rcases hat with a | a
   ·left
    right
    left
    cases so with
    | none=>simp[Value.ownBlock]at a
    | some s=>simp[Value.ownBlock]at a;exact⟨s,rfl,by omega⟩
   ·right;omega
  ·exact Or.inl (Or.inr (Or.inr e))
 have keepR:∀k,k<w.heap.size→¬fC lb so wo k→(w1.setCell ⟨lb,0,none⟩ (.slice (some ⟨g,0,none⟩) (S.length+1) cap')).heap[k]?=w.heap[k]?:=fun k hk hr=>keep k hk (fun e=>hr (Or.inl e)) (fun p q e=>hr (Or.inr (Or.inl ⟨p,q,e⟩)))
 refine⟨⟨?_,?_,?_,?_⟩,⟨hg.os.trans hW.os,hg.tape.trans hW.tape,hg.output.trans hW.output,by rw[cC];have:=hg.size;omega,keepR,row⟩⟩
 ·have q0:w1.heap[lb]?=some (.cells #[.slice so S.length sc,.slice wo T.length wc,.bool no] 189 (0,0)):=by
   rw[hg.block lb (by omega) (iL (fun p q e=>by have:=h.sown.lt p.block (by rw[q];rfl);omega)),hW.block lb s0]
   exact h.blk
  have:=au q0 0 (.slice (some ⟨g,0,none⟩) (S.length+1) cap')
  simpa using this
 ·have:=ah hown (w':=w1.setCell ⟨lb,0,none⟩ (.slice (some ⟨g,0,none⟩) (S.length+1) cap')) (fun k q=>aF _ _ _ _ (by have:=(hown.lt k q).1;omega))
  simpa using this
 ·refine ah h.wown (fun k q=>keep k (h.wown.lt k q).2 (by have:=(h.wown.lt k q).1;omega) (fun p e r=> ?_))
  cases wo with
  | none=>simp[Value.ownBlock]at q
  | some s=>simp[Value.ownBlock]at q;exact h.apart p s e rfl (by omega)
 ·intro p q hp hq
  cases hp
  have hsp:=(h.wown.lt q.block (by rw[hq];rfl)).2
  rcases hat with a | a
  ·cases so with
   | none=>simp[Value.ownBlock]at a
   | some s=>simp[Value.ownBlock]at a;have:=h.apart s q rfl hq;dsimp only;omega
  ·dsimp only;omega
theorem mh.put {w:World} {lb:Nat} {S:List Int} {T:List Nat} {no:Bool} {g sc:Nat} {wo:Option Addr} {wc:Nat} (h:mh w lb S T no (some ⟨g,0,none⟩) sc wo wc) {i:Nat} (_hi:i<S.length) (n:Int):
 mh (w.setCell ⟨g,i,none⟩ (.int .i64 n)) lb (S.set i n) T no (some ⟨g,0,none⟩) sc wo wc∧aj (fC lb (some ⟨g,0,none⟩) wo) (fC lb (some ⟨g,0,none⟩) wo) w (w.setCell ⟨g,i,none⟩ (.int .i64 n)):=by
 have hg:=h.sown.lt g rfl
 refine⟨⟨?_,?_,ah h.wown (fun k q=>aF _ _ _ _ (fun e=> ?_)),h.apart⟩,rfl,rfl,rfl,by rw[cC];exact Nat.le_refl _,fun k _ hr=>aF _ _ _ _ (fun e=>hr (Or.inr (Or.inl ⟨_,rfl,e⟩))),fun _ q=>Or.inl q⟩
 ·rw[aF _ _ _ _ (by omega),List.length_set]
  exact h.blk
 ·rcases h.sown.2 with⟨q,_⟩ | ⟨g',cap,cur,q1,q2,q3,q4,q5,q6,q7⟩
  ·cases q
  ·simp only[Value.slice.injEq,Option.some.injEq,Addr.mk.injEq]at q1
   obtain⟨⟨rfl,_,_⟩,_,rfl⟩:=q1
   refine⟨by simp,Or.inr ⟨g,sc,cur.setIfInBounds i (.int .i64 n),by rw[List.length_set],q2,by exact au q3 i (.int .i64 n),by rw[List.length_set];exact q4,q5,by simp[q6],?_⟩⟩
   rw[List.length_set,List.map_set,←q7,Array.toList_setIfInBounds,Nat.mul_one,List.take_set]
   rfl
 ·cases wo with
  | none=>simp[Value.ownBlock]at q
  | some s=>simp[Value.ownBlock]at q;exact h.apart ⟨g,0,none⟩ s rfl rfl (by dsimp only at e⊢;omega)
theorem gI (w:World) (X:Obj):w.heap.size<((w.alloc X).drew).heap.size:=by
 show w.heap.size<(w.alloc X).heap.size
 simp
end Go.Proofs.YthfjnfcekeknlaaGreatDoor
namespace Za
def NH (c:aG):List (List UInt8):=namesF 8 [] c.head
def NT (c:aG):List (List UInt8):=ay (NH c) c.tests
def NG (c:aG):List (List UInt8):=ay (NT c) c.goals
end Za
namespace Go.Proofs.YthfjnfcekeknlaaGreatDoor
open Go
theorem cJ (l m:List UInt8):(⟨l.toArray⟩:ByteArray)++⟨m.toArray⟩=⟨(l++m).toArray⟩:=by
 show (⟨l.toArray⟩:ByteArray).append ⟨m.toArray⟩=_
 simp[ByteArray.append]
theorem xY (b:ByteArray):(⟨b.toList.toArray⟩:ByteArray)=b:=by
 obtain⟨d⟩:=b
 rw[ByteArray.toList_mk]
theorem bK.at {α β:Type} {R:α→β→Prop}:∀{xs:List α} {ys:List β},bK R xs ys→∀(i:Nat) (h:i<xs.length) (h':i<ys.length),R xs[i] ys[i]
 | _ :: _,_ :: _,q,0,_,_=>q.1
 | _ :: _,_ :: _,q,i+1,h,h'=>bK.at q.2 i (by simpa using h) (by simpa using h')
theorem Hk (c:UInt8):(⟨#[c]⟩:ByteArray)=⟨[c].toArray⟩:=rfl
theorem fK {b:ByteArray} {l:List UInt8} (h:b.toList=l):b=⟨l.toArray⟩:=by rw[←h,xY]
end Go.Proofs.YthfjnfcekeknlaaGreatDoor
namespace Go.Proofs.YthfjnfcekeknlaaGreatDoor
open Go.RowKit
theorem infoStrS:(Tryz.prog.info? 9).map (fun i=>(i.zero,i.size,i.bytes))=some (some (.string ⟨#[]⟩),1,16):=by kernel_rfl
end Go.Proofs.YthfjnfcekeknlaaGreatDoor
