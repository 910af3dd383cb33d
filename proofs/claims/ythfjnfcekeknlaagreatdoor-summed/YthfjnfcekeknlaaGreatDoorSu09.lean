import Derived.Test.YthfjnfcekeknlaaGreatDoorSu03
import Derived.Test.YthfjnfcekeknlaaGreatDoorSu07
import Derived.Test.YthfjnfcekeknlaaGreatDoorSu08
set_option maxHeartbeats 8000000
set_option maxRecDepth 100000
namespace Go.Proofs.YthfjnfcekeknlaaGreatDoor
open Go.RowKit
structure mC (D:List Ng) (TT:Nat→Za.U) (M:List (List UInt8)) (S:List Int) (st:List (List UInt8×Za.U)):Prop where
 un:∀(i:Nat) (x:List UInt8),M[i]?=some x→st.find? (fun q=>q.1 == x)=none→S[i]?=none∨S[i]?=some (-1)
 kn:∀(i:Nat) (x:List UInt8) (q:List UInt8×Za.U),M[i]?=some x→st.find? (fun q=>q.1 == x)=some q→∃n:Nat,S[i]?=some (n:Int)∧n<D.length∧TT n=q.2
theorem mC.room {D:List Ng} {TT:Nat→Za.U} {M:List (List UInt8)} {S:List Int} {st:List (List UInt8×Za.U)} (h:mC D TT M S st):mC D TT M (S++[-1]) st:=by
 refine⟨fun i x hx hs=> ?_,fun i x q hx hs=> ?_⟩
 ·rcases h.un i x hx hs with e | e
  ·have:=List.getElem?_eq_none_iff.1 e
   rcases Nat.lt_or_eq_of_le this with q | q
   ·left;simp;omega
   ·right;rw[←q];simp
  ·right
   rw[List.getElem?_append_left (List.getElem?_eq_some_iff.1 e).1]
   exact e
 ·obtain⟨n,e,k⟩:=h.kn i x q hx hs
  refine⟨n,?_,k⟩
  rw[List.getElem?_append_left (List.getElem?_eq_some_iff.1 e).1]
  exact e
theorem mC.put {D:List Ng} {TT:Nat→Za.U} {M:List (List UInt8)} {S:List Int} {st:List (List UInt8×Za.U)} (h:mC D TT M S st) (hM:M.Nodup) {i n:Nat} {x:List UInt8} {t:Za.U} (hx:M[i]?=some x) (hi:i<S.length) (hs:st.find? (fun q=>q.1 == x)=none) (hn:n<D.length) (hw:TT n=t):mC D TT M (S.set i (n:Int)) (st++[(x,t)]):=by
 have inj:∀(k:Nat) (y:List UInt8),M[k]?=some y→k≠i→y≠x:=fun k y hy hk e=>by
  subst e
  obtain⟨h1,h3⟩:=List.getElem?_eq_some_iff.1 hx
  obtain⟨h2,h4⟩:=List.getElem?_eq_some_iff.1 hy
  have hp:=List.pairwise_iff_getElem.1 hM
  rcases Nat.lt_or_gt_of_ne hk with q | q
  ·exact hp _ _ h2 h1 q (h4.trans h3.symm)
  ·exact hp _ _ h1 h2 q (h3.trans h4.symm)
 refine⟨fun k y hy hk=> ?_,fun k y q hy hk=> ?_⟩
 ·rw[List.find?_append]at hk
  have fo:st.find? (fun q=>q.1 == y)=none:=by
   cases e:st.find? (fun q=>q.1 == y)with
   | none=>rfl
   | some q=>rw[e]at hk;cases hk
  rw[fo]at hk
  by_cases e:k=i
  ·subst e
   rw[hx]at hy
   cases hy
   simp at hk
  ·rw[List.getElem?_set_ne (Ne.symm e)]
   exact h.un k y hy fo
 ·rw[List.find?_append]at hk
  by_cases e:k=i
  ·subst e
   rw[hx]at hy
   cases hy
   rw[hs]at hk
   simp at hk
   subst hk
   exact⟨n,by simp[hi],hn,hw⟩
  ·rw[List.getElem?_set_ne (Ne.symm e)]
   refine h.kn k y q hy ?_
   cases e2:st.find? (fun q=>q.1 == y)with
   | some r=>rw[e2]at hk;exact hk
   | none=>
    rw[e2]at hk
    have:=inj k y hy e
    simp at hk
    exact absurd hk.1.symm this
def DO (lb:Nat) (D:List Ng) (TT:Nat→Za.U) (M:List (List UInt8)) (l:Za.bN) (R:Nat→Prop) (w:World) (e:Ending) (w':World):Prop:=
 e= .returned (.tuple #[])∧∃S' R',dp w' lb S' l.w.wt l.w.no R'∧mC D TT M S' l.st∧S'.length≤M.length∧au R R' w w'
def Tx (lb:Nat) (D:List Ng) (TT:Nat→Za.U) (M:List (List UInt8)) (l:Za.bN) (R:Nat→Prop) (w:World) (i:Nat) (k:Nat) (wr:World):Prop:=
 ∃(S':List Int) (R':Nat→Prop),k=i+1 - S'.length∧dp wr lb S' l.w.wt l.w.no R'∧mC D TT M S' l.st∧S'.length≤M.length∧au R R' w wr
theorem SJ (u w:World) (lb sb sq:Nat) (cS:Array Value) (Ty:TypeId) (D:List Ng) (nO:Option Addr) (nC:Nat) (fr:Nat→Nat) (TT:Nat→Za.U) (PP R:Nat→Prop) (M:List (List UInt8)) (S:List Int) (i n:Nat) (x:List UInt8) (l:Za.bN) (B:Nat) (hG:gA u lb sb sq cS Ty D nO nC fr TT PP) (hu:Below u.heap.size u w) (h:dp w lb S l.w.wt l.w.no R) (hs:mC D TT M S l.st) (hS:S.length≤M.length) (hM:M.Nodup) (hML:M.length≤100000) (hx:M[i]?=some x) (hn:n<D.length) (hw:l.sm B) (hl:l.w.wt.length+2*B≤100000000):
 Calls Tryz.prog 161 #[.pointer (some ⟨lb,0,none⟩),.pointer (some ⟨sb,sq,none⟩),.int .i64 (i:Int),.int .i64 (n:Int)] w fun e w'=>DO lb D TT M (l.meet x (TT n)) R w e w':=by
 have HST:=af (show Tx lb D TT M l R w i (i+1 - S.length) w from ⟨S,R,rfl,h,hs,hS,au.aw (Below.refl _ _)⟩)
 have hiM:i<M.length:=(List.getElem?_eq_some_iff.1 hx).1
 have HG:=af hG
 have HU:=af hu
 have H:=af h
 have HM:=af hM
 have HX:=af hx
 have HN:=af hn
 have HW:=af hw
 have HL:=af hl
 have t2:decide ((i:Int)<0)=false:=by simp
 obtain⟨tj,hj,iM,iN,iO⟩:=info_parts infoIn
 clear hG hu h hs hS hM hx hn hw hl
 go_enter Tryz.func161,Tryz.ntmps161
 go_wp2_with fail
 go_loopg [] (i+1 - S.length) (fun k wr=>Tx lb D TT M l R w i k wr)
 case atStart=>exact ae HST
 case round=>
  clear HST
  obtain⟨S',R',rfl,fQ,hst,hS',cW⟩:=hrel
  have lH:=(ae H).under cW (ae HU) (ae HG).lt
  obtain⟨so,sc,wo,wc,eR,rfl⟩:=fQ
  have s0:=ah eR.blk 0
  have sf:=ay eR.blk 0
  have sz:=ag eR.blk
  simp only[List.getElem?_toArray,List.getElem?_cons_zero]at s0
  have DR:=af eR
  have HST:=af hst
  have HS':=af hS'
  have jh:=af cW
  have Mq:=af lH
  by_cases hlt:S'.length≤i
  ·have t1:decide ((S'.length:Int)≤(i:Int))=true:=by simp;omega
   have sZ:=af (show some lb≠(Value.slice so S'.length sc).ownBlock from fun q=>by have:=(eR.sown.lt lb q.symm).1;omega)
   have bh:=af hlt
   clear eR hst hS' cW lH hlt
   have hSl:S'.length≤100000:=by have:=ae HS';omega
   go_wp2_with (at_builtin;go_must (refine wpList_append_own_at _ rfl (.tmp 20) (.tmp 21) 25 rfl (lb+1) 3 tj (.int .i64 0) 1 8 Tryz.underlying25 hj iM iN iO rfl (by decide) _ S'.length (S'.map fU) rfl ((ae DR).sown.alloc _) ⟨wr.heap.size,0,none⟩ 1 1 [.int .i64 (-1)] rfl rfl (iZ _ _ _ _ rfl) (by simp[Value.oneCell']) (by unfold maxLen;omega) (by omega) (by simp;omega) ?_);go_must (intro v' w7 hown' hgrow _ hat;obtain⟨g',cap',hv'⟩:=sY hown';subst hv';have HN:=af ((ae DR).Po ((Below.refl _ _).alloc (Nat.le_refl _) _) (n:= -1) hown' hgrow (by rcases hat with q | q;exact Or.inl q.symm;(right;simp[Value.ownBlock]at q;omega)));have k1:=(hgrow.cell_far ⟨lb,0,none⟩ (by simp;omega) (ae sZ)).trans ((World.cell?_alloc_past _ _ _ sz).trans s0);have k3:w7.frozen? ⟨lb,0,none⟩=false:=(by have:=ay (ae HN).1.blk 0;rwa [World.frozen?_setCell]at this);have zz7:lb<w7.heap.size:=(by have:=ag (ae HN).1.blk;rwa [cL]at this);clear hown' hgrow hat))
   go_roundg (i+1 - (S'.length+1))
   case measure=>have:=ae bh;omega
   case rel=>exact⟨S'++[-1],_,by simp,⟨_,_,_,_,(ae HN).1,rfl⟩,(ae HST).room,by have:=ae bh;simp;omega,(ae jh).trans (ae HN).2⟩
  ·have fV:i<S'.length:=by omega
   have t1:decide ((S'.length:Int)≤(i:Int))=false:=by simp;omega
   obtain⟨g,hg⟩:∃g,so=some ⟨g,0,none⟩:=by
    rcases eR.sown.2 with⟨q,q2⟩ | ⟨g,cp,cur,q,_⟩
    ·omega
    ·simp only[Value.slice.injEq]at q
     exact⟨g,q.1⟩
   subst hg
   have gz:=(eR.sown.lt g rfl).2
   have f0:wr.cell? ⟨g,i,none⟩=some (.int .i64 S'[i]):=by
    rw[eR.sown.cellAt i (by omega),List.getElem?_map,List.getElem?_eq_getElem fV]
    rfl
   have i0:(0:Int)≤(i:Int):=by omega
   have i1:(i:Int)<(S'.length:Int):=by omega
   cases pU:l.st.find? (fun q=>q.1 == x)with
   | none=>
    have hv:S'[i]= -1:=by
     rcases hst.un i x (ae HX) pU with e | e
     ·rw[List.getElem?_eq_getElem fV]at e;cases e
     ·rw[List.getElem?_eq_getElem fV]at e;exact Option.some.inj e
    rw[hv]at f0
    have ff:wr.frozen? ⟨g,i,none⟩=false:=by
     rcases eR.sown.2 with⟨q,q2⟩ | ⟨g',cp,cur,q,_,q3,_⟩
     ·omega
     ·simp only[Value.slice.injEq,Option.some.injEq,Addr.mk.injEq]at q
      obtain⟨⟨rfl,_⟩,_⟩:=q
      exact ay q3 i
    have HS:=af (show l.meet x (TT n)=⟨l.st++[(x,TT n)],l.w⟩by unfold Za.bN.meet;rw[pU])
    have HP:=af (eR.put fV (n:Int))
    have vB:=af (hst.put (ae HM) (ae HX) fV pU (ae HN) rfl)
    clear eR hst hS' cW lH hlt hv pU fV
    go_wp2_with fail
    go_end0
    rw[ae HS]
    exact⟨rfl,_,_,⟨_,_,_,_,(ae HP).1,rfl⟩,ae vB,by rw[List.length_set];exact ae HS',(ae jh).trans (ae HP).2⟩
   | some q=>
    obtain⟨m,e,hm,Pp⟩:=hst.kn i x q (ae HX) pU
    have hv:S'[i]=(m:Int):=by
     rw[List.getElem?_eq_getElem fV]at e;exact Option.some.inj e
    rw[hv]at f0
    have t3:((m:Int) == -1)=false:=by simp
    have HS:=af (show l.meet x (TT n)=⟨l.st,Za.cmpU (TT m) (TT n) l.w⟩by unfold Za.bN.meet;rw[pU,Pp])
    have IC:=af (cpG_all (Za.size (TT m)) u wr lb sb sq cS Ty D nO nC fr TT PP _ S' m n l.w (ae HG) lH ⟨_,_,_,_,eR,rfl⟩ hm (ae HN) (Nat.le_refl _) (by have:=ae HW q (List.mem_of_find?_eq_some pU);rw[←Pp]at this;have:=ae HL;omega))
    clear eR hst hS' cW lH hlt hv pU fV e hm Pp
    go_wp2_with fail
    refine(ae IC).mono ?_
    rintro e w8 ⟨rfl,R8,h8,fr8⟩
    have H8:=af h8
    have nR:=af fr8
    clear h8 fr8
    go_wp2_with fail
    go_end0
    rw[ae HS]
    exact⟨rfl,S',R8,ae H8,ae HST,ae HS',(ae jh).trans (ae nR)⟩
end Go.Proofs.YthfjnfcekeknlaaGreatDoor
